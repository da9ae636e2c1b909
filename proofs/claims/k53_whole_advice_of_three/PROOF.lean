import PyProof.Rows.All
import Wide.All
import OpenK.AllK
import Wide.FinOn
import Lean
import PyProof.EqAt
import PyProof.EqKinds
import PyProof.TupleCall
import PySem.Challenge.RW_mixplay_k53_whole_advice_of_three
set_option Elab.async false
set_option linter.all false
set_option maxRecDepth 100000
section
local macro_rules|`(#[$xs,*])=>`(⟨$xs,*⟩)
local macro_rules|`(#[])=>`(by omega)
namespace L2
open PySem PySem.Spec PyProof.Rows
variable{A:Around}{C a:Addr}{E Q:Value->Shared->Prop}{H:Hp}{K:aO}{M:Model}{N ps:List Str}{X:Cx}{Z:St}{base h:Heap}{c e:Expr}{d:Type}{f:Value->Value->Sem Value}{g:TG}{i j k t':Nat}{mg:Str->Option Value}{o:HO}{op:CmpOp}{pl:Sem Bool}{s:Shared}{tb:TS}{u:Value}{us:List Value}{v:V}{vs xs:List V}
noncomputable abbrev jA:=List (List (Int×Int))
noncomputable abbrev fP:=List (Int×Int)
noncomputable abbrev fO:=List (List Nat)
noncomputable abbrev aO:=PySem.W.Frag
abbrev aD:=@List.getElem?_eq_getElem
abbrev aR:=@List.getD_eq_getElem?_getD
abbrev aL:=@List.mem_of_getElem?
abbrev aV:=@Option.some.inj
abbrev aQ:=@Heap.get?_push_of_some
abbrev aA:=@List.length_map
abbrev aB:=@wpAny_bind
abbrev aT:=@wpAny_pure
abbrev aM:=@Nat.le_refl
abbrev aX:=@List.map_append
abbrev aF:=@if_neg
abbrev aJ:=@if_pos
abbrev aW:=@Heap.lt_size
abbrev bM:=@List.size_toArray
abbrev bC:=@List.length_append
abbrev aY:=@List.getElem?_map
abbrev bF:=@Option.join_some
abbrev bZ:=@List.append_nil
abbrev bO:=@List.getElem?_append_right
abbrev bV:=@List.getElem?_append_left
abbrev bK:=@Int.mul_pos
abbrev cK:=@List.map_nil
abbrev bR:=@List.map_cons
abbrev bJ:=@Nat.ne_of_lt
abbrev cT:=@List.length_reverse
abbrev bQ:=@Nat.lt_of_lt_of_le
abbrev bI:=@List.mem_cons_of_mem
abbrev bU:=@Bool.false_ne_true
abbrev bW:=@Int.le_of_lt
abbrev bT:=@List.mem_cons_self
abbrev cM:=@List.getElem?_eq_none
abbrev cO:=@Nat.le_trans
abbrev cH:=@Int.natAbs_mul
abbrev cA:=@List.take_length
abbrev cJ:=@List.getElem?_of_mem
abbrev cZ:=@List.length_cons
abbrev bL:=@Heap.get?_push_size
abbrev dJ:=@Heap.get?_update_other
abbrev cN:=@decide_eq_true_eq
abbrev dI:=@Int.mul_zero
abbrev dA:=@Int.toNat_natCast
abbrev cS:=@List.getElem_mem
abbrev dR:=@Nat.two_pow_pos
abbrev aK:=@List.getElem?_eq_some_iff
abbrev dD:=@List.mem_map
abbrev cR:=@List.mem_append
abbrev dW:=@List.mem_cons
abbrev bX:=@List.mem_singleton
abbrev fC:=@List.mem_range
abbrev dM:=@List.length_take
abbrev hE:=@List.map_congr_left
abbrev cX:=@List.mem_append_right
abbrev iH:=@List.mem_append_left
abbrev cI:=@PyProof.Rows.callWith_type1
abbrev gP:=@Rat.mul_zero
abbrev gG:=@Rat.mul_nonneg
abbrev gR:=@Int.mul_comm
abbrev eA:=@Int.mul_one
abbrev fN:=@Int.zero_mul
abbrev fY:=@Int.one_mul
abbrev gU:=@Int.mul_assoc
abbrev eJ:=@Int.zero_add
abbrev jV:=@Nat.le_of_lt
abbrev eV:=@Nat.lt_irrefl
abbrev eN:=@Nat.not_lt_zero
abbrev gZ:=@Nat.mul_le_mul
abbrev iP:=@Nat.mul_le_mul_right
abbrev iZ:=@Nat.mul_le_mul_left
abbrev fT:=@Nat.add_le_add_left
abbrev gS:=@Nat.pow_le_pow_right
abbrev jC:=@Int.dvd_trans
abbrev dY:=@Int.mul_nonneg
abbrev eW:=@Int.eq_of_mul_eq_mul_right
abbrev fB:=@Rat.intCast_mul
abbrev fM:=@Rat.mul_le_mul_of_nonneg_left
abbrev gC:=@Rat.le_of_mul_le_mul_right
abbrev gO:=@List.range_succ
abbrev gH:=@List.filter_cons_of_pos
abbrev gI:=@List.filter_cons_of_neg
abbrev hV:=@List.mem_flatMap
abbrev gQ:=@List.length_range
abbrev jU:=@Nat.pow_succ
abbrev fZ:=@Nat.sub_self
abbrev dL:=@Nat.zero_le
abbrev iB:=@Nat.lt_of_le_of_lt
abbrev dF:=@Nat.le_add_right
abbrev gD:=@Nat.lt_succ_self
noncomputable abbrev Key:=Sum Int Str
noncomputable def Qo:Key->Value->Bool
 | .inl k,v=>Value.isInt k v
 | .inr x,v=>Value.isStrOf x v
noncomputable def keyH(w:World):Key->Int
 | .inl k=>hashInt k
 | .inr x=>hashStr w x
theorem jF:∀{k:Key}{v:Value},Qo k v=true->(∃i t,k=Sum.inl i/\v=Value.int i t)∨(∃x t,k=Sum.inr x/\v=Value.str x t)
 | .inl i,v,h=>by
  obtain⟨t,e⟩:=Value.isInt_shape (k:=i) (v:=v) h
  exact .inl #[i,t,rfl,e]
 | .inr x,v,h=>by
  obtain⟨t,e⟩:=Value.isStrOf_shape (x:=x) (v:=v) h
  exact .inr #[x,t,rfl,e]
theorem jYo(i:Int)(t:Tok):Qo (.inl i) (.int i t)=true:=by simp [Qo,Value.isInt]
theorem jYn(x:Str)(t:Tok):Qo (.inr x) (.str x t)=true:=by simp [Qo,Value.isStrOf]
theorem key_ll(a b:Int):decide ((Sum.inl a:Key)=Sum.inl b)=(a==b):=by
 by_cases e:a=b
 ·subst e;simp
 ·have h:¬(Sum.inl a:Key)=Sum.inl b:=λq=>e (Sum.inl.inj q)
  rw[decide_eq_false h]
  exact(beq_eq_false_iff_ne.mpr e).symm
theorem key_rr(a b:Str):decide ((Sum.inr a:Key)=Sum.inr b)=decide (a=b):=by
 by_cases e:a=b
 ·subst e;simp
 ·have h:¬(Sum.inr a:Key)=Sum.inr b:=λq=>e (Sum.inr.inj q)
  rw[decide_eq_false h,decide_eq_false e]
theorem key_lr(a:Int)(b:Str):decide ((Sum.inl a:Key)=Sum.inr b)=false:=decide_eq_false (λq=>nomatch q)
theorem key_rl(a:Str)(b:Int):decide ((Sum.inr a:Key)=Sum.inl b)=false:=decide_eq_false (λq=>nomatch q)
noncomputable def kE(prog:Program)(w:World):PySem.KeyKind prog w Key where
 is:=Qo
 hash:=keyH w
 inj:=λv a b ha hb=>by
  rcases jF ha with⟨i,t,rfl,rfl⟩|⟨x,t,rfl,rfl⟩
  ·rcases jF hb with⟨j,u,rfl,e⟩|⟨y,u,rfl,e⟩
   ·injection e with e1 _;rw[e1]
   ·exact nomatch e
  ·rcases jF hb with⟨j,u,rfl,e⟩|⟨y,u,rfl,e⟩
   ·exact nomatch e
   ·injection e with e1 _;rw[e1]
 byValue:=λk v h=>by
  rcases jF h with⟨i,t,rfl,rfl⟩|⟨x,t,rfl,rfl⟩<;>rfl
 pyHash:=λhv h=>by
  rcases jF hv with⟨i,t,rfl,rfl⟩|⟨x,t,rfl,rfl⟩
  ·exact wpAny_pyHash_int h
  ·exact wpAny_pyHash_str h
 eqBool:=λR hv h=>by
  rcases jF R with⟨i,t,rfl,rfl⟩|⟨x,t,rfl,rfl⟩
  ·rcases jF hv with⟨j,u,rfl,rfl⟩|⟨y,u,rfl,rfl⟩
   ·rw[key_ll]at h;exact wpAny_eqBool_int h
   ·rw[key_lr]at h;exact SeqAt.EqAt.int_str i t y u _ _ _ _ h
  ·rcases jF hv with⟨j,u,rfl,rfl⟩|⟨y,u,rfl,rfl⟩
   ·rw[key_rl]at h;exact SeqAt.EqAt.str_int x t j u _ _ _ _ h
   ·rw[key_rr]at h;exact wpAny_eqBool_str h
 «strs»:=λk x t v h=>by
  rcases jF h with⟨i,u,rfl,e⟩|⟨y,u,rfl,e⟩
  ·exact nomatch e
  ·injection e with e1 _
   subst e1
   cases v<;>rfl
theorem Yu(prog:Program)(w:World)(i:Int)(t:Tok):(kE prog w).is (.inl i) (.int i t)=true:=jYo i t
theorem Yt(prog:Program)(w:World)(x:Str)(t:Tok):(kE prog w).is (.inr x) (.str x t)=true:=jYn x t
inductive V where
 |non |bl (b:Bool)|int (i:Int)|str (x:Str)|byt (b:Array UInt8)|flt (b:UInt64)|ref (a:Addr)|ty (n:String)
 deriving DecidableEq
noncomputable def eZ:V->Value->Prop
 | .non,u=>u=Value.none
 | .bl b,u=>u=Value.bool b
 | .int i,u=>∃t,u=Value.int i t
 | .str x,u=>∃t,u=Value.str x t
 | .byt b,u=>∃t,u=Value.bytes b t
 | .flt b,u=>∃t,u=Value.float b t
 | .ref a,u=>u=Value.ref a
 | .ty n,u=>u=Value.type n
noncomputable abbrev fD:List V->List Value->Prop:=Paired eZ
theorem fD.length(r:fD xs us):xs.length=us.length:=Paired.length r
theorem fD.get:∀{xs:List V}{us:List Value}{i:Nat}{x:V},fD xs us->xs[i]?=some x->∃u,us[i]?=some u/\eZ x u
 |_,_,_,_,.nil,e=>by simp at e
 |_,_,0,_,.cons r _,e=>by simp at e;subst e;exact#[_,rfl,r]
 |_,_,i+1,x,.cons _ t,e=>by
  obtain⟨u,h1,h2⟩:=fD.get (i:=i) (x:=x) t (by simpa using e)
  exact#[u,by simpa using h1,h2]
theorem fD.set{x:V}(r:eZ x u):∀{xs:List V}{us:List Value}(i:Nat),fD xs us->fD (xs.set i x) (us.set i u)
 |_,_,_,.nil=>.nil
 |_,_,0,.cons _ t=>.cons r t
 |_,_,i+1,.cons q t=>.cons q (fD.set r i t)
theorem fD.append:∀{xs ys:List V}{us Z:List Value},fD xs us->fD ys Z->fD (xs++ys) (us++Z)
 |_,_,_,_,.nil,s=>s
 |_,_,_,_,.cons r t,s=>.cons r (fD.append t s)
theorem fD.take:∀{xs:List V}{us:List Value}(n:Nat),fD xs us->fD (xs.take n) (us.take n)
 |_,_,0,_=>.nil
 |_,_,_+1,.nil=>.nil
 |_,_,n+1,.cons r t=>.cons r (fD.take n t)
theorem fD.drop:∀{xs:List V}{us:List Value}(n:Nat),fD xs us->fD (xs.drop n) (us.drop n)
 |_,_,0,r=>r
 |_,_,_+1,.nil=>.nil
 |_,_,n+1,.cons _ t=>fD.drop n t
noncomputable def Bj:Option V->Option Value->Prop
 |some v,some u=>eZ v u
 |none,none=>True
 |_,_=>False
noncomputable def KV{d:Type}:List (d×V)->List (d×Value)->Prop:=Paired fun(p:d×V)(q:d×Value)=>p.1=q.1/\eZ p.2 q.2
noncomputable def kV:Key->V
 | .inl i=>.int i
 | .inr x=>.str x
inductive HO where
 /--a list -/
 |lst (xs:List V)
 /--a tuple (never changes)-/
 |tup (xs:List V)
 /--a dict whose keys are ints and texts;one whose keys are tuples of ints and texts (the empty one is both)-/
 |dK (kvs:List (Key×V))|dT (kvs:List (List Key×V))
 /--a set of ints:its members,its size -/
 |set (S:Int->Bool) (n:Nat)
 /--an instance of the class at C,its dict at dx,its attributes -/
 |ins (C dx:Addr) (fs:List (Str×V))
 /--the dict of the instance at x -/
 |own (x:Addr)
 /--the dict of an exception -/
 |xd (fs:List (Str×V))
 /--a bound method,f of x -/
 |met (f x:Addr)
 /--a range object lo,lo+1,.. below hi -/
 |rng (lo hi:Int)
 /--a thing that is known to the object (the script;a dict while a loop walks it):read,never written while it is so -/
 |frz (o:Obj) (u:HO)
 /--a code object's table -/
 |tbl (ps:Array Value)
 /--any other thing,by what is true of its one object (a def of one's own:SetO a S n:=HO.ext λh=>..)-/
 |ext (φ:Heap->Prop)
noncomputable abbrev Hp:=Addr->Option HO
noncomputable def upd(H:Hp)(a:Addr)(o:HO):Hp:=λb=>if b=a then some o else H b
theorem aI:upd H a o a=some o:=by unfold upd;rw[aJ rfl]
theorem bY{b:Addr}(h:b≠a):upd H a o b=H b:=by unfold upd;rw[aF h]
theorem kU{b:Addr}{u:HO}(h:H a=some o)(h':H b=some u)(d:o≠u):a≠b:=by
 intro e;subst e;rw[h]at h';exact d (aV h')
theorem dE{b:Addr}(h:H a=some o)(h':H b=none):a≠b:=by
 intro e;subst e;rw[h]at h';cases h'
section
variable(P:Program)(w:World)
noncomputable def jE(H:Hp)(h:Heap)(a:Addr):HO->Prop
 | .lst xs=>xs.length<=sizeLine/\∃(G:List Value)(n:Nat),fD xs G/\h.get? a=some { cls:=.type "list",data:=.seq G.toArray n }
 | .tup xs=>xs.length<=sizeLine/\∃G:List Value,fD xs G/\IsTup h a G.toArray
 | .dK kvs=>kvs.length<=sizeLine/\(a==sysModules)=false/\∃vs,KV kvs vs/\h.DictOf (kE P w) a vs
 | .dT kvs=>kvs.length<=sizeLine/\(a==sysModules)=false/\∃xs:List (List Key×Addr×Value),
   Paired (fun(p:List Key×V)(q:List Key×Addr×Value)=>p.1=q.1/\H q.2.1=some (.tup (p.1.map kV))/\eZ p.2 q.2.2) kvs xs/\
   ∃o g j,h.get? a=some o/\o.ExactDict/\o.data=.dict g j/\g.toList=xs.map (entryOfKey (tupleKind (kE P w)))/\(xs.map (·.1)).Nodup
 | .set S n=>h.SetOf (intKind P w) a S n
 | .ins C dx fs=>H dx=some (.own a)/\fs.length<=1000/\dx≠a/\h.get? a=some (PySem.W.instObj C dx)/\
   ∃B,h.Ns1 dx B/\(∀f,Bj (fs.lookup f) (B f))/\PySem.Within B (fs.map (·.1))
 | .own _=>∃o,h.get? a=some o
 | .xd fs=>∃B,h.Ns1 a B/\∀f,Bj (fs.lookup f) (B f)
 | .rng lo hi=>∃t u v,h.get? a=some { cls:=.type "range",data:=.fields (List.toArray [.int lo t,.int hi u,.int 1 v]) }
 | .frz o u=>h.get? a=some o/\jE H h a u
 | .tbl ps=>h.get? a=some { cls:=.none,data:=.fields ps }
 | .met f x=>h.get? a=some (PySem.W.methodObj (.ref f) (.ref x))
 | .ext φ=>φ h/\(∃o,h.get? a=some o)/\∀h1 h2:Heap,φ h1->(∀o,h1.get? a=some o->h2.get? a=some o)->φ h2
noncomputable def HOk(H:Hp)(h:Heap):Prop:=∀a o,H a=some o->jE P w H h a o
end
section
variable{P:Program}{w:World}{H H':Hp}{h h':Heap}{a:Addr}{o:HO}
theorem jE.lt(x:jE P w H h a o):a<h.objs.size:=by
 cases o with
 |lst xs=>obtain⟨_,_,_,_,e⟩:=x;exact aW e
 |tup xs=>obtain⟨_,_,_,p⟩:=x;exact p.lt
 |dK kvs=>obtain⟨_,_,_,_,o,_,_,e,_⟩:=x;exact aW e
 |dT kvs=>obtain⟨_,_,_,_,o,_,_,e,_⟩:=x;exact aW e
 |set S n=>obtain⟨o,_,_,_,e,_⟩:=x;exact aW e
 |ins C dx fs=>obtain⟨_,_,_,e,_⟩:=x;exact aW e
 |own y=>obtain⟨_,e⟩:=x;exact aW e
 |xd fs=>obtain⟨_,⟨_,_,_,e,_⟩,_⟩:=x;exact aW e
 |rng lo hi=>obtain⟨_,_,_,e⟩:=x;exact aW e
 |frz ob u=>obtain⟨e,_⟩:=x;exact aW e
 |tbl ps=>exact aW (show h.get? a=some _ from x)
 |met f y=>exact aW (show h.get? a=some _ from x)
 |ext φ=>obtain⟨_,⟨_,e⟩,_⟩:=x;exact aW e
theorem Paired.mapP{c:Type}{F G:d->c->Prop}:∀{e:List d}{g:List c},Paired F e g->(∀a b,F a b->G a b)->Paired G e g
 |_,_,.nil,_=>.nil
 |_,_,.cons r t,f=>.cons (f _ _ r) (Paired.mapP t f)
theorem jE.stay(x:jE P w H h a o)(k:∀b u,(b=a∨H b=some (.own a))->h.get? b=some u->h'.get? b=some u)
  (D:∀b,H b=some (.own a)->H' b=some (.own a)) (i:∀b F,H b=some (.tup F)->H' b=some (.tup F)):jE P w H' h' a o:=by
 induction o with
 |lst F=>obtain⟨z,G,n,r,e⟩:=x;exact#[z,G,n,r,k _ _ (.inl rfl) e]
 |tup F=>obtain⟨z,G,r,ob,e,c⟩:=x;exact#[z,G,r,ob,k _ _ (.inl rfl) e,c]
 |dK kvs=>obtain⟨z,y,m,r,ob,g,j,e,c⟩:=x;exact#[z,y,m,r,ob,g,j,k _ _ (.inl rfl) e,c]
 |dT kvs=>
  obtain⟨z,y,F,r,ob,g,j,e,c⟩:=x
  exact#[z,y,F,Paired.mapP r λp q z=>#[z.1,i _ _ z.2.1,z.2.2],ob,g,j,k _ _ (.inl rfl) e,c]
 |set S n=>obtain⟨ob,g,j,t,e,c⟩:=x;exact#[ob,g,j,t,k _ _ (.inl rfl) e,c]
 |ins C dx fs=>
  obtain⟨d,z,ne,e,B,⟨l,g,j,s,c⟩,r⟩:=x
  exact#[D _ d,z,ne,k _ _ (.inl rfl) e,B,#[l,g,j,k _ _ (.inr d) s,c],r]
 |own y=>obtain⟨ob,e⟩:=x;exact#[ob,k _ _ (.inl rfl) e]
 |xd fs=>obtain⟨B,⟨l,g,j,e,c⟩,r⟩:=x;exact#[B,#[l,g,j,k _ _ (.inl rfl) e,c],r]
 |rng lo hi=>obtain⟨t,u,v,e⟩:=x;exact#[t,u,v,k _ _ (.inl rfl) e]
 |frz ob u ih=>obtain⟨e,q⟩:=x;exact#[k _ _ (.inl rfl) e,ih q]
 |tbl ps=>
  have e:h.get? a=some { cls:=.none,data:=.fields ps }:=x
  show h'.get? a=some { cls:=.none,data:=.fields ps }
  exact k a _ (.inl rfl) e
 |met f y=>
  have e:h.get? a=some (PySem.W.methodObj (.ref f) (.ref y)):=x
  show h'.get? a=some (PySem.W.methodObj (.ref f) (.ref y))
  exact k a _ (.inl rfl) e
 |ext φ=>obtain⟨p,⟨o,e⟩,st⟩:=x;exact#[st _ _ p λo q=>k _ _ (.inl rfl) q,#[o,k _ _ (.inl rfl) e],st]
theorem HOk.lt(x:HOk P w H h)(e:H a=some o):a<h.objs.size:=(x a o e).lt
theorem HOk.fresh(x:HOk P w H h)(e:h.objs.size<=a):H a=none:=by
 cases q:H a with
 |none=>rfl
 |some u=>exact absurd (bQ (x.lt q) e) (eV _)
theorem HOk.kept(x:HOk P w H h)(k:∀b u,h.get? b=some u->h'.get? b=some u):HOk P w H h':=λa o e=>
 (x a o e).stay (λb u _ q=>k b u q) (λ_ q=>q) λ_ _ q=>q
theorem HOk.laid(x:HOk P w H h)(k:∀b u,h.get? b=some u->h'.get? b=some u)(hp:h.objs.size<=a)(new:jE P w (upd H a o) h' a o):HOk P w (upd H a o) h':=λb u e=>by
 have R:=x.fresh hp
 by_cases hb:b=a
 ·subst hb;rw[aI]at e;cases e;exact new
 ·rw[bY hb]at e
  exact(x b u e).stay (λc v _ q=>k c v q) (λc q=>by rw[bY (dE q R)];exact q) λc F q=>by rw[bY (dE q R)];exact q
end
noncomputable def Rd(H:Hp)(a:Addr)(u:HO):Prop:=H a=some u∨∃o,H a=some (.frz o u)
theorem Rd.ok{P:Program}{w:World}{u:HO}(r:Rd H a u)(x:HOk P w H h):jE P w H h a u:=by
 rcases r with r |⟨o,r⟩
 ·exact x a u r
 ·obtain⟨_,q⟩:=x a _ r
  exact q
noncomputable def Mut:Option HO->Prop
 |some (.lst _)=>True
 |some (.dK _)=>True
 |some (.dT _)=>True
 |some (.set _ _)=>True
 |some (.ins _ _ _)=>True
 |some (.ext _)=>True
 |_=>False
section
variable{P:Program}{w:World}{H:Hp}{h h':Heap}{x e:Addr}{o':HO}
theorem HOk.write(ok:HOk P w H h)(mu:Mut (H x))(U:e=x∨H e=some (.own x))(k:∀b u,b≠e->h.get? b=some u->h'.get? b=some u)(d:∃u,h'.get? e=some u)
  (new:jE P w (upd H x o') h' x o'):HOk P w (upd H x o') h':=λb u q=>by
 have a:∀c y,H c=some (.own y)->c≠x:=λc y r z=>by subst z;rw[r]at mu;exact mu
 have g:∀c F,H c=some (.tup F)->c≠x:=λc F r z=>by subst z;rw[r]at mu;exact mu
 by_cases hb:b=x
 ·subst hb;rw[aI]at q;cases q;exact new
 ·rw[bY hb]at q
  by_cases l:b=e
  ·have f:H b=some (.own x):=by
    rcases U with z |z
    ·exact absurd (l.trans z) hb
    ·rw[l];exact z
   rw[q]at f;cases f
   obtain⟨v,hv⟩:=d
   exact#[v,by rw[l];exact hv]
  ·refine(ok b u q).stay (λc v hc r=>k c v ?_ r) (λc r=>by rw[bY (a c b r)];exact r) λc F r=>by rw[bY (g c F r)];exact r
   rcases hc with rfl |hc
   ·exact l
   ·rintro rfl
    rcases U with z |z
    ·exact a c b hc z
    ·rw[hc]at z;cases z;exact hb rfl
end
structure Un(fs ex:List Addr)(H H':Hp)(h h':Heap):Prop where
 keep:∀b o,h.get? b=some o->H b=none->b∉fs->b∉ex->h'.get? b=some o
 slot:∀b o,h.get? b=some o->H b=none->b∈fs->b∉ex->∃sl,h'.get? b=some { o with slots:=sl }
 free:∀b o,h.get? b=some o->H b=none->b∉ex->H' b=none
 there:∀b o,h.get? b=some o->b∉ex->∃o',h'.get? b=some o'
 tups:∀b xs,H b=some (.tup xs)->H' b=some (.tup xs)
 frzs:∀b o u,H b=some (.frz o u)->H' b=some (.frz o u)
 tbls:∀b ps,H b=some (.tbl ps)->∃Ll,H' b=some (.tbl (ps++Ll))
section
variable{fs fs' ex ex':List Addr}{H H1 H2:Hp}{h h1 h2 h':Heap}{a x e:Addr}{o:HO}
theorem Un.any(u:Un fs ex H H1 h h1){b:Addr}{ob:Obj}(q:h.get? b=some ob)(n:H b=none)(hx:b∉ex):∃sl,h1.get? b=some { ob with slots:=sl }:=by
 by_cases hb:b∈fs
 ·exact u.slot b ob q n hb hx
 ·exact#[ob.slots,u.keep b ob q n hb hx]
theorem Un.kept(k:∀b u,h.get? b=some u->h'.get? b=some u):Un fs ex H H h h':=
 #[λb ob q _ _ _=>k b ob q,λb ob q _ _ _=>#[ob.slots,k b ob q],λ_ _ _ n _=>n,λb ob q _=>#[ob,k b ob q],λ_ _ q=>q,λ_ _ _ q=>q,λ_ S q=>#[(List.toArray []),by rw[q];simp]]
theorem Un.refl:Un fs ex H H h h:=Un.kept λ_ _ q=>q
theorem Un.laid(k:∀b u,h.get? b=some u->h'.get? b=some u)(hp:h.objs.size<=a)(R:H a=none):Un fs ex H (upd H a o) h h' where
 keep:=λb u q _ _ _=>k b u q
 slot:=λb u q _ _ _=>#[u.slots,k b u q]
 free:=λb u q n _=>by rw[bY (bJ (bQ (aW q) hp))];exact n
 there:=λb u q _=>#[u,k b u q]
 tups:=λb F q=>by rw[bY (dE q R)];exact q
 frzs:=λb u F q=>by rw[bY (dE q R)];exact q
 tbls:=λb S q=>#[(List.toArray []),by rw[bY (dE q R),q];simp]
theorem Un.write(mu:Mut (H x))(U:e=x∨H e=some (.own x))(k:∀b u,b≠e->h.get? b=some u->h'.get? b=some u)(d:∃u,h'.get? e=some u):Un fs ex H (upd H x o) h h':=by
 have hx:∀b,H b=none->b≠x:=λb n z=>by subst z;rw[n]at mu;exact mu
 have hb:∀b,H b=none->b≠e:=λb n z=>by
  subst z
  rcases U with r |r
  ·exact hx b n r
  ·rw[n]at r;cases r
 have hm:∀b u,H b=some u->¬Mut (some u)->b≠x:=λb u q y z=>by subst z;rw[q]at mu;exact y mu
 refine#[λb u q n _ _=>k b u (hb b n) q,λb u q n _ _=>#[u.slots,k b u (hb b n) q],λb u q n _=>by rw[bY (hx b n)];exact n,λb u q _=>?_,
  λb F q=>by rw[bY (hm b _ q λz=>z)];exact q,λb u F q=>by rw[bY (hm b _ q λz=>z)];exact q,λb S q=>#[(List.toArray []),by rw[bY (hm b _ q λz=>z),q];simp]]
 by_cases l:b=e
 ·subst l;exact d
 ·exact#[u,k b u l q]
end
noncomputable def trk(h:Heap)(H:Hp):List Addr:=(List.range h.objs.size).filter λa=>(H a).isSome
noncomputable def To(h:Heap)(H:Hp):Heap:=PySem.W.hideAll h (trk h H)
theorem jYu(h:Heap)(H:Hp):(To h H).objs.size=h.objs.size:=PySem.W.hideAll_size _ _
theorem jW3{b:Addr}{o:Obj}(e:h.get? b=some o)(n:H b=none):(To h H).get? b=some o:=
 PySem.W.hideAll_get _ e λhm=>by
  have q:(H b).isSome=true:=(List.mem_filter.mp hm).2
  rw[n]at q;simp at q
theorem of_hidT{b:Addr}{o:Obj}(e:(To h H).get? b=some o):h.get? b=some o/\H b=none:=by
 have O:h.get? b=some o:=PySem.W.of_hideAll (trk h H) e
 refine#[O,?_]
 cases q:H b with
 |none=>rfl
 |some x=>
  have hm:b∈trk h H:=List.mem_filter.mpr #[fC.mpr (aW O),by simp [q]]
  have z:(To h H).get? b=none:=PySem.W.hideAll_none (trk h H) hm
  rw[z]at e;cases e
structure Mod(K:aO)(mg:Str->Option Value)(base:Heap):Prop where
 kin:K.In base
 glob:base.Ns mainGlobals mg
 blt:∃mb,base.Ns builtinsNs mb/\∀x:Str,x≠ "__name__"->mb x=bootBuiltins x
 nolimit:base.NoLimit
structure Cx where
 prog:Program
 w:World
 K:aO
 mg:Str->Option Value
 base:Heap
 A:Around
 N:List Str
 s₀:Shared
 H₀:Hp
 env:Env
 outer:List Env
 stack:List Env
 ex:List Addr
 fn:Str->Bool
 calm:Bool
 pn:List (Addr×Obj)
 xe:Value->Shared->Prop
noncomputable def frs(l:List Env):List Addr:=l.filterMap (·.frame)
noncomputable abbrev Cx.fs(X:Cx):List Addr:=frs X.outer
noncomputable def Vis(sc:Scope)(x:Str):Prop:=sc.names.lookup x=some .local∨sc.names.lookup x=some .cell∨sc.names.lookup x=some .free
noncomputable def Loc(sc:Scope)(x:Str):Prop:=sc.names.lookup x=some .local∨sc.names.lookup x=some .cell
noncomputable def Look(env:Env)(h:Heap)(m:Str->Option Value)(x:Str)(u:Value):Prop:=
 (env.kindOf x=some .local/\m x=some u)∨((env.kindOf x=some .cell∨env.kindOf x=some .free)/\∃c,env.cells.lookup x=some c/\h.IsCell c (some u))
structure Cx.Ok(X:Cx):Prop where
 mod:Mod X.K X.mg X.base
 kind:X.env.scope.kind=.function
 glob:X.env.globals=mainGlobals
 blt:X.env.builtins=builtinsNs
 above:X.s₀.heap.objs.size<=X.env.locals
 inj:∀x y c,X.env.cells.lookup x=some c->X.env.cells.lookup y=some c->x=y
 has:∀x,(X.env.kindOf x=some .cell∨X.env.kindOf x=some .free)->∃c,X.env.cells.lookup x=some c
 cab:∀x c,X.fn x=true->X.env.cells.lookup x=some c->X.s₀.heap.objs.size<=c
 hd:X.calm=true->X.A.handled=none
 frames:X.A.frames=some X.stack
 stk:X.stack=X.outer∨(X.stack=X.env::X.outer/\X.env.frame=some X.env.locals)
 exf:∀b∈X.ex,b≠X.env.locals/\∀x c,X.env.cells.lookup x=some c->c≠b
 bs:∀b o,X.base.get? b=some o->X.s₀.heap.get? b=some o/\X.H₀ b=none
 bsz:X.base.objs.size<=X.s₀.heap.objs.size
 noex:∀b o,X.base.get? b=some o->b∉X.ex
 exfs:∀b∈X.ex,b∉X.fs
 funs:X.s₀.heap.FunFrames X.base X.outer
 frf:∀b∈X.fs,X.H₀ b=none
structure Inv(X:Cx)(pins:List (Addr×Obj))(σ:List (Option V))(H:Hp)(s:Shared):Prop where
 ok:X.Ok
 os:s.os=X.s₀.os
 bare:AllBare s.gens
 base:Un X.fs X.ex X.H₀ H X.s₀.heap s.heap
 loc:∃m,s.heap.Ns X.env.locals m/\∀(i:Nat)(x:Str)(v:V),X.N[i]?=some x->σ[i]?=some (some v)->Vis X.env.scope x->∃u,eZ v u/\Look X.env s.heap m x u
 cell:∀x c,X.env.cells.lookup x=some c->∃v,s.heap.IsCell c v
 free:H X.env.locals=none
 freeC:∀x c,X.env.cells.lookup x=some c->H c=none
 pin:∀p∈X.pn++pins,s.heap.get? p.1=some p.2/\H p.1=none/\p.1≠X.env.locals/\p.1∉X.fs/\∀v,p.2.data≠.cell v
 hok:HOk X.prog X.w H s.heap
 len:σ.length=X.N.length
section
variable{X:Cx}{pins:List (Addr×Obj)}{σ:List (Option V)}{H H':Hp}{s:Shared}{h':Heap}
theorem Cx.Ok.nofr(ok:X.Ok){b:Addr}{o:Obj}(e:X.base.get? b=some o):b∉X.fs:=λhb=>by
 have:=(ok.funs.mem hb).1
 rw[e]at this;cases this
theorem Inv.bs(I:Inv X pins σ H s):∀b o,X.base.get? b=some o->s.heap.get? b=some o/\H b=none:=λb o e=>
 #[I.base.keep b o (I.ok.bs b o e).1 (I.ok.bs b o e).2 (I.ok.nofr e) (I.ok.noex b o e),I.base.free b o (I.ok.bs b o e).1 (I.ok.bs b o e).2 (I.ok.noex b o e)]
theorem Inv.bk(I:Inv X pins σ H s):∀b o,X.base.get? b=some o->s.heap.get? b=some o:=λb o e=>(I.bs b o e).1
theorem Inv.mod(I:Inv X pins σ H s):Mod X.K X.mg X.base:=I.ok.mod
theorem Inv.kIn(I:Inv X pins σ H s):X.K.In s.heap:=I.ok.mod.kin.keeps I.bk
theorem Inv.lt(I:Inv X pins σ H s):X.env.locals<s.heap.objs.size:=let⟨_,hn,_⟩:=I.loc;hn.lt
theorem Inv.sz(I:Inv X pins σ H s):X.s₀.heap.objs.size<=s.heap.objs.size:=cO I.ok.above (jV I.lt)
theorem Inv.nofs(I:Inv X pins σ H s)(h:s.heap.objs.size<=a):a∉X.fs:=λhb=>by
 obtain⟨_,o,D,_⟩:=I.ok.funs.mem hb
 exact absurd (bQ (aW D) (cO I.sz h)) (eV _)
theorem Inv.cne(I:Inv X pins σ H s):∀x c,X.env.cells.lookup x=some c->c≠X.env.locals:=λx c e z=>by
 obtain⟨v,o,D,hd⟩:=I.cell x c e
 obtain⟨m,⟨a,g,j,y,G,_⟩,_⟩:=I.loc
 rw[z,y]at D;cases D;rw[G]at hd;cases hd
theorem Inv.funs(I:Inv X pins σ H s):s.heap.FunFrames X.base X.outer:=by
 have all:∀(l:List Env),(∀b∈frs l,b∈X.fs)->X.s₀.heap.FunFrames X.base l->s.heap.FunFrames X.base l:=by
  intro l
  induction l with
  |nil=>intro _ _;trivial
  |cons env r ih=>
   intro hs Y
   obtain⟨hk,⟨L,o,hf,R,D,hd⟩,hr⟩:=Y
   have C:L∈X.fs:=hs L (by unfold frs;rw[List.filterMap_cons,hf];exact bT)
   obtain⟨sl,e⟩:=I.base.slot L o D (I.ok.frf L C) C λz=>I.ok.exfs L z C
   exact#[hk,#[L,_,hf,R,e,hd],ih (λb hb=>hs b (by unfold frs;rw[List.filterMap_cons,hf];exact bI _ hb)) hr]
 exact all X.outer (λ_ hb=>hb) I.ok.funs
theorem Inv.stack(I:Inv X pins σ H s):s.heap.FunFrames X.base X.stack:=by
 rcases I.ok.stk with e |⟨e,hf⟩
 ·rw[e];exact I.funs
 ·rw[e]
  obtain⟨m,R,_⟩:=I.loc
  refine .cons (by rw[I.ok.kind];decide) hf R ?_ I.funs
  exact Heap.get?_none_of_le (cO I.ok.bsz I.ok.above)
theorem Inv.stkSub(I:Inv X pins σ H s):∀b∈frs X.stack,b∈X.env.locals::X.fs:=λb hb=>by
 rcases I.ok.stk with e |⟨e,hf⟩
 ·rw[e]at hb;exact bI _ hb
 ·rw[e]at hb
  unfold frs at hb
  rw[List.filterMap_cons,hf]at hb
  exact hb
theorem Inv.stkFree(I:Inv X pins σ H s):∀b∈frs X.stack,H b=none:=λb hb=>by
 rcases dW.mp (I.stkSub b hb)with e |hb
 ·rw[e];exact I.free
 ·obtain⟨_,o,D,_⟩:=I.ok.funs.mem hb
  exact I.base.free b o D (I.ok.frf b hb) λz=>I.ok.exfs b z hb
theorem Inv.step{g':Array GenState}{d':Drawn}{ch:List Addr}(I:Inv X pins σ H s)
  (a:∀b∈ch,(b∈X.ex∨X.s₀.heap.objs.size<=b)/\b≠X.env.locals/\(∀x c,X.env.cells.lookup x=some c->c≠b)/\∀p∈X.pn++pins,p.1≠b)
  (keep:∀b o,b≠X.env.locals->b∉X.fs->b∉ch->s.heap.get? b=some o->H b=none->h'.get? b=some o)
  (slot:∀b o,b≠X.env.locals->b∈X.fs->b∉ch->s.heap.get? b=some o->H b=none->∃sl,h'.get? b=some { o with slots:=sl }) (free:∀b o,b∉ch->s.heap.get? b=some o->H b=none->H' b=none)
  (there:∀b o,b∉ch->s.heap.get? b=some o->∃g,h'.get? b=some g)
  (tups:∀b F,H b=some (.tup F)->H' b=some (.tup F)) (frzs:∀b o u,H b=some (.frz o u)->H' b=some (.frz o u)) (tbls:∀b S,H b=some (.tbl S)->∃Ll,H' b=some (.tbl (S++Ll)))
  (ns:∀m,s.heap.Ns X.env.locals m->h'.Ns X.env.locals m) (hok:HOk X.prog X.w H' h') (hg:AllBare g'):
  Inv X pins σ H' { s with heap:=h',gens:=g',drawn:=d',toks:=t' }:=by
 have y:∀b o,X.s₀.heap.get? b=some o->b≠X.env.locals:=λb o e=>bJ (bQ (aW e) I.ok.above)
 have j:∀b o,X.s₀.heap.get? b=some o->b∉X.ex->b∉ch:=λb o e hx hb=>by
  rcases(a b hb).1 with z |z
  ·exact hx z
  ·exact absurd (bQ (aW e) z) (eV _)
 have f:∀x c,X.env.cells.lookup x=some c->∀v,s.heap.IsCell c v->h'.IsCell c v:=λx c e v#[o,D,hd]=>by
  have h:c∉ch:=λz=>(a c z).2.2.1 x c e rfl
  by_cases hc:c∈X.fs
  ·obtain⟨sl,q⟩:=slot c o (I.cne x c e) hc h D (I.freeC x c e)
   exact#[_,q,hd]
  ·exact#[o,keep c o (I.cne x c e) hc h D (I.freeC x c e),hd]
 refine#[I.ok,I.os,hg,#[λb o e n hb hx=>?_,λb o e n hb hx=>?_,λb o e n hx=>?_,λb o e hx=>?_,λb F e=>tups b F (I.base.tups b F e),λb o F e=>frzs b o F (I.base.frzs b o F e),λb S e=>?_],?_,λx c e=>?_,?_,λx c e=>?_,λp hp=>?_,hok,I.len]
 ·exact keep b o (y b o e) hb (j b o e hx) (I.base.keep b o e n hb hx) (I.base.free b o e n hx)
 ·obtain⟨sl,e1⟩:=I.base.slot b o e n hb hx
  obtain⟨t,C⟩:=slot b _ (y b o e) hb (j b o e hx) e1 (I.base.free b o e n hx)
  exact#[t,C]
 ·obtain⟨g,e1⟩:=I.base.there b o e hx
  exact free b g (j b o e hx) e1 (I.base.free b o e n hx)
 ·obtain⟨g,e1⟩:=I.base.there b o e hx
  exact there b g (j b o e hx) e1
 ·obtain⟨m1,e1⟩:=I.base.tbls b S e
  obtain⟨m2,C⟩:=tbls b _ e1
  exact#[m1++m2,by rw[C,Array.append_assoc]]
 ·obtain⟨m,R,Y⟩:=I.loc
  refine#[m,ns m R,λi x v e1 C T=>?_]
  obtain⟨u,r,l⟩:=Y i x v e1 C T
  refine#[u,r,?_]
  rcases l with l |⟨k,c,e,z⟩
  ·exact .inl l
  ·exact .inr #[k,c,e,f x c e _ z]
 ·obtain⟨v,z⟩:=I.cell x c e
  exact#[v,f x c e v z]
 ·obtain⟨m,⟨o,_,_,D,_⟩,_⟩:=I.loc
  exact free _ o (λz=>(a _ z).2.1 rfl) D I.free
 ·obtain⟨v,o,D,hd⟩:=I.cell x c e
  exact free c o (λz=>(a c z).2.2.1 x c e rfl) D (I.freeC x c e)
 ·obtain⟨e,n,ne,O,d⟩:=I.pin p hp
  have h:p.1∉ch:=λz=>(a p.1 z).2.2.2 p hp rfl
  exact#[keep p.1 p.2 ne O h e n,free p.1 p.2 h e n,ne,O,d]
theorem Inv.un(I:Inv X pins σ H s)(u:Un X.fs [] H H' s.heap h')(hok:HOk X.prog X.w H' h'):Inv X pins σ H' { s with heap:=h',toks:=t' }:=by
 obtain⟨m,⟨o,g,j,D,r⟩,_⟩:=id I.loc
 obtain⟨sl,C⟩:=u.any D I.free (by simp)
 exact I.step (g':=s.gens) (d':=s.drawn) (ch:=[]) (λ_ z=>nomatch z) (λb o _ hb _ e n=>u.keep b o e n hb (by simp)) (λb o _ hb _ e n=>u.slot b o e n hb (by simp)) (λb o _ e n=>u.free b o e n (by simp)) (λb o _ e=>u.there b o e (by simp)) u.tups u.frzs u.tbls (λl hm=>by
  obtain⟨a,f,A,y,t⟩:=hm
  rw[D]at y;cases y
  exact#[_,f,A,C,t]) hok I.bare
theorem Inv.call{g':Array GenState}{d':Drawn}{ch:List Addr}(I:Inv X pins σ H s)(u:Un (frs X.stack) ch H H' s.heap h')(hok:HOk X.prog X.w H' h')(hg:AllBare g')
  (a:∀b∈ch,(b∈X.ex∨X.s₀.heap.objs.size<=b)/\b≠X.env.locals/\(∀x c,X.env.cells.lookup x=some c->c≠b)/\∀p∈X.pn++pins,p.1≠b):
  Inv X pins σ H' { s with heap:=h',gens:=g',drawn:=d',toks:=t' }:=by
 obtain⟨m,⟨o,g,j,D,r⟩,_⟩:=id I.loc
 obtain⟨sl,C⟩:=u.any D I.free λz=>(a _ z).2.1 rfl
 exact I.step (ch:=ch) a (λb o C hb hc e n=>u.keep b o e n (λz=>(dW.mp (I.stkSub b z)).elim C hb) hc) (λb o _ _ hc e n=>u.any e n hc) (λb o hc e n=>u.free b o e n hc) (λb o hc e=>u.there b o e hc) u.tups u.frzs u.tbls (λl hm=>by
  obtain⟨d,f,A,y,t⟩:=hm
  rw[D]at y;cases y
  exact#[_,f,A,C,t]) hok hg
theorem Inv.turned{N:Addr}(I:Inv X pins σ H s)(k:∀b o,b≠N->s.heap.get? b=some o->h'.get? b=some o)(R:H N=none)(C:N≠X.env.locals)
  (h1:N∈X.ex∨X.s₀.heap.objs.size<=N) (h2:∀x c,X.env.cells.lookup x=some c->c≠N) (h3:∀p∈X.pn++pins,p.1≠N):Inv X pins σ H { s with heap:=h',toks:=t' }:=by
 have a:∀b u,H b=some u->b≠N:=λb u e z=>by rw[z,R]at e;cases e
 refine I.step (g':=s.gens) (d':=s.drawn) (ch:=[N]) (λb hb=>?_) (λb o _ _ hc e _=>k b o (λz=>hc (by simp [z])) e) (λb o _ _ hc e _=>#[o.slots,k b o (λz=>hc (by simp [z])) e]) (λ_ _ _ _ n=>n)
  (λb o hc e=>#[o,k b o (λz=>hc (by simp [z])) e]) (λ_ _ e=>e) (λ_ _ _ e=>e) (λb S e=>#[(List.toArray []),by rw[e];simp]) (λm hm=>?_) (λb u e=>?_) I.bare
 ·have e:b=N:=by simpa using hb
  subst e
  exact#[h1,C,h2,h3]
 ·obtain⟨o,g,j,D,r⟩:=hm
  exact#[o,g,j,k _ o (Ne.symm C) D,r]
 ·refine(I.hok b u e).stay (λc v hc q=>k c v ?_ q) (λ_ q=>q) λ_ _ q=>q
  rcases hc with z |z
  ·rw[z];exact a b u e
  ·exact a c _ z
theorem Inv.tok(I:Inv X pins σ H s)(t:Nat):Inv X pins σ H { s with toks:=t }:=I.un (h':=s.heap) (t':=t) Un.refl I.hok
theorem Inv.kept(I:Inv X pins σ H s)(k:∀b u,s.heap.get? b=some u->h'.get? b=some u):Inv X pins σ H { s with heap:=h',toks:=t' }:=I.un (Un.kept k) (I.hok.kept k)
theorem Inv.laid(I:Inv X pins σ H s)(k:∀b u,s.heap.get? b=some u->h'.get? b=some u)(hp:s.heap.objs.size<=a)(new:jE X.prog X.w (upd H a o) h' a o):
  Inv X pins σ (upd H a o) { s with heap:=h',toks:=t' }:=I.un (Un.laid k hp (I.hok.fresh hp)) (I.hok.laid k hp new)
theorem Inv.write{x e:Addr}(I:Inv X pins σ H s)(mu:Mut (H x))(U:e=x∨H e=some (.own x))(k:∀b u,b≠e->s.heap.get? b=some u->h'.get? b=some u)(d:∃u,h'.get? e=some u)
  (new:jE X.prog X.w (upd H x o) h' x o):Inv X pins σ (upd H x o) { s with heap:=h',toks:=t' }:=I.un (Un.write mu U k d) (I.hok.write mu U k d new)
theorem Inv.pins_of{a:List (Addr×Obj)}(I:Inv X pins σ H s)(h:∀p∈a,s.heap.get? p.1=some p.2/\H p.1=none/\p.1≠X.env.locals/\p.1∉X.fs/\∀v,p.2.data≠.cell v):Inv X a σ H s:=
 #[I.ok,I.os,I.bare,I.base,I.loc,I.cell,I.free,I.freeC,λp hp=>(cR.mp hp).elim (λz=>I.pin p (iH _ z)) (h p),I.hok,I.len]
theorem Xf(K:N.Nodup){x:Str}(a:N[i]?=some x)(b:N[j]?=some x):i=j:=by
 obtain⟨h1,e1⟩:=aK.mp a
 obtain⟨h2,C⟩:=aK.mp b
 exact(List.getElem_inj K).mp (e1.trans C.symm)
theorem Rj{x:Str}{Q:Unit->Shared->Prop}(I:Inv X pins σ H s)(K:X.N.Nodup)(hi:X.N[i]?=some x)(hx:Loc X.env.scope x)(r:eZ v u)
  (h:∀U,Inv X pins (σ.set i (some v)) H U->(∃a,Heap.SameBut a s.heap U.heap/\(a=X.env.locals∨X.env.cells.lookup x=some a))->Q () U) (hf:X.fn x=true∨X.env.scope.names.lookup x=some .local:=by first |exact .inl rfl |exact .inr rfl |assumption):wpAny M A (storeName X.env x u) Q E s:=by
 obtain⟨m,R,Y⟩:=id I.loc
 have a2:(X.env.scope.kind== .class||(X.env.scope.kind== .module&&X.env.locals !=X.env.globals))=false:=by rw[I.ok.kind];rfl
 have a0:i<σ.length:=by rw[I.len];exact(aK.mp hi).1
 have cne:=I.cne
 have B:∀{a:Addr}{h':Heap},(∃o,s.heap.get? a=some o/\H a=none)->Heap.SameBut a s.heap h'->HOk X.prog X.w H h':=fun{a h'} ha hs b ob e=>by
  obtain⟨_,_,Z⟩:=ha
  refine(I.hok b ob e).stay (λc D hc q=>(hs.2 c ?_).trans q) (λ_ q=>q) λ_ _ q=>q
  rintro rfl
  rcases hc with rfl |hc
  ·rw[Z]at e;cases e
  ·rw[Z]at hc;cases hc
 rcases hx with hk |hk
 ·refine wpAny_storeName_local hk R (λh' J hs=>?_) a2
  obtain⟨oL,_,_,a6,_⟩:=id R
  refine h _ #[I.ok,I.os,I.bare,#[λb o e n hb hx=>?_,λb o e n hb hx=>?_,I.base.free,λb o e hx=>?_,I.base.tups,I.base.frzs,I.base.tbls],#[_,J,λj y v' e1 C T=>?_],λy c e=>?_,I.free,I.freeC,λp hp=>?_,B #[oL,a6,I.free] hs,by simpa using I.len] #[_,hs,.inl rfl]
  ·exact(hs.2 b (bJ (bQ (aW e) I.ok.above))).trans (I.base.keep b o e n hb hx)
  ·obtain⟨sl,e1⟩:=I.base.slot b o e n hb hx
   exact#[sl,(hs.2 b (bJ (bQ (aW e) I.ok.above))).trans e1]
  ·obtain⟨g,e1⟩:=I.base.there b o e hx
   exact#[g,(hs.2 b (bJ (bQ (aW e) I.ok.above))).trans e1]
  ·by_cases P:j=i
   ·subst P
    rw[hi]at e1;cases e1
    rw[List.getElem?_set_self a0]at C
    cases C
    exact#[u,r,.inl #[hk,by simp]]
   ·rw[List.getElem?_set_ne (Ne.symm P)]at C
    obtain⟨u',t,q⟩:=Y j y v' e1 C T
    refine#[u',t,?_]
    rcases q with⟨k,e⟩|⟨k,c,e,z⟩
    ·refine .inl #[k,?_]
     have:y≠x:=λe=>P (Xf K e1 (e▸hi))
     simp [this,e]
    ·exact .inr #[k,c,e,z.sameBut hs (cne y c e)]
  ·obtain⟨D,z⟩:=I.cell y c e
   exact#[D,z.sameBut hs (cne y c e)]
  ·obtain⟨e,n,ne,O,d⟩:=I.pin p hp
   exact#[(hs.2 p.1 ne).trans e,n,ne,O,d]
 ·have a1:X.fn x=true:=by
   rcases hf with z |z
   ·exact z
   ·rw[z]at hk;cases hk
  obtain⟨c,hc⟩:=I.ok.has x (.inl hk)
  obtain⟨D,z⟩:=I.cell x c hc
  refine wpAny_storeName_cell I.ok.kind hk hc z (λh' F hs=>?_)
  obtain⟨oc,a3,a4⟩:=id z
  refine h { s with heap:=h' } #[I.ok,I.os,I.bare,#[λb o e n hb hx=>?_,λb o e n hb hx=>?_,I.base.free,λb o e hx=>?_,I.base.tups,I.base.frzs,I.base.tbls],#[m,R.sameBut hs (Ne.symm (cne x c hc)),λj y v' e1 C T=>?_],λy S e=>?_,I.free,I.freeC,λp hp=>?_,B #[oc,a3,I.freeC x c hc] hs,by simpa using I.len] #[c,hs,.inr hc]
  ·exact(hs.2 b (bJ (bQ (aW e) (I.ok.cab x c a1 hc)))).trans (I.base.keep b o e n hb hx)
  ·obtain⟨sl,e1⟩:=I.base.slot b o e n hb hx
   exact#[sl,(hs.2 b (bJ (bQ (aW e) (I.ok.cab x c a1 hc)))).trans e1]
  ·obtain⟨g,e1⟩:=I.base.there b o e hx
   exact#[g,(hs.2 b (bJ (bQ (aW e) (I.ok.cab x c a1 hc)))).trans e1]
  ·by_cases P:j=i
   ·subst P
    rw[hi]at e1;cases e1
    rw[List.getElem?_set_self a0]at C
    cases C
    exact#[u,r,.inr #[.inl hk,c,hc,F]]
   ·rw[List.getElem?_set_ne (Ne.symm P)]at C
    obtain⟨u',t,q⟩:=Y j y v' e1 C T
    refine#[u',t,?_]
    rcases q with q |⟨k,S,e,z'⟩
    ·exact .inl q
    ·refine .inr #[k,S,e,z'.sameBut hs ?_]
     rintro rfl
     exact P (Xf K e1 (I.ok.inj _ _ _ e hc▸hi))
  ·by_cases a5:S=c
   ·subst a5;exact#[_,F]
   ·obtain⟨G,l⟩:=I.cell y S e
    exact#[G,l.sameBut hs a5]
  ·obtain⟨e,n,ne,O,d⟩:=I.pin p hp
   refine#[(hs.2 p.1 ?_).trans e,n,ne,O,d]
   intro q
   rw[q,a3]at e
   have f:oc=p.2:=aV e
   exact d D (by rw[←f];exact a4)
theorem Es{x:Str}{Q:Unit->Shared->Prop}(I:Inv X pins σ H s)(K:X.N.Nodup)(hi:X.N[i]?=some x)(hx:Loc X.env.scope x)(r:eZ v u)
  (h:∀U,Inv X pins (σ.set i (some v)) H U->Q () U) (hf:X.fn x=true∨X.env.scope.names.lookup x=some .local:=by first |exact .inl rfl |exact .inr rfl |assumption):wpAny M A (storeName X.env x u) Q E s:=
 Rj I K hi hx r (λU m _=>h U m) hf
theorem Inv.call'{U:Shared}{ch:List Addr}(I:Inv X pins σ H s)(D:U.os=s.os)(u:Un (frs X.stack) ch H H' s.heap U.heap)(hok:HOk X.prog X.w H' U.heap)(hg:AllBare U.gens)
  (a:∀b∈ch,(b∈X.ex∨X.s₀.heap.objs.size<=b)/\b≠X.env.locals/\(∀x c,X.env.cells.lookup x=some c->c≠b)/\∀p∈X.pn++pins,p.1≠b):Inv X pins σ H' U:=by
 obtain⟨h',o,T,O,g⟩:=U
 have e:g=s.os:=D
 subst e
 exact I.call (g':=o) (t':=O) (d':=T) u hok hg a
end
noncomputable abbrev XK:=Value->Option Addr->Hp->Prop
noncomputable abbrev St:=List (Option V)
noncomputable abbrev VK:=V->Hp->Prop
noncomputable abbrev TE:=St->Hp->VK->Prop
noncomputable abbrev TT:=St->Hp->(Bool->Hp->Prop)->Prop
noncomputable abbrev TA:=St->Hp->(List V->Hp->Prop)->Prop
structure rW where
 nx:St->Hp->Prop
 rt:VK
 bk:St->Hp->Prop:=λ_ _=>False
 ct:St->Hp->Prop:=λ_ _=>False
noncomputable abbrev TS:=rW->St->Hp->Prop
noncomputable def EP(X:Cx)(B:List (Addr×Obj))(Z:St)(Q:VK)(u:Value)(U:Shared):Prop:=∃v H',Inv X B Z H' U/\eZ v u/\Q v H'
noncomputable def TP(X:Cx)(B:List (Addr×Obj))(Z:St)(Q:Bool->Hp->Prop)(b:Bool)(U:Shared):Prop:=∃H',Inv X B Z H' U/\Q b H'
noncomputable def AP(X:Cx)(B:List (Addr×Obj))(Z:St)(Q:List V->Hp->Prop)(us:List Value)(U:Shared):Prop:=∃vs H',Inv X B Z H' U/\fD vs us/\Q vs H'
noncomputable def SP(X:Cx)(B:List (Addr×Obj))(D:rW)(f:Flow)(U:Shared):Prop:=
 match f with
 | .next=>∃G H',Inv X B G H' U/\D.nx G H'
 | .brk=>∃G H',Inv X B G H' U/\D.bk G H'
 | .cont=>∃G H',Inv X B G H' U/\D.ct G H'
 | .ret u=>∃v G H',Inv X B G H' U/\eZ v u/\D.rt v H'
noncomputable def PE(X:Cx)(e:Expr)(t:TE):Prop:=
 ∀(B:List (Addr×Obj))(s:Shared)(Z:St)(H:Hp)(Q:VK),Inv X B Z H s->t Z H Q->wpAny (model X.prog X.w) X.A (eval e X.env) (EP X B Z Q) X.xe s
noncomputable def PT(X:Cx)(e:Expr)(t:TT):Prop:=
 ∀(B:List (Addr×Obj))(s:Shared)(Z:St)(H:Hp)(Q:Bool->Hp->Prop),Inv X B Z H s->t Z H Q->wpAny (model X.prog X.w) X.A (isTrue e X.env (eval e X.env)) (TP X B Z Q) X.xe s
noncomputable def PW(X:Cx)(e:Expr)(t:TT):Prop:=
 ∀(g:Sem Value)(B:List (Addr×Obj))(s:Shared)(Z:St)(H:Hp)(Q:Bool->Hp->Prop),Inv X B Z H s->t Z H Q->wpAny (model X.prog X.w) X.A (isTrue e X.env g) (TP X B Z Q) X.xe s
theorem PW.pt{t:TT}(h:PW X e t):PT X e t:=h _
noncomputable def PA(X:Cx)(g:List Expr)(t:TA):Prop:=
 ∀(pos:Pos)(B:List (Addr×Obj))(s:Shared)(Z:St)(H:Hp)(Q:List V->Hp->Prop),Inv X B Z H s->t Z H Q->wpAny (model X.prog X.w) X.A (spliced (backTo pos (starEach g X.env))) (AP X B Z Q) X.xe s
noncomputable def PS(X:Cx)(st:Stmt)(t:TS):Prop:=
 ∀(B:List (Addr×Obj))(s:Shared)(Z:St)(H:Hp)(D:rW),Inv X B Z H s->t D Z H->wpAny (model X.prog X.w) X.A (exec st X.env) (SP X B D) X.xe s
noncomputable def PSs(X:Cx)(st:List Stmt)(t:TS):Prop:=
 ∀(B:List (Addr×Obj))(s:Shared)(Z:St)(H:Hp)(D:rW),Inv X B Z H s->t D Z H->wpAny (model X.prog X.w) X.A (execs st X.env) (SP X B D) X.xe s
theorem thn{t:Sem d}{Q f:d->Shared->Prop}(h:wpAny M A t Q E s)(p:∀a s,Q a s->f a s):wpAny M A t f E s:=wpAny_mono h p λ_ _ x=>x
section
variable{X:Cx}
noncomputable def exI(x:V)(k:Int->Prop):Prop:=match x with
 | .int i=>k i
 |x=>∃i,x=.int i/\k i
noncomputable def exB(x:V)(k:Bool->Prop):Prop:=match x with
 | .bl i=>k i
 |x=>∃i,x=.bl i/\k i
noncomputable def exR(x:V)(k:Addr->Prop):Prop:=match x with
 | .ref i=>k i
 |x=>∃i,x=.ref i/\k i
theorem fG{i:Int}{k:Int->Prop}:exI (.int i) k=k i:=rfl
theorem fH{i:Bool}{k:Bool->Prop}:exB (.bl i) k=k i:=rfl
theorem fF{i:Addr}{k:Addr->Prop}:exR (.ref i) k=k i:=rfl
theorem gX{x:V}{k:Int->Prop}:exI x k=∃i,x=.int i/\k i:=by
 cases x<;>first |rfl |exact propext #[λh=>#[_,rfl,h],fun⟨_,e,h⟩=>by cases e;exact h]
theorem kD{x:V}{k:Bool->Prop}:exB x k=∃i,x=.bl i/\k i:=by
 cases x<;>first |rfl |exact propext #[λh=>#[_,rfl,h],fun⟨_,e,h⟩=>by cases e;exact h]
theorem iK{x:V}{k:Addr->Prop}:exR x k=∃i,x=.ref i/\k i:=by
 cases x<;>first |rfl |exact propext #[λh=>#[_,rfl,h],fun⟨_,e,h⟩=>by cases e;exact h]
theorem jVJ{x:V}{k d:Int->Prop}(h:exI x k)(m:∀i,k i->d i):exI x d:=by
 rw[gX]at h⊢
 obtain⟨i,e,h⟩:=h
 exact#[i,e,m i h]
noncomputable def aE(i:Nat):TE:=λZ H Q=>match Z[i]? with |some (some v)=>Q v H |_=>False
noncomputable def tC(v:V):TE:=λ_ H Q=>Q v H
theorem pe_var{x:Str}{pos:Pos}(K:X.N[i]?=some x)(hv:Vis X.env.scope x)(hd:(x==("__debug__":Str))=false:=by decide)(p:(x==("__classdict__":Str))=false:=by decide):PE X (.Name x pos) (aE i):=by
 intro B s Z H Q I h
 have h:∃v,Z[i]?=some (some v)/\Q v H:=by
  unfold aE at h
  split at h
  ·exact#[_,‹_›,h]
  ·exact h.elim
 obtain⟨v,e,h⟩:=h
 obtain⟨m,R,Y⟩:=I.loc
 obtain⟨u,r,l⟩:=Y i x v K e hv
 have fin:EP X B Z Q u s:=#[v,H,I,r,h]
 rcases l with⟨hk,hm⟩|⟨hk,c,hc,f⟩
 ·exact wpAny_Name (wpAny_loadName_local I.ok.kind hk R hm fin) hd
 ·rcases hk with hk |hk
  ·exact wpAny_Name (wpAny_loadName_cell I.ok.kind hk hc f fin) hd
  ·exact wpAny_Name (wpAny_loadName_free I.ok.kind hk hc f fin p) hd
theorem aS{i j pos}:PE X (.Constant (.int i) j pos) (tC (.int i)):=λ_ _ _ H _ I h=>wpAny_Constant_int #[.int i,H,I.tok _,#[_,rfl],h]
theorem qN{b j pos}:PE X (.Constant (.bool b) j pos) (tC (.bl b)):=λ_ _ _ H _ I h=>Constant_bool #[.bl b,H,I,rfl,h]
theorem qP{j pos}:PE X (.Constant .none j pos) (tC .non):=λ_ _ _ H _ I h=>Constant_none #[.non,H,I,rfl,h]
theorem pe_str{x j pos}:PE X (.Constant (.str x) j pos) (tC (.str x)):=λ_ _ _ H _ I h=>Calls.Constant_str #[.str x,H,I.tok _,#[_,rfl],h]
noncomputable def Gl(X:Cx)(x:Str):Prop:=X.env.kindOf x=some .globalImplicit
theorem Vd{B:List (Addr×Obj)}{x:Str}{pos:Pos}(I:Inv X B Z H s)(hg:Gl X x)(hm:X.mg x=some u)(h:Q u s)
  (hd:(x==("__debug__":Str))=false:=by decide):wpAny (model X.prog X.w) X.A (eval (.Name x pos) X.env) Q E s:=
 Calls.Name_function_global I.ok.kind hg (Calls.loadGlobal_global (by rw[I.ok.glob];exact I.mod.glob.keeps I.bk) hm h) hd
theorem lS{B:List (Addr×Obj)}{x:Str}{pos:Pos}(I:Inv X B Z H s)(hg:Gl X x)(hm:X.mg x=none)(hv:bootBuiltins x=some u)(h:Q u s)
  (R:x≠ "__name__":=by decide) (hd:(x==("__debug__":Str))=false:=by decide):wpAny (model X.prog X.w) X.A (eval (.Name x pos) X.env) Q E s:=by
 obtain⟨a,h1,h2⟩:=I.mod.blt
 exact Calls.Name_function_global I.ok.kind hg (Calls.loadGlobal_builtin (by rw[I.ok.glob];exact I.mod.glob.keeps I.bk) hm (by rw[I.ok.blt];exact h1.keeps I.bk) ((h2 x R).trans hv) h) hd
theorem pe_glob{x:Str}{pos:Pos}(hg:Gl X x)(hm:X.mg x=some u)(r:eZ v u)(hd:(x==("__debug__":Str))=false:=by decide):PE X (.Name x pos) (tC v):=
 λ_ _ _ H _ I h=>Vd I hg hm #[v,H,I,r,h] hd
theorem Ao{x:Str}{pos:Pos}(hg:Gl X x)(hm:X.mg x=none)(hv:bootBuiltins x=some u)(r:eZ v u)(R:x≠ "__name__":=by decide)(hd:(x==("__debug__":Str))=false:=by decide):PE X (.Name x pos) (tC v):=
 λ_ _ _ H _ I h=>lS I hg hm hv #[v,H,I,r,h] R hd
variable{a b:Expr}{ta tb:TE}{pos:Pos}
noncomputable def PC(X:Cx)(op:CmpOp)(a b:Expr)(t:TE):Prop:=
 ∀(B:List (Addr×Obj))(s:Shared)(Z:St)(H:Hp)(Q:VK),Inv X B Z H s->t Z H Q->
  wpAny (model X.prog X.w) X.A (eval a X.env) (λv N=>wpAny (model X.prog X.w) X.A (eval b X.env) (λu g=>wpAny (model X.prog X.w) X.A (compareOp op v u) (EP X B Z Q) X.xe g) X.xe N) X.xe s
noncomputable def tB(t:TE):TT:=λZ H Q=>t Z H λx S=>∃c,x=.bl c/\Q c S
theorem pt_cmp{t:TE}(h:PC X op a b t)(h1:behindInMarks op b=false:=by first |exact nobehind _ (by decide) (by decide)|rfl):PT X (.Compare a [op] [b] pos) (tB t):=by
 intro B s Z H Q I hw
 refine wpAny_isTrue_Compare1 (thn (h B s Z H _ I hw) λv O h1=>thn h1 λu F h2=>thn h2 λc s3#[x,S,j,f,q1]=>?_) h1
 obtain⟨d,rfl,q⟩:=q1
 cases f
 exact wpAny_truthy_bool #[S,j,q]
theorem mZ{t:TE}(h:PE X e t)(U:∀g,isTrue e X.env g=(do let v ←g;standAt e.pos;holding [v] (truthy v)):=by intro _;rfl):PT X e (tB t):=by
 intro B s Z H Q I hw
 refine isTrue_plain (thn (h B s Z H _ I hw) λv O#[x,S,j,f,q1]=>?_) (U _)
 obtain⟨d,rfl,q⟩:=q1
 cases f
 exact wpAny_truthy_bool #[S,j,q]
variable{tA tB':TT}{rest:List Expr}
noncomputable def Ea(t u:TT):TT:=λZ H Q=>t Z H λc S=>if c=true then u Z S Q else Q false S
noncomputable def tOr(t u:TT):TT:=λZ H Q=>t Z H λc S=>if c=true then Q true S else u Z S Q
noncomputable def vG(t:TT):TT:=λZ H Q=>t Z H λc S=>Q (!c) S
theorem Ky(ha:PT X a tA):PW X (.BoolOp .And [a] pos) tA:=by
 intro d B s Z H Q I h
 refine isTrue_and (thn (ha B s Z H Q I h) λc O e=>?_)
 cases c with
 |true=>exact isTrue_and_nil e
 |false=>exact e
theorem pQ(ha:PT X a tA):PW X (.BoolOp .Or [a] pos) tA:=by
 intro d B s Z H Q I h
 refine isTrue_or (thn (ha B s Z H Q I h) λc O e=>?_)
 cases c with
 |false=>exact isTrue_or_nil e
 |true=>exact e
theorem Ub(ha:PT X a tA)(hb:PW X (.BoolOp .And (b::rest) pos) tB'):PW X (.BoolOp .And (a::b::rest) pos) (Ea tA tB'):=by
 intro d B s Z H Q I h
 refine isTrue_and (thn (ha B s Z H _ I h) λc O#[S,j,q1]=>?_)
 cases c with
 |true=>exact hb d B O Z S Q j q1
 |false=>exact#[S,j,q1]
theorem mV(ha:PT X a tA)(hb:PW X (.BoolOp .Or (b::rest) pos) tB'):PW X (.BoolOp .Or (a::b::rest) pos) (tOr tA tB'):=by
 intro d B s Z H Q I h
 refine isTrue_or (thn (ha B s Z H _ I h) λc O#[S,j,q1]=>?_)
 cases c with
 |true=>exact#[S,j,q1]
 |false=>exact hb d B O Z S Q j q1
theorem qO(ha:PT X a tA):PT X (.UnaryOp .Not a pos) (vG tA):=by
 intro B s Z H Q I h
 exact isTrue_not (ha B s Z H (λc S=>Q (!c) S) I h)
noncomputable def rY(ta tb:TE):TE:=λZ H Q=>ta Z H λx S=>∃c,x=.bl c/\if c=true then tb Z S Q else Q (.bl false) S
noncomputable def Zb(ta tb:TE):TE:=λZ H Q=>ta Z H λx S=>∃c,x=.bl c/\if c=true then Q (.bl true) S else tb Z S Q
noncomputable def xT(ta:TE):TE:=λZ H Q=>ta Z H λx S=>∃c,x=.bl c/\Q (.bl (!c)) S
theorem Ud{op}{t:TE}(h:PE X a t):PE X (.BoolOp op [a] pos) t:=λB s Z H Q I hw=>BoolOp_one (h B s Z H Q I hw)
theorem Ue(ha:PE X a ta)(hb:PE X (.BoolOp .And (b::rest) pos) tb):PE X (.BoolOp .And (a::b::rest) pos) (rY ta tb):=by
 intro B s Z H Q I h
 refine BoolOp_and (thn (ha B s Z H _ I h) λv O#[x,S,j,f,q1]=>?_)
 obtain⟨c,rfl,q1⟩:=q1
 cases f
 refine wpAny_truthy_bool ?_
 cases c with
 |true=>exact hb B O Z S Q j q1
 |false=>exact#[.bl false,S,j,rfl,q1]
theorem pe_not(ha:PE X a ta):PE X (.UnaryOp .Not a pos) (xT ta):=by
 intro B s Z H Q I h
 refine UnaryOp_ (thn (ha B s Z H _ I h) λv O#[x,S,j,f,q1]=>?_)
 obtain⟨c,rfl,q1⟩:=q1
 cases f
 exact not_of (wpAny_truthy_bool #[.bl (!c),S,j,rfl,q1])
noncomputable def tIf(t:TT)(ta tb:TE):TE:=λZ H Q=>t Z H λc S=>if c=true then ta Z S Q else tb Z S Q
theorem Ng(hc:PT X c tA)(ha:PE X a ta)(hb:PE X b tb):PE X (.IfExp c a b pos) (tIf tA ta tb):=by
 intro B s Z H Q I h
 refine wpAny_IfExp (thn (hc B s Z H _ I h) λd O#[S,j,q1]=>?_)
 cases d with
 |true=>exact ha B O Z S Q j q1
 |false=>exact hb B O Z S Q j q1
end
noncomputable def SqL(K:aO)(H:Hp)(a:Addr)(xs:List V):Prop:=
 Rd H a (.lst xs)∨
  ∃(o:Obj)(G:Array Value)(n:Nat),K.lookup a=some o/\o.cls=.type "list"/\o.dict=none/\o.data=.seq G n/\G.size<=sizeLine/\fD xs G.toList
noncomputable def SqT(K:aO)(H:Hp)(a:Addr)(xs:List V):Prop:=
 Rd H a (.tup xs)∨
  ∃(o:Obj)(G:Array Value)(n:Nat),K.lookup a=some o/\o.cls=.type "tuple"/\o.data=.seq G n/\G.size<=sizeLine/\fD xs G.toList
noncomputable def absV:Value->Option V
 | .none=>some .non
 | .bool b=>some (.bl b)
 | .int i _=>some (.int i)
 | .str x _=>some (.str x)
 | .bytes b _=>some (.byt b)
 | .float b _=>some (.flt b)
 | .ref a=>some (.ref a)
 | .type n=>some (.ty n)
 |_=>none
theorem eZ.abs{x:V}(r:eZ x u):absV u=some x:=by
 cases x with
 |non=>cases r;rfl
 |bl _=>cases r;rfl
 |int _=>obtain⟨t,rfl⟩:=r;rfl
 |str _=>obtain⟨t,rfl⟩:=r;rfl
 |byt _=>obtain⟨t,rfl⟩:=r;rfl
 |flt _=>obtain⟨t,rfl⟩:=r;rfl
 |ref _=>cases r;rfl
 |ty _=>cases r;rfl
theorem eZ.inj{x y:V}{u:Value}(r:eZ x u)(q:eZ y u):x=y:=aV (r.abs.symm.trans q.abs)
theorem fD.inj:∀{xs ys:List V}{us:List Value},fD xs us->fD ys us->xs=ys
 |_,_,_,.nil,.nil=>rfl
 |_,_,_,.cons r t,.cons r' t'=>by rw[r.inj r',fD.inj t t']
section
variable{X:Cx}{pins:List (Addr×Obj)}{σ:St}{H:Hp}{s:Shared}{a:Addr}{xs ys:List V}
theorem SqL.of(h:H a=some (.lst xs)):SqL K H a xs:=.inl (.inl h)
theorem SqT.of(h:H a=some (.tup xs)):SqT K H a xs:=.inl (.inl h)
theorem Inv.list(I:Inv X pins σ H s)(h:SqL X.K H a xs):∃G:List Value,fD xs G/\PlainL s.heap a G.toArray/\xs.length<=sizeLine:=by
 rcases h with h |⟨o,G,n,hk,hc,hd,hs,A,r⟩
 ·obtain⟨z,G,n,r,e⟩:=h.ok I.hok
  exact#[G,r,#[_,n,e,rfl,rfl,rfl],z]
 ·refine#[G.toList,r,#[o,n,I.kIn a o hk,hc,hd,by simpa using hs],?_]
  have e:=r.length
  simp only[Array.length_toList]at e
  omega
theorem Inv.tuple(I:Inv X pins σ H s)(h:SqT X.K H a xs):∃G:List Value,fD xs G/\IsTup s.heap a G.toArray/\xs.length<=sizeLine:=by
 rcases h with h |⟨o,G,n,hk,hc,hs,A,r⟩
 ·obtain⟨z,G,r,p⟩:=h.ok I.hok
  exact#[G,r,p,z]
 ·refine#[G.toList,r,#[o,I.kIn a o hk,hc,n,by simpa using hs],?_]
  have e:=r.length
  simp only[Array.length_toList]at e
  omega
theorem Inv.list_inj(I:Inv X pins σ H s)(h:SqL X.K H a xs)(h':SqL X.K H a ys):xs=ys:=by
 obtain⟨G,r,⟨o,n,e,_,_,d⟩,_⟩:=I.list h
 obtain⟨b,t,⟨g,k,O,_,_,T⟩,_⟩:=I.list h'
 rw[e]at O;cases O
 rw[d]at T
 injection T with d1 _
 have:G=b:=by simpa using congrArg Array.toList d1
 subst this
 exact r.inj t
end
noncomputable abbrev Cx.wish(X:Cx)(E:Value->Shared->Prop):Cx:={ X with xe:=E }
noncomputable abbrev Cx.nox(X:Cx):Cx:=X.wish λ_ _=>False
theorem Cx.Ok.wish(ok:X.Ok)(E:Value->Shared->Prop):(X.wish E).Ok:=
 #[ok.mod,ok.kind,ok.glob,ok.blt,ok.above,ok.inj,ok.has,ok.cab,ok.hd,ok.frames,ok.stk,ok.exf,ok.bs,ok.bsz,ok.noex,ok.exfs,ok.funs,ok.frf]
theorem Cx.Ok.unwish(ok:(X.wish E).Ok):X.Ok:=
 #[ok.mod,ok.kind,ok.glob,ok.blt,ok.above,ok.inj,ok.has,ok.cab,ok.hd,ok.frames,ok.stk,ok.exf,ok.bs,ok.bsz,ok.noex,ok.exfs,ok.funs,ok.frf]
section
variable{X:Cx}{pins:List (Addr×Obj)}{σ:St}{H:Hp}{s:Shared}{E:Value->Shared->Prop}
theorem Inv.wish(I:Inv X pins σ H s)(E:Value->Shared->Prop):Inv (X.wish E) pins σ H s:=#[I.ok.wish E,I.os,I.bare,I.base,I.loc,I.cell,I.free,I.freeC,I.pin,I.hok,I.len]
theorem Inv.unwish(I:Inv (X.wish E) pins σ H s):Inv X pins σ H s:=#[I.ok.unwish,I.os,I.bare,I.base,I.loc,I.cell,I.free,I.freeC,I.pin,I.hok,I.len]
theorem SP.unwish{D:rW}{f:Flow}{U:Shared}(h:SP (X.wish E) pins D f U):SP X pins D f U:=by
 cases f with
 |next=>obtain⟨G,d,I,q⟩:=h;exact#[G,d,I.unwish,q]
 |brk=>obtain⟨G,d,I,q⟩:=h;exact#[G,d,I.unwish,q]
 |cont=>obtain⟨G,d,I,q⟩:=h;exact#[G,d,I.unwish,q]
 |ret u=>obtain⟨v,G,d,I,r,q⟩:=h;exact#[v,G,d,I.unwish,r,q]
theorem PSs.nox{st:List Stmt}{t:TS}(h:PSs X.nox st t):PSs X st t:=λpins s σ H D I hw=>
 wpAny_mono (h pins s σ H D (I.wish _) hw) (λ_ _ q=>q.unwish) λ_ _ z=>False.elim z
end
section
variable{X:Cx}{st:Stmt}{rest:List Stmt}{t u:TS}{e:Expr}{te:TE}{pos:Pos}
noncomputable def eO:TS:=λD Z H=>D.nx Z H
noncomputable def cD(t u:TS):TS:=λD Z H=>t { D with nx:=u D } Z H
theorem eL:PSs X [] eO:=λ_ _ Z H _ I h=>wpAny_execs_nil #[Z,H,I,h]
theorem aU(h1:PS X st t)(h2:PSs X rest u):PSs X (st::rest) (cD t u):=by
 intro B s Z H D I h
 refine wpAny_execs_cons (thn (h1 B s Z H { D with nx:=u D } I h) λf O q=>?_)
 cases f with
 |next=>
  obtain⟨G,d,m,q⟩:=q
  exact h2 B O G d D m q
 |ret v=>exact q
 |brk=>exact q
 |cont=>exact q
theorem bA(h1:PS X st t):PSs X [st] t:=by
 intro B s Z H D I h
 refine wpAny_execs_cons (thn (h1 B s Z H D I h) λf O q=>?_)
 cases f with
 |next=>exact wpAny_execs_nil q
 |ret v=>exact q
 |brk=>exact q
 |cont=>exact q
theorem Inv.quiet{B:List (Addr×Obj)}(I:Inv X B Z H s):interactive X.env=false:=by simp [interactive,I.ok.kind]
noncomputable def oX(te:TE):TS:=λD Z H=>te Z H λ_ S=>D.nx Z S
theorem sE(U:PE X e te)(hs:swapsWith e none pos.line X.env=pure false:=by rfl):PS X (.Expr e pos) (oX te):=by
 intro B s Z H D I h
 exact wpAny_Expr_any (thn (U B s Z H _ I h) λv O#[x,S,j,f,q1]=>#[Z,S,j,q1]) I.quiet hs
noncomputable def cP(te:TE):TS:=λD Z H=>te Z H D.rt
theorem cE(U:PE X e te):PS X (.Return (some e) pos) (cP te):=by
 intro B s Z H D I h
 exact wpAny_Return_some (thn (U B s Z H _ I h) λv O#[x,S,j,f,q1]=>#[x,Z,S,j,f,q1])
noncomputable def fU(c:TT)(t u:TS):TS:=λD Z H=>c Z H λb S=>if b=true then t D Z S else u D Z S
theorem gE{a b:List Stmt}{o:TT}(hc:PT X c o)(ha:PSs X a t)(hb:PSs X b u):PS X (.If c a b pos) (fU o t u):=by
 intro B s Z H D I h
 refine wpAny_If (thn (hc B s Z H _ I h) λd O#[S,j,q1]=>?_)
 cases d with
 |true=>exact ha B O Z S D j q1
 |false=>exact hb B O Z S D j q1
noncomputable def jK:TS:=λ_ _ _=>False
theorem nJ:PS X st jK:=λ_ _ _ _ _ _ h=>h.elim
end
noncomputable abbrev TG:=V->St->Hp->(St->Hp->Prop)->Prop
noncomputable abbrev TGs:=List V->St->Hp->(St->Hp->Prop)->Prop
noncomputable def PG(X:Cx)(a:Expr)(t:TG):Prop:=
 ∀(B:List (Addr×Obj))(s:Shared)(Z:St)(H:Hp)(v:V)(u:Value)(Q:St->Hp->Prop),Inv X B Z H s->eZ v u->t v Z H Q->
  wpAny (model X.prog X.w) X.A (assign a X.env u) (λ_ U=>∃G H',Inv X B G H' U/\Q G H') X.xe s
noncomputable def PGs(X:Cx)(n:List Expr)(t:TGs):Prop:=
 ∀(B:List (Addr×Obj))(s:Shared)(Z:St)(H:Hp)(vs:List V)(us:List Value)(Q:St->Hp->Prop),Inv X B Z H s->fD vs us->t vs Z H Q->
  wpAny (model X.prog X.w) X.A (assignInOrder ((assignEach n X.env).map (·.2)) us) (λ_ U=>∃G H',Inv X B G H' U/\Q G H') X.xe s
noncomputable abbrev TSet:=V->V->V->Hp->(Hp->Prop)->Prop
noncomputable def PSet(X:Cx)(t:TSet):Prop:=
 ∀(B:List (Addr×Obj))(s:Shared)(Z:St)(H:Hp)(o i v:V)(b l u:Value)(Q:Hp->Prop),Inv X B Z H s->eZ o b->eZ i l->eZ v u->t o i v H Q->
  wpAny (model X.prog X.w) X.A (setItem b l u) (λ_ U=>∃H',Inv X B Z H' U/\Q H') X.xe s
section
variable{X:Cx}{pos:Pos}
noncomputable def aZ(i:Nat):TG:=λv Z H Q=>Q (Z.set i (some v)) H
theorem jZy{x:Str}(K:X.N.Nodup)(hi:X.N[i]?=some x)(hx:Loc X.env.scope x)(hf:X.fn x=true∨X.env.scope.names.lookup x=some .local:=by first |exact .inl rfl |exact .inr rfl |assumption):PG X (.Name x pos) (aZ i):=by
 intro B s Z H v u Q I r h
 exact wpAny_assign_Name (Es I K hi hx r (λU m=>#[_,H,m,h]) hf)
noncomputable def jO:TGs:=λvs Z H Q=>vs=[]/\Q Z H
noncomputable def eF(t:TG)(u:TGs):TGs:=λvs Z H Q=>∃v r,vs=v::r/\t v Z H λG H'=>u r G H' Q
theorem An:PGs X [] jO:=by
 intro B s Z H m R Q I r h
 obtain⟨e,h⟩:=h
 subst e
 cases r
 exact assignInOrder_nil #[Z,H,I,h]
theorem iW{g:List Expr}{t:TG}{u:TGs}(h1:PG X e t)(h2:PGs X g u)
  (hs:(assignEach (e::g) X.env).map (·.2)=assign e X.env::(assignEach g X.env).map (·.2):=by rfl):PGs X (e::g) (eF t u):=by
 intro B s Z H m R Q I r h
 obtain⟨v,a,e1,h⟩:=h
 subst e1
 cases r with
 |cons r rr=>
  rw[hs]
  refine assignInOrder_cons (thn (h1 B s Z H _ _ _ I r h) λ_ O#[i,S,j,q1]=>?_)
  exact h2 B O i S _ _ Q j rr q1
noncomputable def jN(K:aO)(n:Nat)(t:TGs):TG:=λv Z H Q=>∃a xs,v=.ref a/\SqT K H a xs/\xs.length=n/\t xs Z H Q
theorem Gs{g:List Expr}{t:TGs}{n:Nat}(hc:X.calm=true)(h:PGs X g t)
  (R:(assignEach g X.env).length=n:=by rfl) (T:(assignEach g X.env).findIdx? (·.1)=none:=by rfl):PG X (.Tuple g k pos) (jN X.K n t):=by
 intro B s Z H v u Q I r hw
 obtain⟨a,F,e1,J,Y,hw⟩:=hw
 subst e1
 cases r
 obtain⟨G,D,y,A⟩:=I.tuple J
 refine assign_Tuple_tuple (I.ok.hd hc) y (by simp [R,←Y,D.length]) T λM hx=>?_
 have j:Inv X B Z H { s with heap:=M }:=I.kept (t':=s.toks) λb o e=>hx b o (bJ (aW e)) e
 exact h B _ Z H F _ Q j (by simpa using D) hw
noncomputable def Qb(to ti:TE)(t:TSet):TG:=λv Z H Q=>to Z H λo S=>ti Z S λi M=>t o i v M λU=>Q Z U
theorem Lx{o i:Expr}{to ti:TE}{t:TSet}(D:PE X o to)(hi:PE X i ti)(hs:PSet X t)
  (ha:∀v,assign (.Subscript o i pos) X.env v=(do
   let b ←holding [v] (eval o X.env)
   let l ←holding [v,b] (eval i X.env)
   standAt pos
   holding [v,b,l] (setItem b l v)
   release [v,b,l] []):=by intro _;rfl):PG X (.Subscript o i pos) (Qb to ti t):=by
 intro B s Z H v u Q I r h
 rw[ha]
 refine aB (wpAny_holding (thn (D B s Z H _ I h) λb O#[x,S,j,f,q1]=>?_))
 refine aB (wpAny_holding (thn (hi B O Z S _ j q1) λl F#[y,M,k,d,J]=>?_))
 refine aB (wpAny_standAt (aB (wpAny_holding (thn (hs B F Z M x y v b l u _ k f d r J) λ_ s3#[U,z,m]=>?_))))
 exact wpAny_release #[Z,U,z,m]
noncomputable def cU(c:TE)(g:TG):TS:=λD Z H=>c Z H λx S=>g x Z S D.nx
theorem Cy{l:Expr}{c:TE}(U:PE X e c)(hg:PG X l g)(hs:swapsWithSole [l] e pos.line X.env=pure false:=by rfl)(hw:swappedStores [l] e X.env=pure none:=by rfl)
  (h1:(assignEach [l] X.env).map (·.2)=[assign l X.env]:=by rfl):PS X (.Assign [l] e pos) (cU c g):=by
 intro B s Z H D I h
 refine wpAny_Assign_stores (thn (U B s Z H _ I h) λv O#[x,S,j,f,q1]=>?_) hs hw
 rw[h1]
 exact thn (hg B O Z S x v _ j f q1) λ_ F q=>q
theorem ps_set{x:Str}{c:TE}{a:Pos}(K:X.N.Nodup)(hi:X.N[i]?=some x)(hx:Loc X.env.scope x)(U:PE X e c)(hs:swapsWith e (some (.Name x a)) pos.line X.env=pure false:=by rfl)(hf:X.fn x=true∨X.env.scope.names.lookup x=some .local:=by first |exact .inl rfl |exact .inr rfl |assumption):
  PS X (.Assign [.Name x a] e pos) (cU c (aZ i)):=by
 intro B s Z H D I h
 refine wpAny_Assign_Name (thn (U B s Z H _ I h) λv O#[y,S,j,f,q1]=>?_) hs
 exact Es j K hi hx f (λF k=>#[_,S,k,q1]) hf
noncomputable def Pz(i j:Nat)(c:TA):TS:=λD Z H=>c Z H λvs S=>∃v w,vs=[v,w]/\D.nx ((Z.set i (some v)).set j (some w)) S
theorem ps_par{x y:Str}{a b:Expr}{c:TA}{U t pt:Pos}{kt k2 pt2}(hc:X.calm=true)(K:X.N.Nodup)(hi:X.N[i]?=some x)(P:X.N[j]?=some y)(n:i≠j)
  (hx:X.env.scope.names.lookup x=some .local) (d:X.env.scope.names.lookup y=some .local) (ha:PA X [a,b] c)
  (hw:swappedStores [.Tuple [.Name x U,.Name y t] kt pt] (.Tuple [a,b] k2 pt2) X.env=pure (some [x,y]))
  (hs:swapsWithSole [.Tuple [.Name x U,.Name y t] kt pt] (.Tuple [a,b] k2 pt2) pos.line X.env=pure false:=by rfl):
  PS X (.Assign [.Tuple [.Name x U,.Name y t] kt pt] (.Tuple [a,b] k2 pt2) pos) (Pz i j c):=by
 intro B s Z H D I h
 rw[exec_Assign_arm]
 refine aB (wpAny_standAt ?_)
 rw[hs]
 refine aB (aT ?_)
 rw[aF (by decide)]
 refine aB (Tuple_ (thn (ha _ B s Z H _ I h) λR O#[m,S,G,f,q1]=>?_))
 obtain⟨v,w,e1,q1⟩:=q1
 subst e1
 obtain⟨r,l,rfl,J,C⟩:∃r l,R=[r,l]/\eZ v r/\eZ w l:=by
  cases f with
  |cons p q=>
   cases q with
   |cons p' q'=>
    cases q'
    exact#[_,_,rfl,p,p']
 refine wpAny_newObj_type ?_ (by show 2<=sizeLine;decide)
 have k:Inv X B Z S { O with heap:=O.heap.push { cls:=.type "tuple",data:=.seq [r,l].toArray } }:=G.kept (t':=O.toks) λb o e=>aQ _ e
 rw[hw]
 refine aB (aT ?_)
 show wpAny (model X.prog X.w) X.A (do rule "assign.swapped-stores";let u ←unpackItems (.ref O.heap.objs.size) 2 none;assignInOrder [λv=>bindName X.env y v,λv=>bindName X.env x v] u.reverse;pure Flow.next) _ _ _
 refine aB (wpAny_rule (aB (unpackItems_tuple (items:=(List.toArray [r,l])) (I.ok.hd hc) (IsTup.new O.heap _) λM T=>?_)))
 have z:=k.kept (h':=M) (t':=O.toks) λb o e=>T b o (bJ (aW e)) e
 show wpAny _ _ (assignInOrder [λv=>bindName X.env y v,λv=>bindName X.env x v] [l,r]>>=λ_=>pure Flow.next) _ _ _
 refine aB (assignInOrder_cons (wpAny_bindName (Es z K P (.inl d) C (λF Y=>?_) (.inr d))))
 refine assignInOrder_cons (wpAny_bindName (Es Y K hi (.inl hx) J (λs3 g=>assignInOrder_nil (aT ?_)) (.inr hx)))
 rw[List.set_comm _ _ (Ne.symm n)]at g
 exact#[_,S,g,q1]
end
section
variable{X:Cx}{pos:Pos}
noncomputable def xZ(c:TT)(tb:TS):TS:=λD Z H=>∃W:Nat->St->Hp->Prop,(∃m,W m Z H)/\∀m Z H,W m Z H->
 c Z H λb S=>if b=true then ∃N:St->Hp->Prop,(∀G H',N G H'->∃l,l<m/\W l G H')/\tb { D with nx:=N,ct:=N,bk:=D.nx } Z S else D.nx Z S
theorem jWf{a:List Stmt}{o:TT}(hp:PassesOwn (model X.prog X.w) X.A X.env X.xe)(hc:PT X c o)(hb:PSs X a tb):PS X (.While c a [] pos) (xZ o tb):=by
 intro B s Z H D I h
 obtain⟨W,⟨m0,Q⟩,turn⟩:=h
 refine wpAny_While (codeAny_whileLoop (λn q=>∃G d,Inv X B G d q/\W n G d) ?_ m0 #[Z,H,I,Q])
 rintro n O ⟨i,S,j,x⟩
 refine wpAny_passesOwn hp (thn (hc B O i S _ j (turn n i S x)) λb F#[M,k,J]=>?_)
 cases b with
 |true=>
  obtain⟨N,K,J⟩:=J
  rw[aJ rfl]
  refine wpAny_passesOwn hp (thn (hb B F i M _ k J) λf s3 m=>?_)
  cases f with
  |next=>
   obtain⟨p,U,z,g⟩:=m
   obtain⟨l,hm,e⟩:=K p U g
   exact#[l,hm,p,U,z,e]
  |cont=>
   obtain⟨p,U,z,g⟩:=m
   obtain⟨l,hm,e⟩:=K p U g
   exact#[l,hm,p,U,z,e]
  |brk=>exact m
  |ret v=>exact m
 |false=>
  rw[aF bU]
  exact wpAny_execs_nil #[i,M,k,J]
end
structure It where
 go:Nat->Hp->Prop
 yld:Nat->Hp->V->Hp->Prop
 stop:Nat->Hp->Prop
noncomputable def Tu(X:Cx)(B:List (Addr×Obj))(H:Hp)(b:Addr):Prop:=
 H b=none/\b≠X.env.locals/\b∉X.fs/\(b∈X.ex∨X.s₀.heap.objs.size<=b)/\(∀x c,X.env.cells.lookup x=some c->c≠b)/\∀p∈X.pn++B,p.1≠b
theorem Inv.fpOk{B:List (Addr×Obj)}{H':Hp}{b:Addr}(I:Inv X B Z H s)(hb:s.heap.objs.size<=b)(R:H' b=none):Tu X B H' b:=by
 refine#[R,Nat.ne_of_gt (bQ I.lt hb),I.nofs hb,.inr (cO I.sz hb),λx c e z=>?_,λp hp z=>?_]
 ·obtain⟨v,q⟩:=I.cell x c e
  exact absurd (bQ q.lt (by rw[z];exact hb)) (eV _)
 ·exact absurd (bQ (aW (I.pin p hp).1) (by rw[z];exact hb)) (eV _)
structure Tp(P:Program)(w:World)(K:aO)(tg:Expr)(J:It)(fp:List Addr)(it:Addr)(tn:Nat->Heap->Prop):Prop where
 mem:it∈fp
 obj:∀i h,tn i h->∀b∈fp,∃o,h.get? b=some o/\∀v,o.data≠.cell v
 keep:∀i h h',tn i h->(∀b∈fp,∀o,h.get? b=some o->h'.get? b=some o)->tn i h'
 item:∀(X:Cx),X.prog=P->X.w=w->X.K=K->X.calm=true->∀(i:Nat)(pins:List (Addr×Obj))(s:Shared)(σ:St)(H:Hp)(E:Value->Shared->Prop),Inv X pins σ H s->(∀b∈fp,Tu X pins H b)->tn i s.heap->J.go i H->
  wpAny (model P w) X.A (pyNext (.ref it)) (λr s1=>∃u,r=some u/\
   wpAny (model P w) X.A (letOwnedTupleGo tg (.ref it) u) (λ_ s2=>∃x H',Inv X pins σ H' s2/\eZ x u/\J.yld i H x H'/\tn (i+1) s2.heap/\∀b∈fp,H' b=none) E s1) E s
 done:∀(X:Cx),X.prog=P->X.w=w->X.K=K->X.calm=true->∀(i:Nat)(pins:List (Addr×Obj))(s:Shared)(σ:St)(H:Hp)(E:Value->Shared->Prop),Inv X pins σ H s->(∀b∈fp,Tu X pins H b)->tn i s.heap->J.stop i H->
  wpAny (model P w) X.A (pyNext (.ref it)) (λr s1=>r=none/\Inv X pins σ H s1) E s
 self:∀(A:Around)(i:Nat)(s:Shared)(Q:Value->Shared->Prop)(E:Value->Shared->Prop),tn i s.heap->Q (.ref it) s->wpAny (model P w) A (pyIter (.ref it)) Q E s
noncomputable abbrev TI:=St->Hp->(It->Hp->Prop)->Prop
noncomputable def PIE(X:Cx)(B:List (Addr×Obj))(Z:St)(l:Expr)(R:It->Hp->Prop)(a:Value)(F:Shared):Prop:=
 ∃(N:Addr)(D:List Addr)(Y:Nat->Heap->Prop)(J:It)(H':Hp),a=.ref N/\Inv X B Z H' F/\Tp X.prog X.w X.K l J D N Y/\Y 0 F.heap/\(∀b∈D,Tu X B H' b)/\R J H'
noncomputable def PI(X:Cx)(l y:Expr)(q:TI):Prop:=
 ∀(B:List (Addr×Obj))(s:Shared)(Z:St)(H:Hp)(R:It->Hp->Prop),Inv X B Z H s->q Z H R->
  wpAny (model X.prog X.w) X.A (eval y X.env) (λv O=>wpAny (model X.prog X.w) X.A (pyIter v) (PIE X B Z l R) X.xe O) X.xe s
theorem go_of{l:Expr}{N:Addr}{o:Obj}{n:String}{vs:Array Value}{Q:Unit->Shared->Prop}(D:s.heap.get? N=some o)(hc:o.cls=.type n)(hd:o.data=.fields vs)
  (R:["enumerate","zip","dict_itemiterator","dict_reverseitemiterator","odict_iterator","itertools.zip_longest","itertools.pairwise"].contains n=false) (p:Q () s):wpAny M A (letOwnedTupleGo l (.ref N) u) Q E s:=by
 unfold letOwnedTupleGo
 cases l<;>first
  |exact aT p
  | (cases u<;>first
    |exact aT p
    | (refine aB (wpAny_load D ?_)
       rw[hc,hd]
       show wpAny M A (if(["enumerate","zip","dict_itemiterator","dict_reverseitemiterator","odict_iterator","itertools.zip_longest","itertools.pairwise"].contains n&&vs[0]?==some (rawInt _))=true then _ else _) Q E s
       rw[aF (by intro h;rw[R,Bool.false_and]at h;cases h)]
       exact aT p))
noncomputable def Itl(K:aO)(a:Addr):It:=
 #[λi H=>∃xs x,SqL K H a xs/\xs[i]?=some x,λi H x H'=>H'=H/\∀xs,SqL K H a xs->xs[i]?=some x,λi H=>∃xs,SqL K H a xs/\xs.length<=i]
noncomputable def Itr(lo:Int)(n:Nat):It:=#[λi _=>i<n,λi H x H'=>H'=H/\x=.int (lo+i),λi _=>n<=i]
theorem Qu{P:Program}{w:World}{l:Expr}(a N:Addr):Tp P w K l (Itl K a) [N] N (λi h=>h.IsListIter N a i) where
 mem:=by simp
 obj:=λi h st b hb=>by
  have e:b=N:=by simpa using hb
  subst e
  obtain⟨o,e,c,d⟩:=st
  exact#[o,e,λv z=>by rw[d]at z;cases z]
 keep:=λi h M st k=>st.at λo e=>k N (by simp) o e
 item:=by
  intro X Q hw S hc i B s Z H E I hf st hg
  subst Q hw S
  obtain⟨F,x,J,hx⟩:=hg
  obtain⟨G,D,p,A⟩:=I.list J
  obtain⟨u,R,g⟩:=D.get hx
  obtain⟨f0,r,n,U,C,f⟩:=hf N (by simp)
  refine wpAny_pyNext_list_item st p.isList (x:=u) (by simpa using R) λM m sb=>?_
  have j:Inv X B Z H { s with heap:=M }:=I.turned (t':=s.toks) (λb o hb e=>(sb.2 b hb).trans e) f0 r U C f
  obtain⟨o,e,c,d⟩:=id m
  exact#[u,rfl,go_of (s:={ s with heap:=M }) e c d (by decide) #[x,H,j,g,#[rfl,λT q=>by rw[I.list_inj q J];exact hx],m,λb hb=>(hf b hb).1]]
 done:=by
  intro X Q hw S hc i B s Z H E I hf st hg
  subst Q hw S
  obtain⟨F,J,hx⟩:=hg
  obtain⟨G,D,p,A⟩:=I.list J
  obtain⟨f0,r,n,U,C,f⟩:=hf N (by simp)
  have Y:=D.length
  exact wpAny_pyNext_list_end (I.ok.hd hc) st p.isList (by simp;omega) λM O=>#[rfl,I.turned (t':=s.toks) (λb o hb e=>O b o hb e) f0 r U C f]
 self:=λ_ _ _ _ _ st h=>wpAny_pyIter_listiter st h
theorem jJW{P:Program}{w:World}{l:Expr}(N:Addr)(lo:Int)(n:Nat):Tp P w K l (Itr lo n) [N] N (λi h=>IsRangeIter h N (lo+(i:Nat)*1) ((n:Int)-(i:Nat)) 1) where
 mem:=by simp
 obj:=λi h st b hb=>by
  have e:b=N:=by simpa using hb
  subst e
  exact#[_,st,λv z=>by
   have J:Data.fields _=Data.cell v:=z
   cases J]
 keep:=λi h M st k=>k N (by simp) _ st
 item:=by
  intro X Q hw S hc i B s Z H E I hf st hg
  subst Q hw S
  obtain⟨f0,r,u,U,C,f⟩:=hf N (by simp)
  have W:=Walks.range (prog:=X.prog) (w:=X.w) (I.ok.hd hc) N lo 1 n
  refine W.item i s _ _ hg st λv M tk hv m a=>?_
  obtain⟨t,rfl⟩:=hv
  have j:Inv X B Z H { s with heap:=M,toks:=tk }:=I.turned (λb o hb e=>a b o (by simpa using hb) e) f0 r U C f
  refine#[_,rfl,go_of (s:={ s with heap:=M,toks:=tk }) (n:="range_iterator") m rfl rfl (by decide) #[.int (lo+i),H,j,#[t,?_],#[rfl,rfl],m,λb hb=>(hf b hb).1]]
  rw[eA]
 done:=by
  intro X Q hw S hc i B s Z H E I hf st hg
  subst Q hw S
  obtain⟨f0,r,u,U,C,f⟩:=hf N (by simp)
  exact wpAny_pyNext_range_end (I.ok.hd hc) st (by have:n<=i:=hg;omega) λM O=>#[rfl,I.turned (t':=s.toks) (λb o hb e=>O b o hb e) f0 r U C f]
 self:=λ_ _ _ _ _ st h=>wpAny_pyIter_rangeiter st h
section
variable{X:Cx}{tg:Expr}
noncomputable def dC(K:aO)(w:TE):TI:=λZ H R=>w Z H λx S=>exR x λa=>(∃xs,SqL K S a xs)/\R (Itl K a) S
theorem dQ{l:Expr}{w:TE}(Y:PE X l w):PI X tg l (dC X.K w):=by
 intro B s Z H R I h
 refine thn (Y B s Z H _ I h) λv O#[x,S,j,f,q1]=>?_
 obtain⟨a,e,⟨F,J⟩,q⟩:=Eq.mp iK q1
 subst e
 cases f
 obtain⟨G,D,p,A⟩:=j.list J
 refine wpAny_pyIter_list p.isList ?_
 refine#[O.heap.objs.size,[O.heap.objs.size],_,_,S,rfl,j.kept (t':=O.toks) λb o e=>aQ _ e,Qu a _,#[_,bL _ rfl,rfl,rfl],λb hb=>?_,q]
 have e:b=O.heap.objs.size:=by simpa using hb
 subst e
 exact j.fpOk (aM _) (j.hok.fresh (aM _))
theorem jWd{B:List (Addr×Obj)}{R:It->Hp->Prop}{lo hi:Int}{t u v:Tok}{tk:Nat}(I:Inv X B Z H s)(h1:-(2^62)<=lo)(h2:lo<2^62)(h3:-(2^62)<=hi)(S:hi<2^62)
  (q:R (Itr lo (hi-lo).toNat) H):wpAny (model X.prog X.w) X.A (pyIter (.ref s.heap.objs.size)) (PIE X B Z tg R) E { s with heap:=s.heap.push { cls:=.type "range",data:=.fields (List.toArray [.int lo t,.int hi u,.int 1 v]) },toks:=tk }:=by
 refine wpAny_pyIter_range (IsRange.new ..) (small_one h1 h2 h3 S) ?_
 have j:Inv X B Z H { s with heap:=s.heap.push { cls:=.type "range",data:=.fields (List.toArray [.int lo t,.int hi u,.int 1 v]) },toks:=tk }:=I.kept λb o e=>aQ _ e
 refine#[(s.heap.push { cls:=.type "range",data:=.fields (List.toArray [.int lo t,.int hi u,.int 1 v]) }).objs.size,[(s.heap.push { cls:=.type "range",data:=.fields (List.toArray [.int lo t,.int hi u,.int 1 v]) }).objs.size],_,_,H,rfl,
  j.kept (t':=tk) λb o e=>aQ _ e,jJW _ lo (hi-lo).toNat,?_,λb hb=>?_,q]
 ·have e1:lo+((0:Nat):Int)*1=lo:=by simp
  have C:(((hi-lo).toNat:Nat):Int)-((0:Nat):Int)=Builtin.Range.rangeSize lo hi 1:=by rw[rangeSize_one];split<;>omega
  show IsRangeIter _ _ (lo+((0:Nat):Int)*1) ((((hi-lo).toNat:Nat):Int)-((0:Nat):Int)) 1
  rw[e1,C]
  exact bL _ rfl
 ·have e:b=(s.heap.push { cls:=.type "range",data:=.fields (List.toArray [.int lo t,.int hi u,.int 1 v]) }).objs.size:=by simpa using hb
  subst e
  exact j.fpOk (aM _) (j.hok.fresh (aM _))
noncomputable def gT(c:TA):TI:=λZ H R=>c Z H λvs S=>∃j:Int,vs=[.int j]/\-(2^62)<=j/\j<2^62/\R (Itr 0 j.toNat) S
theorem fS{a:Expr}{c:TA}{p pos:Pos}(hg:Gl X "range")(hm:X.mg "range"=none)(ha:PA X [a] c)(hs:starEach [a] X.env=[(false,eval a X.env)]:=by rfl):PI X tg (.Call (.Name "range" p) [a] [] pos) (gT c):=by
 intro B s Z H R I h
 refine Call_ (lS I hg hm boot_range (cI (thn (ha pos B s Z H _ I h) λd O#[m,S,b,f,q1]=>?_) hs rfl))
 obtain⟨j,e,q1,J,q⟩:=q1
 subst e
 cases f with
 |cons r rr=>
  cases rr
  obtain⟨t,rfl⟩:=r
  exact call_range_1 (jWd b #[] #[] q1 J (by simpa using q))
noncomputable def gA(q:TI)(g:TG)(tb:TS):TS:=λD Z H=>q Z H λJ S=>∃W:Nat->Nat->St->Hp->Prop,(∃m,W 0 m Z S)/\∀i m Z H,W i m Z H->
 (J.stop i H/\D.nx Z H)∨(J.go i H/\∃N:St->Hp->Prop,(∀G H',N G H'->∃l,l<m/\W (i+1) l G H')/\∀x H',J.yld i H x H'->g x Z H' λj M=>tb { D with nx:=N,ct:=N,bk:=D.nx } j M)
noncomputable def Uc(D:List Addr)(h:Heap):List (Addr×Obj):=D.filterMap λb=>(h.get? b).map λo=>(b,o)
theorem oB{D:List Addr}{b:Addr}{o:Obj}(hb:b∈D)(e:h.get? b=some o):(b,o)∈Uc D h:=List.mem_filterMap.mpr #[b,hb,by rw[e];rfl]
theorem jYi{D:List Addr}{p:Addr×Obj}(hp:p∈Uc D h):p.1∈D/\h.get? p.1=some p.2:=by
 obtain⟨b,hb,e⟩:=List.mem_filterMap.mp hp
 cases q:h.get? b with
 |none=>rw[q]at e;cases e
 |some o=>
  rw[q]at e
  have O:(b,o)=p:=aV e
  subst O
  exact#[hb,q]
theorem Inv.pinned{B:List (Addr×Obj)}{a:List Addr}(I:Inv X B Z H s)(hf:∀b∈a,Tu X B H b)(D:∀b∈a,∃o,s.heap.get? b=some o/\∀v,o.data≠.cell v):Inv X (B++Uc a s.heap) Z H s:=
 I.pins_of λp hp=>(cR.mp hp).elim (λz=>I.pin p (cX _ z)) λz=>by
  obtain⟨hb,e⟩:=jYi z
  obtain⟨f0,r,u,_⟩:=hf p.1 hb
  obtain⟨o,O,d⟩:=D p.1 hb
  rw[e]at O;cases O
  exact#[e,f0,r,u,d]
theorem Inv.unpinned{B pl:List (Addr×Obj)}(I:Inv X (B++pl) Z H s):Inv X B Z H s:=I.pins_of λp hp=>I.pin p (cX _ (iH _ hp))
theorem ps_for{y:Expr}{a:List Stmt}{q:TI}{pos:Pos}(hp:PassesOwn (model X.prog X.w) X.A X.env X.xe)(hc:X.calm=true)(hi:PI X tg y q)(hg:PG X tg g)(hb:PSs X a tb)
  (hs:∀x,foldedSetIterable y X.env x=pure x:=by intro _;rfl):PS X (.For tg y a [] pos) (gA q g tb):=by
 intro B s Z H D I h
 refine wpAny_For (thn (hi B s Z H _ I h) λv O h1=>thn h1 λa7 F h2=>?_) hs
 obtain⟨it,fp,tn,J,M,e,k,T,a3,f2,W,⟨m0,Q⟩,turn⟩:=h2
 subst e
 --what stays true of the iterator's objects through the loop
 have Wf:∀{H':Hp},(∀b∈fp,H' b=none)->∀b∈fp,Tu X B H' b:=λR b hb=>#[R b hb,(f2 b hb).2]
 refine codeAny_forLoop_any (λn s'=>∃i G H',Inv X B G H' s'/\tn i s'.heap/\(∀b∈fp,H' b=none)/\W i n G H') ?_ m0 #[0,Z,M,k,a3,λb hb=>(f2 b hb).1,Q]
 rintro n s3 ⟨i,p,U,z,a1,a2,w3⟩
 rcases turn i n p U w3 with⟨stop,qn⟩|⟨go,N,K,step⟩
 ·refine wpAny_passesOwn hp (thn (T.done X rfl rfl rfl hc i B s3 p U X.xe z (Wf a2) a1 stop) λr s4#[hr,Y]=>?_)
  subst hr
  exact wpAny_execs_nil #[p,U,Y,qn]
 ·refine wpAny_passesOwn hp (thn (T.item X rfl rfl rfl hc i B s3 p U X.xe z (Wf a2) a1 go) λr s4#[u,hr,S]=>?_)
  subst hr
  refine wpAny_passesOwn hp (thn S λ_ s5#[x,H5,I5,r5,y5,j,a4]=>?_)
  have a5:=I5.pinned (Wf a4) (T.obj _ _ j)
  refine wpAny_passesOwn hp (thn (hg _ s5 p H5 x u _ a5 r5 (step x H5 y5)) λ_ s6#[a6,C,I6,q6]=>?_)
  refine wpAny_passesOwn hp (thn (hb _ s6 a6 C _ I6 q6) λf s7 q7=>?_)
  have a0:∀{c:St}{t:Hp},Inv X (B++Uc fp s5.heap) c t s7->N c t->∃m,m<n/\∃i G H',Inv X B G H' s7/\tn i s7.heap/\(∀b∈fp,H' b=none)/\W i m G H':=fun{c t} P n7=>by
   obtain⟨l,hm,w7⟩:=K c t n7
   refine#[l,hm,i+1,c,t,P.unpinned,T.keep _ _ _ j λb hb o e=>(P.pin (b,o) (cX _ (cX _ (oB hb e)))).1,λb hb=>?_,w7]
   obtain⟨o,e,d⟩:=T.obj _ _ j b hb
   exact(P.pin (b,o) (cX _ (cX _ (oB hb e)))).2.1
  cases f with
  |next=>obtain⟨c,t,P,n7⟩:=q7;exact a0 P n7
  |cont=>obtain⟨c,t,P,n7⟩:=q7;exact a0 P n7
  |brk=>obtain⟨c,t,P,q7⟩:=q7;exact#[c,t,P.unpinned,q7]
  |ret v=>obtain⟨x7,c,t,P,r7,q7⟩:=q7;exact#[x7,c,t,P.unpinned,r7,q7]
end
theorem iN{D:rW}(h:Nat->St->Hp->Prop)(h0:h 0 Z H)(Y:∀i Z H,i<=xs.length->h i Z H->SqL K H a xs)
  (hs:∀i x Z H,xs[i]?=some x->h i Z H->g x Z H λj M=>tb { D with nx:=h (i+1),ct:=h (i+1),bk:=D.nx } j M) (hd:∀Z H,h xs.length Z H->D.nx Z H):
  ∃W:Nat->Nat->St->Hp->Prop,(∃m,W 0 m Z H)/\∀i m Z H,W i m Z H->
   ((Itl K a).stop i H/\D.nx Z H)∨((Itl K a).go i H/\∃N:St->Hp->Prop,(∀G d,N G d->∃l,l<m/\W (i+1) l G d)/\∀x d,(Itl K a).yld i H x d->g x Z d λj M=>tb { D with nx:=N,ct:=N,bk:=D.nx } j M):=by
 refine#[λi m Z H=>m=xs.length-i/\i<=xs.length/\h i Z H,#[xs.length,by simp,dL _,h0],?_]
 rintro i m Z H ⟨rfl,hi,p⟩
 have q:=Y i Z H hi p
 by_cases f:i<xs.length
 ·refine .inr #[#[xs,xs[i],q,by simp [f]],h (i+1),λG d k=>#[xs.length-(i+1),#[],rfl,f,k],λx d y=>?_]
  obtain⟨e,y⟩:=y
  subst e
  exact hs i x Z _ (y xs q) p
 ·have e:i=xs.length:=#[]
  subst e
  exact .inl #[#[xs,q,aM _],hd Z H p]
theorem uC{lo:Int}{n:Nat}{D:rW}(h:Nat->St->Hp->Prop)(h0:h 0 Z H)
  (hs:∀i Z H,i<n->h i Z H->g (.int (lo+i)) Z H λj M=>tb { D with nx:=h (i+1),ct:=h (i+1),bk:=D.nx } j M) (hd:∀Z H,h n Z H->D.nx Z H):
  ∃W:Nat->Nat->St->Hp->Prop,(∃m,W 0 m Z H)/\∀i m Z H,W i m Z H->
   ((Itr lo n).stop i H/\D.nx Z H)∨((Itr lo n).go i H/\∃N:St->Hp->Prop,(∀G d,N G d->∃l,l<m/\W (i+1) l G d)/\∀x d,(Itr lo n).yld i H x d->g x Z d λj M=>tb { D with nx:=N,ct:=N,bk:=D.nx } j M):=by
 refine#[λi m Z H=>m=n-i/\i<=n/\h i Z H,#[n,by simp,dL _,h0],?_]
 rintro i m Z H ⟨rfl,hi,p⟩
 by_cases f:i<n
 ·refine .inr #[f,h (i+1),λG d k=>#[n-(i+1),#[],rfl,f,k],λx d y=>?_]
  obtain⟨e,y⟩:=y
  subst e y
  exact hs i Z _ f p
 ·have e:i=n:=#[]
  subst e
  exact .inl #[aM _,hd Z H p]
theorem Mm{c:TT}{D:rW}(h:St->Hp->Prop)(a:St->Hp->Nat)(h0:h Z H)
  (hs:∀Z H,h Z H->c Z H λb S=>if b=true then tb { D with nx:=λG d=>h G d/\a G d<a Z H,ct:=λG d=>h G d/\a G d<a Z H,bk:=D.nx } Z S else D.nx Z S)
  (mono:∀Z H Q f,(∀b S,Q b S->f b S)->c Z H Q->c Z H f):xZ c tb D Z H:=by
 refine#[λm Z H=>m=a Z H/\h Z H,#[_,rfl,h0],?_]
 rintro m Z H ⟨rfl,p⟩
 refine mono Z H _ _ (λb S q=>?_) (hs Z H p)
 cases b with
 |true=>exact#[_,λG d#[k,l]=>#[_,l,rfl,k],q]
 |false=>exact q
noncomputable abbrev R2:=V->V->Hp->VK->Prop
noncomputable def OpR(X:Cx)(f:Value->Value->Sem Value)(r:R2):Prop:=
 ∀(B:List (Addr×Obj))(s:Shared)(Z:St)(H:Hp)(x y:V)(v u:Value)(Q:VK),Inv X B Z H s->eZ x v->eZ y u->r x y H Q->
  wpAny (model X.prog X.w) X.A (f v u) (EP X B Z Q) X.xe s
noncomputable def UnR(X:Cx)(f:Value->Sem Value)(r:V->Hp->VK->Prop):Prop:=
 ∀(B:List (Addr×Obj))(s:Shared)(Z:St)(H:Hp)(x:V)(v:Value)(Q:VK),Inv X B Z H s->eZ x v->r x H Q->
  wpAny (model X.prog X.w) X.A (f v) (EP X B Z Q) X.xe s
noncomputable def pY(X:Cx)(f:Value)(r:List V->Hp->VK->Prop):Prop:=
 ∀(B:List (Addr×Obj))(s:Shared)(Z:St)(H:Hp)(xs:List V)(us:List Value)(Q:VK),Inv X B Z H s->fD xs us->r xs H Q->
  wpAny (model X.prog X.w) X.A (call f us) (EP X B Z Q) X.xe s
noncomputable def TruR(X:Cx)(r:V->Hp->(Bool->Hp->Prop)->Prop):Prop:=
 ∀(B:List (Addr×Obj))(s:Shared)(Z:St)(H:Hp)(x:V)(v:Value)(Q:Bool->Hp->Prop),Inv X B Z H s->eZ x v->r x H Q->
  wpAny (model X.prog X.w) X.A (truthy v) (TP X B Z Q) X.xe s
noncomputable def tOp(r:R2)(c tb:TE):TE:=λZ H Q=>c Z H λx S=>tb Z S λy M=>r x y M Q
noncomputable def tUn(r:V->Hp->VK->Prop)(c:TE):TE:=λZ H Q=>c Z H λx S=>r x S Q
noncomputable def rI(C:Int->Int->Prop)(g:Int->Int->V):R2:=λx y H Q=>exI x λi=>exI y λj=>C i j/\Q (g i j) H
noncomputable def rI0(g:Int->Int->V):R2:=λx y H Q=>exI x λi=>exI y λj=>Q (g i j) H
noncomputable def rU(g:Int->V):V->Hp->VK->Prop:=λx H Q=>exI x λi=>Q (g i) H
section
variable{X:Cx}{a b c:Expr}{ta tb tc:TE}{pos:Pos}
theorem binT(ha:PE X a ta)(hb:PE X b tb){B:List (Addr×Obj)}{R:V->V->Hp->Prop}(I:Inv X B Z H s)
  (h:ta Z H λx S=>tb Z S λy M=>R x y M)
  (hf:∀v u F x y M,Inv X B Z M F->eZ x v->eZ y u->R x y M->wpAny (model X.prog X.w) X.A (f v u) Q X.xe F):
  wpAny (model X.prog X.w) X.A (eval a X.env) (λv N=>wpAny (model X.prog X.w) X.A (eval b X.env) (λu g=>wpAny (model X.prog X.w) X.A (f v u) Q X.xe g) X.xe N) X.xe s:=by
 refine thn (ha B s Z H _ I h) λv O#[x,S,j,e,q1]=>?_
 refine thn (hb B O Z S _ j q1) λu F#[y,M,k,d,J]=>?_
 exact hf v u F x y M k e d J
theorem cC{op:Operator}{r:R2}(D:OpR X (binaryOp op) r)(ha:PE X a ta)(hb:PE X b tb):PE X (.BinOp a op b pos) (tOp r ta tb):=by
 intro B s Z H Q I h
 exact wpAny_BinOp (binT ha hb I h λv u F x y M k N P q=>D B F Z M x y v u Q k N P q)
theorem lZ{op:UnaryOp}{r:V->Hp->VK->Prop}(D:UnR X (unaryOp op) r)(ha:PE X a ta):PE X (.UnaryOp op a pos) (tUn r ta):=by
 intro B s Z H Q I h
 exact UnaryOp_ (thn (ha B s Z H _ I h) λv O#[x,S,j,f,q1]=>D B O Z S x v Q j f q1)
theorem opI{C:Int->Int->Prop}{g:Int->Int->Int}
  (d:∀(i j:Int)(t u:Tok)(s:Shared)(Q:Value->Shared->Prop)(E:Value->Shared->Prop),C i j->Q (.int (g i j) s.toks) { s with toks:=s.toks+1 }->wpAny (model X.prog X.w) X.A (f (.int i t) (.int j u)) Q E s):
  OpR X f (rI C λi j=>.int (g i j)):=by
 intro B s Z H x y v u Q I N P h
 obtain⟨i,rfl,h1⟩:=Eq.mp gX h
 obtain⟨j,rfl,hc,q⟩:=Eq.mp gX h1
 obtain⟨t,rfl⟩:=N
 obtain⟨O,rfl⟩:=P
 exact d i j t O s _ _ hc #[.int (g i j),H,I.tok _,#[_,rfl],q]
theorem opI0{g:Int->Int->Int}
  (d:∀(i j:Int)(t u:Tok)(s:Shared)(Q:Value->Shared->Prop)(E:Value->Shared->Prop),Q (.int (g i j) s.toks) { s with toks:=s.toks+1 }->wpAny (model X.prog X.w) X.A (f (.int i t) (.int j u)) Q E s):
  OpR X f (rI0 λi j=>.int (g i j)):=by
 intro B s Z H x y v u Q I N P h
 obtain⟨i,rfl,h1⟩:=Eq.mp gX h
 obtain⟨j,rfl,q⟩:=Eq.mp gX h1
 obtain⟨t,rfl⟩:=N
 obtain⟨O,rfl⟩:=P
 exact d i j t O s _ _ #[.int (g i j),H,I.tok _,#[_,rfl],q]
theorem opB0{g:Int->Int->Bool}
  (d:∀(i j:Int)(t u:Tok)(s:Shared)(Q:Value->Shared->Prop)(E:Value->Shared->Prop),Q (.bool (g i j)) s->wpAny (model X.prog X.w) X.A (f (.int i t) (.int j u)) Q E s):
  OpR X f (rI0 λi j=>.bl (g i j)):=by
 intro B s Z H x y v u Q I N P h
 obtain⟨i,rfl,h1⟩:=Eq.mp gX h
 obtain⟨j,rfl,q⟩:=Eq.mp gX h1
 obtain⟨t,rfl⟩:=N
 obtain⟨O,rfl⟩:=P
 exact d i j t O s _ _ #[.bl (g i j),H,I,rfl,q]
noncomputable def CDiv(i j:Int):Prop:=0<j/\j<1073741824
noncomputable def CPow(i j:Int):Prop:=0<=j/\j<=1000000/\i.natAbs<2^64
theorem jR:OpR X (binaryOp .Add) (rI0 λi j=>.int (i+j)):=opI0 λ_ _ _ _ _ _ _ q=>add_int q
theorem nA:OpR X (binaryOp .Sub) (rI0 λi j=>.int (i-j)):=opI0 λ_ _ _ _ _ _ _ q=>sub_int q
theorem kB:OpR X (binaryOp .Mod) (rI (λ_ j=>0<j) λi j=>.int (i%j)):=opI λi j _ _ _ _ _ hc q=>by
 have h1:(0:Int)<j:=hc
 exact mod_int' #[] (by rw[Int.fmod_eq_emod_of_nonneg i #[]];exact q)
theorem Uf:OpR X (binaryOp .Pow) (rI CPow λi j=>.int (i^j.toNat)):=opI λ_ _ _ _ _ _ _ hc q=>pow_int_small hc.1 hc.2.1 hc.2.2 q
theorem unI{f:Value->Sem Value}{g:Int->Int}
  (d:∀(i:Int)(t:Tok)(s:Shared)(Q:Value->Shared->Prop)(E:Value->Shared->Prop),Q (.int (g i) s.toks) { s with toks:=s.toks+1 }->wpAny (model X.prog X.w) X.A (f (.int i t)) Q E s):
  UnR X f (rU λi=>.int (g i)):=by
 intro B s Z H x v Q I N h
 obtain⟨i,rfl,q⟩:=Eq.mp gX h
 obtain⟨t,rfl⟩:=N
 exact d i t s _ _ #[.int (g i),H,I.tok _,#[_,rfl],q]
theorem jJ:UnR X (unaryOp .USub) (rU λi=>.int (-i)):=unI λ_ _ _ _ _ q=>neg_int q
end
noncomputable def scal:V->V->Bool
 | .non,.non=>true | .non,.int _=>true | .int _,.non=>true | .non,.bl _=>true | .bl _,.non=>true | .non,.str _=>true | .str _,.non=>true
 | .int _,.int _=>true | .bl _,.bl _=>true | .str _,.str _=>true | .byt _,.byt _=>true
 | .int _,.str _=>true | .str _,.int _=>true | .bl _,.str _=>true | .str _,.bl _=>true
 |_,_=>false
noncomputable def rEq:R2:=λx y H Q=>scal x y=true/\Q (.bl (decide (x=y))) H
theorem gL{i j:Int}:scal (.int i) (.int j)=true:=rfl
noncomputable def rNe:R2:=λx y H Q=>scal x y=true/\Q (.bl (!decide (x=y))) H
theorem jXf{i j:Int}:decide (V.int i=V.int j)=(i==j):=by
 rw[Bool.eq_iff_iff]
 simp
theorem dec_bl{i j:Bool}:decide (V.bl i=V.bl j)=(i==j):=by
 rw[Bool.eq_iff_iff]
 simp
theorem jXe{i j:Str}:decide (V.str i=V.str j)=(i==j):=by
 rw[Bool.eq_iff_iff]
 simp
theorem jXg{i j:Array UInt8}:decide (V.byt i=V.byt j)=(i.toList==j.toList):=by
 rw[Bool.eq_iff_iff]
 cases i
 cases j
 simp
section
variable{X:Cx}{a b c:Expr}{ta tb tc:TE}{pos:Pos}
theorem fW{B:List (Addr×Obj)}{Q:VK}{k d:Bool}(I:Inv X B Z H s)(q:Q (.bl k) H)(e:k=d):EP X B Z Q (.bool d) s:=by
 subst e
 exact#[.bl k,H,I,rfl,q]
theorem Ed:OpR X (compareOp .Eq) rEq:=by
 intro B s Z H x y v u Q I N P h
 obtain⟨hs,q⟩:=h
 cases x with
 |non=>
  cases N
  cases y with
  |non=>cases P;exact PySem.EqNone.eq_none_none (fW I q (by simp))
  |bl j=>cases P;exact PySem.EqNone.eq_none_bool (fW I q (by simp))
  |int j=>obtain⟨O,rfl⟩:=P;exact PySem.EqNone.eq_none_int (fW I q (by simp))
  |str j=>obtain⟨O,rfl⟩:=P;exact PySem.EqNone.eq_none_str (fW I q (by simp))
  |_=>exact absurd (show false=true from hs) bU
 |bl i=>
  cases N
  cases y with
  |non=>cases P;exact PySem.EqNone.eq_bool_none (fW I q (by simp))
  |bl j=>cases P;exact eq_bool (fW I q dec_bl)
  |str j=>obtain⟨O,rfl⟩:=P;exact PySem.EqMixed.eq_bool_str (fW I q (by simp))
  |_=>exact absurd (show false=true from hs) bU
 |int i=>
  obtain⟨t,rfl⟩:=N
  cases y with
  |non=>cases P;exact PySem.EqNone.eq_int_none (fW I q (by simp))
  |int j=>obtain⟨O,rfl⟩:=P;exact eq_int (fW I q jXf)
  |str j=>obtain⟨O,rfl⟩:=P;exact PySem.EqMixed.eq_int_str (fW I q (by simp))
  |_=>exact absurd (show false=true from hs) bU
 |str i=>
  obtain⟨t,rfl⟩:=N
  cases y with
  |non=>cases P;exact PySem.EqNone.eq_str_none (fW I q (by simp))
  |bl j=>cases P;exact PySem.EqMixed.eq_str_bool (fW I q (by simp))
  |int j=>obtain⟨O,rfl⟩:=P;exact PySem.EqMixed.eq_str_int (fW I q (by simp))
  |str j=>obtain⟨O,rfl⟩:=P;exact eq_str (fW I q jXe)
  |_=>exact absurd (show false=true from hs) bU
 |byt i=>
  obtain⟨t,rfl⟩:=N
  cases y with
  |byt j=>obtain⟨O,rfl⟩:=P;exact PySem.W.eq_bytes (fW I q jXg)
  |_=>exact absurd (show false=true from hs) bU
 |_=>cases y<;>exact absurd (show false=true from hs) bU
theorem oY:OpR X (compareOp .NotEq) rNe:=by
 intro B s Z H x y v u Q I N P h
 obtain⟨hs,q⟩:=h
 cases x with
 |non=>
  cases N
  cases y with
  |non=>cases P;exact PySem.EqNone.ne_none_none (fW I q (by simp))
  |bl j=>cases P;exact PySem.EqNone.ne_none_bool (fW I q (by simp))
  |int j=>obtain⟨O,rfl⟩:=P;exact PySem.EqNone.ne_none_int (fW I q (by simp))
  |str j=>obtain⟨O,rfl⟩:=P;exact PySem.EqNone.ne_none_str (fW I q (by simp))
  |_=>exact absurd (show false=true from hs) bU
 |bl i=>
  cases N
  cases y with
  |non=>cases P;exact PySem.EqNone.ne_bool_none (fW I q (by simp))
  |bl j=>cases P;exact ne_bool (fW I q (congrArg not dec_bl))
  |str j=>obtain⟨O,rfl⟩:=P;exact PySem.EqMixed.ne_bool_str (fW I q (by simp))
  |_=>exact absurd (show false=true from hs) bU
 |int i=>
  obtain⟨t,rfl⟩:=N
  cases y with
  |non=>cases P;exact PySem.EqNone.ne_int_none (fW I q (by simp))
  |int j=>obtain⟨O,rfl⟩:=P;exact ne_int (fW I q (congrArg not jXf))
  |str j=>obtain⟨O,rfl⟩:=P;exact PySem.EqMixed.ne_int_str (fW I q (by simp))
  |_=>exact absurd (show false=true from hs) bU
 |str i=>
  obtain⟨t,rfl⟩:=N
  cases y with
  |non=>cases P;exact PySem.EqNone.ne_str_none (fW I q (by simp))
  |bl j=>cases P;exact PySem.EqMixed.ne_str_bool (fW I q (by simp))
  |int j=>obtain⟨O,rfl⟩:=P;exact PySem.EqMixed.ne_str_int (fW I q (by simp))
  |str j=>obtain⟨O,rfl⟩:=P;exact ne_str (fW I q (congrArg not jXe))
  |_=>exact absurd (show false=true from hs) bU
 |byt i=>
  obtain⟨t,rfl⟩:=N
  cases y with
  |byt j=>obtain⟨O,rfl⟩:=P;exact PySem.W.ne_bytes (fW I q (congrArg not jXg))
  |_=>exact absurd (show false=true from hs) bU
 |_=>cases y<;>exact absurd (show false=true from hs) bU
theorem lQ:OpR X (compareOp .Lt) (rI0 λi j=>.bl (decide (i<j))):=opB0 λ_ _ _ _ _ _ _ q=>lt_int q
theorem Ec:OpR X (compareOp .Gt) (rI0 λi j=>.bl (decide (j<i))):=opB0 λ_ _ _ _ _ _ _ q=>gt_int q
theorem op_ge:OpR X (compareOp .GtE) (rI0 λi j=>.bl (decide (j<=i))):=opB0 λ_ _ _ _ _ _ _ q=>ge_int q
theorem Gu:OpR X (compareOp .Is) (λx y H Q=>y=.non/\Q (.bl (decide (x=.non))) H):=by
 intro B s Z H x y v u Q I N P h
 obtain⟨rfl,q⟩:=h
 cases P
 refine is_none_gen (fW I q ?_)
 cases x<;>first
  | (cases N;rfl)
  | (obtain⟨t,rfl⟩:=N;rfl)
theorem jZ4:OpR X (compareOp .IsNot) (λx y H Q=>y=.non/\Q (.bl (!decide (x=.non))) H):=by
 intro B s Z H x y v u Q I N P h
 obtain⟨rfl,q⟩:=h
 cases P
 refine isnot_none_gen (fW I q ?_)
 cases x<;>first
  | (cases N;rfl)
  | (obtain⟨t,rfl⟩:=N;rfl)
theorem dB(b:Expr)(h:op≠.In:=by decide)(h2:op≠.NotIn:=by decide):behindInMarks op b=false:=by
 have e1:(op==CmpOp.In)=false:=by cases op<;>first |rfl |exact absurd rfl h
 have C:(op==CmpOp.NotIn)=false:=by cases op<;>first |rfl |exact absurd rfl h2
 cases b<;>simp [behindInMarks,e1,C]
theorem vS{r:R2}(D:OpR X (compareOp op) r)(ha:PE X a ta)(hb:PE X b tb)(hm:behindInMarks op b=false):PE X (.Compare a [op] [b] pos) (tOp r ta tb):=by
 intro B s Z H Q I h
 exact wpAny_Compare1 (binT ha hb I h λv u F x y M k N P q=>D B F Z M x y v u Q k N P q) hm
noncomputable def cY(t:TE):TT:=λZ H Q=>t Z H λx H'=>exB x λk=>Q k H'
theorem cV{r:R2}(D:OpR X (compareOp op) r)(ha:PE X a ta)(hb:PE X b tb)(hm:behindInMarks op b=false):PT X (.Compare a [op] [b] pos) (cY (tOp r ta tb)):=by
 intro B s Z H Q I h
 refine wpAny_isTrue_Compare1 (thn (ha B s Z H _ I h) λv O#[x,S,j,f,q1]=>thn (hb B O Z S _ j q1) λu F#[y,M,g,d,J]=>
  thn (D B F Z M x y v u _ g f d J) λc s3#[z,U,i,n,m]=>?_) hm
 obtain⟨k,e,m⟩:=Eq.mp kD m
 subst e
 cases n
 exact wpAny_truthy_bool #[U,i,m]
noncomputable def TruV(K:aO)(x:V)(H:Hp)(k:Bool):Prop:=
 match x with
 | .non=>k=false
 | .bl b=>k=b
 | .int i=>k=(i !=0)
 | .str y=>y.length<=sizeLine/\k=((y.length:Int) !=0)
 | .byt y=>y.size<=sizeLine/\k=((y.size:Int) !=0)
 | .ref p=>(∃xs,SqL K H p xs/\k= !xs.isEmpty)∨(∃xs,SqT K H p xs/\k= !xs.isEmpty)∨∃kvs,H p=some (.dK kvs)/\k= !kvs.isEmpty
 |_=>False
theorem jZY{kvs:List (d×V)}{vs:List (d×Value)}(r:KV kvs vs):(!vs.isEmpty)= !kvs.isEmpty:=by
 cases r<;>rfl
theorem Oj{G:List Value}(r:fD xs G):(!G.toArray.isEmpty)= !xs.isEmpty:=by
 cases r<;>simp
theorem Lz:(sizeLine:Nat)<2^63:=by rw[sizeLine_eq];decide
theorem tru_ok:TruR X (λx H Q=>∃k,TruV X.K x H k/\Q k H):=by
 intro B s Z H x v Q I N h
 obtain⟨k,e,q⟩:=h
 have Y:=Lz
 have hs:sizeLine=16777216:=sizeLine_eq
 cases x with
 |non=>
  cases N
  have O:k=false:=e
  subst O
  exact truthy_none #[H,I,q]
 |bl b=>
  cases N
  have O:k=b:=e
  subst O
  exact wpAny_truthy_bool #[H,I,q]
 |int i=>
  obtain⟨t,rfl⟩:=N
  have O:k=(i !=0):=e
  subst O
  exact PySem.P.truthy_int #[H,I,q]
 |str y=>
  obtain⟨t,rfl⟩:=N
  obtain⟨d,O⟩:y.length<=sizeLine/\k=((y.length:Int) !=0):=e
  subst O
  exact PySem.P.truthy_str #[] #[H,I.tok _,q]
 |byt y=>
  obtain⟨t,rfl⟩:=N
  obtain⟨d,O⟩:y.size<=sizeLine/\k=((y.size:Int) !=0):=e
  subst O
  exact PySem.W.truthy_bytes #[] #[H,I.tok _,q]
 |ref p=>
  cases N
  have O:(∃F,SqL X.K H p F/\k= !F.isEmpty)∨(∃F,SqT X.K H p F/\k= !F.isEmpty)∨∃n,H p=some (.dK n)/\k= !n.isEmpty:=e
  rcases O with⟨F,hx,O⟩|⟨F,hx,O⟩|⟨n,hx,O⟩
  ·subst O
   obtain⟨G,r,l,A⟩:=I.list hx
   have C:=r.length
   exact wpAny_truthy_list l.isList (by simp only[bM];omega) #[H,I.tok _,by rw[Oj r];exact q]
  ·subst O
   obtain⟨G,r,l,A⟩:=I.tuple hx
   have C:=r.length
   exact truthy_tuple l (by simp only[bM];omega) #[H,I.tok _,by rw[Oj r];exact q]
  ·subst O
   obtain⟨A,g,f,r,m⟩:n.length<=sizeLine/\(p==sysModules)=false/\∃f,KV n f/\s.heap.DictOf (kE X.prog X.w) p f:=I.hok p _ hx
   have C:n.length=f.length:=Paired.length r
   exact wpAny_truthy_dict g m #[] #[H,I.tok _,by rw[jZY r];exact q]
 |_=>exact(show False from e).elim
theorem jWe(ha:PE X a ta)(U:∀g,isTrue a X.env g=(do let v ←g;standAt a.pos;holding [v] (truthy v))):
  PT X a (λZ H Q=>ta Z H λx d=>∃k,TruV X.K x d k/\Q k d):=by
 intro B s Z H Q I h
 exact isTrue_plain (thn (ha B s Z H _ I h) λv O#[x,S,j,f,q1]=>tru_ok B O Z S x v Q j f q1) (U _)
theorem xS{x:V}(r:fD [x] us):∃u,us=[u]/\eZ x u:=by
 cases r with
 |cons r1 r2=>cases r2;exact#[_,rfl,r1]
theorem Qn{x y:V}(r:fD [x,y] us):∃u D,us=[u,D]/\eZ x u/\eZ y D:=by
 cases r with
 |cons r1 r2=>
  cases r2 with
  |cons r3 r4=>cases r4;exact#[_,_,rfl,r1,r3]
theorem yM:pY X (.builtin "abs") (λF H Q=>∃i,F=[.int i]/\Q (.int (if i<0 then -i else i)) H):=by
 intro B s Z H F R Q I r h
 obtain⟨i,rfl,q⟩:=h
 obtain⟨u,rfl,t,rfl⟩:=xS r
 exact call_abs_int λu tk=>#[.int (if i<0 then -i else i),H,I.tok _,#[_,rfl],q]
theorem Sq(hc:X.calm=true):pY X (.builtin "max") (λF H Q=>∃i j,F=[.int i,.int j]/\Q (.int (if j>i then j else i)) H):=by
 intro B s Z H F R Q I r h
 obtain⟨i,j,rfl,q⟩:=h
 obtain⟨u,D,rfl,⟨t,rfl⟩,⟨O,rfl⟩⟩:=Qn r
 refine max_two_ints (I.ok.hd hc) λM tk k=>#[_,H,I.kept k,?_,q]
 by_cases P:j>i
 ·rw[aJ P,aJ P];exact#[_,rfl]
 ·rw[aF P,aF P];exact#[_,rfl]
theorem Sn(hc:X.calm=true):pY X (.builtin "min") (λF H Q=>∃i j,F=[.int i,.int j]/\Q (.int (if j<i then j else i)) H):=by
 intro B s Z H F R Q I r h
 obtain⟨i,j,rfl,q⟩:=h
 obtain⟨u,D,rfl,⟨t,rfl⟩,⟨O,rfl⟩⟩:=Qn r
 refine min_two_ints (I.ok.hd hc) λM tk k=>#[_,H,I.kept k,?_,q]
 by_cases P:j<i
 ·rw[aJ P,aJ P];exact#[_,rfl]
 ·rw[aF P,aF P];exact#[_,rfl]
end
structure Zd(h:Heap)(x dx C:Addr)(mA:Str->Option Value):Prop where
 obj:h.get? x=some (PySem.W.instObj C dx)
 ns:h.Ns1 dx mA
 ne:dx≠x
theorem jYm{f:Addr}{B:Str->Option Value}(n:h.Ns1 f B):∃l,h.get? f=some l/\∀b,PySem.W.lookIn b l=some (B b):=by
 obtain⟨o,g,j,D,hd,hk,_,hm⟩:=n
 refine#[o,D,λb=>?_]
 have e:=hm b
 unfold nsFind findBy at e
 rw[←Array.find?_toList]at e
 unfold PySem.W.lookIn
 rw[hd]
 dsimp only
 split
 ·rename_i y q
  rw[q]at e
  exact congrArg some e
 ·rename_i q
  rw[q]at e
  have a:g.toList.any (·.refKey)=false:=by
   rw[List.any_eq_false]
   intro y d
   obtain⟨z,t,c⟩:=hk y (Array.mem_toList_iff.mp d)
   simp [DictEntry.refKey,c]
  have i:¬g.toList.any (·.refKey)=true:=by rw[a];exact bU
  rw[aF i]
  exact congrArg some e
theorem Zd.look{x f:Addr}{B:Str->Option Value}(I:Zd h x f C B):∃l,PySem.W.InstAt h x (PySem.W.instObj C f) C (some l)/\∀b,PySem.W.lookIn b l=some (B b):=
 let⟨l,ho,hl⟩:=jYm I.ns
 #[l,#[I.obj,rfl,rfl,ho],hl]
section
variable{prog:Program}{w:World}{A:Around}{E:Value->Shared->Prop}{s:Shared}{K:aO}{x dx C f:Addr}{mA:Str->Option Value}{name:Str}{v:Value}
theorem get_map{b:Bool}(X:K.In s.heap)(I:Zd s.heap x dx C mA)(hg:PySem.W.plainGet K C name=true)(t:PySem.W.hasDictIn K C=true)
  (ha:PySem.W.findIn K (.ref C) name=some none) (hv:mA name=some v) (a:PySem.W.handedIn v=true) (h:Q v { s with toks:=s.toks+1 }):
  wpAny (model prog w) A (getAttr (.ref x) name b) Q E s:=by
 obtain⟨l,J,Y⟩:=I.look
 exact PySem.W.get_value X J (PySem.W.plainGet_of hg).1 (PySem.W.findObj_own t ha rfl (by rw[Y,hv])) a h
theorem jW5{Q:Value×List Value->Shared->Prop}(X:K.In s.heap)(I:Zd s.heap x dx C mA)(hg:PySem.W.plainGet K C name=true)
  (hf:PySem.W.findIn K (.ref C) name=some (some (.ref f))) (y:PySem.W.isFn K (.ref f)=true) (hv:mA name=none) (h:Q (.ref f,[.ref x]) s):
  wpAny (model prog w) A (getMethod (.ref x) name pl) Q E s:=by
 obtain⟨l,J,Y⟩:=I.look
 exact PySem.W.method_fn X J (PySem.W.plainGet_of hg).1 (PySem.W.plainGet_of hg).2 hf (beq_iff_eq.mp y) (by show(PySem.W.lookIn name l).map (·.isSome)=some false;rw[Y,hv];rfl) h
theorem set_map{ns:List Str}{Q:Unit->Shared->Prop}(X:K.In s.heap)(I:Zd s.heap x dx C mA)
  (hs:PySem.W.findIn K (.ref C) "__setattr__"=some (some (.builtin "object.__setattr__"))) (hp:PySem.W.plainOver K C=true) (k:PySem.W.takerIn K C name=some none) (t:PySem.W.hasDictIn K C=true)
  (hw:PySem.Within mA ns) (hsz:ns.length<=sizeLine)
  (h:∀M,Zd M x dx C (λy=>if y=name then some v else mA y)->Heap.SameBut dx s.heap M->Q () { s with heap:=M,toks:=s.toks+2 }):
  wpAny (model prog w) A (setAttr (.ref x) name v) Q E s:=by
 obtain⟨l,J,Y⟩:=I.look
 refine PySem.W.set_plain X J hs (PySem.W.osa_open (s:={ s with toks:=s.toks+1 }) (r:=none) X J hp k λb=>?_)
 obtain⟨Z,hc,G⟩:=PySem.W.any_some t
 have hx:s.heap.get? x=some #[.ref C,some dx,.plain,(List.toArray [])]:=I.obj
 refine aB (aT (aB (aB (wpAny_loadPart hx (aB (PySem.W.Looks.here (s:={ s with toks:=s.toks+1 }) (PySem.W.looks_clsIn X hc) ?_))))))
 rw[G]
 refine aT (a:=some dx) (aB (aT (aB ?_)))
 refine wpAny_nsSet1 (s:={ s with toks:=s.toks+1 }) I.ns λM O D=>?_
 obtain⟨c,i,j,d,e,g⟩:=O.count (PySem.Within.cons name v hw)
 refine aB (wpAny_lookBehind d (by rw[e];exact pastItsLine_dict (cO g (by rw[cZ];omega))) ?_)
 exact aT (h _ #[(D.2 _ (Ne.symm I.ne)).trans I.obj,O,I.ne] D)
theorem jWt{R:Result->Shared->Prop}{vs:List Value}{i:List (Str×Value)}(X:K.In s.heap)(hm:PySem.W.makesIn K C=true)
  (hi:PySem.W.findIn K (.ref C) "__init__"=some (some (.ref f))) (hf:PySem.W.typeIn K (.ref f)=some (.type "function"))
  (h:codeAny (model prog w) (A.under (.builtin "type.__call__" #[.ref C::vs,i])) (.call (.ref f) #[.ref (s.heap.objs.size+1)::vs,i]) (PySem.W.InitBack (s.heap.objs.size+1) R)
   { s with heap:=(s.heap.push PySem.W.emptyDict).push (PySem.W.instObj C s.heap.objs.size) }):
  codeAny (model prog w) A (.call (.ref C) #[vs,i]) R s:=by
 obtain⟨a,g,d,t,os⟩:=s
 exact PySem.W.make_core (PySem.W.makes_of X hm) (PySem.W.looks_findIn X hi) (λself=>PySem.W.bind_fn X self hf) (.inl rfl) h
end
noncomputable def gY(f:Str)(v:V):List (Str×V)->List (Str×V)
 | []=>[(f,v)]
 | (g,x)::r=>if g=f then(g,v)::r else(g,x)::gY f v r
theorem lE(f g:Str)(v:V):∀fs:List (Str×V),(gY f v fs).lookup g=if g=f then some v else fs.lookup g
 | []=>by
  show List.lookup g [(f,v)]=_
  by_cases h:g=f
  ·have hb:(g==f)=true:=beq_iff_eq.mpr h
   simp only[List.lookup,hb,aJ h]
  ·have hb:(g==f)=false:=beq_eq_false_iff_ne.mpr h
   simp only[List.lookup,hb,aF h]
 | (k,x)::r=>by
  have m:=lE f g v r
  rw[show gY f v ((k,x)::r)=(if k=f then(k,v)::r else(k,x)::gY f v r)from rfl]
  by_cases hk:k=f
  ·rw[aJ hk]
   by_cases h:g=k
   ·have hb:(g==k)=true:=beq_iff_eq.mpr h
    simp only[List.lookup,hb,aJ (h.trans hk)]
   ·have hb:(g==k)=false:=beq_eq_false_iff_ne.mpr h
    simp only[List.lookup,hb,aF (λe:g=f=>h (e.trans hk.symm))]
  ·rw[aF hk]
   by_cases h:g=k
   ·have hb:(g==k)=true:=beq_iff_eq.mpr h
    simp only[List.lookup,hb,aF (λe:g=f=>hk (h.symm.trans e))]
   ·have hb:(g==k)=false:=beq_eq_false_iff_ne.mpr h
    simp only[List.lookup,hb]
    exact m
theorem Hx(f:Str)(v:V):∀fs:List (Str×V),f∈(gY f v fs).map (·.1)/\∀g,g∈fs.map (·.1)->g∈(gY f v fs).map (·.1)
 | []=>#[by simp [gY],λg h=>by simp at h]
 | (k,x)::r=>by
  obtain⟨S,Y⟩:=Hx f v r
  rw[show gY f v ((k,x)::r)=(if k=f then(k,v)::r else(k,x)::gY f v r)from rfl]
  by_cases hk:k=f
  ·rw[aJ hk]
   subst hk
   exact#[by simp,λg h=>by simpa using h]
  ·rw[aF hk]
   refine#[?_,λg h=>?_]
   ·rw[bR]
    exact bI _ S
   ·rw[bR]at h⊢
    rcases dW.mp h with e |e
    ·exact dW.mpr (.inl e)
    ·exact bI _ (Y g e)
theorem Ju(f:Str)(v:V):∀fs:List (Str×V),(gY f v fs).length<=fs.length+1
 | []=>by simp [gY]
 | (k,x)::r=>by
  have m:=Ju f v r
  rw[show gY f v ((k,x)::r)=(if k=f then(k,v)::r else(k,x)::gY f v r)from rfl]
  by_cases hk:k=f
  ·rw[aJ hk,cZ,cZ];omega
  ·rw[aF hk,cZ,cZ];omega
theorem Bj.some_of{o:Option Value}(r:Bj (some v) o):∃u,o=some u/\eZ v u:=by
 cases o with
 |none=>exact(show False from r).elim
 |some u=>exact#[u,rfl,r]
theorem Bj.none_of{o:Option Value}(r:Bj none o):o=none:=by
 cases o with
 |none=>rfl
 |some u=>exact(show False from r).elim
theorem jYv(r:eZ v u):PySem.W.handedIn u=true:=by
 cases v with
 |non=>cases(show u=Value.none from r);rfl
 |bl b=>cases(show u=Value.bool b from r);rfl
 |int i=>obtain⟨t,e⟩:=(show ∃t,u=Value.int i t from r);cases e;rfl
 |str x=>obtain⟨t,e⟩:=(show ∃t,u=Value.str x t from r);cases e;rfl
 |byt b=>obtain⟨t,e⟩:=(show ∃t,u=Value.bytes b t from r);cases e;rfl
 |flt b=>obtain⟨t,e⟩:=(show ∃t,u=Value.float b t from r);cases e;rfl
 |ref a=>cases(show u=Value.ref a from r);rfl
 |ty n=>cases(show u=Value.type n from r);rfl
section
variable{P:Program}{w:World}{H H':Hp}{h h':Heap}{a C dx:Addr}{fs fs':List (Str×V)}
theorem Ld(hok:HOk P w H h)(e:H a=some (.ins C dx fs)):∃B,Zd h a dx C B/\(∀f,Bj (fs.lookup f) (B f))/\PySem.Within B (fs.map (·.1))/\fs.length<=1000/\H dx=some (.own a):=by
 obtain⟨d,z,ne,ob,B,n,r,q⟩:=(show jE P w H h a (.ins C dx fs)from hok a _ e)
 exact#[B,#[ob,n,ne],r,q,z,d]
end
structure Cls(K:aO)(C:Addr):Prop where
 pg:PySem.W.plainGet K C Str.empty=true
 hd:PySem.W.hasDictIn K C=true
 po:PySem.W.plainOver K C=true
 sa:PySem.W.findIn K (.ref C) "__setattr__"=some (some (.builtin "object.__setattr__"))
theorem Cls.get{K:aO}{C:Addr}(c:Cls K C)(f:Str):PySem.W.plainGet K C f=true:=c.pg
noncomputable def pR(K:aO)(C:Addr)(f:Str):Prop:=PySem.W.findIn K (.ref C) f=some none
theorem pR.taker{f:Str}(n:pR K C f):PySem.W.takerIn K C f=some none:=by
 unfold PySem.W.takerIn
 rw[show PySem.W.findIn K (.ref C) f=some none from n]
 rfl
structure Meth(K:aO)(C:Addr)(m:Str)(f:Addr):Prop where
 at_:PySem.W.findIn K (.ref C) m=some (some (.ref f))
 fn:PySem.W.isFn K (.ref f)=true
 kp:PySem.W.keepIn K (.ref f)=true
section
variable{X:Cx}{pins:List (Addr×Obj)}{σ:St}{H:Hp}{s:Shared}{a C dx:Addr}{fs:List (Str×V)}{f:Str}{v:V}{A:Around}{E:Value->Shared->Prop}
theorem jZW{b:Bool}(I:Inv X pins σ H s)(e:H a=some (.ins C dx fs))(c:Cls X.K C)(n:pR X.K C f)(l:fs.lookup f=some v)
  (h:∀u U,Inv X pins σ H U->eZ v u->Q u U):wpAny (model X.prog X.w) A (getAttr (.ref a) f b) Q E s:=by
 obtain⟨B,O,r,_,_,_⟩:=Ld I.hok e
 obtain⟨u,R,g⟩:=Bj.some_of (v:=v) (o:=B f) (by rw[←l];exact r f)
 exact get_map I.kIn O (c.get f) c.hd n R (jYv g) (h u _ (I.tok _) g)
theorem Om{m:Str}{g:Addr}{Q:Value×List Value->Shared->Prop}(I:Inv X pins σ H s)(e:H a=some (.ins C dx fs))(c:Cls X.K C)(k:Meth X.K C m g)(l:fs.lookup m=none)
  (h:Q (.ref g,[.ref a]) s):wpAny (model X.prog X.w) A (getMethod (.ref a) m pl) Q E s:=by
 obtain⟨B,O,r,_,_,_⟩:=Ld I.hok e
 have R:B m=none:=Bj.none_of (by rw[←l];exact r m)
 exact jW5 I.kIn O (c.get m) k.at_ k.fn R h
theorem jJV{y:V}{Q:Unit->Shared->Prop}(I:Inv X pins σ H s)(e:H a=some (.ins C dx fs))(c:Cls X.K C)(n:pR X.K C f)(Y:fs.length<1000)(P:eZ y u)
  (h:∀U,Inv X pins σ (upd H a (.ins C dx (gY f y fs))) U->Q () U):wpAny (model X.prog X.w) A (setAttr (.ref a) f u) Q E s:=by
 obtain⟨B,O,r,i,_,D⟩:=Ld I.hok e
 have j:(fs.map (·.1)).length<=sizeLine:=by rw[aA,sizeLine_eq];omega
 refine set_map I.kIn O c.sa c.po n.taker c.hd i j λM d sb=>h _ ?_
 have hd:∃o,M.get? dx=some o:=let⟨o,_,_,e',_⟩:=d.ns;#[o,e']
 refine I.write (x:=a) (e:=dx) (by rw[e];exact True.intro) (.inr D) (λb q hb z=>(sb.2 b hb).trans z) hd ?_
 refine#[by rw[bY O.ne];exact D,?_,O.ne,d.obj,_,d.ns,λg=>?_,λg hg=>?_]
 ·have:=Ju f y fs;omega
 ·show Bj ((gY f y fs).lookup g) (if g=f then some u else B g)
  rw[lE]
  by_cases q:g=f
  ·rw[aJ q,aJ q];exact P
  ·rw[aF q,aF q];exact r g
 ·by_cases q:g=f
  ·rw[q];exact(Hx f y fs).1
  ·refine(Hx f y fs).2 g (i g λz=>hg ?_)
   show(if g=f then some u else B g)=none
   rw[aF q];exact z
theorem Inv.made(I:Inv X pins σ H s):Inv X pins σ (upd (upd H s.heap.objs.size (.own (s.heap.objs.size+1))) (s.heap.objs.size+1) (.ins C s.heap.objs.size []))
  { s with heap:=(s.heap.push PySem.W.emptyDict).push (PySem.W.instObj C s.heap.objs.size) }:=by
 have e1:(s.heap.push PySem.W.emptyDict).get? s.heap.objs.size=some PySem.W.emptyDict:=bL s.heap rfl
 have c:((s.heap.push PySem.W.emptyDict).push (PySem.W.instObj C s.heap.objs.size)).get? (s.heap.objs.size+1)=some (PySem.W.instObj C s.heap.objs.size):=by
  have:=bL (s.heap.push PySem.W.emptyDict) (o:=PySem.W.instObj C s.heap.objs.size) rfl
  rwa [Heap.size_push]at this
 have T:(s.heap.push PySem.W.emptyDict).Ns s.heap.objs.size (λ_=>none):=#[PySem.W.emptyDict,(List.toArray []),_,e1,rfl,(λe U=>absurd U (by simp)),λ_=>rfl]
 have j:=I.laid (a:=s.heap.objs.size) (o:=.own (s.heap.objs.size+1)) (h':=s.heap.push PySem.W.emptyDict) (t':=s.toks) (λb u q=>aQ _ q) (aM _) #[_,e1]
 refine j.laid (a:=s.heap.objs.size+1) (o:=.ins C s.heap.objs.size []) (t':=s.toks) (λb u q=>aQ _ q) (Nat.le_of_eq (Heap.size_push _ _)) ?_
 have ne:s.heap.objs.size≠s.heap.objs.size+1:=bJ (gD _)
 refine#[by rw[bY ne,aI],dL _,ne,c,λ_=>none,(Heap.Ns1.of_empty T).at λo q=>aQ _ q,λ_=>True.intro,λy d=>absurd rfl d]
theorem attr_of{prog:Program}{w:World}{env:Env}{f:Str}{pos:Pos}{s:Shared}(hb:attributeBase e f env (eval e env)=eval e env)
  (h:wpAny (model prog w) A (eval e env) (λo N=>wpAny (model prog w) A (getAttr o f true) Q E N) E s):wpAny (model prog w) A (eval (.Attribute e f pos) env) Q E s:=
 Attribute_any_ h (by rw[arm_eval_Attribute,hb])
end
noncomputable def gK(K:aO)(c:TE)(f:Str):TE:=λZ H Q=>c Z H λx S=>exR x λa=>∃C b fs v,S a=some (.ins C b fs)/\Cls K C/\pR K C f/\fs.lookup f=some v/\Q v S
noncomputable def xQ(K:aO)(c tv:TE)(f:Str):TS:=λD Z H=>tv Z H λy S=>c Z S λx M=>exR x λa=>∃C b fs,M a=some (.ins C b fs)/\Cls K C/\pR K C f/\fs.length<1000/\
 D.nx Z (upd M a (.ins C b (gY f y fs)))
section
variable{X:Cx}{o e value:Expr}{f:Str}{pos pos' tpos:Pos}{ta tv:TE}
theorem fV(U:PE X e ta)(hb:attributeBase e f X.env (eval e X.env)=eval e X.env):PE X (.Attribute e f pos) (gK X.K ta f):=by
 intro B s Z H Q I h
 refine attr_of hb (thn (U B s Z H _ I h) λu O#[x,S,j,N,i]=>?_)
 obtain⟨a,ex,C,b,fs,v,Y,c,n,l,q⟩:=Eq.mp iK i
 subst ex
 obtain rfl:u=Value.ref a:=N
 exact jZW j Y c n l λm F k g=>#[v,S,k,g,q]
theorem yD(ha:PE X o ta)(hv:PE X value tv)(hs:swapsWith value (some (.Attribute o f pos')) pos.line X.env=pure false):PS X (.Assign [.Attribute o f pos'] value pos) (xQ X.K ta tv f):=by
 intro B s Z H D I h
 refine plainObj_wpAny_Assign_Attribute (thn (hv B s Z H _ I h) λu O#[y,S,j,P,q]=>thn (ha B O Z S _ j q) λb F#[x,M,k,N,i]=>?_) hs
 obtain⟨a,ex,C,d,fs,Y,c,n,l,J⟩:=Eq.mp iK i
 subst ex
 obtain rfl:b=Value.ref a:=N
 exact jJV k Y c n l P λs3 z=>#[Z,_,z,J]
end
section
variable{X:Cx}{pins:List (Addr×Obj)}{σ:St}{H:Hp}{s:Shared}{A:Around}{E:Value->Shared->Prop}{Q:Value->Shared->Prop}{c:Value}{b:Bool}
inductive Kj (K:aO) (H:Hp):V->Value->Prop where
 |non:Kj K H .non (.type "NoneType")
 |bl (x:Bool):Kj K H (.bl x) (.type "bool")
 |int (i:Int):Kj K H (.int i) (.type "int")
 |str (x:Str):Kj K H (.str x) (.type "str")
 |flt (x:UInt64):Kj K H (.flt x) (.type "float")
 |lst {a:Addr} {xs:List V} (e:H a=some (.lst xs)):Kj K H (.ref a) (.type "list")
 |frz {a:Addr} {o:Obj} {xs:List V} (e:H a=some (.frz o (.lst xs))):Kj K H (.ref a) (.type "list")
 |tup {a:Addr} {xs:List V} (e:H a=some (.tup xs)):Kj K H (.ref a) (.type "tuple")
 |dK {a:Addr} {kvs:List (Key×V)} (e:H a=some (.dK kvs)):Kj K H (.ref a) (.type "dict")
 |dT {a:Addr} {kvs:List (List Key×V)} (e:H a=some (.dT kvs)):Kj K H (.ref a) (.type "dict")
 |ins {a C dx:Addr} {fs:List (Str×V)} (e:H a=some (.ins C dx fs)) (cl:Cls K C) (ha:PySem.W.findIn K (.ref C) "__class__"=some (some (.builtin "object.__class__")))
   (hn:PySem.W.specialIn K (.builtin "object.__class__") "__get__"=some (some (.builtin "getset_descriptor.__get__"))) (htk:PySem.W.takesIn K (.builtin "object.__class__")=some true)
   (hm:PySem.W.mroIn K C (.type "object")=some true):Kj K H (.ref a) (.ref C)
theorem qJ{x:V}{t:Value}(I:Inv X pins σ H s)(N:eZ x u)(P:Kj X.K H x t)(e:PySem.W.kitOne X.K t c=some b)(h:∀tk,Q (.bool b) { s with toks:=tk }):
  wpAny (model X.prog X.w) A (call (.builtin "isinstance") [u,c]) Q E s:=by
 cases P with
 |non=>cases(show u=Value.none from N);exact PySem.W.kia_one PySem.W.kitx_none I.kIn True.intro e (λz=>nomatch z) h
 |bl y=>cases(show u=Value.bool y from N);exact PySem.W.kia_one PySem.W.kitx_bool I.kIn True.intro e (λz=>nomatch z) h
 |int i=>obtain⟨t,q⟩:=(show ∃t,u=Value.int i t from N);cases q;exact PySem.W.kia_one PySem.W.kitx_int I.kIn True.intro e (λz=>nomatch z) h
 |str y=>obtain⟨t,q⟩:=(show ∃t,u=Value.str y t from N);cases q;exact PySem.W.kia_one PySem.W.kitx_str I.kIn True.intro e (λz=>nomatch z) h
 |flt y=>obtain⟨t,q⟩:=(show ∃t,u=Value.float y t from N);cases q;exact PySem.W.kia_one PySem.W.kitx_float I.kIn True.intro e (λz=>nomatch z) h
 |@lst a F ea=>
  cases(show u=Value.ref a from N)
  obtain⟨_,_,n,_,h1⟩:=(show jE X.prog X.w H s.heap a (.lst F)from I.hok a _ ea)
  exact PySem.W.kia_one PySem.W.kitx_list I.kIn #[_,h1,rfl] e (λz=>nomatch z) h
 |@frz a ob F ea=>
  cases(show u=Value.ref a from N)
  obtain⟨_,_,_,n,_,h1⟩:=(show jE X.prog X.w H s.heap a (.frz ob (.lst F))from I.hok a _ ea)
  exact PySem.W.kia_one PySem.W.kitx_list I.kIn #[_,h1,rfl] e (λz=>nomatch z) h
 |@tup a F ea=>
  cases(show u=Value.ref a from N)
  obtain⟨_,_,_,p⟩:=(show jE X.prog X.w H s.heap a (.tup F)from I.hok a _ ea)
  obtain⟨o,h1,h2,_⟩:=p
  exact PySem.W.kia_one PySem.W.kitx_tuple I.kIn #[o,h1,h2] e (λz=>nomatch z) h
 |@dK a kvs ea=>
  cases(show u=Value.ref a from N)
  obtain⟨_,_,m,_,p⟩:=(show jE X.prog X.w H s.heap a (.dK kvs)from I.hok a _ ea)
  obtain⟨o,g,j,h1,h2,_⟩:=p
  exact PySem.W.kia_one PySem.W.kitx_dict I.kIn #[o,h1,h2.1] e (λz=>nomatch z) h
 |@dT a kvs ea=>
  cases(show u=Value.ref a from N)
  obtain⟨_,_,F,_,o,g,j,h1,h2,_⟩:=(show jE X.prog X.w H s.heap a (.dT kvs)from I.hok a _ ea)
  exact PySem.W.kia_one PySem.W.kitx_dict I.kIn #[o,h1,h2.1] e (λz=>nomatch z) h
 |@ins a C dx fs ea cl ha hn htk hm=>
  cases(show u=Value.ref a from N)
  obtain⟨B,O,_⟩:=Ld I.hok ea
  obtain⟨l,J,_⟩:=O.look
  exact PySem.W.kia_one (PySem.W.kitx_own (cl.get _) cl.hd ha hn htk hm) I.kIn J e (λz=>nomatch z) h
end
structure mR(k:Nat)(A:Around):Prop where
 hd:A.handled=none
 dp:A.depth+3*k+5<recursionLimit
 un:A.units+16*k+200<cLine
theorem mR.mono(r:mR k A)(h:j<=k):mR j A:=#[r.hd,by have:=r.dp;omega,by have:=r.un;omega]
theorem mR.deeper(r:mR (k+1) A)(env:Env):mR k (A.deeper env):=
 #[r.hd,by have:=r.dp;show A.depth+1+3*k+5<_;omega,by have:=r.un;show A.units+3+16*k+200<_;omega]
theorem jJ6{i:List (Str×Value)}:(A.under (.builtin "type.__call__" #[.ref C::us,i])).depth=A.depth+1:=by
 first |rfl |simp [Around.under,Code.weight,Code.isCreation,Code.isGuard,Code.isCaller,Code.frames,Code.isFrame,guardIds]
theorem jJ5{i:List (Str×Value)}:(A.under (.builtin "type.__call__" #[.ref C::us,i])).units=A.units+1:=by
 first |rfl |simp [Around.under,Code.cUnits,Code.frames,Code.isFrame]
theorem mR.make(r:mR (k+1) A)(C:Addr)(us:List Value)(i:List (Str×Value)):mR k (A.under (.builtin "type.__call__" #[.ref C::us,i])):=
 #[r.hd,by have:=r.dp;rw[jJ6];omega,by have:=r.un;rw[jJ5];omega]
theorem mR.depth(r:mR k A):A.depth<recursionLimit:=by have:=r.dp;omega
theorem mR.units(r:mR k A):A.units+64<cLine:=by have:=r.un;omega
noncomputable def bE:TA:=λ_ H Q=>Q [] H
noncomputable def aH(c:TE)(a:TA):TA:=λZ H Q=>c Z H λx S=>a Z S λxs M=>Q (x::xs) M
section
variable{X:Cx}{e:Expr}{es:List Expr}{te:TE}{t:TA}{pos:Pos}
theorem aN:PA X [] bE:=λ_ _ _ _ H Q I h=>Calls.spliced_nil #[[],H,I,.nil,h]
theorem aC(ha:PE X e te)(hr:PA X es t)(hs:starEach (e::es) X.env=(false,eval e X.env)::starEach es X.env:=by rfl):PA X (e::es) (aH te t):=by
 intro pos B s Z H Q I h
 rw[hs]
 show wpAny _ _ (spliced ((false,eval e X.env)::backTo pos (starEach es X.env))) _ _ s
 refine Calls.spliced_cons (thn (ha B s Z H _ I h) λu O#[x,S,j,f,q1]=>?_)
 exact thn (hr pos B O Z S _ j q1) λR a#[F,M,k,d,J]=>#[x::F,M,k,.cons f d,J]
noncomputable def hJ(t:TA):TE:=λZ H Q=>t Z H λxs S=>xs.length<=sizeLine/\∀p,S p=none->Q (.ref p) (upd S p (.tup xs))
noncomputable def mS(t:TA):TE:=λZ H Q=>t Z H λxs S=>xs.length<=sizeLine/\∀p,S p=none->Q (.ref p) (upd S p (.lst xs))
theorem fJ{x1}(h:PA X es t):PE X (.Tuple es x1 pos) (hJ t):=by
 intro B s Z H Q I J
 refine wpAny_Tuple_spliced (thn (h pos B s Z H _ I J) λR O#[F,S,j,r,z,q]=>#[by rw[←r.length];exact z,?_])
 have hf:S O.heap.objs.size=none:=j.hok.fresh (aM _)
 refine#[.ref O.heap.objs.size,upd S O.heap.objs.size (.tup F),j.laid (t':=O.toks) (λb u e=>aQ _ e) (aM _) ?_,rfl,q _ hf]
 exact#[z,R,r,#[_,bL _ rfl,rfl,_,rfl]]
theorem kS(h:PA X es t):PE X (.List es pos) (mS t):=by
 intro B s Z H Q I J
 refine wpAny_List_spliced (thn (h pos B s Z H _ I J) λR O#[F,S,j,r,z,q]=>#[by rw[←r.length];exact z,?_])
 have hf:S O.heap.objs.size=none:=j.hok.fresh (aM _)
 refine#[.ref O.heap.objs.size,upd S O.heap.objs.size (.lst F),j.laid (t':=O.toks) (λb u e=>aQ _ e) (aM _) ?_,rfl,q _ hf]
 exact#[z,R,0,r,bL _ rfl]
end
noncomputable abbrev Sp:=List V->Hp->VK->XK->Prop
noncomputable abbrev CXT:=List Env->Hp->Shared->XK->Value->Shared->Prop
structure Ze(P:Program)(w:World)(K:aO)(mg:Str->Option Value)(base:Heap)(A:Around)(outer:List Env)(s:Shared)(H:Hp):Prop where
 frames:A.frames=some outer
 mod:Mod K mg base
 bs:∀b o,base.get? b=some o->s.heap.get? b=some o/\H b=none
 bsz:base.objs.size<=s.heap.objs.size
 funs:s.heap.FunFrames base outer
 frf:∀b∈frs outer,H b=none
 hok:HOk P w H s.heap
 bare:AllBare s.gens
noncomputable def CE(outer:List Env)(P:Program)(w:World)(H:Hp)(s:Shared)(Q:VK)(u:Value)(U:Shared):Prop:=
 ∃v H',U.os=s.os/\AllBare U.gens/\Un (frs outer) [] H H' s.heap U.heap/\HOk P w H' U.heap/\eZ v u/\Q v H'
noncomputable def CR(CX:CXT)(outer:List Env)(P:Program)(w:World)(H:Hp)(s:Shared)(Q:VK)(E:XK)(r:Result)(U:Shared):Prop:=
 match r with
 | .ok (.ret u)=>CE outer P w H s Q u U
 | .ok _=>False
 | .error e=>CX outer H s E e U
structure Bl(P:Program)(w:World)(K:aO)(mg:Str->Option Value)(base:Heap)(CX:CXT)(k:Nat)(f:Addr)(fd:FuncData)(ps:List Str)(sp:Sp):Prop where
 len:∀vs H Q E,sp vs H Q E->vs.length=ps.length
 run:∀(A:Around)(outer:List Env)(s:Shared)(H:Hp)(args:Args)(us:List Value)(vs:List V)(Q:VK)(E:XK),mR k A->Ze P w K mg base A outer s H->BindsTo s fd args (ps.zip us)->fD vs us->sp vs H Q E->
  codeAny (model P w) A (.call (.ref f) args) (CR CX outer P w H s Q E) s
theorem Ze.make{P:Program}{w:World}{outer:List Env}(e:Ze P w K mg base A outer s H)(C:Addr)(us:List Value)(i:List (Str×Value)):
  Ze P w K mg base (A.under (.builtin "type.__call__" #[.ref C::us,i])) outer s H:=#[by first |exact e.frames |(simpa [Around.under,Code.envs,Code.isFrame,pushEnvs]using e.frames),e.mod,e.bs,e.bsz,e.funs,e.frf,e.hok,e.bare]
section
variable{X:Cx}{pins:List (Addr×Obj)}{σ:St}{H:Hp}{s s':Shared}
theorem Inv.env0(I:Inv X pins σ H s):Ze X.prog X.w X.K X.mg X.base X.A X.stack s H:=
 #[I.ok.frames,I.ok.mod,I.bs,cO I.ok.bsz I.sz,I.stack,I.stkFree,I.hok,I.bare]
theorem Inv.after{Q:VK}(I:Inv X pins σ H s)(h:CE X.stack X.prog X.w H s Q u s'):EP X pins σ Q u s':=by
 obtain⟨v,c,os,bare,un,hok,r,q⟩:=h
 obtain⟨e,g,d,t,a⟩:=s'
 obtain rfl:a=s.os:=os
 exact#[v,c,I.call (h':=e) (g':=g) (d':=d) (t':=t) (ch:=[]) un hok bare (λb z=>absurd z (by simp)),r,q]
end
noncomputable def cB(sp:Sp)(b:List V)(E:XK)(t:TA):TE:=λZ H Q=>t Z H λvs S=>sp (vs++b) S Q E
noncomputable def eX(C:Addr)(m:Str)(sp:Sp)(b:List V)(E:XK)(c:TE)(t:TA):TE:=λZ H Q=>c Z H λx S=>exR x λa=>∃f fs,S a=some (.ins C f fs)/\fs.lookup m=none/\
 t Z S λvs M=>sp (x::(vs++b)) M Q E
noncomputable def Bp(C:Addr)(sp:Sp)(b:List V)(E:XK)(t:TA):TE:=λZ H Q=>t Z H λvs S=>∀x f,S x=none->S f=none->f≠x->
 sp (.ref x::(vs++b)) (upd (upd S f (.own x)) x (.ins C f [])) (λv M=>v=.non/\Q (.ref x) M) E
noncomputable def sD(K:aO)(fd:FuncData)(ps:List Str)(a:List Value):Prop:=
 ∀(s:Shared)(us:List Value),K.In s.heap->(us++a).length=ps.length->BindsTo s fd #[us,[]] (ps.zip (us++a))
theorem sD.all{fd:FuncData}(h:∀R:List Value,R.length=ps.length->bindArgs fd #[R,[]]=pure (ps.zip R)):sD K fd ps []:=λs R _ Y=>by
 rw[bZ]at Y⊢
 exact .of_eq (h R Y)
noncomputable def Cz(CX:CXT)(X:Cx)(E:XK):Prop:=∀(B:List (Addr×Obj))(Z:St)(H:Hp)(s:Shared)(e:Value)(U:Shared),Inv X B Z H s->CX X.stack H s E e U->X.xe e U
section
variable{X:Cx}{CX:CXT}{k:Nat}{f C:Addr}{fd:FuncData}{ps:List Str}{sp:Sp}{dvs:List V}{ds:List Value}{E:XK}{x m:Str}{p pos apos:Pos}{e o:Expr}{es:List Expr}{ta:TE}{t:TA}
theorem Zn{B:List (Addr×Obj)}{Q:VK}(F:Bl X.prog X.w X.K X.mg X.base CX k f fd ps sp)(hr:mR k X.A)(hb:sD X.K fd ps ds)(hd:fD dvs ds)(hx:Cz CX X E)
  (I:Inv X B Z H s) (r:fD vs us) (h:sp (vs++dvs) H Q E):wpAny (model X.prog X.w) X.A (call (.ref f) us) (EP X B Z Q) X.xe s:=by
 have d:fD (vs++dvs) (us++ds):=r.append hd
 have Y:(us++ds).length=ps.length:=by rw[←d.length];exact F.len _ _ _ _ h
 refine wpAny_call (codeAny_mono (F.run X.A X.stack s H #[us,[]] (us++ds) (vs++dvs) Q E hr I.env0 (hb s us I.kIn Y) d h) λr U J=>?_)
 cases r with
 |error e=>exact hx B Z H s e U I J
 |ok fl=>
  cases fl with
  |ret u=>exact I.after J
  |next=>exact False.elim J
  |brk=>exact False.elim J
  |cont=>exact False.elim J
theorem pe_call(F:Bl X.prog X.w X.K X.mg X.base CX k f fd ps sp)(hr:mR k X.A)(hg:Gl X x)(hm:X.mg x=some (.ref f))(hk:PySem.W.keepIn X.K (.ref f)=true)(hb:sD X.K fd ps ds)(hd:fD dvs ds)(hx:Cz CX X E)
  (ha:PA X (e::es) t) (a:(x==("__debug__":Str))=false:=by decide) (U:starEach (e::es) X.env=(false,eval e X.env)::starEach es X.env:=by rfl) (d:(backTo pos (starEach es X.env)).any (·.1)=false:=by rfl):
  PE X (.Call (.Name x p) (e::es) [] pos) (cB sp dvs E t):=by
 intro B s Z H Q I h
 refine wpAny_Call_Name_kw (Vd I hg hm ?_ a)
 refine PySem.W.callWith_K (h₀:=X.base) I.ok.mod.kin hk (thn (ha pos B s Z H _ I h) λR O#[b,S,j,r,q]=>#[j.kIn,?_]) U d
 exact Zn F hr hb hd hx j r q
theorem pe_meth(U:PE X o ta)(c:Cls X.K C)(hm:Meth X.K C m f)(F:Bl X.prog X.w X.K X.mg X.base CX k f fd ps sp)(hr:mR k X.A)(hb:sD X.K fd ps ds)(hd:fD dvs ds)(hx:Cz CX X E)(ha:PA X (e::es) t)
  (T:starEach (e::es) X.env=(false,eval e X.env)::starEach es X.env:=by rfl) (d:(backTo pos (starEach es X.env)).any (·.1)=false:=by rfl)
  (y:eval (.Call (.Attribute o m apos) (e::es) [] pos) X.env=(do
   let b ←eval o X.env
   standAt apos.atName
   let(f,first) ←holding [b] (getMethod b m pl)
   callWith pos f first (backTo pos (starEach (e::es) X.env)) (backToKw pos (keywordEach [] X.env))):=by rfl):
  PE X (.Call (.Attribute o m apos) (e::es) [] pos) (eX C m sp dvs E ta t):=by
 intro B s Z H Q I h
 refine PySem.W.methodCall_KW (pl:=pl) (thn (U B s Z H _ I h) λu O#[x,S,j,N,i]=>?_) y
 obtain⟨a,ex,v,fs,Y,l,q⟩:=Eq.mp iK i
 subst ex
 obtain rfl:u=Value.ref a:=N
 refine Om j Y c hm l ?_
 refine PySem.W.callWith_K (first:=[.ref a]) (h₀:=X.base) I.ok.mod.kin hm.kp (thn (ha pos B O Z S _ j q) λR z#[n,M,g,r,J]=>#[g.kIn,?_]) T d
 exact Zn (us:=.ref a::R) (vs:=.ref a::n) F hr hb hd hx g (.cons rfl r) J
theorem jWh(U:PE X o ta)(c:Cls X.K C)(hm:Meth X.K C m f)(F:Bl X.prog X.w X.K X.mg X.base CX k f fd ps sp)(hr:mR k X.A)(hb:sD X.K fd ps ds)(hd:fD dvs ds)(hx:Cz CX X E)
  (y:eval (.Call (.Attribute o m apos) [] [] pos) X.env=(do
   let b ←eval o X.env
   standAt apos.atName
   let(f,first) ←holding [b] (getMethod b m pl)
   callWith pos f first (backTo pos (starEach [] X.env)) (backToKw pos (keywordEach [] X.env))):=by rfl):
  PE X (.Call (.Attribute o m apos) [] [] pos) (eX C m sp dvs E ta bE):=by
 intro B s Z H Q I h
 refine PySem.W.methodCall_KW (pl:=pl) (thn (U B s Z H _ I h) λu O#[x,S,j,N,i]=>?_) y
 obtain⟨a,ex,d,fs,Y,l,q⟩:=Eq.mp iK i
 subst ex
 obtain rfl:u=Value.ref a:=N
 refine Om j Y c hm l ?_
 exact PySem.W.callWith_K0 (first:=[.ref a]) j.kIn hm.kp (Zn (us:=[.ref a]) (vs:=[.ref a]) F hr hb hd hx j (.cons rfl .nil) q)
structure Mk(K:aO)(C f:Addr):Prop where
 makes:PySem.W.makesIn K C=true
 init:PySem.W.findIn K (.ref C) "__init__"=some (some (.ref f))
 fn:PySem.W.isFn K (.ref f)=true
 kp:PySem.W.keepIn K (.ref C)=true
theorem jWZ{B:List (Addr×Obj)}{Q:VK}(M:Mk X.K C f)(F:Bl X.prog X.w X.K X.mg X.base CX k f fd ps sp)(hr:mR (k+1) X.A)(hb:sD X.K fd ps ds)(hd:fD dvs ds)
  (hx:Cz CX X E) (I:Inv X B Z H s) (r:fD vs us)
  (h:∀x a,H x=none->H a=none->a≠x->sp (.ref x::(vs++dvs)) (upd (upd H a (.own x)) x (.ins C a [])) (λv i=>v=.non/\Q (.ref x) i) E):
  wpAny (model X.prog X.w) X.A (call (.ref C) us) (EP X B Z Q) X.xe s:=by
 have J:=h (s.heap.objs.size+1) s.heap.objs.size (I.hok.fresh (Nat.le_succ _)) (I.hok.fresh (aM _)) (bJ (gD _))
 have b:=Inv.made (C:=C) I
 have c:fD (V.ref (s.heap.objs.size+1)::(vs++dvs)) (Value.ref (s.heap.objs.size+1)::(us++ds)):=.cons rfl (r.append hd)
 have Y:(Value.ref (s.heap.objs.size+1)::us++ds).length=ps.length:=by
  have e:=c.length
  rw[F.len _ _ _ _ J]at e
  exact e.symm
 refine wpAny_call (jWt (f:=f) I.kIn M.makes M.init (beq_iff_eq.mp M.fn) (codeAny_mono (F.run _ X.stack _ _ #[Value.ref (s.heap.objs.size+1)::us,[]] (Value.ref (s.heap.objs.size+1)::(us++ds)) _ _ E (hr.make C us [])
  (b.env0.make C us []) (hb _ (Value.ref (s.heap.objs.size+1)::us) b.kIn Y) c J) λr U y=>?_))
 cases r with
 |error e=>exact hx B Z _ _ e U b y
 |ok fl=>
  cases fl with
  |ret u=>
   obtain⟨v,d,z,D,g,j⟩:=b.after y
   subst g
   exact#[D,#[V.ref (s.heap.objs.size+1),d,z,rfl,j]]
  |next=>exact False.elim y
  |brk=>exact False.elim y
  |cont=>exact False.elim y
theorem pe_make(M:Mk X.K C f)(F:Bl X.prog X.w X.K X.mg X.base CX k f fd ps sp)(hr:mR (k+1) X.A)(hg:Gl X x)(hm:X.mg x=some (.ref C))(hb:sD X.K fd ps ds)(hd:fD dvs ds)(hx:Cz CX X E)
  (ha:PA X (e::es) t) (a:(x==("__debug__":Str))=false:=by decide) (U:starEach (e::es) X.env=(false,eval e X.env)::starEach es X.env:=by rfl) (d:(backTo pos (starEach es X.env)).any (·.1)=false:=by rfl):
  PE X (.Call (.Name x p) (e::es) [] pos) (Bp C sp dvs E t):=by
 intro B s Z H Q I h
 refine wpAny_Call_Name_kw (Vd I hg hm ?_ a)
 refine PySem.W.callWith_K (h₀:=X.base) I.ok.mod.kin M.kp (thn (ha pos B s Z H _ I h) λR O#[b,S,j,r,q]=>#[j.kIn,?_]) U d
 exact jWZ M F hr hb hd hx j r q
end
structure Au(N P:List Str)(sc:Scope):Prop where
 kind:sc.kind=.function
 co:sc.isCoroutine=false
 gen:sc.isGenerator=false
 nd:N.Nodup
 pre:N.take P.length=P
 par:∀x∈P,sc.names.lookup x=some .local∨sc.names.lookup x=some .cell
 nofree:∀y∈sc.names,y.2≠.free
theorem Ss{a:Str->Option NameKind}{x:Str}:∀{binds:List (Str×Value)}{m:Str->Option Value},(∀v,(x,v)∉binds)->bindL a binds m x=m x
 | [],_,_=>rfl
 | (n,v)::r,m,h=>by
  unfold bindL
  rw[Ss λw hw=>h w (bI _ hw)]
  split
  ·have:x≠n:=by rintro rfl;exact h v bT
   simp [this]
  ·rfl
theorem Sv{a:Str->Option NameKind}{x:Str}:∀{binds:List (Str×Value)}{m:Str->Option Value},(∀v,(x,v)∉binds)->bindC a binds m x=m x
 | [],_,_=>rfl
 | (n,v)::r,m,h=>by
  unfold bindC
  rw[Sv λw hw=>h w (bI _ hw)]
  split
  ·rfl
  ·have:x≠n:=by rintro rfl;exact h v bT
   simp [this]
theorem Su{a:Str->Option NameKind}{x:Str}{v:Value}:∀{P:List Str}{vs:List Value}{i:Nat}{m:Str->Option Value},P.Nodup->P[i]?=some x->vs[i]?=some v->a x=some .local->
  bindL a (P.zip vs) m x=some v
 | [],_,_,_,_,h,_,_=>by simp at h
 |_::_,[],_,_,_,_,h,_=>by simp at h
 |p::P,w::vs,0,m,nd,h1,h2,hk=>by
  simp at h1 h2;subst h1;subst h2
  show bindL a ((p,w)::P.zip vs) m p=_
  unfold bindL
  rw[Ss λv hv=>(List.nodup_cons.mp nd).1 (List.of_mem_zip hv).1,aJ hk]
  simp
 |p::P,w::vs,i+1,m,nd,h1,h2,hk=>by
  show bindL a ((p,w)::P.zip vs) m x=_
  unfold bindL
  exact Su (i:=i) (List.nodup_cons.mp nd).2 (by simpa using h1) (by simpa using h2) hk
theorem Sw{a:Str->Option NameKind}{x:Str}{v:Value}:∀{P:List Str}{vs:List Value}{i:Nat}{m:Str->Option Value},P.Nodup->P[i]?=some x->vs[i]?=some v->a x≠some .local->
  bindC a (P.zip vs) m x=some v
 | [],_,_,_,_,h,_,_=>by simp at h
 |_::_,[],_,_,_,_,h,_=>by simp at h
 |p::P,w::vs,0,m,nd,h1,h2,hk=>by
  simp at h1 h2;subst h1;subst h2
  show bindC a ((p,w)::P.zip vs) m p=_
  unfold bindC
  rw[Sv λv hv=>(List.nodup_cons.mp nd).1 (List.of_mem_zip hv).1,aF hk]
  simp
 |p::P,w::vs,i+1,m,nd,h1,h2,hk=>by
  show bindC a ((p,w)::P.zip vs) m x=_
  unfold bindC
  exact Sw (i:=i) (List.nodup_cons.mp nd).2 (by simpa using h1) (by simpa using h2) hk
noncomputable def start(N:List Str)(vs:List V):St:=vs.map some++List.replicate (N.length-vs.length) none
noncomputable def Wg(CX:CXT)(P:Program)(w:World)(K:aO)(mg:Str->Option Value)(base:Heap)(N:List Str)(j:Str)(g:Scope)(f:Addr)(Z:Value)(A:Around)(outer:List Env)(s:Shared)(H:Hp)(E:XK):Cx where
 prog:=P
 w:=w
 K:=K
 mg:=mg
 base:=base
 A:=A.deeper (envOfC j g s.heap.objs.size f Z)
 N:=N
 s₀:=s
 H₀:=H
 env:=envOfC j g s.heap.objs.size f Z
 outer:=outer
 stack:=envOfC j g s.heap.objs.size f Z::outer
 ex:=[]
 calm:=true
 fn:=λ_=>true
 pn:=[]
 xe:=λe U=>wpAny (model P w) (A.deeper (envOfC j g s.heap.objs.size f Z)) (leaving (envOfC j g s.heap.objs.size f Z) e) (λ_ a=>CX outer H s E e a) (λO a=>CX outer H s E O a) U
theorem Xs{sc:Scope}{n:Nat}{x:Str}(h:sc.names.lookup x=some .cell):∃c,(cellsFrom n sc.names []).lookup x=some c:=by
 have q:=PySem.W.cellsFrom_some sc.names n [] (.inl h)
 exact Option.isSome_iff_exists.mp q
theorem jYt{CX:CXT}{P:Program}{w:World}{j:Str}{g:Scope}{f:Addr}{Z:Value}{outer:List Env}{O:Shared}{E:XK}
  (S:Au N ps g) (hd:A.handled=none) (F:Ze P w K mg base A outer s H) (Y:vs.length=ps.length) (r:fD vs us)
  (x:InCallC s s.heap.objs.size (bindL (envOfC j g s.heap.objs.size f Z).kindOf (ps.zip us) λ_=>none) (cellsFrom (s.heap.objs.size+1) g.names []) (bindC (envOfC j g s.heap.objs.size f Z).kindOf (ps.zip us) λ_=>none) O):
  Inv (Wg CX P w K mg base N j g f Z A outer s H E) [] (start N vs) H O:=by
 have m:ps.length<=N.length:=by have:=congrArg List.length S.pre;rw[dM]at this;omega
 obtain⟨h1,tk,rfl,hk⟩:=x.done
 have I:∀b:Addr,b∉(Wg CX P w K mg base N j g f Z A outer s H E).ex:=λb z=>absurd (show b∈([]:List Addr)from z) (by simp)
 refine#[#[F.mod,S.kind,rfl,rfl,aM _,λy z c h1 h2=>?_,λy d=>?_,λy c _ h=>?_,λ_=>hd,Around.frames_deeper F.frames,.inr #[rfl,rfl],λb z=>absurd z (I b),F.bs,F.bsz,λb _ _=>I b,λb z=>absurd z (I b),F.funs,F.frf],
  rfl,F.bare,Un.kept hk,#[_,x.toInCall.ns,λi y v h1 h2 h3=>?_],λy c h=>#[_,x.cell y c h],F.hok.fresh (aM _),λy c h=>?_,λp hp=>absurd (show p∈([]:List (Addr×Obj))from hp) (by simp),F.hok.kept hk,?_]
 ·exact name_of_addr x.apart (PySem.mem_of_lookup h1) (PySem.mem_of_lookup h2)
 ·have d:g.names.lookup y=some .cell∨g.names.lookup y=some .free:=d
  rcases d with d |d
  ·exact Xs d
  ·exact absurd rfl (S.nofree _ (PySem.mem_of_lookup d))
 ·exact jV (x.above y c (PySem.mem_of_lookup h))
 ·have hi:i<vs.length:=by
   unfold start at h2
   by_cases hi:i<vs.length
   ·exact hi
   ·rw[bO (by simpa using hi)]at h2
    rw[List.getElem?_replicate]at h2
    split at h2<;>cases h2
  have ha:vs[i]?=some v:=by
   unfold start at h2
   rw[bV (by simpa using hi),aY]at h2
   cases e:vs[i]? with
   |none=>rw[e]at h2;cases h2
   |some a=>rw[e]at h2;cases h2;rfl
  obtain⟨u,R,D⟩:=r.get ha
  have hp:ps[i]?=some y:=by
   rw[←S.pre,List.getElem?_take_of_lt #[]];exact h1
  have l:ps.Nodup:=by rw[←S.pre];exact S.nd.sublist (List.take_sublist _ _)
  refine#[u,D,?_]
  rcases S.par y (aL hp)with k |k
  ·exact .inl #[k,Su l hp R k]
  ·obtain⟨c,e⟩:=Xs (n:=s.heap.objs.size+1) k
   refine .inr #[.inl k,c,e,?_]
   have q:=x.cell y c e
   rw[Sw l hp R (by show g.names.lookup y≠_;rw[k];decide)]at q
   exact q
 ·exact F.hok.fresh (jV (x.above y c (PySem.mem_of_lookup h)))
 ·unfold start
  show _=N.length
  rw[bC,aA,List.length_replicate]
  omega
theorem fn_of{CX:CXT}{P:Program}{w:World}{f:Addr}{name j:Str}{h:Arguments}{a:List Stmt}{g:Scope}{dV kV i z cdv ct X:Value}{C l:Option Addr}
  {M:Array (Option Value)} {sp:Sp} (Z:K.lookup f=some #[X,l,.func (PySem.W.fnOf name j h a g dV kV i z C cdv ct),M]) (p:PySem.W.codeIn K cdv j=true) (S:Au N ps g)
  (len:∀vs H Q E,sp vs H Q E->vs.length=ps.length)
  (m:∀(A:Around)(outer:List Env)(s:Shared)(H:Hp)(vs:List V)(Q:VK)(E:XK),mR k (A.deeper (envOfC j g s.heap.objs.size f cdv))->sp vs H Q E->
   ∃t,PSs (Wg CX P w K mg base N j g f cdv A outer s H E) a t/\t { nx:=λ_ d=>Q .non d,rt:=Q } (start N vs) H):
  Bl P w K mg base CX (k+1) f (PySem.W.fnOf name j h a g dV kV i z C cdv ct) ps sp:=by
 refine#[len,λA outer s H c R vs Q E hr F hb r B=>?_]
 have Y:=len _ _ _ _ B
 have KX:K.In s.heap:=F.mod.kin.keeps λb o e=>(F.bs b o e).1
 have lim:s.heap.NoLimit:=F.mod.nolimit.keeps λb o e=>(F.bs b o e).1
 have T:∀y∈ps.zip R,g.names.lookup y.1=some .local∨(g.names.lookup y.1=some .cell/\((cellsFrom (s.heap.objs.size+1) g.names []).lookup y.1).isSome=true):=fun⟨n,v⟩ hy=>by
  rcases S.par n (List.of_mem_zip hy).1 with q |q
  ·exact .inl q
  ·exact .inr #[q,PySem.W.cellsFrom_some _ _ _ (.inl q)]
 refine codeAny_call_function hr.depth (KX _ _ Z) rfl S.co S.gen rfl (PySem.W.codeRec_of KX p) (hb _ _ _ _ ?_)
 refine wpAny_newFunctionEnv_cells S.kind T λenv he O x=>?_
 subst he
 refine#[lim.keeps x.toInCall.keep,codeAny_func ?_]
 obtain⟨t,ht,hq⟩:=m A outer s H vs Q E (hr.deeper _) B
 have I:Inv (Wg CX P w K mg base N j g f cdv A outer s H E) [] (start N vs) H O:=jYt S hr.hd F Y r x
 refine wpAny_mono (ht [] O (start N vs) H _ I hq) (λfl U hs=>?_) λe U hs=>hs
 have fin:∀{G:St}{d:Hp}{v:V}{u:Value},Inv (Wg CX P w K mg base N j g f cdv A outer s H E) [] G d U->eZ v u->Q v d->CE outer P w H s Q u U:=
  fun{G d v u} J D q=>#[v,d,J.os,J.bare,J.base,J.hok,D,q]
 cases fl with
 |ret u=>
  obtain⟨v,G,d,J,D,q⟩:=hs
  exact fin J D q
 |next=>
  obtain⟨G,d,J,q⟩:=hs
  exact fin (v:=V.non) (u:=Value.none) J rfl q
 |brk=>
  obtain⟨_,_,_,q⟩:=hs
  exact False.elim q
 |cont=>
  obtain⟨_,_,_,q⟩:=hs
  exact False.elim q
section
variable{X:Cx}{x:Str}{p pos:Pos}{e:Expr}{es:List Expr}{t:TA}{id T:String}{r:List V->Hp->VK->Prop}
noncomputable def tCB(r:List V->Hp->VK->Prop)(t:TA):TE:=λZ H Q=>t Z H λvs S=>r vs S Q
theorem cQ(hc:pY X (.builtin id) r)(hg:Gl X x)(hm:X.mg x=none)(hv:bootBuiltins x=some (.builtin id))(ha:PA X (e::es) t)(R:x≠ "__name__":=by decide)(a:(x==("__debug__":Str))=false:=by decide)
  (U:starEach (e::es) X.env=(false,eval e X.env)::starEach es X.env:=by rfl) (d:(backTo pos (starEach es X.env)).any (·.1)=false:=by rfl):PE X (.Call (.Name x p) (e::es) [] pos) (tCB r t):=by
 intro B s Z H Q I h
 refine wpAny_Call_Name_kw (lS I hg hm hv ?_ R a)
 exact PyProof.Rows.callWith_builtin1 (thn (ha pos B s Z H _ I h) λb O#[m,S,j,f,q1]=>hc B O Z S m b Q j f q1) U d
theorem mP(hc:pY X (.type T) r)(hg:Gl X x)(hm:X.mg x=none)(hv:bootBuiltins x=some (.type T))(ha:PA X (e::es) t)(R:x≠ "__name__":=by decide)(a:(x==("__debug__":Str))=false:=by decide)
  (U:starEach (e::es) X.env=(false,eval e X.env)::starEach es X.env:=by rfl) (d:(backTo pos (starEach es X.env)).any (·.1)=false:=by rfl):PE X (.Call (.Name x p) (e::es) [] pos) (tCB r t):=by
 intro B s Z H Q I h
 refine wpAny_Call_Name_kw (lS I hg hm hv ?_ R a)
 exact cI (thn (ha pos B s Z H _ I h) λb O#[m,S,j,f,q1]=>hc B O Z S m b Q j f q1) U d
end
end L2
namespace HT
open PySem PyProof.Rows
section
open PySem.SeqAt
open PySem.AutoSeq1 (wpAny_loadPart')
open PySem.MeetsSeq PySem.MeetsSeq2 PySem.MeetsSeq3
end
section
variable{prog:Program}{w:World}{A:Around}{E:Value->Shared->Prop}{s:Shared}
theorem cat_tup{t b:Addr}{vs Z:List Value}{Q:Value->Shared->Prop}(y:IsTup s.heap t vs.toArray)(hb:IsTup s.heap b Z.toArray)(hv:vs≠[])
  (h1:Z=[]->Q (.ref t) s) (h2:Z≠[]->Q (.ref s.heap.objs.size) { s with heap:=s.heap.push { cls:=.type "tuple",data:=.seq (vs++Z).toArray } })
  (hsz:vs.length+Z.length<=sizeLine):wpAny (model prog w) A (binaryOp .Add (.ref t) (.ref b)) Q E s:=by
 obtain⟨⟨m,G,k,sl⟩,D,hc,n,hd⟩:=id y
 obtain⟨⟨l,i,j,x⟩,c,g,n2,z⟩:=id hb
 simp only at hc hd g z
 subst hc hd g z
 have e:vs.toArray++Z.toArray=(vs++Z).toArray:=by simp
 by_cases hw:Z=[]
 ·exact concat_meets #[_,D,rfl] #[_,c,rfl] noFill_tuple_add seq_tuple_add PySem.F.slot_tuple_add PySem.F.entry_tuple_add (PySem.F.args_tuple_add_2 _ _)
   (tuple_addW1 t b vs.toArray Z.toArray n n2 G i sl x (by simpa using hv) (by simp [hw])) #[D,c,h1 hw]
 ·refine concat_meets #[_,D,rfl] #[_,c,rfl] noFill_tuple_add seq_tuple_add PySem.F.slot_tuple_add PySem.F.entry_tuple_add (PySem.F.args_tuple_add_2 _ _)
   (tuple_addW2 t b vs.toArray Z.toArray n n2 G i sl x (by simpa using hv) (by simpa using hw) (by rw[List.size_toArray,List.size_toArray];exact hsz)) #[D,c,?_]
  rw[e]
  exact h2 hw
noncomputable def sIx(n d:Nat):Option Int->Nat
 |none=>d
 |some v=>if v<0 then(v+(n:Int)).toNat else min v.toNat n
theorem sIx_none(n d:Nat):sIx n d none=d:=rfl
theorem sIx_nat(n d k:Nat):sIx n d (some (k:Int))=min k n:=by
 show(if(k:Int)<0 then((k:Int)+(n:Int)).toNat else min (k:Int).toNat n)=min k n
 rw[if_neg #[],Int.toNat_natCast]
theorem sIx_le(n d:Nat)(hd:d<=n)(o:Option Int):sIx n d o<=n:=by
 cases o with
 |none=>exact hd
 |some v=>
  show(if v<0 then(v+(n:Int)).toNat else min v.toNat n)<=n
  by_cases hv:v<0
  ·rw[if_pos hv];omega
  ·rw[if_neg hv];exact Nat.min_le_right _ _
theorem jXl(v:Int)(n d:Nat):(if v<0 then max (v+(n:Int)) 0 else min v (n:Int))=((sIx n d (some v):Nat):Int):=by
 show(if v<0 then max (v+(n:Int)) 0 else min v (n:Int))=(((if v<0 then(v+(n:Int)).toNat else min v.toNat n):Nat):Int)
 by_cases hv:v<0
 ·simp only[if_pos hv];omega
 ·simp only[if_neg hv];omega
theorem jZg(lo hi:Option Int)(n:Nat):Builtin.Slice.sliceAdjust lo hi 1 (n:Int)=(((sIx n 0 lo:Nat):Int),((sIx n n hi:Nat):Int)):=by
 have h1:¬((1:Int)<0):=#[]
 unfold Builtin.Slice.sliceAdjust
 simp only[h1,if_false]
 refine Prod.ext ?_ ?_
 ·cases lo with
  |none=>rfl
  |some v=>exact jXl v n 0
 ·cases hi with
  |none=>rfl
  |some v=>exact jXl v n n
theorem jJs(i j:Nat):Builtin.Slice.slicePlaces (i:Int) (j:Int) 1=j-i:=by
 unfold Builtin.Slice.slicePlaces
 have h1:(1:Int)>0:=#[]
 simp only[h1,if_true,Int.ediv_one]
 split<;>omega
theorem Ob{v:Value}{o:Option Int}{Q:Option Int->Shared->Prop}(p:IsPart v o)(h:Q o s):wpAny (model prog w) A (Builtin.Slice.slicePartIndex v) Q E s:=by
 cases p with
 |none=>exact slicePart_none h
 |int i t=>exact slicePart_int h
theorem vC{sl:Addr}{c d:Value}{lo hi:Option Int}{n:Nat}{Q:Int×Int×Nat->Shared->Prop}(hs:s.heap.IsSliceOf sl c d .none)(pl:IsPart c lo)(g:IsPart d hi)
  (h:Q (((sIx n 0 lo:Nat):Int),1,sIx n n hi-sIx n 0 lo) s):wpAny (model prog w) A (Builtin.Slice.sliceApplied (.ref sl) (pure (n:Int))) Q E s:=by
 obtain⟨os,b,i,e⟩:=id hs
 unfold Builtin.Slice.sliceApplied Builtin.Slice.sliceFields
 refine wpAny_bind (wpAny_bind (wpAny_field b e (x:=c) rfl (wpAny_bind (wpAny_field b e (x:=d) rfl (wpAny_bind (wpAny_field b e (x:=.none) rfl (wpAny_pure ?_)))))))
 refine wpAny_bind (slicePart_none ?_)
 show wpAny _ _ (if((1:Int)==0)=true then _ else _) _ _ s
 rw[if_neg (by decide)]
 refine wpAny_bind (Ob pl (wpAny_bind (Ob g (wpAny_bind (wpAny_pure ?_)))))
 show wpAny _ _ (match Builtin.Slice.sliceAdjust lo hi 1 (n:Int)with |(lo,hi)=>pure (lo,(1:Int),Builtin.Slice.slicePlaces lo hi 1)) _ _ s
 rw[jZg lo hi n]
 show wpAny _ _ (pure (((sIx n 0 lo:Nat):Int),(1:Int),Builtin.Slice.slicePlaces ((sIx n 0 lo:Nat):Int) ((sIx n n hi:Nat):Int) 1)) _ _ s
 rw[jJs]
 exact wpAny_pure h
theorem jWg(xs:Array Value)(i k:Nat):((List.range k).filterMap fun(m:Nat)=>xs[((i:Int)+(m:Int)*1).toNat]?).toArray=((xs.toList.drop i).take k).toArray:=by
 have e:(fun(m:Nat)=>xs[((i:Int)+(m:Int)*1).toNat]?)=λm=>xs[i+m]?:=by
  funext m
  have:((i:Int)+(m:Int)*1).toNat=i+m:=#[]
  rw[this]
 rw[e]
 have:=pick_run xs i k
 rw[List.filterMap_map]at this
 have C:((λx=>xs[x]?)∘λx=>i+x)=λm=>xs[i+m]?:=rfl
 rw[C]at this
 rw[this]
theorem getItem_tuple_cut{t sl:Addr}{items:Array Value}{c d:Value}{lo hi:Option Int}{Q:Value->Shared->Prop}(y:IsTup s.heap t items)(hs:s.heap.IsSliceOf sl c d .none)(pl:IsPart c lo)(g:IsPart d hi)
  (hw:¬(sIx items.size 0 lo=0/\sIx items.size items.size hi=items.size))
  (h:Q (.ref s.heap.objs.size) { s with heap:=s.heap.push { cls:=.type "tuple",data:=.seq ((items.toList.drop (sIx items.size 0 lo)).take (sIx items.size items.size hi-sIx items.size 0 lo)).toArray } })
  (hsz:items.size<=sizeLine):wpAny (model prog w) A (getItem (.ref t) (.ref sl)) Q E s:=by
 have a:sizeOk (.seq ((items.toList.drop (sIx items.size 0 lo)).take (sIx items.size items.size hi-sIx items.size 0 lo)).toArray):=by
  show((items.toList.drop (sIx items.size 0 lo)).take (sIx items.size items.size hi-sIx items.size 0 lo)).toArray.size<=sizeLine
  rw[List.size_toArray,List.length_take,List.length_drop,Array.length_toList]
  omega
 have P:sIx items.size items.size hi<=items.size:=sIx_le _ _ (Nat.le_refl _) hi
 obtain⟨os,b,i,e⟩:=id hs
 have j:s.TypeIs (.ref sl) "slice":=#[os,b,i]
 unfold getItem
 try with_reducible refine wpAny_holding ?_
 first |refine wpAny_bind (wpAny_pure ?_)|skip
 refine wpAny_bind (wpAny_sequenceKey y.typeIs (by decide) ?_)
 refine wpAny_bind (wpAny_callSpecial?_slot (name:=Str.ofString "__getitem__") y.typeIs PyProof.Rows.slot_tuple_getitem
  (wpAny_call_entry PyProof.Rows.slot_tuple_getitem y.typeIs entry_tuple_getitem ?_ (args_tuple_getitem _ _)))
 show wpAny _ _ (Builtin.Tuple.tupleItemsOf (.ref t)>>=_) _ _ s
 refine wpAny_bind (tupleItemsOf_ y ?_)
 refine wpAny_bind (wpAny_typeOf j ?_)
 rw[if_pos (by decide)]
 refine wpAny_bind (vC hs pl g ?_)
 have f:¬((((sIx items.size 0 lo:Nat):Int)==0&&(1:Int)==1&&(sIx items.size items.size hi-sIx items.size 0 lo)==items.size)=true):=by
  intro q
  rw[Bool.and_eq_true,Bool.and_eq_true]at q
  have q1:((sIx items.size 0 lo:Nat):Int)=0:=eq_of_beq q.1.1
  have J:sIx items.size items.size hi-sIx items.size 0 lo=items.size:=eq_of_beq q.2
  exact hw #[#[],#[]]
 show wpAny _ _ (if(((sIx items.size 0 lo:Nat):Int)==0&&(1:Int)==1&&(sIx items.size items.size hi-sIx items.size 0 lo)==items.size)=true then _ else _) _ _ s
 rw[if_neg f,jWg]
 first
  |exact wpAny_bind (m:=Builtin.Tuple.tupleExact _) (wpAny_newObj_type (wpAny_pure #[_,rfl,wpAny_pure h]) a)
  |exact wpAny_bind (m:=Builtin.Tuple.tupleExact _) (wpAny_newObj_type (wpAny_bind (wpAny_pure (wpAny_pure #[_,rfl,wpAny_pure h]))) a)
  |exact wpAny_bind (wpAny_bind (m:=Builtin.Tuple.tupleExact _) (wpAny_newObj_type (wpAny_pure (wpAny_pure #[_,rfl,wpAny_pure h])) a))
  |exact wpAny_bind (wpAny_bind (m:=Builtin.Tuple.tupleExact _) (wpAny_newObj_type (wpAny_pure #[_,rfl,wpAny_pure h]) a))
end
end HT
namespace L2
open PySem PySem.Spec PyProof.Rows
variable{G:List Value}{s:Shared}
noncomputable abbrev TO:=St->Hp->(Option Int->Hp->Prop)->Prop
noncomputable def PO(X:Cx)(e:Option Expr)(t:TO):Prop:=
 ∀(B:List (Addr×Obj))(s:Shared)(Z:St)(H:Hp)(Q:Option Int->Hp->Prop),Inv X B Z H s->t Z H Q->
  wpAny (model X.prog X.w) X.A (evalPart e X.env) (λu U=>∃o H',Inv X B Z H' U/\IsPart u o/\Q o H') X.xe s
noncomputable def hU:TO:=λ_ H Q=>Q none H
noncomputable def lY(t:TE):TO:=λZ H Q=>t Z H λx S=>∃i,x=.int i/\Q (some i) S
section
variable{X:Cx}{e:Expr}{te:TE}{lo hi:Option Expr}{tl th:TO}{pos p2:Pos}
theorem mD:PO X none hU:=by
 intro B s Z H Q I h
 rw[evalPart_none]
 exact aT #[none,H,I,.none,h]
theorem mC(h:PE X e te):PO X (some e) (lY te):=by
 intro B s Z H Q I hw
 rw[evalPart_some]
 refine thn (h B s Z H _ I hw) λu O#[x,S,j,f,q1]=>?_
 obtain⟨i,rfl,q⟩:=q1
 obtain⟨t,rfl⟩:=f
 exact#[some i,S,j,.int i t,q]
noncomputable def SlR(X:Cx)(r:V->Option Int->Option Int->Hp->VK->Prop):Prop:=
 ∀(B:List (Addr×Obj))(s:Shared)(Z:St)(H:Hp)(x:V)(v c d:Value)(lo hi:Option Int)(sl:Addr)(Q:VK),Inv X B Z H s->eZ x v->s.heap.IsSliceOf sl c d .none->IsPart c lo->IsPart d hi->r x lo hi H Q->
  ∃T id,typeLookup (.type T) "__getitem__"=pure (some (.builtin id))/\s.TypeIs v T/\wpAny (model X.prog X.w) X.A (getItem v (.ref sl)) (EP X B Z Q) X.xe s
noncomputable def tSl(r:V->Option Int->Option Int->Hp->VK->Prop)(te:TE)(tl th:TO):TE:=λZ H Q=>te Z H λx S=>tl Z S λl M=>th Z M λu U=>r x l u U Q
theorem kP{r:V->Option Int->Option Int->Hp->VK->Prop}(hr:SlR X r)(i:PE X e te)(Y:PO X lo tl)(R:PO X hi th):PE X (.Subscript e (.Slice lo hi none p2) pos) (tSl r te tl th):=by
 intro B s Z H Q I h
 refine Subscript_ (thn (i B s Z H _ I h) λv O#[x,S,j,f,q1]=>?_)
 refine wpAny_Slice (thn (Y B O Z S _ j q1) λc F#[l,M,k,n,J]=>thn (R B F Z M _ k J) λd s3#[u,U,z,g,m]=>?_)
 rw[evalPart_none]
 refine aT ?_
 have o:Inv X B Z U { s3 with heap:=s3.heap.push { cls:=.type "slice",data:=.fields (List.toArray [c,d,.none]) } }:=z.kept (t':=s3.toks) λb ob q=>aQ _ q
 obtain⟨T,a,p,y,hg⟩:=hr B { s3 with heap:=s3.heap.push { cls:=.type "slice",data:=.fields (List.toArray [c,d,.none]) } } Z U x v c d l u s3.heap.objs.size Q o f (Heap.IsSliceOf.new ..) n g m
 show wpAny (model X.prog X.w) X.A (subscriptTail e (.Slice lo hi none p2) v (.ref s3.heap.objs.size)) (EP X B Z Q) X.xe { s3 with heap:=s3.heap.push { cls:=.type "slice",data:=.fields (List.toArray [c,d,.none]) } }
 exact tail_any (ops:=[.ref s3.heap.objs.size,v]) y p hg (by with_unfolding_all rfl)
noncomputable def qL(xs:List V)(lo hi:Option Int):List V:=(xs.drop (HT.sIx xs.length 0 lo)).take (HT.sIx xs.length xs.length hi-HT.sIx xs.length 0 lo)
theorem zV(xs:List V)(lo hi:Option Int):(qL xs lo hi).length<=xs.length:=by
 unfold qL
 rw[dM,List.length_drop]
 omega
noncomputable def rSlT(K:aO):V->Option Int->Option Int->Hp->VK->Prop:=λx lo hi H Q=>∃a xs,x=.ref a/\SqT K H a xs/\
 ¬(HT.sIx xs.length 0 lo=0/\HT.sIx xs.length xs.length hi=xs.length)/\∀p,H p=none->Q (.ref p) (upd H p (.tup (qL xs lo hi)))
theorem sl_tup:SlR X (rSlT X.K):=by
 intro B s Z H x v c d lo hi sl Q I N hs l g h
 obtain⟨a,F,rfl,hx,hw,q⟩:=h
 cases N
 obtain⟨G,r,y,A⟩:=I.tuple hx
 have C:G.toArray.size=F.length:=by rw[bM];exact r.length.symm
 refine#["tuple",_,PyProof.Rows.slot_tuple_getitem.lookup,y.typeIs,?_]
 refine HT.getItem_tuple_cut y hs l g (by rw[C];exact hw) ?_ (by rw[C];exact A)
 rw[C]
 refine#[.ref s.heap.objs.size,_,I.laid (t':=s.toks) (o:=.tup (qL F lo hi)) (λb ob q=>aQ _ q) (aM _) ?_,rfl,q _ (I.hok.fresh (aM _))]
 exact#[cO (zV F lo hi) A,_,(r.drop (HT.sIx F.length 0 lo)).take (HT.sIx F.length F.length hi-HT.sIx F.length 0 lo),IsTup.new _ _]
noncomputable def rCatT(K:aO):R2:=λx y H Q=>∃a b xs ys,x=.ref a/\y=.ref b/\SqT K H a xs/\SqT K H b ys/\xs≠[]/\xs.length+ys.length<=sizeLine/\
 (ys=[]->Q (.ref a) H)/\(ys≠[]->∀p,H p=none->Q (.ref p) (upd H p (.tup (xs++ys))))
theorem fD.nil_iff{xs:List V}{us:List Value}(r:fD xs us):us=[]↔xs=[]:=by
 cases r with
 |nil=>simp
 |cons _ _=>simp
theorem op_catT:OpR X (binaryOp .Add) (rCatT X.K):=by
 intro B s Z H x y v u Q I N P h
 obtain⟨a,b,F,T,rfl,rfl,ha,hb,hx,A,q1,J⟩:=h
 cases N
 cases P
 obtain⟨G,f,M,_⟩:=I.tuple ha
 obtain⟨c,d,p2,_⟩:=I.tuple hb
 refine HT.cat_tup M p2 (λz=>hx (f.nil_iff.mp z)) (λz=>#[.ref a,H,I,rfl,q1 (d.nil_iff.mp z)]) (λz=>?_) (by rw[←f.length,←d.length];exact A)
 refine#[.ref s.heap.objs.size,_,I.laid (t':=s.toks) (o:=.tup (F++T)) (λb ob q=>aQ _ q) (aM _) ?_,rfl,J (λw=>z (d.nil_iff.mpr w)) _ (I.hok.fresh (aM _))]
 exact#[by rw[bC];exact A,_,f.append d,IsTup.new _ _]
end
noncomputable def ixN(n:Nat)(i:Int):Option Nat:=if 0<=i then(if i<n then some i.toNat else none)else if -(n:Int)<=i then some (i+n).toNat else none
noncomputable def atI{d:Type}(xs:List d)(i:Int):Option d:=(ixN xs.length i).bind λj=>xs[j]?
theorem jXV{n:Nat}{i:Int}{j:Nat}(h:ixN n i=some j):seqIndex? i n=some j/\j<n/\-(n:Int)<=i/\i<n:=by
 unfold ixN at h
 by_cases c:0<=i
 ·rw[aJ c]at h
  by_cases h1:i<n
  ·rw[aJ h1]at h
   have e:i.toNat=j:=aV h
   exact#[by rw[seqIndex_of c h1,e],#[],#[],h1]
  ·rw[aF h1]at h;cases h
 ·rw[aF c]at h
  by_cases h1:-(n:Int)<=i
  ·rw[aJ h1]at h
   have e:(i+n).toNat=j:=aV h
   exact#[by rw[seqIndex_neg #[] h1,e],#[],h1,#[]]
  ·rw[aF h1]at h;cases h
theorem jXp{d:Type}{xs:List d}{i:Int}{v:d}(h:atI xs i=some v):∃j,seqIndex? i xs.length=some j/\xs[j]?=some v/\j<xs.length/\-(xs.length:Int)<=i/\i<xs.length:=by
 unfold atI at h
 cases e:ixN xs.length i with
 |none=>rw[e]at h;cases h
 |some j=>
  rw[e]at h
  obtain⟨h1,h2,h3,S⟩:=jXV e
  exact#[j,h1,h,h2,h3,S]
theorem gM{d:Type}{xs:List d}{j:Nat}{v:d}(h:xs[j]?=some v):atI xs (j:Int)=some v:=by
 have P:j<xs.length:=(aK.mp h).1
 have e:ixN xs.length (j:Int)=some j:=by
  unfold ixN
  rw[aJ #[],aJ #[]];simp
 unfold atI;rw[e];exact h
noncomputable def Vj(b:Expr):Prop:=∀o i,subscripted b false o i=operate [o,i] (getItem o i)
noncomputable def IxR(X:Cx)(r:R2):Prop:=
 ∀(e d:Expr)(B:List (Addr×Obj))(s:Shared)(Z:St)(H:Hp)(x y:V)(v u:Value)(Q:VK),Inv X B Z H s->eZ x v->eZ y u->r x y H Q->
  subscripted d false v u=operate [v,u] (getItem v u)->wpAny (model X.prog X.w) X.A (subscriptTail e d v u) (EP X B Z Q) X.xe s
noncomputable def MtR(X:Cx)(id:String)(r:V->List V->Hp->VK->Prop):Prop:=
 ∀(B:List (Addr×Obj))(s:Shared)(Z:St)(H:Hp)(x:V)(xs:List V)(v:Value)(us:List Value)(Q:VK),Inv X B Z H s->eZ x v->fD xs us->r x xs H Q->
  wpAny (model X.prog X.w) X.A (call (.builtin id) (v::us)) (EP X B Z Q) X.xe s
section
variable{X:Cx}{a b:Expr}{ta tb:TE}{pos:Pos}
theorem pe_ix{r:R2}(hr:IxR X r)(ha:PE X a ta)(hb:PE X b tb)(hs:Vj b):PE X (.Subscript a b pos) (tOp r ta tb):=by
 intro B s Z H Q I h
 exact Subscript_ (binT ha hb I h λv u F x y M k N P q=>hr a b B F Z M x y v u Q k N P q (hs _ _))
noncomputable def gJ(K:aO):R2:=λx y H Q=>exR x λp=>exI y λi=>∃xs,SqL K H p xs/\∃v,atI xs i=some v/\Q v H
noncomputable def dO(K:aO):R2:=λx y H Q=>exR x λp=>exI y λi=>∃xs,SqT K H p xs/\∃v,atI xs i=some v/\Q v H
theorem ix_list:IxR X (gJ X.K):=by
 intro e d B s Z H x y v u Q I N g h hs
 obtain⟨p,rfl,h1⟩:=Eq.mp iK h
 obtain⟨i,rfl,F,J,z,k,q⟩:=Eq.mp gX h1
 cases N
 obtain⟨t,rfl⟩:=g
 obtain⟨G,r,l,A⟩:=I.list J
 obtain⟨j,h1,h2,h3,S,T⟩:=jXp k
 obtain⟨w,f,C⟩:=r.get h2
 have Y:=r.length
 have R:=Lz
 have fin:EP X B Z Q w s:=#[z,H,I,C,q]
 by_cases c:0<=i
 ·have P:i.toNat=j:=by
   rw[seqIndex_of c T]at h1
   exact aV h1
  exact item_listR l.isList c #[] (by rw[P];simpa using f) fin hs
 ·have P:(i+(G.toArray.size:Int)).toNat=j:=by
   rw[seqIndex_neg #[] S]at h1
   rw[bM,←Y]
   exact aV h1
  exact subscriptTail_builtinR (x:=w) l.isList.typeIs slot_list_getitem.lookup
   (wpAny_getItem_list_neg (Q:=λr U=>r=w/\EP X B Z Q r U) l.isList #[] (by rw[bM]<;>omega) #[] (by rw[P];simpa using f) #[rfl,fin]) hs
theorem ix_tup:IxR X (dO X.K):=by
 intro e d B s Z H x y v u Q I N P h hs
 obtain⟨p,rfl,h1⟩:=Eq.mp iK h
 obtain⟨i,rfl,F,J,z,c,q⟩:=Eq.mp gX h1
 cases N
 obtain⟨t,rfl⟩:=P
 obtain⟨G,r,l,A⟩:=I.tuple J
 obtain⟨j,h1,h2,h3,S,T⟩:=jXp c
 obtain⟨w,f,C⟩:=r.get h2
 have Y:=r.length
 have R:=Lz
 have fin:EP X B Z Q w s:=#[z,H,I,C,q]
 exact subscriptTail_builtinR (x:=w) l.typeIs slot_tuple_getitem.lookup
  (getItem_tuple (j:=j) (Q:=λr U=>r=w/\EP X B Z Q r U) l #[] #[] (by rw[bM,←Y];exact h1) (by simpa using f) #[rfl,fin]) hs
theorem jJ4(G:List Value)(n j:Nat)(u:Value):Obj.mapSeq (·.setIfInBounds j u) { cls:=.type "list",data:=.seq G.toArray n }={ cls:=.type "list",data:=.seq (G.set j u).toArray n }:=by
 simp [Obj.mapSeq]
theorem Inv.lst{B:List (Addr×Obj)}{Z:St}{H:Hp}{s:Shared}{p:Addr}{xs:List V}(I:Inv X B Z H s)(h:H p=some (.lst xs)):
  ∃(G:List Value)(n:Nat),fD xs G/\s.heap.get? p=some { cls:=.type "list",data:=.seq G.toArray n }/\xs.length<=sizeLine:=by
 obtain⟨z,G,n,r,e⟩:=I.hok p _ h
 exact#[G,n,r,e,z]
theorem Inv.lstUpd{B:List (Addr×Obj)}{Z:St}{H:Hp}{p:Addr}{xs ys:List V}{its':List Value}{n k:Nat}{f:Obj->Obj}(I:Inv X B Z H s)(h:H p=some (.lst xs))
  (D:s.heap.get? p=some { cls:=.type "list",data:=.seq G.toArray n }) (hf:f { cls:=.type "list",data:=.seq G.toArray n }={ cls:=.type "list",data:=.seq its'.toArray k }) (r:fD ys its') (hz:ys.length<=sizeLine) (t:Nat):
  Inv X B Z (upd H p (.lst ys)) { s with heap:=s.heap.update p f,toks:=t }:=by
 have e:(s.heap.update p f).get? p=some { cls:=.type "list",data:=.seq its'.toArray k }:=by
  rw[Heap.get?_update_self f D (by rw[hf]<;>rfl),hf]
 refine I.write (x:=p) (e:=p) (by rw[h];trivial) (.inl rfl) (λb u hb q=>(dJ _ _ (Ne.symm hb)).trans q) #[_,e] ?_
 exact#[hz,its',k,r,e]
noncomputable def Br:V->V->V->Hp->(Hp->Prop)->Prop:=λo i v H Q=>∃p xs k j,o=.ref p/\i=.int k/\H p=some (.lst xs)/\ixN xs.length k=some j/\Q (upd H p (.lst (xs.set j v)))
theorem yJ:PSet X Br:=by
 intro B s Z H o i v g l u Q I e d f h
 obtain⟨p,F,k,j,rfl,rfl,hp,P,q⟩:=h
 cases e
 obtain⟨t,rfl⟩:=d
 obtain⟨G,n,r,D,A⟩:=I.lst hp
 obtain⟨h1,h2,h3,S⟩:=jXV P
 have Y:=r.length
 have R:=Lz
 have m:Inv X B Z (upd H p (.lst (F.set j v))) { s with heap:=s.heap.update p (Obj.mapSeq (·.setIfInBounds j u)) }:=
  I.lstUpd hp D (jJ4 G n j u) (r.set f j) (by rw[List.length_set];exact A) s.toks
 by_cases c:0<=k
 ·have hk:k.toNat=j:=by
   rw[seqIndex_of c S]at h1
   exact aV h1
  exact PySem.W.ki_setAt D c #[] (by rw[bM,←Y];exact S) (by rw[hk];exact#[_,m,q])
 ·have hk:(k+(G.toArray.size:Int)).toNat=j:=by
   rw[seqIndex_neg #[] h3]at h1
   rw[bM,←Y]
   exact aV h1
  exact PySem.W.ki_setBack D #[] (by rw[bM,←Y];exact h3) #[] (by rw[hk];exact#[_,m,q])
theorem Vm(lo hi:Option Int)(n:Nat):(sliceBounds lo hi none n).1=((HT.sIx n 0 lo:Nat):Int)/\(sliceBounds lo hi none n).2.1=((HT.sIx n n hi:Nat):Int)/\(sliceBounds lo hi none n).2.2=1:=by
 refine#[?_,?_,rfl]
 ·cases lo with
  |none=>simp [sliceBounds,HT.sIx]
  |some i=>
   simp only[sliceBounds,HT.sIx,Option.getD_none,show(1:Int)>0 by decide,if_true]
   by_cases h:i<0
   ·simp only[h,if_true]<;>omega
   ·simp only[h,if_false]<;>omega
 ·cases hi with
  |none=>simp [sliceBounds,HT.sIx]
  |some i=>
   simp only[sliceBounds,HT.sIx,Option.getD_none,show(1:Int)>0 by decide,if_true]
   by_cases h:i<0
   ·simp only[h,if_true]<;>omega
   ·simp only[h,if_false]<;>omega
theorem Qe(G:List Value)(lo hi:Option Int):slicePick G.toArray lo hi none=((G.drop (HT.sIx G.length 0 lo)).take (HT.sIx G.length G.length hi-HT.sIx G.length 0 lo)).toArray:=by
 obtain⟨h1,h2,h3⟩:=Vm lo hi G.toArray.size
 unfold slicePick
 rw[h1,h2,h3]
 simp only[sliceRange_one,pick_run,bM]<;>rfl
noncomputable def xL(K:aO):V->Option Int->Option Int->Hp->VK->Prop:=λx lo hi H Q=>∃a xs,x=.ref a/\SqL K H a xs/\∀p,H p=none->Q (.ref p) (upd H p (.lst (qL xs lo hi)))
theorem Al:SlR X (xL X.K):=by
 intro B s Z H x v c d e hi sl Q I N hs l g h
 obtain⟨a,F,rfl,hx,q⟩:=h
 cases N
 obtain⟨G,r,y,A⟩:=I.list hx
 have C:=r.length
 refine#["list",_,slot_list_getitem.lookup,y.isList.typeIs,?_]
 refine wpAny_getItem_list_slice y.isList hs l g .none (by simp) ?_ (by rw[bM]<;>omega)
 rw[Qe,←C]
 refine#[.ref s.heap.objs.size,_,I.laid (t':=s.toks) (o:=.lst (qL F e hi)) (λb ob q=>aQ _ q) (aM _) ?_,rfl,q _ (I.hok.fresh (aM _))]
 exact#[cO (zV F e hi) A,_,0,(r.drop (HT.sIx F.length 0 e)).take (HT.sIx F.length F.length hi-HT.sIx F.length 0 e),bL _ rfl]
noncomputable def Iq:V->Bool
 | .non=>true
 | .bl _=>true
 | .int _=>true
 | .str _=>true
 |_=>false
noncomputable def eqV:V->V->Bool
 | .non,.non=>true
 | .bl a,.bl b=>a==b
 | .bl a,.int b=>(if a then 1 else 0)==b
 | .int a,.bl b=>a==(if b then 1 else 0)
 | .int a,.int b=>a==b
 | .str a,.str b=>a==b
 |_,_=>false
theorem eqAt_V{A:Around}{y x:V}{u v:Value}(P:eZ y u)(N:eZ x v)(d:Iq y=true)(c:Iq x=true):SeqAt.EqAt A s u v (eqV y x):=by
 cases y with
 |non=>
  cases P
  cases x with
  |non=>cases N;exact SeqAt.EqAt.same _
  |bl b=>cases N;exact SeqAt.EqAt.none_bool b
  |int b=>obtain⟨t,rfl⟩:=N;exact SeqAt.EqAt.none_int b t
  |str b=>obtain⟨t,rfl⟩:=N;exact SeqAt.EqAt.none_str b t
  |_=>exact absurd (show false=true from c) bU
 |bl a=>
  cases P
  cases x with
  |non=>cases N;exact SeqAt.EqAt.bool_none a
  |bl b=>cases N;exact SeqAt.EqAt.bool_bool a b
  |int b=>obtain⟨t,rfl⟩:=N;exact SeqAt.EqAt.bool_int a b t
  |str b=>obtain⟨t,rfl⟩:=N;exact SeqAt.EqAt.bool_str a b t
  |_=>exact absurd (show false=true from c) bU
 |int a=>
  obtain⟨O,rfl⟩:=P
  cases x with
  |non=>cases N;exact SeqAt.EqAt.int_none a O
  |bl b=>cases N;exact SeqAt.EqAt.int_bool a O b
  |int b=>obtain⟨t,rfl⟩:=N;exact SeqAt.EqAt.int_int a O b t
  |str b=>obtain⟨t,rfl⟩:=N;exact SeqAt.EqAt.int_str a O b t
  |_=>exact absurd (show false=true from c) bU
 |str a=>
  obtain⟨O,rfl⟩:=P
  cases x with
  |non=>cases N;exact SeqAt.EqAt.str_none a O
  |bl b=>cases N;exact SeqAt.EqAt.str_bool a O b
  |int b=>obtain⟨t,rfl⟩:=N;exact SeqAt.EqAt.str_int a O b t
  |str b=>obtain⟨t,rfl⟩:=N;exact SeqAt.EqAt.str_str a O b t
  |_=>exact absurd (show false=true from c) bU
 |_=>exact absurd (show false=true from d) bU
noncomputable def eqU(x:V)(u:Value):Bool:=match u with
 | .none=>eqV .non x
 | .bool b=>eqV (.bl b) x
 | .int i _=>eqV (.int i) x
 | .str z _=>eqV (.str z) x
 |_=>false
theorem eqU_of{x y:V}{u:Value}(r:eZ y u)(f:Iq y=true):eqU x u=eqV y x:=by
 cases y with
 |non=>cases r;rfl
 |bl b=>cases r;rfl
 |int i=>obtain⟨t,rfl⟩:=r;rfl
 |str z=>obtain⟨t,rfl⟩:=r;rfl
 |_=>exact absurd (show false=true from f) bU
theorem Vi{x:V}:∀{xs:List V}{us:List Value},fD xs us->xs.all Iq=true->us.any (eqU x)=xs.any λy=>eqV y x
 |_,_,.nil,_=>rfl
 |y::xs,u::us,.cons r t,f=>by
  rw[List.all_cons,Bool.and_eq_true]at f
  rw[List.any_cons,List.any_cons,eqU_of r f.1,Vi t f.2]
theorem Nl{A:Around}{s:Shared}{x:V}{v:Value}(N:eZ x v)(c:Iq x=true):∀{xs:List V}{us:List Value},fD xs us->xs.all Iq=true->∀u∈us,SeqAt.EqAt A s u v (eqU x u)
 |_,_,.nil,_=>λu R=>by cases R
 |y::xs,u::us,.cons r t,f=>λm R=>by
  rw[List.all_cons,Bool.and_eq_true]at f
  rcases dW.mp R with rfl |R
  ·rw[eqU_of r f.1];exact eqAt_V r N f.1 c
  ·exact Nl N c t f.2 m R
noncomputable def inV(x:V)(xs:List V):Bool:=xs.any λy=>eqV y x
noncomputable def rIn(K:aO)(neg:Bool):R2:=λx y H Q=>∃p xs,y=.ref p/\(SqL K H p xs∨SqT K H p xs)/\Iq x=true/\xs.all Iq=true/\Q (.bl (if neg then !inV x xs else inV x xs)) H
theorem Vw:OpR X (compareOp .NotIn) (rIn X.K true):=by
 intro B s Z H x y v u Q I N P h
 obtain⟨p,F,rfl,J,c,fs,q⟩:=h
 cases P
 rcases J with J |J
 ·obtain⟨G,r,l,A⟩:=I.list J
  refine SeqAt.notIn_listAt (eqU x) l.isList (λw hw=>Nl N c r fs w (by simpa using hw)) #[.bl _,H,I,rfl,?_]
  rw[show G.toArray.any (eqU x)=G.any (eqU x) by simp,Vi r fs]
  exact q
 ·obtain⟨G,r,l,A⟩:=I.tuple J
  refine SeqAt.notIn_tupleAt (eqU x) l (λw hw=>Nl N c r fs w (by simpa using hw)) #[.bl _,H,I,rfl,?_]
  rw[show G.toArray.any (eqU x)=G.any (eqU x) by simp,Vi r fs]
  exact q
theorem cW:pY X (.builtin "len") (λF H Q=>∃p T,F=[.ref p]/\(SqL X.K H p T∨SqT X.K H p T)/\Q (.int T.length) H):=by
 intro B s Z H F c Q I r h
 obtain⟨p,T,rfl,J,q⟩:=h
 obtain⟨u,rfl,N⟩:=xS r
 cases N
 have R:=Lz
 rcases J with J |J
 ·obtain⟨G,t,l,A⟩:=I.list J
  have C:=t.length
  exact Calls.call_len_list l.isList (by simp only[bM]<;>omega) #[.int T.length,H,I.tok _,#[s.toks+1,by rw[bM,C]],q]
 ·obtain⟨G,t,l,A⟩:=I.tuple J
  have C:=t.length
  exact len_tuple l (by simp only[bM]<;>omega) #[.int T.length,H,I.tok _,#[s.toks+1,by rw[bM,C]],q]
theorem jH:pY X (.type "list") (λF H Q=>∃p T,F=[.ref p]/\(SqL X.K H p T∨SqT X.K H p T)/\∀l,H l=none->Q (.ref l) (upd H l (.lst T))):=by
 intro B s Z H F R Q I r h
 obtain⟨p,T,rfl,J,q⟩:=h
 obtain⟨u,rfl,N⟩:=xS r
 cases N
 have fin:∀(G:List Value),fD T G->T.length<=sizeLine->∀(M:Heap)(S:Nat),(∀b g,s.heap.get? b=some g->M.get? b=some g)->
   M.get? s.heap.objs.size=some { cls:=.type "list",dict:=none,data:=.seq G.toArray S,slots:=(List.toArray []) }->EP X B Z Q (.ref s.heap.objs.size) { s with heap:=M }:=λG t A M S kp e=>
  #[.ref s.heap.objs.size,_,I.laid (t':=s.toks) kp (aM _) (show jE X.prog X.w _ M _ (.lst T)from#[A,G,S,t,e]),rfl,q _ (I.hok.fresh (aM _))]
 rcases J with J |J
 ·obtain⟨G,t,c,A⟩:=I.list J
  have C:=t.length
  obtain⟨o,D,hc,n,hd⟩:=c.isList
  exact call_list_seq p (.inl rfl) D hc hd (λM S kp e=>fin G t A M S kp e) (by simp only[bM]<;>omega)
 ·obtain⟨G,t,c,A⟩:=I.tuple J
  have C:=t.length
  obtain⟨o,D,hc,n,hd⟩:=c
  exact call_list_seq p (.inr rfl) D hc hd (λM S kp e=>fin G t A M S kp e) (by simp only[bM]<;>omega)
noncomputable def tyV(K:aO)(T:String)(x:V)(H:Hp):Prop:=match x with
 | .str _=>T="str"
 | .int _=>T="int"
 | .ref p=>(T="list"/\∃xs,SqL K H p xs)∨(T="tuple"/\∃o,K.lookup p=some o/\o.cls=.type "tuple"/\o.dict=none)∨
   (T="dict"/\((∃kvs,H p=some (.dK kvs))∨∃kvs,H p=some (.dT kvs)))∨(T="set"/\∃S n,H p=some (.set S n))
 |_=>False
theorem tyV_is{B:List (Addr×Obj)}{Z:St}{H:Hp}{T:String}{x:V}{v:Value}(I:Inv X B Z H s)(r:eZ x v)(P:tyV X.K T x H):
  s.TypeIs v T/\∀a,v=.ref a->∃ob,s.heap.get? a=some ob/\ob.dict=none:=by
 cases x with
 |str z=>
  obtain⟨t,rfl⟩:=r
  cases(show T="str" from P)
  exact#[typeIs_str s z t,λ_ e=>nomatch e]
 |int i=>
  obtain⟨t,rfl⟩:=r
  cases(show T="int" from P)
  exact#[typeIs_int s i t,λ_ e=>nomatch e]
 |ref p=>
  cases r
  rcases P with⟨rfl,F,J⟩|⟨rfl,o,hk,hc,hd⟩|⟨rfl,hk⟩|⟨rfl,S,n,hk⟩
  ·obtain⟨G,_,l,_⟩:=I.list J
   refine#[l.isList.typeIs,λa e=>?_]
   cases e
   obtain⟨o,n,e,c,hd,_⟩:=l
   exact#[o,e,hd]
  ·refine#[#[o,I.kIn p o hk,hc],λa e=>?_]
   cases e
   exact#[o,I.kIn _ o hk,hd]
  ·have z:∃o,s.heap.get? p=some o/\o.ExactDict:=by
    rcases hk with⟨d,hk⟩|⟨d,hk⟩
    ·obtain⟨_,_,_,_,o,_,_,e,ex,_⟩:=I.hok p _ hk
     exact#[o,e,ex]
    ·obtain⟨_,_,_,_,o,_,_,e,ex,_⟩:=I.hok p _ hk
     exact#[o,e,ex]
   obtain⟨o,e,ex⟩:=z
   refine#[#[o,e,ex.1],λa C=>?_]
   cases C
   exact#[o,e,ex.2.1]
  ·obtain⟨o,_,_,_,e,ex,_⟩:=I.hok p _ hk
   refine#[#[o,e,ex.1],λa C=>?_]
   cases C
   exact#[o,e,ex.2.1]
 |_=>exact False.elim P
noncomputable def tBM0(K:aO)(T:String)(r:V->List V->Hp->VK->Prop)(to:TE):TE:=λZ H Q=>to Z H λx S=>tyV K T x S/\r x [] S Q
noncomputable def tBM(K:aO)(T:String)(r:V->List V->Hp->VK->Prop)(to:TE)(t:TA):TE:=λZ H Q=>to Z H λx S=>tyV K T x S/\t Z S λxs M=>r x xs M Q
variable{o e:Expr}{es:List Expr}{to:TE}{t:TA}{name:Str}{apos cpos:Pos}{T id:String}{r:V->List V->Hp->VK->Prop}
theorem pe_bm0(p:PlainAttrs T)(slot:Slot T name id)(l:typeOf (.builtin id)=pure (.type "method_descriptor"))(hm:MtR X id r)(D:PE X o to)
  (c:attributeBase o name X.env (eval o X.env)=eval o X.env:=by rfl) (g:(apos.endLine==cpos.line)=true:=by rfl):PE X (.Call (.Attribute o name apos) [] [] cpos) (tBM0 X.K T r to):=by
 intro B s Z H Q I h
 refine wpAny_Call_method0_late c g (thn (D B s Z H _ I h) λv O#[x,S,j,f,P,q1]=>?_)
 obtain⟨h1,h2⟩:=tyV_is j f P
 exact#[T,id,p,slot,l,h1,h2,Calls.callWith_builtin rfl (PySem.evalArgs_none (hm B O Z S x [] v [] Q j f .nil q1))]
theorem jZi(p:PlainAttrs T)(slot:Slot T name id)(l:typeOf (.builtin id)=pure (.type "method_descriptor"))(hm:MtR X id r)(D:PE X o to)(ha:PA X (e::es) t)
  (c:attributeBase o name X.env (eval o X.env)=eval o X.env:=by rfl)
  (n:((backTo cpos (starEach (e::es) X.env)).all (λx=>!x.1)&&(backToKw cpos (keywordEach [] X.env)).all (λx=>x.1.isSome)
   &&decide ((e::es).length+([]:List Keyword).length+(if([]:List Keyword).isEmpty then 0 else 1)<30))=true:=by rfl)
  (g:(apos.endLine==cpos.line)=true:=by rfl) (hs:starEach (e::es) X.env=(false,eval e X.env)::starEach es X.env:=by rfl) (i:(backTo cpos (starEach es X.env)).any (·.1)=false:=by rfl):
  PE X (.Call (.Attribute o name apos) (e::es) [] cpos) (tBM X.K T r to t):=by
 intro B s Z H Q I h
 refine wpAny_Call_method_late c n g rfl (thn (D B s Z H _ I h) λv O#[x,S,j,f,P,q1]=>?_)
 obtain⟨h1,h2⟩:=tyV_is j f P
 refine#[T,id,p,slot,l,h1,h2,?_]
 have G:=ha cpos B O Z S _ j q1
 rw[hs]at G⊢
 refine Calls.callWith_builtin (by show(false||(backTo cpos (starEach es X.env)).any (·.1))=false;rw[i]<;>rfl) (Calls.evalArgs_plain ?_)
 exact thn G λR F#[m,M,k,d,J]=>hm B F Z M x m v R Q k f d J
end
noncomputable def MtM(X:Cx)(id:String)(r:V->List V->Hp->VK->Prop):Prop:=
 ∀(B:List (Addr×Obj))(s:Shared)(Z:St)(H:Hp)(x:V)(xs:List V)(v:Value)(us:List Value)(Q:VK),Inv X B Z H s->eZ x v->fD xs us->r x xs H Q->
  wpAny (model X.prog X.w) X.A (call (.builtin id) (v::us)) (EP X B Z Q) X.xe s
theorem fD.one:∀{x:V}{us:List Value},fD [x] us->∃u,us=[u]/\eZ x u
 |_,_,.cons r .nil=>#[_,rfl,r]
theorem fD.eraseIdx:∀{xs:List V}{us:List Value}(i:Nat),fD xs us->fD (xs.eraseIdx i) (us.eraseIdx i)
 |_,_,_,.nil=>.nil
 |_,_,0,.cons _ t=>t
 |_,_,i+1,.cons r t=>.cons r (fD.eraseIdx i t)
theorem Rx{d:Type}:∀(l:List d)(i:Nat),(l.eraseIdx i).length<=l.length
 | [],_=>aM _
 |_::_,0=>Nat.le_succ _
 |_::r,i+1=>Nat.succ_le_succ (Rx r i)
section
variable{X:Cx}{pins:List (Addr×Obj)}{σ:St}{H:Hp}{s:Shared}{l b:Addr}{xs ys zs:List V}
theorem Inv.lset{its':List Value}{n:Nat}{f:Array Value->Array Value}{t':Nat}(I:Inv X pins σ H s)(k:H l=some (.lst xs))
  (e:s.heap.get? l=some { cls:=.type "list",data:=.seq G.toArray n }) (hf:f G.toArray=its'.toArray) (hv:fD ys its') (hz:ys.length<=sizeLine):
  Inv X pins σ (upd H l (.lst ys)) { s with heap:=s.heap.update l (Obj.mapSeq f),toks:=t' }:=by
 have q:=PySem.IsL.update e f
 rw[hf]at q
 refine I.write (x:=l) (e:=l) (by rw[k];exact trivial) (.inl rfl) (λi u hb R=>(dJ s.heap (Obj.mapSeq f) (Ne.symm hb)).trans R) #[_,q] ?_
 exact#[hz,its',_,hv,q]
theorem Inv.lnew{t':Nat}(I:Inv X pins σ H s)(hv:fD ys G)(hz:ys.length<=sizeLine):
  Inv X pins σ (upd H s.heap.objs.size (.lst ys)) { s with heap:=s.heap.push { cls:=.type "list",data:=.seq G.toArray },toks:=t' }:=
 I.laid (λ_ _ q=>aQ _ q) (aM _) #[hz,G,0,hv,bL _ rfl]
theorem Inv.fresh(I:Inv X pins σ H s):H s.heap.objs.size=none:=I.hok.fresh (aM _)
theorem Inv.lstM(I:Inv X pins σ H s)(k:H l=some (.lst xs)):xs.length<=sizeLine/\∃(G:List Value)(n:Nat),fD xs G/\xs.length=G.length/\s.heap.get? l=some { cls:=.type "list",data:=.seq G.toArray n }:=by
 obtain⟨z,G,n,r,e⟩:=I.hok l _ k
 exact#[z,G,n,r,r.length,e]
theorem jWq{n:Nat}(h:n<=sizeLine):Builtin.List.listTooLong n=false:=by
 unfold Builtin.List.listTooLong
 exact decide_eq_false #[]
end
section
variable{X:Cx}
noncomputable def Uz:V->List V->Hp->VK->Prop:=λx vs H Q=>∃l xs y,x=.ref l/\vs=[y]/\H l=some (.lst xs)/\xs.length<sizeLine/\Q .non (upd H l (.lst (xs++ [y])))
theorem jYk:MtM X "list.append" Uz:=by
 intro B s Z H x m v R Q I N D h
 obtain⟨l,a,y,rfl,rfl,k,A,q⟩:=h
 cases N
 obtain⟨u,rfl,g⟩:=D.one
 obtain⟨z,G,n,r,Y,e⟩:=I.lstM k
 refine call_meets F.slot_list_append #[_,e,rfl] F.entry_list_append (F.args_list_append_2 _ _) (PySem.list_append l G.toArray n u (by rw[bM];omega)) #[e,?_]
 refine#[.non,_,I.lset (its':=G++ [u]) k e (by simp) (r.append (.cons g .nil)) ?_,rfl,q]
 rw[bC,List.length_singleton]
 omega
noncomputable def Uy:V->List V->Hp->VK->Prop:=λx vs H Q=>∃l b xs zs,x=.ref l/\vs=[.ref b]/\H l=some (.lst xs)/\H b=some (.lst zs)/\xs.length+zs.length<=sizeLine/\Q .non (upd H l (.lst (xs++zs)))
theorem Rt:MtM X "list.extend" Uy:=by
 intro B s Z H x m v R Q I f D h
 obtain⟨l,b,i,N,rfl,rfl,k,t,A,q⟩:=h
 cases f
 obtain⟨u,rfl,g⟩:=D.one
 cases g
 obtain⟨z,G,n,r,Y,e⟩:=I.lstM k
 obtain⟨j,c,n2,d,S,C⟩:=I.lstM t
 have P:G.toArray.size+c.toArray.size<=sizeLine:=by rw[bM,bM];omega
 have a:¬(!G.toArray.isEmpty&&Builtin.List.listTooLong (G.toArray.size+c.toArray.size))=true:=by
  rw[jWq P,Bool.and_false]
  exact bU
 refine call_meets F.slot_list_extend #[_,e,rfl] F.entry_list_extend (F.args_list_extend_2 _ _)
  (AutoSeq1.list_extend_list_list_0 l G.toArray n b c.toArray n2 a (by rw[bM];omega) #[]) #[e,C,?_]
 refine#[.non,_,I.lset (its':=G++c) k e (by simp) (r.append d) ?_,rfl,q]
 rw[bC]
 omega
noncomputable def qK:R2:=λx y H Q=>∃l b xs zs,x=.ref l/\y=.ref b/\H l=some (.lst xs)/\H b=some (.lst zs)/\xs.length+zs.length<=sizeLine/\∀p,H p=none->Q (.ref p) (upd H p (.lst (xs++zs)))
theorem nX:OpR X (binaryOp .Add) qK:=by
 intro B s Z H x y v u Q I a f h
 obtain⟨l,b,F,N,rfl,rfl,k,t,A,q⟩:=h
 cases a
 cases f
 obtain⟨z,G,n,r,Y,e⟩:=I.lstM k
 obtain⟨i,c,n2,d,S,C⟩:=I.lstM t
 refine PySem.P.add_list e C ?_ (by rw[bM,bM];omega)
 have g:G.toArray++c.toArray=(G++c).toArray:=by simp
 rw[g]
 exact#[.ref _,_,I.lnew (t':=s.toks) (r.append d) (by rw[bC];omega),rfl,q _ I.fresh]
end
end L2
namespace Att
open PySem PySem.W PySem.Calls PyProof.Rows
theorem Ko{P:Params}{h:Heap}:∀(ns:List Int)(vs:List Value),WellAll P h vs (ns.map WData.int)->IntsAre vs ns:=by
 intro ns
 induction ns with
 |nil=>
  intro vs w
  rw[List.map_nil]at w
  cases w
  exact .nil
 |cons n ns ih=>
  intro vs w
  rw[List.map_cons]at w
  cases w with
  |cons a b=>
   cases a
   exact .cons _ _ (ih _ b)
theorem jX6{l:OpenLaw}{n:Nat}(R:l.most=some n){P:Params}{h:Heap}{c:List WData}{g:List Value}
  (e:l.row.toRowW.claim.pre c=true) (b:WellAll P h g c):
  ∃a m ns,g=[Value.ref a]/\c=[WData.list (ns.map WData.int)]/\h.get? a=some { cls:=.type "list",data:=.seq m.toArray }/\IntsAre m ns/\ns.length<=n:=by
 have i:WShape.hasAll [] c [.list .int]=true:=(pre_splitW e).1
 have hc:l.pre.holds [] { args:=c }=true:=(pre_splitW e).2
 obtain⟨d,r,rfl,h1,h2⟩:=hasAllW_cons i
 obtain rfl:=hasAllW_nil h2
 obtain⟨F,rfl,h3⟩:=hasW_list h1
 obtain⟨ns,rfl⟩:=items_int h3
 have C:ns.length<=n:=by
  unfold OpenLaw.pre at hc
  have S:(WTm.not (.lt (.lit (.int (n:Int))) (.len (.arg 0)))).holds [] { args:=[.list (ns.map .int)] }=true:=by
   have S:=(holds_andW hc).1
   rw[R]at S
   exact S
  have T:=condW_of S (w_not (w_lt w_lit (w_len_list (w_arg rfl))))
  rw[List.length_map]at T
  refine Nat.le_of_not_lt λq=>?_
  have f:(n:Int)<((ns.length:Nat):Int):=#[]
  first
   | (rw[decide_eq_true f]at T;exact absurd T (by decide))
   | (simp at T;omega)
 cases b with
 |cons w1 w2=>
  cases w2
  cases w1 with
  |list ho hall=>exact#[_,_,ns,rfl,rfl,ho,Ko ns _ hall,C]
theorem jYa(l:OpenLaw)(c:List WData):l.row.toRowW.claim.post c (.bool true) c=true:=
 postW_of (r:=l.row.toRowW) (X:=(true==true))
  (show WShape.has [] (.bool true) .bool=true by first |rfl |decide |simp [WShape.has,WShape.arms,WShape.armsAll])
  (show(WTm.eq .res (.lit (.bool true))).value [] { args:=c,res:=some (.bool true),after:=c }=some (.bool (true==true))from w_eq_bool (w_res rfl) w_lit) rfl
theorem attach_call{l:OpenLaw}{n:Nat}{q:Program}{j:List Str}{v:(Str->Option Value)->Heap->Prop}{X:World->Heap->Prop}{d:DefRec}
  (R:l.most=some n) (I:d.params.defaults=[])
  (call:∀(w:World)(s₀ N:Shared)(mg A:Str->Option Value)(y:Addr)(o:Obj)(z Z i:Value)(a:Addr)(vs:List Value)(ns:List Int),
   Ground q j [] v w s₀ mg A N.heap->X w N.heap->
   N.heap.get? y=some o->o.data=.func (docDef d.name d.params d.body d.scope z Z i)->N.heap.CodeRec Z d.name->mg d.name=some (.ref y)->
   N.heap.get? a=some { cls:=.type "list",data:=.seq vs.toArray }->IntsAre vs ns->ns.length<=n->N.gens=(List.toArray [])->
   codeAny (model l.prog w) callerA (.call (.ref y) #[[.ref a],[]]) (λr U=>r=.ok (.ret (.bool true))/\OldK N.heap U.heap/\U.os=N.os/\AllBare U.gens) N):
  WalkO q j v X l.row.toRowW d [] (λf vs=>PySem.call f vs):=by
 intro w s₀ N mg A G Y y o z Z i k kV D hd p K h hg c g m e s u b x
 obtain rfl:k=.none:=Dflts.none K I
 obtain rfl:kV=.none:=Dflts.noKw K
 obtain⟨a,vs,ns,rfl,rfl,M,t,C⟩:=jX6 R e b
 refine enter_call (codeAny_mono (call w s₀ N mg A y o z Z i a vs ns G Y D (fd_plain hd) p h M t C hg) λr U J=>?_)
 obtain⟨rfl,h2,h3,S⟩:=J
 exact#[.inl #[.bool true,.bool true,[],rfl,λ_=>rfl,.bool true,jYa l _,λ_=>#[List.Pairwise.nil,λ_ hm=>(nomatch hm)]],h2,h3,S]
end Att
namespace L2
open PySem PySem.Spec PyProof.Rows
variable{A:Prop}{H:Hp}{k:Nat}
theorem Qs:∀{vs:List Value}{ns:List Int},IntsAre vs ns->fD (ns.map V.int) vs
 |_,_,.nil=>.nil
 |_,_,.cons n t h=>.cons #[t,rfl] (Qs h)
noncomputable def Only(H:Hp):Prop:=∀b,H b=none∨∃o xs,H b=some (.frz o (.lst xs))
theorem jWy{P:Program}{w:World}{K:aO}{mg A:Str->Option Value}{CX:CXT}{y a:Addr}{fd:FuncData}{x:Str}{sp:Sp}{N:Shared}{vs:List Value}{ns:List Int}
  (Q:K.In N.heap) (i:N.heap.Ns mainGlobals mg) (hb:N.heap.Ns builtinsNs A) (a2:∀x:Str,x≠ "__name__"->A x=bootBuiltins x) (X:N.heap.NoLimit) (hg:N.gens=(List.toArray []))
  (ha:N.heap.get? a=some { cls:=.type "list",data:=.seq vs.toArray }) (hi:IntsAre vs ns) (Y:ns.length<=sizeLine) (hr:mR k callerA)
  (F:∀base:Heap,K.In base->base.Ns mainGlobals mg->Bl P w K mg base CX k y fd [x] sp) (R:∀(s:Shared)(u:Value),BindsTo s fd #[[u],[]] [(x,u)])
  (B:∀H:Hp,Only H->SqL K H a (ns.map V.int)->sp [.ref a] H (λv _=>v=.bl true) λ_ _ _=>False)
  (a3:∀H e U,CX [] H N (λ_ _ _=>False) e U->False):
  codeAny (model P w) callerA (.call (.ref y) #[[.ref a],[]]) (λr U=>r=.ok (.ret (.bool true))/\OldK N.heap U.heap/\U.os=N.os/\AllBare U.gens) N:=by
 have D:=Qs hi
 have Z:=hi.length
 --from an abstract heap in which nothing but the script may be tracked
 have M:∀H:Hp,Only H->SqL K H a (ns.map V.int)->HOk P w H N.heap->(∀b,H b≠none->b=a)->(H a≠none->K.lookup a=none)->
   codeAny (model P w) callerA (.call (.ref y) #[[.ref a],[]]) (λr U=>r=.ok (.ret (.bool true))/\OldK N.heap U.heap/\U.os=N.os/\AllBare U.gens) N:=by
  intro H hO hS hok G S
  have c:∀{b:Addr}{o:Obj},N.heap.get? b=some o->H b=none->(To N.heap H).get? b=some o:=λe n=>jW3 e n
  have I:∀{b:Addr}{o:Obj}{g:Array DictEntry}{j:Nat},N.heap.get? b=some o->o.data=.dict g j->H b=none:=fun{b o g j} e d=>by
   cases q:H b with
   |none=>rfl
   |some u=>
    have O:b=a:=G b (by rw[q];simp)
    subst O
    rw[ha]at e;cases e
    have T:Data.seq vs.toArray _=Data.dict g j:=d
    cases T
  have p:∀{b:Addr}{m:Str->Option Value},N.heap.Ns b m->(To N.heap H).Ns b m:=fun{b m}⟨o,g,j,e,d,r⟩=>#[o,g,j,c e (I e d),d,r]
  have a0:K.In (To N.heap H):=λb o e=>c (Q b o e) (by
   cases q:H b with
   |none=>rfl
   |some u=>
    have O:b=a:=G b (by rw[q];simp)
    subst O
    rw[S (by rw[q];simp)]at e;cases e)
  have hM:Mod K mg (To N.heap H):=#[a0,p i,#[A,p hb,a2],let⟨mc,h1,h2⟩:=X;#[mc,p h1,h2]]
  have e0:Ze P w K mg (To N.heap H) callerA [] N H:=#[rfl,hM,λb o e=>of_hidT e,Nat.le_of_eq (jYu _ _),trivial,λb hb=>absurd (show b∈([]:List Addr)from hb) (by simp),hok,.of_eq hg]
  refine codeAny_mono ((F _ a0 (p i)).run callerA [] N H #[[.ref a],[]] [.ref a] [.ref a] _ _ hr e0 (R N (.ref a)) (.cons rfl .nil) (B H hO hS)) λr U h=>?_
  cases r with
  |error e=>exact(a3 H e U h).elim
  |ok fl=>
   cases fl with
   |next=>exact False.elim h
   |brk=>exact False.elim h
   |cont=>exact False.elim h
   |ret u=>
    obtain⟨v,H',os,bare,un,a1,t,q⟩:=h
    have f:v=.bl true:=q
    subst f
    obtain rfl:u=Value.bool true:=t
    refine#[rfl,OldK.of_keep λb o e=>?_,os,bare]
    cases q:H b with
    |none=>exact un.keep b o e q (by intro z;exact absurd (show b∈([]:List Addr)from z) (by simp)) (by simp)
    |some u=>
     rcases hO b with z |⟨ob,xs,z⟩
     ·rw[q]at z;cases z
     ·have l:=un.frzs b ob _ z
      obtain⟨e1,_⟩:=hok b _ z
      obtain⟨C,_⟩:=a1 b _ l
      rw[e]at e1;cases e1
      exact C
 cases hk:K.lookup a with
 |some o=>
  --the script is one of the module's own objects
  have e:=Q a o hk
  rw[ha]at e
  cases e
  refine M (λ_=>none) (λ_=>.inl rfl) (.inr #[_,vs.toArray,_,hk,rfl,rfl,rfl,by rw[bM,Z];exact Y,by simpa using D]) (λb u z=>by have J:(none:Option HO)=some u:=z;cases J) (λb z=>absurd rfl z) λz=>absurd rfl z
 |none=>
  refine M (λb=>if b=a then some (.frz { cls:=.type "list",data:=.seq vs.toArray } (.lst (ns.map V.int)))else none) (λb=>?_) (.inl (.inr #[{ cls:=.type "list",data:=.seq vs.toArray },aJ rfl])) (λb u z=>?_) (λb z=>?_) λ_=>hk
  ·by_cases hb:b=a
   ·exact .inr #[_,_,aJ hb]
   ·exact .inl (aF hb)
  ·by_cases hb:b=a
   ·have J:=(aJ hb).symm.trans z
    cases J
    subst hb
    exact#[ha,by rw[aA];exact Y,vs,_,D,ha]
   ·have J:=(aF hb).symm.trans z
    cases J
  ·by_cases hb:b=a
   ·exact hb
   ·exact absurd (aF hb) z
theorem walk_of{l:PySem.W.OpenLaw}{n:Nat}{q:Program}{j:List Str}{XP:(Str->Option Value)->Heap->Prop}{X:World->Heap->Prop}{d:DefRec}{K:Params->aO}{CX:World->CXT}{sp:World->Sp}{x:Str}
  (R:l.most=some n) (O:n<=sizeLine) (I:d.params.defaults=[]) (hr:mR k callerA)
  (r:∀(w:World)(h:Heap),X w h->(K w.params).In h)
  (F:∀(w:World)(mg:Str->Option Value)(y:Addr)(h:Heap),(K w.params).In h->h.Ns mainGlobals mg->mg d.name=some (.ref y)->
   ∃fd:FuncData,(∀(s:Shared)(u:Value),BindsTo s fd #[[u],[]] [(x,u)])/\
    ∀base:Heap,(K w.params).In base->base.Ns mainGlobals mg->Bl l.prog w (K w.params) mg base (CX w) k y fd [x] (sp w))
  (B:∀(w:World)(H:Hp)(a:Addr)(ns:List Int),ns.length<=n->Only H->SqL (K w.params) H a (ns.map V.int)->sp w [.ref a] H (λv _=>v=.bl true) λ_ _ _=>False)
  (J:∀(w:World)(H:Hp)(s:Shared)(e:Value)(U:Shared),CX w [] H s (λ_ _ _=>False) e U->False):
  PySem.W.WalkO q j XP X l.row.toRowW d [] (λf m=>PySem.call f m):=by
 refine Att.attach_call R I λw s₀ N mg A y o z Z i a m ns G Y D hd p a0 M t C hg=>?_
 have Q:=r w _ Y
 obtain⟨fd,hb,c⟩:=F w mg y _ Q G.T.g a0
 exact jWy Q G.T.g G.T.b G.T.builtins G.T.nolimit hg M t (cO C O) hr c hb (λH S P=>B w H a ns C S P) λH e U=>J w H N e U
noncomputable def jP(s:Stmt)(j:Nat):Stmt:=match s with
 | .ClassDef _ _ _ body _ _ _ _ _ _ _=>body.getD j (.Pass #[0,0,0,0])
 |_=>.Pass #[0,0,0,0]
noncomputable def oR(s:Stmt):Arguments:=match s with
 | .FunctionDef _ a _ _ _ _ _ _ _ _=>a
 |_=>{ posonlyargs:=[],args:=[],vararg:=none,kwonlyargs:=[],kw_defaults:=[],kwarg:=none,defaults:=[] }
noncomputable def nF(s:Stmt):List Stmt:=match s with
 | .FunctionDef _ _ b _ _ _ _ _ _ _=>b
 |_=>[]
noncomputable def eT(s:Stmt):Scope:=match s with
 | .FunctionDef _ _ _ _ _ _ sc _ _ _=>sc
 |_=>{ kind:=.function,names:=[],isGenerator:=false,isCoroutine:=false }
noncomputable abbrev CX0:CXT:=λ_ _ _ _ _ _=>False
noncomputable abbrev E0:XK:=λ_ _ _=>False
theorem jZj{X:Cx}:Cz CX0 X E0:=λ_ _ _ _ _ _ _ h=>h.elim
theorem mW{A:Around}(hr:mR k A):A.units+1<cLine:=iB (fT (by decide:1<=64) _) hr.units
theorem sQ{B:Prop}(h:B):if false=true then A else B:=by
 rw[aF bU]
 exact h
theorem iteT{B:Prop}(h:A):if true=true then A else B:=by
 rw[aJ rfl]
 exact h
theorem mT{c B:Prop} [Decidable c](h1:c->A)(h2:¬c->B):if c then A else B:=by
 by_cases h:c
 ·rw[aJ h]
  exact h1 h
 ·rw[aF h]
  exact h2 h
theorem iteNS{c B:Prop} [Decidable c](hc:c)(h:B):if(!decide c)=true then A else B:=by
 rw[decide_eq_true hc]
 exact sQ h
noncomputable def aP(H H':Hp):Prop:=∀b o,H b=some o->H' b=some o
theorem aP.refl(H:Hp):aP H H:=λ_ _ h=>h
theorem aP.trans{S M:Hp}(a:aP H S)(b:aP S M):aP H M:=λc o h=>b c o (a c o h)
theorem aP.free{H':Hp}(e:aP H H'){l:Addr}(h:H' l=Option.none):H l=Option.none:=by
 cases q:H l with
 |none=>rfl
 |some o=>
  rw[e l o q]at h
  cases h
theorem aP.seq{K:aO}{H':Hp}{a:Addr}{xs:List V}(e:aP H H')(h:SqL K H a xs):SqL K H' a xs:=by
 rcases h with(h |⟨o,h⟩)|h
 ·exact .inl (.inl (e _ _ h))
 ·exact .inl (.inr #[o,e _ _ h])
 ·exact .inr h
end L2
set_option Elab.async false
set_option linter.all false
set_option maxRecDepth 100000
set_option maxHeartbeats 4000000
namespace L2
open PySem PySem.Spec PyProof.Rows
variable{H H':Hp}{Q:Value->Shared->Prop}{a:Addr}{kvs:List (List Key×V)}{u:Value}{xs:List (List Key×Addr×Value)}
section
variable{κ:Type} [DecidableEq κ]
noncomputable def kZ(kvs:List (κ×V))(k:κ):Option V:=(kvs.find? λB=>decide (B.1=k)).map (·.2)
noncomputable def Bg(kvs:List (κ×V))(k:κ)(v:V):List (κ×V):=
 if(kvs.any λB=>decide (B.1=k))=true then kvs.map (λB=>if B.1=k then(B.1,v)else B)else kvs++ [(k,v)]
theorem kL{p:κ×V}{r:List (κ×V)}{k:κ}(e:p.1=k):kZ (p::r) k=some p.2:=by simp [kZ,List.find?_cons,e]
theorem kM{p:κ×V}{r:List (κ×V)}{k:κ}(e:¬p.1=k):kZ (p::r) k=kZ r k:=by simp [kZ,List.find?_cons,e]
theorem yG(k:κ):∀n:List (κ×V),(n.any λB=>decide (B.1=k))=(kZ n k).isSome
 | []=>rfl
 |p::r=>by
  rw[List.any_cons]
  by_cases e:p.1=k
  ·simp only[kL e,decide_eq_true e,Bool.true_or,Option.isSome_some]
  ·rw[kM e,decide_eq_false e,Bool.false_or];exact yG k r
theorem Wv(k j:κ)(y:V):∀n:List (κ×V),kZ (n.map λB=>if B.1=k then(B.1,y)else B) j=(kZ n j).map λx=>if j=k then y else x
 | []=>rfl
 |p::r=>by
  have m:=Wv k j y r
  rw[bR]
  by_cases h:p.1=k
  ·rw[aJ h]
   by_cases e:p.1=j
   ·rw[kL (p:=(p.1,y)) e,kL e,Option.map_some,aJ (e.symm.trans h)]
   ·rw[kM (p:=(p.1,y)) e,kM e,m]
  ·rw[aF h]
   by_cases e:p.1=j
   ·rw[kL (p:=p) e,kL e,Option.map_some,aF (λz=>h (e.trans z))]
   ·rw[kM (p:=p) e,kM e,m]
theorem Qt(k j:κ)(y:V):∀n:List (κ×V),kZ n k=none->kZ (n++ [(k,y)]) j=if j=k then some y else kZ n j
 | [],_=>by
  by_cases e:k=j
  ·rw[aJ e.symm];exact kL (p:=(k,y)) e
  ·rw[aF (λz=>e z.symm)];exact kM (p:=(k,y)) e
 |p::r,hn=>by
  rw[List.cons_append]
  have hk:¬p.1=k:=λz=>by rw[kL z]at hn;cases hn
  rw[kM hk]at hn
  have m:=Qt k j y r hn
  by_cases e:p.1=j
  ·rw[kL e,kL e,aF (λz=>hk (e.trans z))]
  ·rw[kM e,kM e,m]
theorem Ep(kvs:List (κ×V))(k j:κ)(y:V):kZ (Bg kvs k y) j=if j=k then some y else kZ kvs j:=by
 unfold Bg
 by_cases a:(kvs.any λB=>decide (B.1=k))=true
 ·rw[aJ a,Wv]
  rw[yG]at a
  by_cases e:j=k
  ·obtain⟨x,hx⟩:=Option.isSome_iff_exists.mp a
   rw[aJ e,e,hx,Option.map_some,aJ rfl]
  ·rw[aF e]
   cases kZ kvs j with
   |none=>rfl
   |some x=>rw[Option.map_some,aF e]
 ·rw[aF a]
  refine Qt k j y kvs ?_
  rw[yG]at a
  cases q:kZ kvs k with
  |none=>rfl
  |some x=>rw[q]at a;exact(a rfl).elim
theorem zT(kvs:List (κ×V))(k:κ)(v:V):(Bg kvs k v).length<=kvs.length+1:=by
 unfold Bg
 split
 ·rw[aA];omega
 ·rw[bC,cZ,List.length_nil];omega
theorem nI{kvs:List (κ×V)}{k:κ}(v:V)(h:kZ kvs k=none):Bg kvs k v=kvs++ [(k,v)]:=by
 unfold Bg
 rw[yG,h]
 exact aF (by decide)
theorem Bj.isSome_eq{o:Option V}{u:Option Value}(r:Bj o u):o.isSome=u.isSome:=by
 cases o with
 |none=>cases u with
  |none=>rfl
  |some _=>exact(show False from r).elim
 |some _=>cases u with
  |none=>exact(show False from r).elim
  |some _=>rfl
theorem KV.val{kvs:List (κ×V)}{vs:List (κ×Value)}(r:KV kvs vs)(k:κ):Bj (kZ kvs k) (valueAt vs k):=by
 unfold KV at r
 induction r with
 |nil=>exact True.intro
 |@cons p q ps qs h t ih=>
  obtain⟨h1,h2⟩:=h
  by_cases e:p.1=k
  ·have O:q.1=k:=h1.symm.trans e
   have b:valueAt (q::qs) k=some q.2:=by simp [valueAt,List.find?_cons,O]
   rw[kL e,b];exact h2
  ·have O:¬q.1=k:=λz=>e (h1.trans z)
   have b:valueAt (q::qs) k=valueAt qs k:=by simp [valueAt,List.find?_cons,O]
   rw[kM e,b];exact ih
theorem KV.any{kvs:List (κ×V)}{vs:List (κ×Value)}(r:KV kvs vs)(k:κ):(kvs.any λB=>decide (B.1=k))=vs.any λB=>decide (B.1=k):=by
 unfold KV at r
 induction r with
 |nil=>rfl
 |cons h t ih=>rw[List.any_cons,List.any_cons,ih,h.1]
theorem KV.repl{kvs:List (κ×V)}{vs:List (κ×Value)}(r:KV kvs vs)(k:κ){y:V}(P:eZ y u):
  KV (kvs.map λB=>if B.1=k then(B.1,y)else B) (vs.map λB=>if B.1=k then(B.1,u)else B):=by
 unfold KV at r⊢
 induction r with
 |nil=>exact .nil
 |@cons p q ps qs h t ih=>
  rw[bR,bR]
  refine .cons ?_ ih
  obtain⟨h1,h2⟩:=h
  by_cases e:p.1=k
  ·rw[aJ e,aJ (h1.symm.trans e)];exact#[h1,P]
  ·rw[aF e,aF (λz=>e (h1.trans z))];exact#[h1,h2]
theorem KV.put{kvs:List (κ×V)}{vs:List (κ×Value)}(r:KV kvs vs)(k:κ){y:V}(P:eZ y u):KV (Bg kvs k y) (stored vs k u):=by
 unfold Bg stored
 rw[r.any k]
 by_cases e:(vs.any λB=>decide (B.1=k))=true
 ·rw[aJ e,aJ e];exact r.repl k P
 ·rw[aF e,aF e];exact Paired.snoc r #[rfl,P]
theorem KV.length{kvs:List (κ×V)}{vs:List (κ×Value)}(r:KV kvs vs):kvs.length=vs.length:=Paired.length r
end
theorem jZm{P:Program}{w:World}{k:Key}(r:eZ (kV k) u):(kE P w).is k u=true:=by
 cases k with
 |inl i=>obtain⟨t,e⟩:=(show ∃t,u=Value.int i t from r);subst e;exact Yu P w i t
 |inr x=>obtain⟨t,e⟩:=(show ∃t,u=Value.str x t from r);subst e;exact Yt P w x t
theorem Sd{P:Program}{w:World}:∀{ks:List Key}{us:List Value},fD (ks.map kV) us->ItemsAre (kE P w) ks us
 | [],_,r=>by rw[cK]at r;cases r;exact .nil
 |k::ks,_,r=>by
  rw[bR]at r
  cases r with
  |cons h t=>exact .cons (jZm h) (Sd t)
noncomputable abbrev KT(H:Hp):List (List Key×V)->List (List Key×Addr×Value)->Prop:=Paired λp q=>p.1=q.1/\H q.2.1=some (.tup (p.1.map kV))/\eZ p.2 q.2.2
theorem KT.val(r:KT H kvs xs)(k:List Key):Bj (kZ kvs k) ((atKey xs k).map (·.2)):=by
 induction r with
 |nil=>exact True.intro
 |@cons p q ps qs h t ih=>
  obtain⟨h1,_,h2⟩:=h
  by_cases e:p.1=k
  ·have O:q.1=k:=h1.symm.trans e
   have b:atKey (q::qs) k=some q.2:=by simp [atKey,List.find?_cons,O]
   rw[kL e,b];exact h2
  ·have O:¬q.1=k:=λz=>e (h1.trans z)
   have b:atKey (q::qs) k=atKey qs k:=by simp [atKey,List.find?_cons,O]
   rw[kM e,b];exact ih
theorem KT.repl(r:KT H kvs xs)(k:List Key){y:V}(P:eZ y u):
  KT H (kvs.map λB=>if B.1=k then(B.1,y)else B) (xs.map (putAt k u)):=by
 induction r with
 |nil=>exact .nil
 |@cons p q ps qs h t ih=>
  rw[bR,bR]
  refine .cons ?_ ih
  obtain⟨h1,h2,h3⟩:=h
  unfold putAt
  by_cases e:p.1=k
  ·rw[aJ e,aJ (h1.symm.trans e)];exact#[h1,h2,P]
  ·rw[aF e,aF (λz=>e (h1.trans z))];exact#[h1,h2,h3]
theorem KT.put(r:KT H kvs xs)(k:List Key){b:Addr}{y:V}(hb:H b=some (.tup (k.map kV)))(P:eZ y u):
  KT H (Bg kvs k y) (storedH xs k b u):=by
 have e:(kvs.any λB=>decide (B.1=k))=(atKey xs k).isSome:=by
  rw[yG,(r.val k).isSome_eq,Option.isSome_map]
 unfold Bg storedH
 rw[e]
 by_cases q:(atKey xs k).isSome=true
 ·rw[aJ q,aJ q];exact r.repl k P
 ·rw[aF q,aF q];exact Paired.snoc r #[rfl,hb,P]
theorem KT.keeps(r:KT H kvs xs)(y:∀b T,H b=some (.tup T)->H' b=some (.tup T)):KT H' kvs xs:=
 Paired.mapP r λ_ _ z=>#[z.1,y _ _ z.2.1,z.2.2]
section
variable{P:Program}{w:World}{H:Hp}{h:Heap}{a:Addr}
theorem rd_of{u:HO}(ok:HOk P w H h)(e:Rd H a u):jE P w H h a u:=e.ok ok
theorem jZo{kvs:List (Key×V)}(ok:HOk P w H h)(e:Rd H a (.dK kvs)):kvs.length<=sizeLine/\(a==sysModules)=false/\∃m,KV kvs m/\h.DictOf (kE P w) a m:=
 show jE P w H h a (.dK kvs)from rd_of ok e
theorem dk_of{kvs:List (Key×V)}(ok:HOk P w H h)(e:H a=some (.dK kvs)):kvs.length<=sizeLine/\(a==sysModules)=false/\∃m,KV kvs m/\h.DictOf (kE P w) a m:=jZo ok (.inl e)
theorem Mb{ks:List Key}(ok:HOk P w H h)(e:H a=some (.tup (ks.map kV))):(tupleKind (kE P w)).is h ks a:=by
 obtain⟨_,G,r,o,h1,h2,n,h3⟩:=(show jE P w H h a (.tup (ks.map kV))from ok a _ e)
 exact#[o,G.toArray,n,h1,h2,h3,by simpa using Sd r]
theorem jZn(ok:HOk P w H h)(e:Rd H a (.dT kvs)):kvs.length<=sizeLine/\(a==sysModules)=false/\
  ∃F,KT H kvs F/\h.DictOfH (tupleKind (kE P w)) a F:=by
 obtain⟨z,y,F,r,o,g,j,h1,h2,h3,S,T⟩:=(show jE P w H h a (.dT kvs)from rd_of ok e)
 refine#[z,y,F,r,o,g,j,h1,h2,h3,S,λx hx=>?_,T]
 have all:∀{l:List (List Key×V)}{m:List (List Key×Addr×Value)},KT H l m->∀x∈m,(tupleKind (kE P w)).is h x.1 x.2.1:=by
  intro l m q
  induction q with
  |nil=>intro x hx;exact nomatch hx
  |@cons p q ps qs hq t ih=>
   intro x hx
   rcases dW.mp hx with e |hx
   ·subst e
    exact Mb ok (by rw[←hq.1];exact hq.2.1)
   ·exact ih x hx
 exact all r x hx
theorem dt_of(ok:HOk P w H h)(e:H a=some (.dT kvs)):kvs.length<=sizeLine/\(a==sysModules)=false/\
  ∃F,KT H kvs F/\h.DictOfH (tupleKind (kE P w)) a F:=jZn ok (.inl e)
end
noncomputable def Lp(H:Hp)(a:Addr)(y:V)(r:Option V):Prop:=
 (∃kvs k,Rd H a (.dK kvs)/\y=kV k/\r=kZ kvs k)∨∃kvs k b,Rd H a (.dT kvs)/\y=.ref b/\H b=some (.tup (k.map kV))/\r=kZ kvs k
noncomputable def DPut(H:Hp)(a:Addr)(y v:V)(H':Hp):Prop:=
 (∃kvs k,H a=some (.dK kvs)/\y=kV k/\kvs.length<sizeLine/\H'=upd H a (.dK (Bg kvs k v)))∨
 ∃kvs k b,H a=some (.dT kvs)/\y=.ref b/\H b=some (.tup (k.map kV))/\kvs.length<sizeLine/\H'=upd H a (.dT (Bg kvs k v))
theorem Lp.t{b:Addr}{k:List Key}(e:H a=some (.dT kvs))(O:H b=some (.tup (k.map kV))):Lp H a (.ref b) (kZ kvs k):=.inr #[kvs,k,b,.inl e,rfl,O,rfl]
theorem DPut.t{b:Addr}{k:List Key}{v:V}(e:H a=some (.dT kvs))(O:H b=some (.tup (k.map kV)))(Y:kvs.length<sizeLine):
  DPut H a (.ref b) v (upd H a (.dT (Bg kvs k v))):=.inr #[kvs,k,b,e,rfl,O,Y,rfl]
section
variable{X:Cx}{pins:List (Addr×Obj)}{σ:St}{H:Hp}{s:Shared}{a:Addr}{y v:V}{u r:Value}{o:Option V}{A:Around}{E:Value->Shared->Prop}
theorem Inv.big(I:Inv X pins σ H s):sysModules<s.heap.objs.size:=by
 have h:mainGlobals<s.heap.objs.size:=(I.mod.glob.keeps I.bk).lt
 exact Nat.lt_trans (by decide) h
theorem jYz(R:A.units+1<cLine)(I:Inv X pins σ H s)(g:Lp H a y (some v))(P:eZ y u)(h:∀D U,Inv X pins σ H U->eZ v D->Q D U):
  wpAny (model X.prog X.w) A (getItem (.ref a) u) Q E s:=by
 rcases g with⟨n,k,e,B,l⟩|⟨n,k,b,e,B,O,l⟩
 ·subst B
  obtain⟨z,hd,m,d,G⟩:=jZo I.hok e
  obtain⟨D,hw,C⟩:=Bj.some_of (v:=v) (o:=valueAt m k) (by rw[l];exact d.val k)
  exact wpAny_getItem_of (jZm P) G.mapOf hw (h D _ (I.tok _) C)
 ·subst B
  cases(show u=Value.ref b from P)
  obtain⟨z,hd,F,d,G⟩:=jZn I.hok e
  obtain⟨D,hw,C⟩:=Bj.some_of (v:=v) (o:=(atKey F k).map (·.2)) (by rw[l];exact d.val k)
  obtain⟨p,hp,j⟩:=Option.map_eq_some_iff.mp hw
  refine wpAny_getItem_heap (tupleKind_room_in1 R) (Mb I.hok O) G hp ?_
  rw[j]
  exact h D _ (I.tok _) C
theorem d_notIn(R:A.units+1<cLine)(I:Inv X pins σ H s)(g:Lp H a y o)(P:eZ y u)(h:∀U,Inv X pins σ H U->Q (.bool (!o.isSome)) U):
  wpAny (model X.prog X.w) A (compareOp .NotIn u (.ref a)) Q E s:=by
 rcases g with⟨n,k,e,B,l⟩|⟨n,k,b,e,B,O,l⟩
 ·subst B
  obtain⟨z,hd,m,d,G⟩:=jZo I.hok e
  refine wpAny_notIn_of (jZm P) hd G.mapOf ?_
  rw[←(d.val k).isSome_eq,←l]
  exact h _ (I.tok _)
 ·subst B
  cases(show u=Value.ref b from P)
  obtain⟨z,hd,F,d,G⟩:=jZn I.hok e
  refine wpAny_notIn_heap (tupleKind_room_in1 R) (Mb I.hok O) hd G ?_
  have q:=(d.val k).isSome_eq
  rw[Option.isSome_map]at q
  rw[←q,←l]
  exact h _ (I.tok _)
theorem jXh{h':Heap}{t':Nat}{ob:HO}(I:Inv X pins σ H s)(mu:Mut (H a))(hs:Heap.SameBut a s.heap h')(U:∃q,h'.get? a=some q)(new:jE X.prog X.w (upd H a ob) h' a ob):
  Inv X pins σ (upd H a ob) { s with heap:=h',toks:=t' }:=
 I.write (x:=a) (e:=a) mu (.inl rfl) (λb q hb z=>(hs.2 b hb).trans z) U new
theorem dk_new{P:Program}{w:World}{h':Heap}{kvs:List (Key×V)}{vs:List (Key×Value)}(z:kvs.length<=sizeLine)(hd:(a==sysModules)=false)(d:KV kvs vs)(G:h'.DictOf (kE P w) a vs):
  jE P w H' h' a (.dK kvs):=#[z,hd,vs,d,G]
theorem jYy{Q:Unit->Shared->Prop}(R:A.units+1<cLine)(I:Inv X pins σ H s)(g:DPut H a y v H')(P:eZ y u)(D:eZ v r)(h:∀U,Inv X pins σ H' U->Q () U):
  wpAny (model X.prog X.w) A (setItem (.ref a) u r) Q E s:=by
 rcases g with⟨n,k,e,B,l,i⟩|⟨n,k,b,e,B,O,l,i⟩
 ·subst B i
  obtain⟨z,hd,m,d,G⟩:=dk_of I.hok e
  have t:m.length<=sizeLine:=by rw[←d.length];exact z
  have Y:(Bg n k v).length<=sizeLine:=by have:=zT n k v;omega
  refine wpAny_setItem_pairs (hsz:=t) (jZm P) G λM f hs=>h _ ?_
  have x:∃q,M.get? a=some q:=let⟨q,_,_,J,_⟩:=f;#[q,J]
  exact jXh I (by rw[e];exact True.intro) hs x (dk_new Y hd (d.put k D) f)
 ·subst B i
  cases(show u=Value.ref b from P)
  obtain⟨z,hd,F,d,G⟩:=dt_of I.hok e
  have t:F.length<=sizeLine:=by rw[←Paired.length d];exact z
  have Y:(Bg n k v).length<=sizeLine:=by have:=zT n k v;omega
  refine wpAny_setItem_heap (hsz:=t) (tupleKind_room_in1 R) (Mb I.hok O) G λM f hs=>h _ ?_
  obtain⟨q,C,j,J,h2,h3,S,_,K⟩:=f
  refine jXh I (by rw[e];exact True.intro) hs #[q,J] #[Y,hd,_,(d.put k O D).keeps λc T p=>?_,q,C,j,J,h2,h3,S,K]
  rw[bY (kU p e (λz=>nomatch z))]
  exact p
end
noncomputable def NoSl(i:Expr):Prop:=∀b l,subscripted i false b l=operate [b,l] (getItem b l)
theorem subD_of{prog:Program}{w:World}{A:Around}{E:Value->Shared->Prop}{s:Shared}{env:Env}{e d:Expr}{pos:Pos}{T id:String}
  (Y:typeLookup (.type T) "__getitem__"=pure (some (.builtin id))) (hs:NoSl d)
  (h:wpAny (model prog w) A (eval e env) (λo N=>wpAny (model prog w) A (eval d env) (λi g=>g.TypeIs o T/\wpAny (model prog w) A (getItem o i) Q E g) E N) E s):
  wpAny (model prog w) A (eval (.Subscript e d pos) env) Q E s:=by
 refine Subscript_ (wpAny_mono h (λo N a=>wpAny_mono a (λi g j=>?_) λ_ _ x=>x) λ_ _ x=>x)
 obtain⟨B,j⟩:=j
 unfold subscriptTail
 refine aB ?_
 rw[getitemInPython_of_ne B.not_modules]
 refine aB (wpAny_specialOf B Y ?_)
 have fin:wpAny (model prog w) A (subscripted d false o i) (λr b=>wpAny (model prog w) A (letTemporaryGo e o r>>=λ_=>pure r) Q E b) E g:=by
  rw[hs o i]
  exact wpAny_operating (wpAny_mono j (λr b m=>aB (wpAny_letTemporaryGo (aT m))) λ_ _ x=>x)
 first
  |exact aT (aB fin)
  |exact aB (aT (aB fin))
  |exact aB fin
theorem Yy{X:Cx}{B:List (Addr×Obj)}{Z:St}{s:Shared}{y:V}{o:Option V}(I:Inv X B Z H s)(g:Lp H a y o):s.TypeIs (.ref a) "dict":=by
 rcases g with⟨n,k,e,_,_⟩|⟨n,k,b,e,_,_,_⟩
 ·obtain⟨_,_,m,_,G⟩:=jZo I.hok e
  exact G.typeIs
 ·obtain⟨_,_,F,_,G⟩:=jZn I.hok e
  exact G.typeIs
noncomputable def jY(m P:TE):TE:=λZ H Q=>m Z H λx S=>P Z S λy M=>∃a v,x=.ref a/\Lp M a y (some v)/\Q v M
noncomputable def Ef(P m:TE):TE:=λZ H Q=>P Z H λy S=>m Z S λx M=>∃a o,x=.ref a/\Lp M a y o/\Q (.bl (!o.isSome)) M
noncomputable def Bq(m P tv:TE):TS:=λD Z H=>tv Z H λv S=>m Z S λx M=>P Z M λy U=>∃a G,x=.ref a/\DPut U a y v G/\D.nx Z G
section
variable{X:Cx}{o i e value:Expr}{pos pos' tpos:Pos}{td ty tv:TE}
theorem lL(R:X.A.units+1<cLine)(D:PE X o td)(hi:PE X i ty)(hs:NoSl i):PE X (.Subscript o i pos) (jY td ty):=by
 intro B s Z H Q I h
 refine subD_of PySem.F.slot_dict_getitem.lookup hs (thn (D B s Z H _ I h) λu O#[x,S,j,N,q1]=>thn (hi B O Z S _ j q1) λl b#[y,M,k,P,a,v,ex,g,J]=>?_)
 subst ex
 obtain rfl:u=Value.ref a:=N
 exact#[Yy k g,jYz R k g P λc s3 z C=>#[v,M,z,C,J]]
theorem Rn(R:X.A.units+1<cLine)(hi:PE X i ty)(D:PE X o td):PC X .NotIn i o (Ef ty td):=by
 intro B s Z H Q I h
 refine thn (hi B s Z H _ I h) λl O#[y,S,j,P,q1]=>thn (D B O Z S _ j q1) λu F#[x,M,k,N,a,b,ex,g,J]=>?_
 subst ex
 obtain rfl:u=Value.ref a:=N
 exact d_notIn R k g P λs3 z=>#[.bl (!b.isSome),M,z,rfl,J]
theorem Kz(R:X.A.units+1<cLine)(b:PE X o td)(hi:PE X i ty)(hv:PE X value tv)(hs:swapsWith value (some (.Subscript o i pos')) pos.line X.env=pure false):
  PS X (.Assign [.Subscript o i pos'] value pos) (Bq td ty tv):=by
 intro B s Z H D I h
 refine wpAny_Assign_Subscript (thn (hv B s Z H _ I h) λr O#[v,S,j,c,q1]=>thn (b B O Z S _ j q1) λu F#[x,M,k,N,J]=>thn (hi B F Z M _ k J) λl s3#[y,U,z,P,a,G,ex,g,m]=>?_) hs
 subst ex
 obtain rfl:u=Value.ref a:=N
 exact jYy R z g P c λd Y=>#[Z,G,Y,m]
end
theorem jVZ{P:Program}{w:World}(h:Heap)(hb:sysModules<h.objs.size):jE P w H (h.push { cls:=.type "dict",data:=.dict (List.toArray []) }) h.objs.size (.dT []):=
 #[dL _,beq_eq_false_iff_ne.mpr (Ne.symm (bJ hb)),[],.nil,_,(List.toArray []),0,bL _ rfl,#[rfl,rfl,rfl],rfl,rfl,List.nodup_nil]
noncomputable def vL:TE:=λ_ H Q=>∀p,H p=none->Q (.ref p) (upd H p (.dT []))
section
variable{X:Cx}{pos:Pos}
theorem Ev:PE X (.Dict [] [] pos) vL:=λB s Z H Q I h=>
 wpAny_Dict_empty #[.ref s.heap.objs.size,_,I.laid (a:=s.heap.objs.size) (o:=.dT []) (t':=s.toks) (λ_ _ q=>aQ _ q) (aM _) (jVZ s.heap I.big),rfl,h _ (I.hok.fresh (aM _))]
end
end L2
namespace L2
open PySem
variable{H:Hp}{K:aO}{Z:St}{i j:Int}{m:Nat}{p:Addr}{xs:List V}
noncomputable def BB(n:Nat)(i:Int):Prop:=i.natAbs<2^n
noncomputable def Ee(i j:Int):Prop:=∃m n,m+n<=100000000/\((BB m i/\BB n j)∨BB 64 i∨BB 64 j)
noncomputable def CDivB(_ j:Int):Prop:=j≠0/\BB 9000 j
noncomputable def iQ:R2:=rI0 λi j=>.int (i+j)
noncomputable def lA:R2:=rI0 λi j=>.int (i-j)
noncomputable def eU:R2:=rI Ee λi j=>.int (i*j)
noncomputable def kT:R2:=rI CDivB λi j=>.int (i.fdiv j)
noncomputable def Lq:R2:=rI CDiv λi j=>.int (i/j)
noncomputable def iV:R2:=rI (λ_ j=>0<j) λi j=>.int (i%j)
noncomputable def tT:R2:=rI CPow λi j=>.int (i^j.toNat)
noncomputable def iE:V->Hp->VK->Prop:=rU λi=>.int (-i)
noncomputable def kK:R2:=rI0 λi j=>.bl (decide (i<j))
noncomputable def Zc:R2:=rI0 λi j=>.bl (decide (i<=j))
noncomputable def vI:R2:=rI0 λi j=>.bl (decide (j<i))
noncomputable def Tn:R2:=rI0 λi j=>.bl (decide (j<=i))
noncomputable def Cv:List V->Hp->VK->Prop:=λxs H Q=>∃i,xs=[.int i]/\Q (.int (if i<0 then -i else i)) H
noncomputable def jD(K:aO):List V->Hp->VK->Prop:=λxs H Q=>∃p ys,xs=[.ref p]/\(SqL K H p ys∨SqT K H p ys)/\Q (.int ys.length) H
noncomputable def isB(x:V)(H:Hp)(T:String)(b:Bool):Prop:=match x with
 | .int _=>(T="int"/\b=true)∨(T="bool"/\b=false)
 | .bl _=>T="bool"/\b=true
 | .ref p=>T="tuple"/\b=true/\∃xs,H p=some (.tup xs)
 |_=>False
noncomputable def Ki:List V->Hp->VK->Prop:=λxs H Q=>∃x T b,xs=[x,.ty T]/\isB x H T b/\Q (.bl b) H
theorem BB.mono{n:Nat}(h:BB m i)(hm:m<=n):BB n i:=bQ h (gS (by decide) hm)
theorem Ee.l(h:BB 64 i):Ee i j:=#[0,0,by decide,.inr (.inl h)]
theorem Ee.r(h:BB 64 j):Ee i j:=#[0,0,by decide,.inr (.inr h)]
theorem aP.tup{K:aO}{H H':Hp}{a:Addr}{xs:List V}(e:aP H H')(h:SqT K H a xs):SqT K H' a xs:=by
 rcases h with(h |⟨o,h⟩)|h
 ·exact .inl (.inl (e _ _ h))
 ·exact .inl (.inr #[o,e _ _ h])
 ·exact .inr h
theorem Aj{i:Nat}{Q:VK}(h:aE i Z H Q):∃v,Z[i]?=some (some v)/\Q v H:=by
 first
 |exact h
 | (unfold aE at h
    split at h
    ·exact#[_,‹_›,h]
    ·exact h.elim)
theorem Ai{i:Nat}{Q:VK}{v:V}(e:Z[i]?=some (some v))(q:Q v H):aE i Z H Q:=by
 first
 |exact#[v,e,q]
 | (unfold aE
    rw[e]
    exact q)
theorem aP.upd{o:HO}(h:H p=none):aP H (upd H p o):=λb u e=>by
 rw[bY (dE e h)];exact e
theorem BB.of_le{n:Nat}(h:BB n j)(Y:i.natAbs<=j.natAbs):BB n i:=iB Y h
theorem BB.mul{n:Nat}(hi:BB m i)(P:BB n j):BB (m+n) (i*j):=by
 unfold BB at*
 rw[cH,Nat.pow_add]
 exact Nat.mul_lt_mul_of_lt_of_lt hi P
theorem BB.add{n:Nat}(hi:BB n i)(P:BB n j):BB (n+1) (i+j):=by
 unfold BB at*
 rw[jU]
 omega
theorem BB.sub{n:Nat}(hi:BB n i)(P:BB n j):BB (n+1) (i-j):=by
 unfold BB at*
 rw[jU]
 omega
theorem BB.gcd{n:Nat}(P:BB n j)(h0:j≠0):BB n (Int.gcd i j:Nat):=by
 refine P.of_le ?_
 rw[Int.natAbs_natCast]
 exact Int.gcd_le_natAbs_right _ h0
theorem BB.neg{n:Nat}(h:BB n i):BB n (-i):=by unfold BB at*;rwa [Int.natAbs_neg]
theorem Ee.b{n:Nat}(hi:BB m i)(P:BB n j)(h:m+n<=100000000:=by decide):Ee i j:=#[m,n,h,.inl #[hi,P]]
noncomputable def cL(Z:St)(caps:List Nat):St:=caps.map λj=>(Z[j]?).join
noncomputable def vO(J:It)(Z:St)(caps:List Nat)(c:TE)(S:Hp)(fin:List V->Hp->Prop):Prop:=
 ∃(n:Nat)(W:Nat->List V->Hp->Prop),n<=sizeLine/\W 0 [] S/\∀i ys M,i<=n->ys.length=i->W i ys M->
  (J.stop i M/\fin ys M)∨(i<n/\J.go i M/\∀x U,J.yld i M x U->c (some x::cL Z caps) U λy G=>W (i+1) (ys++ [y]) G)
noncomputable def dN(q:TI)(caps:List Nat)(c:TE):TE:=λZ H Q=>q Z H λJ S=>vO J Z caps c S λys M=>∀p,M p=none->Q (.ref p) (upd M p (.lst ys))
noncomputable def Ite(K:aO)(a:Addr):It:=
 #[λi H=>∃xs x,SqL K H a xs/\xs[i]?=some x,λi H v H'=>∃p x,v=.ref p/\H p=none/\H'=upd H p (.tup [.int i,x])/\∀xs,SqL K H a xs->xs[i]?=some x,λi H=>∃xs,SqL K H a xs/\xs.length<=i]
noncomputable def xA(K:aO)(w:TE):TI:=λZ H R=>w Z H λx S=>∃a,x=.ref a/\(∃xs,SqL K S a xs)/\R (Ite K a) S
theorem Ez{a:Addr}{g:TG}{tb:TS}{D:rW}(h:Nat->St->Hp->Prop)(h0:h 0 Z H)(Y:∀i Z H,i<=xs.length->h i Z H->SqL K H a xs)
  (hs:∀i x p Z H,xs[i]?=some x->h i Z H->H p=none->g (.ref p) Z (upd H p (.tup [.int i,x])) λj M=>tb { D with nx:=h (i+1),ct:=h (i+1),bk:=D.nx } j M) (hd:∀Z H,h xs.length Z H->D.nx Z H):
  ∃W:Nat->Nat->St->Hp->Prop,(∃m,W 0 m Z H)/\∀i m Z H,W i m Z H->
   ((Ite K a).stop i H/\D.nx Z H)∨((Ite K a).go i H/\∃N:St->Hp->Prop,(∀G d,N G d->∃l,l<m/\W (i+1) l G d)/\∀x d,(Ite K a).yld i H x d->g x Z d λj M=>tb { D with nx:=N,ct:=N,bk:=D.nx } j M):=by
 refine#[λi m Z H=>m=xs.length-i/\i<=xs.length/\h i Z H,#[xs.length,by simp,dL _,h0],?_]
 rintro i m Z H ⟨rfl,hi,p⟩
 have q:=Y i Z H hi p
 by_cases f:i<xs.length
 ·refine .inr #[#[xs,xs[i],q,by simp [f]],h (i+1),λG d k=>#[xs.length-(i+1),#[],rfl,f,k],λx d y=>?_]
  obtain⟨s,z,e1,C,T,y⟩:=y
  subst e1 T
  exact hs i z s Z _ (y xs q) p C
 ·have e:i=xs.length:=#[]
  subst e
  exact .inl #[#[xs,q,aM _],hd Z H p]
theorem eP{a:Addr}{caps:List Nat}{c:TE}{S:Hp}{fin:List V->Hp->Prop}(W:Nat->List V->Hp->Prop)(hz:xs.length<=sizeLine)(h0:W 0 [] S)(Y:∀i T H,i<=xs.length->W i T H->SqL K H a xs)
  (hs:∀i x T H,xs[i]?=some x->T.length=i->W i T H->c (some x::cL Z caps) H λy G=>W (i+1) (T++ [y]) G) (hd:∀T H,T.length=xs.length->W xs.length T H->fin T H):vO (Itl K a) Z caps c S fin:=by
 refine#[xs.length,W,hz,h0,λi T M hi d hw=>?_]
 have q:=Y i T M hi hw
 by_cases f:i<xs.length
 ·refine .inr #[f,#[xs,xs[i],q,by simp [f]],λx U y=>?_]
  obtain⟨e,y⟩:=y
  subst e
  exact hs i x T _ (y xs q) d hw
 ·have e:i=xs.length:=#[]
  subst e
  exact .inl #[#[xs,q,aM _],hd T M d hw]
theorem jL{lo:Int}{n:Nat}{caps:List Nat}{c:TE}{S:Hp}{fin:List V->Hp->Prop}(W:Nat->List V->Hp->Prop)(hz:n<=sizeLine)(h0:W 0 [] S)
  (hs:∀i T H,i<n->T.length=i->W i T H->c (some (.int (lo+i))::cL Z caps) H λy G=>W (i+1) (T++ [y]) G) (hd:∀T H,T.length=n->W n T H->fin T H):vO (Itr lo n) Z caps c S fin:=by
 refine#[n,W,hz,h0,λi T M hi d hw=>?_]
 by_cases f:i<n
 ·refine .inr #[f,f,λx U y=>?_]
  obtain⟨e1,C⟩:=y
  subst e1 C
  exact hs i T _ f d hw
 ·have e:i=n:=#[]
  subst e
  exact .inl #[aM _,hd T M d hw]
noncomputable def cSum(K:aO):List V->Hp->VK->Prop:=λxs H Q=>∃p ns,xs=[.ref p]/\SqL K H p (List.map V.int ns)/\Q (.int ns.sum) H
noncomputable def cMax:List V->Hp->VK->Prop:=λxs H Q=>∃i j,xs=[.int i,.int j]/\Q (.int (if j>i then j else i)) H
noncomputable def cMin:List V->Hp->VK->Prop:=λxs H Q=>∃i j,xs=[.int i,.int j]/\Q (.int (if j<i then j else i)) H
noncomputable def pX(K:aO):List V->Hp->VK->Prop:=λxs H Q=>∃p ys,xs=[.ref p]/\(SqL K H p ys∨SqT K H p ys)/\∀l,H l=none->Q (.ref l) (upd H l (.lst ys))
theorem aP.put{H':Hp}{o:HO}(s:aP H H')(h:H p=none):aP H (L2.upd H' p o):=λb u e=>by
 rw[bY (dE e h)];exact s b u e
theorem SqT.off{r:Addr}{ys zs:List V}(h:SqT K H p xs)(hr:H r=some (.lst ys)):SqT K (upd H r (.lst zs)) p xs:=by
 rcases h with(h |⟨o,h⟩)|h
 ·exact .inl (.inl (by rw[bY (kU h hr (by intro z;cases z))];exact h))
 ·exact .inl (.inr #[o,by rw[bY (kU h hr (by intro z;cases z))];exact h])
 ·exact .inr h
end L2
namespace L2
open PySem PySem.Spec PyProof.Rows
variable{i j:Int}
theorem bt_int:bootBuiltins "int"=some (.type "int"):=by decide+kernel
theorem bt_bool:bootBuiltins "bool"=some (.type "bool"):=by decide+kernel
theorem Nx:bootBuiltins "tuple"=some (.type "tuple"):=by decide+kernel
theorem nG:bootBuiltins "list"=some (.type "list"):=by decide+kernel
theorem jXn:bootBuiltins "dict"=some (.type "dict"):=by decide+kernel
theorem Mh:bootBuiltins "abs"=some (.builtin "abs"):=by decide+kernel
theorem fX:bootBuiltins "len"=some (.builtin "len"):=by decide+kernel
theorem kR:bootBuiltins "isinstance"=some (.builtin "isinstance"):=by decide+kernel
theorem Mg:bootBuiltins "max"=some (.builtin "max"):=by decide+kernel
theorem Me:bootBuiltins "min"=some (.builtin "min"):=by decide+kernel
theorem bt_sum:bootBuiltins "sum"=some (.builtin "sum"):=by decide+kernel
theorem pC{n:Nat}{k:Int}(h:BB n k):Builtin.Int.intBits k<=n:=by
 unfold Builtin.Int.intBits
 split
 ·exact dL _
 ·rename_i h0
  have hp:k.natAbs≠0:=by simpa using h0
  have h2:=(Nat.log2_lt hp).mpr h
  omega
theorem Ee.ok(h:Ee i j):IntMulOk i j:=by
 obtain⟨m,n,A,⟨h1,h2⟩|h1 |h1⟩:=h
 ·exact IntMulOk.of_le (pC h1) (pC h2) #[]
 ·exact .of_left (pC h1)
 ·exact .of_right (pC h1)
theorem noPyB(h:BB 9000 j):Builtin.divisionGoesByPylong i j=false:=by
 refine PyProof.noPylong_of_log2 ?_
 by_cases c:j.natAbs=0
 ·rw[c];decide+kernel
 ·exact(Nat.log2_lt c).mpr h
section
variable{X:Cx}
theorem dZ:OpR X (binaryOp .Mult) eU:=opI λ_ _ _ _ _ _ _ hc q=>mul_int q hc.ok
theorem nK:OpR X (binaryOp .FloorDiv) kT:=opI λ_ _ _ _ _ _ _ hc q=>floordiv_int hc.1 q (.inl (noPyB hc.2))
theorem kit_ii(K:aO):PySem.W.kitOne K (.type "int") (.type "int")=some true:=by rfl
theorem kit_ib(K:aO):PySem.W.kitOne K (.type "int") (.type "bool")=some false:=by rfl
theorem kit_bb(K:aO):PySem.W.kitOne K (.type "bool") (.type "bool")=some true:=by rfl
theorem kit_tt(K:aO):PySem.W.kitOne K (.type "tuple") (.type "tuple")=some true:=by rfl
theorem Nw:pY X (.builtin "isinstance") Ki:=by
 intro B s Z H F R Q I r h
 obtain⟨x,T,b,rfl,hb,q⟩:=h
 obtain⟨u,c,rfl,g,a⟩:=Qn r
 obtain rfl:c=Value.type T:=a
 have fin:∀tk,EP X B Z Q (.bool b) { s with toks:=tk }:=λtk=>#[.bl b,H,I.tok _,rfl,q]
 cases x with
 |int i=>
  rcases hb with⟨rfl,rfl⟩|⟨rfl,rfl⟩
  ·exact qJ I g (.int i) (kit_ii _) fin
  ·exact qJ I g (.int i) (kit_ib _) fin
 |bl i=>
  obtain⟨rfl,rfl⟩:=hb
  exact qJ I g (.bl i) (kit_bb _) fin
 |ref p=>
  obtain⟨rfl,rfl,F,hp⟩:=hb
  exact qJ I g (.tup hp) (kit_tt _) fin
 |_=>exact(show False from hb).elim
end
noncomputable def nZ(env:Env):List (Str×NameKind)->List (Str×Addr)->List (Str×Addr)
 | [],cs=>cs
 | (n,k)::r,cs=>nZ env r (if(k==NameKind.free)=true then(n,(env.cells.lookup n).getD 0)::cs else cs)
theorem Cg{g:Scope}{env:Env}(h:∀p∈g.names,p.2=.free->∃c,env.cells.lookup p.1=some c):closureFor g env=pure (nZ env g.names []):=by
 have go:∀(f:Str×NameKind->List (Str×Addr)->Sem (ForInStep (List (Str×Addr)))),(∀n k T,f (n,k) T=if(k==NameKind.free)=true then(cellOf env n>>=λa=>pure (ForInStep.yield ((n,a)::T)))else pure (ForInStep.yield T))->
   ∀(l:List (Str×NameKind))(T:List (Str×Addr)),(∀p∈l,p.2=.free->∃c,env.cells.lookup p.1=some c)->(forIn l T f:Sem _)=pure (nZ env l T):=by
  intro f hf l
  induction l with
  |nil=>intro T _;rfl
  |cons p r ih=>
   intro T Y
   obtain⟨n,k⟩:=p
   have hr:∀p∈r,p.2=.free->∃c,env.cells.lookup p.1=some c:=λp hp=>Y p (bI _ hp)
   rw[List.forIn_cons,hf]
   by_cases hk:(k==NameKind.free)=true
   ·obtain⟨c,hc⟩:=Y (n,k) bT (by simpa using hk)
    have F:env.cells.lookup n=some c:=hc
    have e:cellOf env n=pure c:=by unfold cellOf;rw[F]
    rw[aJ hk,e,pure_bind,pure_bind]
    dsimp only
    rw[ih _ hr]
    have C:nZ env ((n,k)::r) T=nZ env r ((n,c)::T):=by
     show nZ env r (if(k==NameKind.free)=true then(n,(env.cells.lookup n).getD 0)::T else T)=_
     rw[aJ hk,F];rfl
    rw[C]
   ·rw[aF hk,pure_bind]
    dsimp only
    rw[ih _ hr]
    have C:nZ env ((n,k)::r) T=nZ env r T:=by
     show nZ env r (if(k==NameKind.free)=true then(n,(env.cells.lookup n).getD 0)::T else T)=_
     rw[aF hk]
    rw[C]
 unfold closureFor
 show(forIn g.names [] _>>=λs=>pure s)=_
 rw[go _ (λn k T=>by rfl) g.names [] h,pure_bind]
theorem Oo{env:Env}:∀{l:List (Str×NameKind)}{cs:List (Str×Addr)},(∀p∈l,p.2=.free->∃c,env.cells.lookup p.1=some c)->(∀p∈cs,env.cells.lookup p.1=some p.2)->∀p∈nZ env l cs,env.cells.lookup p.1=some p.2
 | [],_,_,h,p,hp=>h p hp
 | (n,k)::r,cs,hl,h,p,hp=>by
  refine Oo (l:=r) (λq J=>hl q (bI _ J)) (λq J=>?_) p hp
  by_cases hk:(k==NameKind.free)=true
  ·rw[aJ hk]at J
   rcases dW.mp J with rfl |J
   ·obtain⟨c,hc⟩:=hl (n,k) bT (by simpa using hk)
    have F:env.cells.lookup n=some c:=hc
    show env.cells.lookup n=some ((env.cells.lookup n).getD 0)
    rw[F];rfl
   ·exact h q J
  ·rw[aF hk]at J
   exact h q J
theorem Jw{env:Env}{y:Str}:∀{l:List (Str×NameKind)}{cs:List (Str×Addr)},y∈cs.map (·.1)->y∈(nZ env l cs).map (·.1)
 | [],_,h=>h
 | (n,k)::r,cs,h=>by
  refine Jw (l:=r) ?_
  by_cases hk:(k==NameKind.free)=true
  ·rw[aJ hk];exact bI _ h
  ·rw[aF hk];exact h
theorem Dw{env:Env}{y:Str}:∀{l:List (Str×NameKind)}{cs:List (Str×Addr)},(y,NameKind.free)∈l->y∈(nZ env l cs).map (·.1)
 | [],_,h=>nomatch h
 | (n,k)::r,cs,h=>by
  rcases dW.mp h with e |h
  ·cases e
   refine Jw (l:=r) ?_
   rw[aJ (by rfl)]
   exact bT
  ·exact Dw (l:=r) h
theorem tP{d:Type}{y:Str}:∀{l:List (Str×d)},y∈l.map (·.1)->∃c,l.lookup y=some c
 | [],h=>nomatch h
 | (n,c)::r,h=>by
  cases hx:y==n with
  |true=>exact#[c,by simp only[List.lookup_cons,hx]]
  |false=>
   have M:y∈r.map (·.1):=by
    rcases dW.mp h with e |h
    ·have O:y=n:=e
     rw[O]at hx;simp at hx
    ·exact h
   obtain⟨S,e⟩:=tP M
   exact#[S,by simp only[List.lookup_cons,hx];exact e]
theorem Gg{env:Env}(hk:env.scope.kind=.function):∀{names:List (Str×NameKind)}{y:Str},names.lookup y=some .free->env.kindOf y=some .cell->
  (names.map fun(n,k)=>if(k==NameKind.free&&env.scope.kind== .function&&env.kindOf n==some .cell)then(n,NameKind.cell)else(n,k)).lookup y=some .cell
 | [],_,h,_=>by simp at h
 | (n,k)::r,y,h,hc=>by
  have m:=@Gg env hk r y
  show List.lookup y ((if(k==NameKind.free&&env.scope.kind== .function&&env.kindOf n==some .cell)=true then(n,NameKind.cell)else(n,k))::_)=_
  cases hx:y==n with
  |true=>
   simp only[List.lookup_cons,hx]at h
   cases h
   have e:y=n:=by simpa using hx
   subst e
   have a:(NameKind.free==NameKind.free&&env.scope.kind== .function&&env.kindOf y==some .cell)=true:=by rw[hk,hc];rfl
   rw[aJ a];simp only[List.lookup_cons,hx]
  |false=>
   simp only[List.lookup_cons,hx]at h
   by_cases F:(k==NameKind.free&&env.scope.kind== .function&&env.kindOf n==some .cell)=true
   ·rw[aJ F];simp only[List.lookup_cons,hx];exact m h hc
   ·rw[aF F];simp only[List.lookup_cons,hx];exact m h hc
theorem Oc{env:Env}:∀{names:List (Str×NameKind)}{y:Str},(∀p∈names,p.2≠.cell)->
  (∃k,(names.map fun(n,k)=>if(k==NameKind.free&&env.scope.kind== .function&&env.kindOf n==some .cell)then(n,NameKind.cell)else(n,k)).lookup y=some k/\(k=.cell∨k=.free))->(y,NameKind.free)∈names
 | [],_,_,⟨_,h,_⟩=>by simp at h
 | (n,k)::r,y,hn,⟨kk,h,hkk⟩=>by
  have h:List.lookup y ((if(k==NameKind.free&&env.scope.kind== .function&&env.kindOf n==some .cell)=true then(n,NameKind.cell)else(n,k))::r.map fun(n,k)=>if(k==NameKind.free&&env.scope.kind== .function&&env.kindOf n==some .cell)then(n,NameKind.cell)else(n,k))=some kk:=h
  have m:=@Oc env r y λp hp=>hn p (bI _ hp)
  cases hx:y==n with
  |true=>
   have e:y=n:=by simpa using hx
   subst e
   by_cases F:(k==NameKind.free&&env.scope.kind== .function&&env.kindOf y==some .cell)=true
   ·have hf:k=.free:=by
     rw[Bool.and_eq_true,Bool.and_eq_true]at F
     simpa using F.1.1
    rw[hf];exact bT
   ·rw[aF F]at h
    simp only[List.lookup_cons,hx]at h
    have C:k=kk:=aV h
    subst C
    rcases hkk with z |z
    ·exact absurd z (hn (y,k) bT)
    ·rw[z];exact bT
  |false=>
   have h2:(r.map fun(n,k)=>if(k==NameKind.free&&env.scope.kind== .function&&env.kindOf n==some .cell)then(n,NameKind.cell)else(n,k)).lookup y=some kk:=by
    by_cases F:(k==NameKind.free&&env.scope.kind== .function&&env.kindOf n==some .cell)=true
    ·rw[aJ F]at h;simp only[List.lookup_cons,hx]at h;exact h
    ·rw[aF F]at h;simp only[List.lookup_cons,hx]at h;exact h
   exact bI _ (m #[kk,h2,hkk])
structure sR(FS scope:Scope)(N:List Str)(x:Str)(ys:List Str)(caps:List Nat):Prop where
 ncell:∀y∈scope.names,y.2≠.cell
 kind:scope.kind=.function
 names:∀y∈scope.names,y.2=.local->scope.names.lookup y.1=some .local
 loc:scope.names.lookup x=some .local
 fr:∀p∈scope.names,p.2=.free->FS.names.lookup p.1=some .cell
 fk:FS.kind=.function
 cap:∀p∈ys.zip caps,N[p.2]?=some p.1/\scope.names.lookup p.1=some .free
 len:ys.length=caps.length
 nd:(x::ys).Nodup
noncomputable abbrev Bu(X:Cx)(g:Scope):List (Str×Addr):=nZ X.env g.names []
noncomputable def fE(X:Cx)(g:Scope)(a:List Str)(s:Shared)(H:Hp)(ex:List Addr)(pn:List (Addr×Obj)):Cx:=
 { X with N:=a,s₀:=s,H₀:=H,env:=compEnvC g (Bu X g) s.heap.objs.size X.env,outer:=X.stack,stack:=X.stack,ex:=ex,fn:=λ_=>false,pn:=pn,xe:=λ_ _=>False }
section
variable{X:Cx}{pins:List (Addr×Obj)}{σ:St}{H:Hp}{s:Shared}
theorem Inv.adopt{D:Addr}{o:HO}(I:Inv X pins σ H s)(R:H D=none)(hs:X.s₀.heap.objs.size<=D)(C:D≠X.env.locals)(hc:∀x c,X.env.cells.lookup x=some c->c≠D)(hp:∀p∈X.pn++pins,p.1≠D)
  (new:jE X.prog X.w (upd H D o) s.heap D o):Inv X pins σ (upd H D o) s:=by
 have u:Un X.fs X.ex H (upd H D o) s.heap s.heap->True:=λ_=>trivial
 refine#[I.ok,I.os,I.bare,#[I.base.keep,I.base.slot,λb ob e n hx=>?_,I.base.there,λb F e=>?_,λb ob F e=>?_,λb S e=>?_],I.loc,I.cell,?_,λx c e=>?_,λp h=>?_,λb ob e=>?_,I.len]
 ·rw[bY (bJ (bQ (aW e) hs))];exact I.base.free b ob e n hx
 ·have q:=I.base.tups b F e
  rw[bY (dE q R)];exact q
 ·have q:=I.base.frzs b ob F e
  rw[bY (dE q R)];exact q
 ·obtain⟨Ll,q⟩:=I.base.tbls b S e
  exact#[Ll,by rw[bY (dE q R)];exact q]
 ·rw[bY (Ne.symm C)];exact I.free
 ·rw[bY (hc x c e)];exact I.freeC x c e
 ·obtain⟨U,G,l⟩:=I.pin p h
  exact#[U,by rw[bY (hp p h)];exact G,l]
 ·by_cases hb:b=D
  ·subst hb;rw[aI]at e;cases e;exact new
  ·rw[bY hb]at e
   exact(I.hok b ob e).stay (λc v _ q=>q) (λc q=>by rw[bY (dE q R)];exact q) λc F q=>by rw[bY (dE q R)];exact q
end
section
variable{X:Cx}{scope:Scope}{x:Str}{ys:List Str}{caps:List Nat}{elt iter:Expr}{te:TE}{px pos:Pos}
theorem nxE{d:Type}{t:Sem d}{Q f:d->Shared->Prop}{M:Model}{A:Around}{F E:Value->Shared->Prop}{s:Shared}(c:F=λ_ _=>False)(h:wpAny M A t Q F s)(p:∀a s,Q a s->f a s):wpAny M A t f E s:=
 wpAny_mono h p λe U z=>by
  rw[c]at z
  exact z.elim
noncomputable abbrev Bi(G:List Value)(n:Nat):Obj:={ cls:=.type "list",data:=.seq G.toArray n }
end
theorem We:bootBuiltins "enumerate"=some (.type "enumerate"):=by decide+kernel
section
variable{X:Cx}{pins:List (Addr×Obj)}{σ:St}{H:Hp}{s:Shared}{h':Heap}
theorem Inv.turnedL{t':Nat}{ch:List Addr}(I:Inv X pins σ H s)(k:∀b o,b∉ch->s.heap.get? b=some o->h'.get? b=some o)(hf:∀b∈ch,Tu X pins H b):Inv X pins σ H { s with heap:=h',toks:=t' }:=by
 have a:∀b u,H b=some u->b∉ch:=λb u e z=>by rw[(hf b z).1]at e;cases e
 refine I.step (g':=s.gens) (d':=s.drawn) (ch:=ch) (λb hb=>?_) (λb o _ _ hc e _=>k b o hc e) (λb o _ _ hc e _=>#[o.slots,k b o hc e]) (λ_ _ _ _ n=>n)
  (λb o hc e=>#[o,k b o hc e]) (λ_ _ e=>e) (λ_ _ _ e=>e) (λb S e=>#[(List.toArray []),by rw[e];simp]) (λm hm=>?_) (λb u e=>?_) I.bare
 ·obtain⟨U,G,l,h,d,f⟩:=hf b hb
  exact#[h,G,d,f]
 ·obtain⟨o,g,j,D,r⟩:=hm
  exact#[o,g,j,k _ o (λz=>(hf _ z).2.1 rfl) D,r]
 ·refine(I.hok b u e).stay (λc v hc q=>k c v ?_ q) (λ_ q=>q) λ_ _ q=>q
  rcases hc with z |z
  ·rw[z];exact a b u e
  ·exact a c _ z
end
theorem jX4{P:Program}{w:World}{K:aO}{a1:List Expr}{k:Nat}{tp:Pos}(a e N:Addr)(O:e≠N):
  Tp P w K (.Tuple a1 k tp) (Ite K a) [e,N] e (λi h=>(∃a0,IsEnum h e N i a0)/\h.IsListIter N a i) where
 mem:=by simp
 obj:=λi h st b hb=>by
  obtain⟨⟨a0,U⟩,t⟩:=st
  have z:b=e∨b=N:=by simpa using hb
  rcases z with rfl |rfl
  ·exact#[_,U,λv z=>by
    have z':Data.fields _=Data.cell v:=z
    cases z']
  ·obtain⟨o,e,c,d⟩:=t
   exact#[o,e,λv z=>by rw[d]at z;cases z]
 keep:=λi h M st k=>by
  obtain⟨⟨a0,U⟩,t⟩:=st
  exact#[#[a0,k e (by simp) _ U],t.at λo q=>k N (by simp) o q]
 item:=by
  intro X Q hw S hc i B s Z H E I hf st hg
  subst Q hw S
  obtain⟨F,x,J,hx⟩:=hg
  obtain⟨G,D,p,A⟩:=I.list J
  obtain⟨u,R,g⟩:=D.get hx
  obtain⟨⟨a0,U⟩,t⟩:=st
  refine wpAny_pyNext_enum_item U t p.isList (x:=u) (by simpa using R) O λh1 out a2 tup sz kp=>#[_,rfl,?_]
  refine wpAny_letOwnedTupleGo_enum (s:={ s with heap:=h1,toks:=s.toks+1 }) out λh2 en sb=>?_
  have a3:e<s.heap.objs.size:=aW U
  have a5:s.heap.objs.size≠e:=Nat.ne_of_gt a3
  have l:Heap.SameBut e h1 h2:=sb
  have j:Inv X B Z H { s with heap:=h2,toks:=s.toks+1 }:=I.turnedL (ch:=[e,N]) (λb o hb q=>by
   have m:b≠e/\b≠N:=by simpa using hb
   exact(l.2 b m.1).trans (kp b o m.1 m.2 q)) hf
  have n:H s.heap.objs.size=none:=I.hok.fresh (aM _)
  have a4:h2.get? s.heap.objs.size=some { cls:=.type "tuple",data:=.seq (List.toArray [.int i s.toks,u]) }:=(l.2 _ a5).trans tup
  have I2:Inv X B Z (upd H s.heap.objs.size (.tup [.int i,x])) { s with heap:=h2,toks:=s.toks+1 }:=j.adopt n I.sz (Nat.ne_of_gt I.lt) (λy c q=>by
   obtain⟨v,z⟩:=I.cell y c q
   exact bJ z.lt) (λq J=>bJ (aW (I.pin q J).1)) #[by show 2<=sizeLine;decide,[.int i s.toks,u],.cons #[_,rfl] (.cons g .nil),#[_,a4,rfl,_,rfl]]
  refine#[.ref s.heap.objs.size,_,I2,rfl,#[_,x,rfl,n,rfl,λT hy=>by rw[I.list_inj hy J];exact hx],#[#[_,by have:=en;exact_mod_cast this],?_],λb hb=>?_]
  ·obtain⟨o,q,r⟩:=a2
   exact#[o,(l.2 N (Ne.symm O)).trans q,r]
  ·have a6:=(hf b hb).1
   have z:b=e∨b=N:=by simpa using hb
   have f:b<s.heap.objs.size:=by
    rcases z with rfl |rfl
    ·exact a3
    ·obtain⟨o,q,_⟩:=t
     exact aW q
   rw[bY (bJ f)]
   exact a6
 done:=by
  intro X Q hw S hc i B s Z H E I hf st hg
  subst Q hw S
  obtain⟨F,J,hx⟩:=hg
  obtain⟨G,D,p,A⟩:=I.list J
  obtain⟨⟨a0,U⟩,t⟩:=st
  obtain⟨f0,f1,f2,f3,C,f5⟩:=hf N (by simp)
  have Y:=D.length
  exact wpAny_pyNext_enum_end (I.ok.hd hc) U t p.isList (by simp;omega) λM eb=>#[rfl,I.turned (t':=s.toks) (λb o hb e=>eb b o hb e) f0 f1 f3 C f5]
 self:=λ_ _ _ _ _ st h=>by
  obtain⟨⟨a0,U⟩,t⟩:=st
  exact wpAny_pyIter_enum U h
section
variable{X:Cx}
theorem Ei{i:List Expr}{k:Nat}{Q:Pos}{a:Expr}{w:TE}{p pos:Pos}(hg:Gl X "enumerate")(hm:X.mg "enumerate"=none)(Y:PE X a w)(hs:starEach [a] X.env=[(false,eval a X.env)]:=by rfl):PI X (.Tuple i k Q) (.Call (.Name "enumerate" p) [a] [] pos) (xA X.K w):=by
 intro B s Z H R I h
 have n:PA X [a] (aH w bE):=aC Y aN (by rw[hs];rfl)
 refine Call_ (lS I hg hm We (cI (thn (n pos B s Z H (λm S=>∃x,m=[x]/\∃a,x=.ref a/\(∃F,SqL X.K S a F)/\R (Ite X.K a) S) I ?_) λv O#[m,S,j,f,q1]=>?_) hs rfl))
 ·show w Z H λx S=>∃y,[x]=[y]/\_
  have e:(fun(x:V)(S:Hp)=>∃y,[x]=[y]/\∃a,y=V.ref a/\(∃F,SqL X.K S a F)/\R (Ite X.K a) S)=λx S=>∃a,x=V.ref a/\(∃F,SqL X.K S a F)/\R (Ite X.K a) S:=by
   funext x S
   exact propext #[fun⟨y,e,r⟩=>by cases e;exact r,λr=>#[x,rfl,r]]
  have M:w Z H λx S=>∃a,x=V.ref a/\(∃F,SqL X.K S a F)/\R (Ite X.K a) S:=h
  rw[←e]at M
  exact M
 ·obtain⟨x,e1,b,C,⟨F,J⟩,q⟩:=q1
  subst e1 C
  obtain⟨u,rfl,g⟩:=xS f
  cases g
  obtain⟨G,D,l,A⟩:=j.list J
  refine call_enumerate_list l.isList λh1 U t P hk=>?_
  refine wpAny_pyIter_enum U ?_
  have o:Inv X B Z S { O with heap:=h1 }:=j.kept (t':=O.toks) hk
  refine#[O.heap.objs.size+1,[O.heap.objs.size+1,O.heap.objs.size],_,Ite X.K b,S,rfl,o,jX4 b _ _ (Nat.succ_ne_self _),#[#[_,U],t],λc hc=>?_,q]
  have z:c=O.heap.objs.size+1∨c=O.heap.objs.size:=by simpa using hc
  have d:O.heap.objs.size<=c:=by rcases z with rfl |rfl<;>omega
  exact j.fpOk d (j.hok.fresh d)
theorem Jo(ns:List Int):∀n,n<=ns.length->preSum (λi=>ns.getD i 0) n=(ns.take n).sum
 |0,_=>by simp [preSum]
 |n+1,h=>by
  show preSum _ n+ns.getD n 0=_
  have R:n<ns.length:=#[]
  rw[Jo ns n #[],List.take_succ,List.sum_append,aR,aD R]
  simp
theorem Sm(hc:X.calm=true):pY X (.builtin "sum") (cSum X.K):=by
 intro B s Z H F R Q I r h
 obtain⟨p,ns,rfl,J,q⟩:=h
 obtain⟨u,rfl,g⟩:=xS r
 cases g
 obtain⟨G,D,l,k⟩:=I.list J
 have Y:=D.length
 rw[aA]at Y
 have d:p<s.heap.objs.size:=by obtain⟨o,e,_⟩:=l.isList;exact aW e
 refine call_sum_walkG (wpAny_pyIter_list l.isList #[s.heap.objs.size,_,_,_,_,_,λi=>ns.getD i 0,rfl,Walks.list (A:=X.A.in1) (I.ok.hd hc) s.heap.objs.size p (bJ d) G.toArray,#[#[_,bL _ rfl,rfl,rfl],l.isList.push _],λb hb=>?_,λi v hv=>?_,λM tk O hk=>?_])
 ·show b<(s.heap.push _).objs.size
  rw[Heap.size_push]
  have z:b=s.heap.objs.size∨b=p:=by simpa using hb
  rcases z with rfl |rfl
  ·exact gD _
  ·exact Nat.lt_succ_of_lt d
 ·have a:G[i]?=some v:=by simpa using hv
  obtain⟨x,ex,N⟩:∃x,(List.map V.int ns)[i]?=some x/\eZ x v:=by
   have hi:i<G.length:=(aK.mp a).1
   have f:i<(List.map V.int ns).length:=by rw[aA];omega
   obtain⟨u,c,g⟩:=D.get (i:=i) (x:=(List.map V.int ns)[i]) (aD f)
   rw[a]at c;cases c
   exact#[_,aD f,g]
  rw[aY]at ex
  cases e:ns[i]? with
  |none=>rw[e]at ex;cases ex
  |some z=>
   rw[e]at ex
   have:V.int z=x:=aV ex
   subst this
   obtain⟨t,rfl⟩:=N
   exact#[t,by show Value.int z t=Value.int (ns.getD i 0) t;rw[aR,e];rfl]
 ·have e:preSum (λi=>ns.getD i 0) G.toArray.size=ns.sum:=by
   rw[bM,←Y,Jo ns _ (aM _),cA]
  rw[e]
  refine#[.int ns.sum,H,I.kept λb o q=>?_,#[_,rfl],q]
  exact hk b o (by
   intro z
   have j:b=s.heap.objs.size:=by simpa using z
   exact absurd (aW q) (by rw[j];exact eV _)) (aQ _ q)
theorem Si{A:Around}{s:Shared}{u v:Value}(f:eZ (.int i) u)(d:eZ (.int j) v):SeqAt.EqAt A s u v (i==j):=by
 obtain⟨t,rfl⟩:=f
 obtain⟨O,rfl⟩:=d
 exact λprog w E Q J=>wpAny_eqBool_int J
end
noncomputable def eE(K:aO)(x:Str):Addr:=match PySem.W.nsIn K mainGlobals x with
 |some (some (.ref C))=>C
 |_=>0
theorem nE{K:aO}{x:Str}{C:Addr}(h:PySem.W.nsIn K mainGlobals x=some (some (.ref C))):eE K x=C:=by unfold eE;rw[h]
section
open PySem.W Builtin Builtin.ObjectAttr Builtin.Getset_descriptor
end
end L2
namespace L2
end L2
namespace L2
open PySem PySem.Spec PyProof.Rows Builtin Builtin.ObjectAttr
end L2
namespace L2
open PySem PySem.Spec PyProof.Rows
variable{A:Around}{H:Hp}{J:It}{K:aO}{N:List Str}{Q:Option Value->Shared->Prop}{U a0 p p1:Pos}{X:Cx}{a d z:Addr}{c:TE}{caps:List Nat}{e:Scope}{ex:List Addr}{g:TG}{h:Heap}{i j k:Nat}{kvs:List (List Key×V)}{o ob:Obj}{prog:Program}{s:Shared}{tb:TS}{xs ys:List V}
section
open PySem.W Builtin Builtin.ObjectAttr Builtin.Getset_descriptor
end
noncomputable def REq(K:aO)(H:Hp)(D:V->V->Bool->Prop)(x y:V)(b:Bool):Prop:=∃a c xs ys,x=.ref a/\y=.ref c/\
 ((SqL K H a xs/\SqL K H c ys/\((xs.length≠ys.length/\b=false)∨(xs.length=ys.length/\∃e:Nat->Bool,(∀(j:Nat) x' y',xs[j]?=some x'->ys[j]?=some y'->D x' y' (e j))/\b=(List.range xs.length).all e)))∨
  (SqT K H a xs/\SqT K H c ys/\∃e:Nat->Bool,(∀(j:Nat) x' y',xs[j]?=some x'->ys[j]?=some y'->D x' y' (e j))/\b=((List.range (min xs.length ys.length)).all e&&xs.length==ys.length)))
noncomputable def DEq(K:aO)(H:Hp):Nat->V->V->Bool->Prop
 |0,x,y,b=>(x=y/\(∃a,x=.ref a)/\b=true)∨∃i j,x=.int i/\y=.int j/\b=(i==j)
 |n+1,x,y,b=>((x=y/\(∃a,x=.ref a)/\b=true)∨∃i j,x=.int i/\y=.int j/\b=(i==j))∨(x≠y/\REq K H (DEq K H n) x y b)
noncomputable def rEqD(K:aO)(n:Nat):R2:=λx y H Q=>∃b,REq K H (DEq K H n) x y b/\Q (.bl b) H
theorem fD.ix{us:List Value}(r:fD xs us)(h:j<us.toArray.size):∃x,xs[j]?=some x/\eZ x us.toArray[j]:=by
 have Y:=r.length
 have h1:j<us.length:=by simpa using h
 have h2:j<xs.length:=#[]
 obtain⟨u,e,q⟩:=r.get (i:=j) (x:=xs[j]) (aD h2)
 refine#[xs[j],aD h2,?_]
 have C:us.toArray[j]=u:=by
  obtain⟨_,z⟩:=aK.mp e
  simpa using z
 rw[C];exact q
section
variable{X:Cx}{pins:List (Addr×Obj)}{σ:St}{H:Hp}{s:Shared}
theorem rc_of{D:V->V->Bool->Prop}(I:Inv X pins σ H s)(k:A.units<cLine)(l:∀x y u v b,eZ x u->eZ y v->D x y b->SeqAt.EqAt A.in1 s u v b){x y:V}{u v:Value}{b:Bool}(N:eZ x u)(P:eZ y v)(h:REq X.K H D x y b):SeqAt.RcAt A s u v b:=by
 obtain⟨a,c,F,T,rfl,rfl,h⟩:=h
 cases N
 cases P
 rcases h with⟨ha,hc,h⟩|⟨ha,hc,e,U,rfl⟩
 ·obtain⟨S,f,M,_⟩:=I.list ha
  obtain⟨m,d,Z,_⟩:=I.list hc
  have w:=f.length
  have n:=d.length
  rcases h with⟨R,rfl⟩|⟨Y,e,U,rfl⟩
  ·exact SeqAt.RcAt.lists_lengths M.isList Z.isList (by rw[bM,bM];simp;omega) k
  ·have q:=SeqAt.RcAt.lists (e:=e) M.isList Z.isList (by rw[bM,bM];omega) k λj h1 h2=>by
    obtain⟨O,ex,g⟩:=f.ix h1
    obtain⟨o,B,i⟩:=d.ix h2
    exact l _ _ _ _ _ g i (U j O o ex B)
   rw[bM,←w]at q
   exact q
 ·obtain⟨S,f,M,_⟩:=I.tuple ha
  obtain⟨m,d,Z,_⟩:=I.tuple hc
  have w:=f.length
  have n:=d.length
  have q:=SeqAt.RcAt.tuples (e:=e) M Z k λj h1 h2=>by
   obtain⟨O,ex,g⟩:=f.ix h1
   obtain⟨o,B,i⟩:=d.ix h2
   exact l _ _ _ _ _ g i (U j O o ex B)
  rw[bM,bM,←w,←n]at q
  exact q
theorem jXd{x y:V}{u v:Value}{b:Bool}(N:eZ x u)(P:eZ y v)(h:(x=y/\(∃a,x=.ref a)/\b=true)∨∃i j,x=.int i/\y=.int j/\b=(i==j)):SeqAt.EqAt A s u v b:=by
 rcases h with⟨rfl,⟨a,rfl⟩,rfl⟩|⟨i,j,rfl,rfl,rfl⟩
 ·cases N
  cases P
  exact SeqAt.EqAt.same _
 ·exact Si N P
theorem Sg(I:Inv X pins σ H s):∀(n:Nat)(A:Around),A.units+n<cLine->∀x y u v b,eZ x u->eZ y v->DEq X.K H n x y b->SeqAt.EqAt A s u v b
 |0,_,_,_,_,_,_,_,N,P,h=>jXd N P h
 |n+1,A,hu,x,y,u,v,b,N,P,h=>by
  rcases h with h |⟨O,h⟩
  ·exact jXd N P h
  ·have q:=rc_of I (A:=A) #[] (λx y u v b N P d=>Sg I n A.in1 (by show A.units+1+n<cLine;omega) x y u v b N P d) N P h
   obtain⟨a,c,F,T,rfl,rfl,_⟩:=h
   cases N
   cases P
   exact SeqAt.EqAt.of_refs (λz=>O (by rw[z])) q
end
section
variable{X:Cx}
theorem op_eqD(n:Nat)(R:X.A.units+(n+1)<cLine):OpR X (compareOp .Eq) (rEqD X.K n):=by
 intro B s Z H x y v u Q I N P h
 obtain⟨b,h,q⟩:=h
 exact rc_of I (A:=X.A) #[] (Sg I n X.A.in1 (by show X.A.units+1+n<cLine;omega)) N P h _ _ _ _ #[.bl b,H,I,rfl,q]
end
noncomputable def sB:R2:=λx y H Q=>∃a b xs ys,x=.ref a/\y=.ref b/\H a=some (.tup xs)/\H b=some (.tup ys)/\xs.length+ys.length<=sizeLine/\∀p H',aP H H'->H' p=some (.tup (xs++ys))->Q (.ref p) H'
noncomputable def Qa:V->Option Int->Option Int->Hp->VK->Prop:=λx lo hi H Q=>∃a xs,x=.ref a/\H a=some (.tup xs)/\∀p H',aP H H'->H' p=some (.tup (qL xs lo hi))->Q (.ref p) H'
section
variable{X:Cx}
theorem vT:OpR X (binaryOp .Add) sB:=by
 intro B s Z H x y v u Q I N P h
 obtain⟨a,b,r,T,rfl,rfl,ha,hb,A,q⟩:=h
 by_cases hx:r=[]
 ·subst hx
  cases N
  cases P
  obtain⟨S,f,M,_⟩:=I.tuple (SqT.of ha)
  obtain⟨Y,d,t,_⟩:=I.tuple (SqT.of hb)
  have e1:S=[]:=by cases f;rfl
  subst e1
  obtain⟨⟨m,G,k,sl⟩,D,hc,n,hd⟩:=id M
  obtain⟨⟨l,i,j,o⟩,c,g,n2,z⟩:=id t
  simp only at hc hd g z
  subst hc hd g z
  exact concat_meets #[_,D,rfl] #[_,c,rfl] noFill_tuple_add seq_tuple_add PySem.F.slot_tuple_add PySem.F.entry_tuple_add (PySem.F.args_tuple_add_2 _ _) (tuple_addW0 a b _ _ n n2 G i sl o (by simp)) #[D,c,#[.ref b,H,I,rfl,q b H (aP.refl H) hb]]
 ·refine op_catT B s Z H _ _ v u Q I N P #[a,b,r,T,rfl,rfl,SqT.of ha,SqT.of hb,hx,A,λe=>?_,λ_ p hp=>q p _ (aP.upd hp) aI]
  subst e
  exact q a H (aP.refl H) (by rw[bZ];exact ha)
end
theorem Yz:bootBuiltins "reversed"=some (.type "reversed"):=by decide+kernel
section
variable{prog:Program}{w:World}{A:Around}{E:Value->Shared->Prop}{s:Shared}
open HT in
theorem Yf{t sl:Addr}{items:Array Value}{vl vu:Value}{lo hi:Option Int}{Q:Value->Shared->Prop}(ht:IsTup s.heap t items)(hs:s.heap.IsSliceOf sl vl vu .none)(pl:IsPart vl lo)(pu:IsPart vu hi)
  (hw:sIx items.size 0 lo=0/\sIx items.size items.size hi=items.size) (h:Q (.ref t) s):wpAny (model prog w) A (getItem (.ref t) (.ref sl)) Q E s:=by
 obtain⟨os,hos,hcs,hds⟩:=id hs
 have hTs:s.TypeIs (.ref sl) "slice":=#[os,hos,hcs]
 unfold getItem
 try with_reducible refine wpAny_holding ?_
 first |refine aB (aT ?_)|skip
 refine aB (wpAny_sequenceKey ht.typeIs (by decide) ?_)
 refine aB (wpAny_callSpecial?_slot (name:=Str.ofString "__getitem__") ht.typeIs PyProof.Rows.slot_tuple_getitem
  (wpAny_call_entry PyProof.Rows.slot_tuple_getitem ht.typeIs entry_tuple_getitem ?_ (args_tuple_getitem _ _)))
 show wpAny _ _ (Builtin.Tuple.tupleItemsOf (.ref t)>>=_) _ _ s
 refine aB (tupleItemsOf_ ht ?_)
 refine aB (wpAny_typeOf hTs ?_)
 rw[aJ (by decide)]
 refine aB (vC hs pl pu ?_)
 have yes:((((sIx items.size 0 lo:Nat):Int)==0&&(1:Int)==1&&(sIx items.size items.size hi-sIx items.size 0 lo)==items.size)=true):=by
  rw[hw.1,hw.2];simp
 show wpAny _ _ (if(((sIx items.size 0 lo:Nat):Int)==0&&(1:Int)==1&&(sIx items.size items.size hi-sIx items.size 0 lo)==items.size)=true then _ else _) _ _ s
 rw[aJ yes]
 unfold Builtin.Tuple.tupleIsExact
 refine aB (aB (wpAny_typeOf ht.typeIs (aT ?_)))
 rw[aJ (by decide)]
 first
  |exact aB (wpAny_rule (aT #[_,rfl,aT h]))
  |exact aB (wpAny_rule (aB (aT (aT #[_,rfl,aT h]))))
  |exact aB (wpAny_rule (aT h))
end
section
variable{X:Cx}
theorem jZQ{lo hi:Option Int}(h:HT.sIx xs.length 0 lo=0/\HT.sIx xs.length xs.length hi=xs.length):qL xs lo hi=xs:=by
 unfold qL
 rw[h.1,h.2,List.drop_zero,Nat.sub_zero,cA]
theorem Ak:SlR X Qa:=by
 intro B s Z H x v c d b hi sl Q I N hs l g h
 obtain⟨a,F,rfl,hx,q⟩:=h
 by_cases hw:HT.sIx F.length 0 b=0/\HT.sIx F.length F.length hi=F.length
 ·cases N
  obtain⟨G,r,y,A⟩:=I.tuple (SqT.of hx)
  have C:G.toArray.size=F.length:=by rw[bM];exact r.length.symm
  refine#["tuple",_,PyProof.Rows.slot_tuple_getitem.lookup,y.typeIs,?_]
  exact Yf y hs l g (by rw[C];exact hw) #[.ref a,H,I,rfl,q a H (aP.refl H) (by rw[jZQ hw];exact hx)]
 ·exact sl_tup B s Z H _ v c d b hi sl Q I N hs l g #[a,F,rfl,SqT.of hx,hw,λp hp=>q p _ (aP.upd hp) aI]
end
noncomputable def Itv(K:aO)(a:Addr)(n:Nat):It:=
 #[λi H=>i<n/\∃xs,SqL K H a xs/\xs.length=n,λi H v H'=>H'=H/\∀xs,SqL K H a xs->xs[n-1-i]?=some v,λi _=>n<=i]
noncomputable def iRev(K:aO)(w:TE):TI:=λZ H R=>w Z H λx S=>∃a xs,x=.ref a/\SqL K S a xs/\R (Itv K a xs.length) S
theorem jY8{P:Program}{w:World}{l:Expr}(a N:Addr)(n:Nat):Tp P w K l (Itv K a n) [N] N (λi h=>i<=n/\h.IsRevIter N a ((n:Int)-1-(i:Int))) where
 mem:=by simp
 obj:=λi h st b hb=>by
  obtain⟨_,o,e,c,d⟩:=st
  have z:b=N:=by simpa using hb
  subst z
  exact#[o,e,λv z=>by rw[d]at z;cases z]
 keep:=λi h M st k=>#[st.1,st.2.at λo q=>k N (by simp) o q]
 item:=by
  intro X Q hw S hc i B s Z H E I hf st hg
  subst Q hw S
  obtain⟨hi,F,J,R⟩:=hg
  obtain⟨G,D,p,A⟩:=I.list J
  have Y:=D.length
  obtain⟨f0,r,f2,U,j,f5⟩:=hf N (by simp)
  have e1:(n:Int)-1-(i:Int)=((n-1-i:Nat):Int):=#[]
  have t:=st.2
  rw[e1]at t
  have f:n-1-i<F.length:=#[]
  obtain⟨u,hu,g⟩:=D.get (aD f)
  refine wpAny_pyNext_rev_item t p.isList (x:=u) (by simpa using hu) λM m sb=>#[_,rfl,?_]
  obtain⟨o',y,a0,a1⟩:=id m
  refine go_of y a0 a1 (by decide+kernel) ?_
  have C:((n-1-i:Nat):Int)-1=(n:Int)-1-((i+1:Nat):Int):=#[]
  rw[C]at m
  exact#[_,H,I.turned (t':=s.toks) (λb o hb e=>(sb.2 b hb).trans e) f0 r U j f5,g,#[rfl,λT hy=>by rw[I.list_inj hy J];exact aD f],#[hi,m],λb hb=>by
   have z:b=N:=by simpa using hb
   rw[z];exact f0]
 done:=by
  intro X Q hw S hc i B s Z H E I hf st hg
  subst Q hw S
  obtain⟨f0,r,f2,U,j,f5⟩:=hf N (by simp)
  have e1:(n:Int)-1-(i:Int)= -1:=by
   have:=st.1
   have h2:n<=i:=hg
   omega
  have t:=st.2
  rw[e1]at t
  exact wpAny_pyNext_rev_end (I.ok.hd hc) t λM O=>#[rfl,I.turned (t':=s.toks) (λb o hb e=>O b o hb e) f0 r U j f5]
 self:=λ_ _ _ _ _ st h=>wpAny_pyIter_revIter st.2 h
section
variable{X:Cx}
theorem pi_rev{d:Expr}{a:Expr}{w:TE}{pos:Pos}(hg:Gl X "reversed")(hm:X.mg "reversed"=none)(Y:PE X a w)(hs:starEach [a] X.env=[(false,eval a X.env)]:=by rfl):PI X d (.Call (.Name "reversed" p) [a] [] pos) (iRev X.K w):=by
 intro B s Z H R I h
 have i:PA X [a] (aH w bE):=aC Y aN (by rw[hs];rfl)
 refine Call_ (lS I hg hm Yz (cI (thn (i pos B s Z H (λm S=>∃x,m=[x]/\∃a F,x=.ref a/\SqL X.K S a F/\R (Itv X.K a F.length) S) I ?_) λk O#[m,S,j,f,q1]=>?_) hs rfl))
 ·show w Z H λx S=>∃y,[x]=[y]/\_
  have e:(fun(x:V)(S:Hp)=>∃y,[x]=[y]/\∃a F,y=V.ref a/\SqL X.K S a F/\R (Itv X.K a F.length) S)=λx S=>∃a F,x=V.ref a/\SqL X.K S a F/\R (Itv X.K a F.length) S:=by
   funext x S
   exact propext #[fun⟨y,e,r⟩=>by cases e;exact r,λr=>#[x,rfl,r]]
  have M:w Z H λx S=>∃a F,x=V.ref a/\SqL X.K S a F/\R (Itv X.K a F.length) S:=h
  rw[←e]at M
  exact M
 ·obtain⟨x,e1,b,F,C,J,q⟩:=q1
  subst e1 C
  obtain⟨u,rfl,g⟩:=xS f
  cases g
  obtain⟨G,D,l,A⟩:=j.list J
  have Y:=D.length
  refine call_reversed_list l.isList ?_
  have t:(O.heap.push (revObj b (((G.toArray.size:Nat):Int)-1))).IsRevIter O.heap.objs.size b ((F.length:Int)-1-((0:Nat):Int)):=#[_,bL _ rfl,rfl,by
   show Data.fields (List.toArray [.ref b,rawInt (((G.toArray.size:Nat):Int)-1)])=_
   rw[bM,←Y];simp]
  refine wpAny_pyIter_revIter (s:={ O with heap:=O.heap.push (revObj b (((G.toArray.size:Nat):Int)-1)) }) t ?_
  refine#[O.heap.objs.size,[O.heap.objs.size],_,Itv X.K b F.length,S,rfl,j.kept (t':=O.toks) λc o e=>aQ _ e,jY8 b _ _,#[dL _,t],λc hc=>?_,q]
  have z:c=O.heap.objs.size:=by simpa using hc
  exact j.fpOk (Nat.le_of_eq z.symm) (j.hok.fresh (Nat.le_of_eq z.symm))
end
theorem for_rev{D:rW}{Z:St}(h:Nat->St->Hp->Prop)(h0:h 0 Z H)(Y:∀i Z H,i<=xs.length->h i Z H->SqL K H a xs)
  (hs:∀i x Z H,i<xs.length->xs[xs.length-1-i]?=some x->h i Z H->g x Z H λj M=>tb { D with nx:=h (i+1),ct:=h (i+1),bk:=D.nx } j M) (hd:∀Z H,h xs.length Z H->D.nx Z H):
  ∃W:Nat->Nat->St->Hp->Prop,(∃m,W 0 m Z H)/\∀i m Z H,W i m Z H->
   ((Itv K a xs.length).stop i H/\D.nx Z H)∨((Itv K a xs.length).go i H/\∃N:St->Hp->Prop,(∀G d,N G d->∃l,l<m/\W (i+1) l G d)/\∀x d,(Itv K a xs.length).yld i H x d->g x Z d λj M=>tb { D with nx:=N,ct:=N,bk:=D.nx } j M):=by
 refine#[λi m Z H=>m=xs.length-i/\i<=xs.length/\h i Z H,#[xs.length,by simp,dL _,h0],?_]
 rintro i m Z H ⟨rfl,hi,p⟩
 have q:=Y i Z H hi p
 by_cases f:i<xs.length
 ·refine .inr #[#[f,xs,q,rfl],h (i+1),λG d k=>#[xs.length-(i+1),#[],rfl,f,k],λx d y=>?_]
  obtain⟨e,y⟩:=y
  subst e
  exact hs i x Z _ f (y xs q) p
 ·have e:i=xs.length:=#[]
  subst e
  exact .inl #[aM _,hd Z H p]
noncomputable def oS(J:It)(Z:St)(caps:List Nat)(l:TT)(c:TE)(S:Hp)(fin:List V->Hp->Prop):Prop:=
 ∃(n:Nat)(W:Nat->List V->Hp->Prop),n<=sizeLine/\W 0 [] S/\∀i ys M,i<=n->ys.length<=i->W i ys M->
  (J.stop i M/\fin ys M)∨(i<n/\J.go i M/\∀x U,J.yld i M x U->l (some x::cL Z caps) U λb G=>if b=true then c (some x::cL Z caps) G λy w=>W (i+1) (ys++ [y]) w else W (i+1) ys G)
noncomputable def jZ(q:TI)(caps:List Nat)(l:TT)(c:TE):TE:=λZ H Q=>q Z H λJ S=>oS J Z caps l c S λys M=>∀p,M p=none->Q (.ref p) (upd M p (.lst ys))
noncomputable def Qq:List V->Hp->VK->Prop:=λxs H Q=>∃p kvs,xs=[.ref p]/\H p=some (.dT kvs)/\Q (.int (kvs.length:Nat)) H
theorem len_any{w:World}(hd:(d==sysModules)=false):MeetsIn prog w (Builtin.«dict.__len__» #[[.ref d],[]]) (λ_ R s=>∃o g j,s.heap.get? d=some o/\o.data=.dict g j/\R (.ok (.ret (.int (g.size:Nat) s.toks))) { s with toks:=s.toks+1 }):=
 .of_wp λA R s#[o,g,j,D,c,h]=>by
  show wpAny _ _ (dictSize d>>=_) _ _ s;unfold dictSize
  refine aB (aB (wpAny_dictEntries D c (aT ?_)))
  show wpAny _ _ (Builtin.Dict.pendingCount d>>=_) _ _ s;refine aB (wpAny_pendingCount_other hd ?_)
  refine wpAny_ret_mkInt ?_;rw[Nat.add_zero];exact h
section
variable{X:Cx}
theorem Ig:pY X (.builtin "len") Qq:=by
 intro B s Z H e R Q I r h
 obtain⟨p,n,rfl,hp,q⟩:=h
 obtain⟨u,rfl,b⟩:=xS r
 cases b
 obtain⟨z,hd,T,d,o,g,j,D,hc,c,U,_⟩:=dt_of I.hok hp
 have a:s.TypeIs (.ref p) "dict":=#[o,D,hc.1]
 have sz:g.size=n.length:=by rw[size_of_entries U];exact(Paired.length d).symm
 have A:(g.size:Int)<2^63:=by rw[sz];rw[sizeLine_eq]at z;omega
 refine Calls.call_function_entry kind_len plain_len entry_len (args_len1 _) ?_
 unfold Builtin.«len»
 refine aB (m:=oneArg "len" _) (aT ?_)
 refine aB (m:=callSpecial? (.ref p) (Str.ofString "__len__")) (wpAny_callSpecial?_slot (name:=Str.ofString "__len__") a F.slot_dict_len (call_meetsIn F.slot_dict_len a F.entry_dict_len (F.args_dict_len_1 _) (len_any hd) #[o,g,j,D,c,?_]))
 show wpAny _ _ _ _ _ { s with toks:=s.toks+1 }
 refine aB (wpAny_holding (aT (aB (wpAny_letGo ?_))))
 show wpAny _ _ (if((g.size:Nat):Int)<0 then _ else _) _ _ _;rw[aF #[]]
 show wpAny _ _ (if((g.size:Nat):Int)≥2^63 then _ else _) _ _ _;rw[aF #[]]
 refine aB (wpAny_mkInt (aT #[_,rfl,?_]))
 exact#[.int (n.length:Nat),H,(I.tok _).tok _,#[_,by rw[sz]],q]
noncomputable def isB2(x:V)(H:Hp)(T:String)(b:Bool):Prop:=isB x H T b∨(∃p xs,x=.ref p/\H p=some (.lst xs)/\T="list"/\b=true)
noncomputable def Wt:List V->Hp->VK->Prop:=λxs H Q=>∃x T b,xs=[x,.ty T]/\isB2 x H T b/\Q (.bl b) H
theorem kit_ll(K:aO):PySem.W.kitOne K (.type "list") (.type "list")=some true:=by rfl
theorem Sr:pY X (.builtin "isinstance") Wt:=by
 intro B s Z H F R Q I r h
 obtain⟨x,T,b,rfl,hb,q⟩:=h
 rcases hb with hb |⟨p,d,rfl,hp,rfl,rfl⟩
 ·exact Nw B s Z H _ R Q I r #[x,T,b,rfl,hb,q]
 ·obtain⟨u,c,rfl,g,a⟩:=Qn r
  obtain rfl:c=Value.type "list":=a
  exact qJ I g (.lst hp) (kit_ll _) λtk=>#[.bl true,H,I.tok _,rfl,q]
end
structure TabK(K:aO):Prop where
 cl:Cls K (eE K "Table")
 nM:pR K (eE K "Table") "many"
 nC:pR K (eE K "Table") "cells"
theorem Jv{lo:Int}{n:Nat}{Z:St}{l:TT}{S:Hp}{fin:List V->Hp->Prop}(W:Nat->List V->Hp->Prop)(hz:n<=sizeLine)(h0:W 0 [] S)
  (hs:∀i T H,i<n->T.length<=i->W i T H->l (some (.int (lo+i))::cL Z caps) H λb G=>if b=true then c (some (.int (lo+i))::cL Z caps) G λy w=>W (i+1) (T++ [y]) w else W (i+1) T G)
  (hd:∀T H,W n T H->fin T H):oS (Itr lo n) Z caps l c S fin:=by
 refine#[n,W,hz,h0,λi T M hi d hw=>?_]
 by_cases f:i<n
 ·refine .inr #[f,f,λx U y=>?_]
  obtain⟨e1,C⟩:=y
  subst e1 C
  exact hs i T _ f d hw
 ·have e:i=n:=#[]
  subst e
  exact .inl #[aM _,hd T M hw]
noncomputable def vH(n:Nat):List Int:=(List.range n).map Int.ofNat
theorem jWX{n:Nat}(h:k<n):(vH n)[k]?=some (k:Int):=by
 unfold vH;rw[aY,List.getElem?_range h];rfl
theorem sJ(n:Nat):(vH n).length=n:=by unfold vH;rw[aA,gQ]
noncomputable def Wm(c:TE):TE:=λZ H Q=>c Z H λx S=>∃n:Nat,x=.int n/\n<=10000/\∀p,S p=none->Q (.ref p) (upd S p (.lst (List.map V.int (vH n))))
theorem sF:∀{xs:List V}{us:List Value},xs.length=us.length->(∀(i:Nat)(x:V)(u:Value),xs[i]?=some x->us[i]?=some u->eZ x u)->fD xs us
 | [],[],_,_=>.nil
 | [],_::_,h,_=>by simp at h
 |_::_,[],h,_=>by simp at h
 |x::xs,u::us,h,k=>.cons (k 0 x u rfl rfl) (sF (by simpa using h) λi x u h1 h2=>k (i+1) x u (by simpa using h1) (by simpa using h2))
section
variable{X:Cx}
theorem jZ0{a:Expr}{w:TE}{T b k:Pos}(z:Gl X "list")(U:X.mg "list"=none)(v:Gl X "range")(F:X.mg "range"=none)(hc:X.calm=true)(Y:PE X a w)
  (K:starEach [.Call (.Name "range" T) [a] [] k] X.env=[(false,eval (.Call (.Name "range" T) [a] [] k) X.env)]:=by rfl) (D:starEach [a] X.env=[(false,eval a X.env)]:=by rfl):
  PE X (.Call (.Name "list" p1) [.Call (.Name "range" T) [a] [] k] [] b) (Wm w):=by
 intro B s Z H Q I h
 have G:PA X [a] (aH w bE):=aC Y aN (by rw[D];rfl)
 refine Call_ (lS I z U nG (cI (spliced_more ?_ (by rw[K];rfl)) K rfl))
 refine Call_ (lS I v F boot_range (cI (thn (G k B s Z H (λm S=>∃x,m=[x]/\∃n:Nat,x=.int n/\n<=10000/\∀p,S p=none->Q (.ref p) (upd S p (.lst (List.map V.int (vH n))))) I ?_) λus O#[m,S,j,f,q1]=>?_) D rfl))
 ·show w Z H λx S=>∃y,[x]=[y]/\_
  have e:(fun(x:V)(S:Hp)=>∃y,[x]=[y]/\∃n:Nat,y=V.int n/\n<=10000/\∀p,S p=none->Q (.ref p) (upd S p (.lst (List.map V.int (vH n)))))=λx S=>∃n:Nat,x=V.int n/\n<=10000/\∀p,S p=none->Q (.ref p) (upd S p (.lst (List.map V.int (vH n)))):=by
   funext x S
   exact propext #[fun⟨y,e,r⟩=>by cases e;exact r,λr=>#[x,rfl,r]]
  have M:w Z H λx S=>∃n:Nat,x=V.int n/\n<=10000/\∀p,S p=none->Q (.ref p) (upd S p (.lst (List.map V.int (vH n)))):=h
  rw[←e]at M
  exact M
 ·obtain⟨x,e1,n,C,R,q⟩:=q1
  subst e1 C
  obtain⟨u,rfl,g⟩:=xS f
  obtain⟨t,rfl⟩:=g
  refine call_range_1 (spliced_none ?_)
  have A:Builtin.Range.rangeSize 0 (n:Int) 1=(n:Int):=by rw[rangeSize_one];split<;>omega
  refine call_list_range (j.ok.hd hc) (IsRange.new ..) (small_one (by decide) (by decide) #[] #[]) A #[] λh2 tk d c' hk P N=>?_
  have kp:∀c o,O.heap.get? c=some o->h2.get? c=some o:=λc o e=>hk c o (aQ _ e)
  have J:(O.heap.push { cls:=.type "range",data:=.fields (List.toArray [.int 0 O.toks,.int (n:Int) t,.int 1 (O.toks+1)]) }).objs.size=O.heap.objs.size+1:=Heap.size_push ..
  have lt:O.heap.objs.size<=(O.heap.push { cls:=.type "range",data:=.fields (List.toArray [.int 0 O.toks,.int (n:Int) t,.int 1 (O.toks+1)]) }).objs.size:=by rw[J];exact Nat.le_succ _
  refine#[.ref _,_,j.laid (t':=tk) (o:=.lst (List.map V.int (vH n))) kp lt #[by rw[aA,sJ,sizeLine_eq];omega,d.toList,c',sF (by rw[aA,sJ,Array.length_toList,N.1]) λi x u h1 h3=>?_,by simpa using P],rfl,q _ (j.hok.fresh lt)]
  have hi:i<n:=by
   have:=(aK.mp h1).1
   rwa [aA,sJ]at this
  rw[aY,jWX hi]at h1
  cases h1
  obtain⟨l,e⟩:=N.2 i u (by simpa using h3)
  rw[e]
  exact#[l,by simp]
end
theorem Uh:bootBuiltins "zip"=some (.type "zip"):=by decide+kernel
noncomputable def Itz(K:aO)(a b:Addr):It:=
 #[λi H=>∃xs x ys y,SqL K H a xs/\xs[i]?=some x/\SqL K H b ys/\ys[i]?=some y,
  λi H v H'=>∃p x y,v=.ref p/\H p=none/\H'=upd H p (.tup [x,y])/\(∀xs,SqL K H a xs->xs[i]?=some x)/\(∀ys,SqL K H b ys->ys[i]?=some y),
  λi H=>∃xs ys,SqL K H a xs/\SqL K H b ys/\(xs.length<=i∨ys.length<=i)]
noncomputable def mU(K:aO)(t:TA):TI:=λZ H R=>t Z H λvs S=>∃a b,vs=[.ref a,.ref b]/\(∃xs,SqL K S a xs)/\(∃ys,SqL K S b ys)/\R (Itz K a b) S
theorem jY7{P:Program}{w:World}{a8:List Expr}{tp:Pos}(a b z TI TO S Y:Addr)(D:ZipApart z TI TO S Y a b):
  Tp P w K (.Tuple a8 k tp) (Itz K a b) [z,TI,TO,S,Y] z (λi h=>IsZip h z TI TO .none/\IsPair h TI (.ref S) (.ref Y)/\(∃u v,IsPair h TO u v)/\h.IsListIter S a i/\h.IsListIter Y b i) where
 mem:=by simp
 obj:=λi h st c hc=>by
  obtain⟨A,l,⟨u,v,O⟩,⟨o1,e1,c1,d1⟩,⟨o2,C,c2,d2⟩⟩:=st
  have q:c=z∨c=TI∨c=TO∨c=S∨c=Y:=by simpa using hc
  rcases q with rfl |rfl |rfl |rfl |rfl
  ·exact#[_,A,λv z=>nomatch z]
  ·exact#[_,l,λv z=>nomatch z]
  ·exact#[_,O,λv z=>nomatch z]
  ·exact#[o1,e1,λv z=>by rw[d1]at z;cases z]
  ·exact#[o2,C,λv z=>by rw[d2]at z;cases z]
 keep:=λi h M st kp=>by
  obtain⟨A,l,⟨u,v,O⟩,h1,h2⟩:=st
  exact#[kp z (by simp) _ A,kp TI (by simp) _ l,#[u,v,kp TO (by simp) _ O],h1.at λo q=>kp S (by simp) o q,h2.at λo q=>kp Y (by simp) o q]
 item:=by
  intro X Q hw hK hc i B s Z H E I hf st hg
  subst Q hw hK
  obtain⟨F,x,T,y,J,hx,hr,d⟩:=hg
  obtain⟨G,rv,p,b3⟩:=I.list J
  obtain⟨b4,sv,r,b5⟩:=I.list hr
  obtain⟨u,R,ru⟩:=rv.get hx
  obtain⟨v,hv,b7⟩:=sv.get d
  obtain⟨A,l,⟨u0,v0,O⟩,h1,h2⟩:=st
  refine wpAny_pyNext_zip_item D A l O h1 h2 p.isList r.isList (x:=u) (y:=v) (by simpa using R) (by simpa using hv) λg U a2 a3 a4 a5 a6 kp=>#[_,rfl,?_]
  refine wpAny_letOwnedTupleGo_zip (s:={ s with heap:=g }) U λg2 en sb=>?_
  have a0:Heap.SameBut z g g2:=sb
  have lt:∀{c:Addr}{o:Obj},s.heap.get? c=some o->c<s.heap.objs.size:=λe=>aW e
  have lz:=lt A
  have b9:=lt l
  have c3:=lt O
  have l1:S<s.heap.objs.size:=by obtain⟨_,e,_⟩:=h1;exact lt e
  have l2:Y<s.heap.objs.size:=by obtain⟨_,e,_⟩:=h2;exact lt e
  have j:Inv X B Z H { s with heap:=g2,toks:=s.toks }:=I.turnedL (ch:=[z,TI,TO,S,Y]) (λc o hb q=>by
   have m:c≠z/\c≠TI/\c≠TO/\c≠S/\c≠Y:=by simpa using hb
   exact(a0.2 c m.1).trans (kp c o m.1 m.2.2.1 m.2.2.2.1 m.2.2.2.2 q)) hf
  have a9:H s.heap.objs.size=none:=I.hok.fresh (aM _)
  have b0:g2.get? s.heap.objs.size=some { cls:=.type "tuple",data:=.seq (List.toArray [u,v]) }:=(a0.2 _ (Nat.ne_of_gt lz)).trans a5
  have I2:Inv X B Z (upd H s.heap.objs.size (.tup [x,y])) { s with heap:=g2,toks:=s.toks }:=j.adopt a9 I.sz (Nat.ne_of_gt I.lt) (λn c q=>by
   obtain⟨v,z⟩:=I.cell n c q
   exact bJ z.lt) (λq J=>bJ (aW (I.pin q J).1)) #[by show 2<=sizeLine;decide,[u,v],.cons ru (.cons b7 .nil),#[_,b0,rfl,_,rfl]]
  refine#[.ref s.heap.objs.size,_,I2,rfl,#[_,x,y,rfl,a9,rfl,λN a7=>by rw[I.list_inj a7 J];exact hx,λN a7=>by rw[I.list_inj a7 hr];exact d],#[en,?_,#[_,_,(a0.2 _ D.TOz).trans a2],?_,?_],λc hb=>?_]
  ·exact(a0.2 _ D.TIz).trans (kp _ _ D.TIz D.TITO D.TIi1 D.TIi2 l)
  ·obtain⟨o,q,t⟩:=a3
   exact#[o,(a0.2 _ D.i1z).trans q,t]
  ·obtain⟨o,q,t⟩:=a4
   exact#[o,(a0.2 _ D.i2z).trans q,t]
  ·have b8:=(hf c hb).1
   have q:c=z∨c=TI∨c=TO∨c=S∨c=Y:=by simpa using hb
   have f:c<s.heap.objs.size:=by rcases q with rfl |rfl |rfl |rfl |rfl<;>assumption
   rw[bY (bJ f)]
   exact b8
 done:=by
  intro X Q hw hK hc i B s Z H E I hf st hg
  subst Q hw hK
  obtain⟨F,T,J,hr,hx⟩:=hg
  obtain⟨G,rv,p,b3⟩:=I.list J
  obtain⟨b4,sv,r,b5⟩:=I.list hr
  obtain⟨A,l,⟨u0,v0,O⟩,h1,h2⟩:=st
  have l1:=rv.length
  have l2:=sv.length
  refine wpAny_pyNext_zip_end (I.ok.hd hc) D A l O h1 h2 p.isList r.isList (by simp;omega) λg kp=>#[rfl,?_]
  exact I.turnedL (t':=s.toks) (ch:=[z,TI,TO,S,Y]) (λc o hb q=>by
   have m:c≠z/\c≠TI/\c≠TO/\c≠S/\c≠Y:=by simpa using hb
   exact kp c o m.1 m.2.2.1 m.2.2.2.1 m.2.2.2.2 q) hf
 self:=λ_ _ _ _ _ st h=>wpAny_pyIter_zip st.1 h
theorem Gx{n l1 l2:Nat}(h1:l1<n)(h2:l2<n):ZipApart (n+4) (n+2) (n+3) n (n+1) l1 l2:=by
 constructor<;>(intro e;have C:(_:Nat)=_:=e;omega)
section
variable{X:Cx}
theorem nW{i:List Expr}{Q:Pos}{a b:Expr}{t:TA}{pos:Pos}(hg:Gl X "zip")(hm:X.mg "zip"=none)(Y:PA X [a,b] t)
  (U:starEach (a:: [b]) X.env=(false,eval a X.env)::starEach [b] X.env:=by rfl) (d:(backTo pos (starEach [b] X.env)).any (·.1)=false:=by rfl):PI X (.Tuple i k Q) (.Call (.Name "zip" p) [a,b] [] pos) (mU X.K t):=by
 intro B s Z H R I h
 refine wpAny_Call_Name_kw (lS I hg hm Uh ?_)
 refine cI (thn (Y pos B s Z H _ I h) λus O#[m,S,j,f,q1]=>?_) U d
 obtain⟨w,n,e0,⟨F,J⟩,⟨T,hr⟩,q⟩:=q1
 subst e0
 cases f with
 |cons ra f=>
 cases f with
 |cons rb f=>
 cases f
 cases ra
 cases rb
 obtain⟨G,D,l,M⟩:=j.list J
 obtain⟨a0,u,pm,v⟩:=j.list hr
 have C:w<O.heap.objs.size:=by obtain⟨o,e,_⟩:=l.isList;exact aW e
 have N:n<O.heap.objs.size:=by obtain⟨o,e,_⟩:=pm.isList;exact aW e
 refine call_zip_2 l.isList pm.isList λg A x y h1 h2 P hk=>?_
 refine wpAny_pyIter_zip A ?_
 have I2:Inv X B Z S { O with heap:=g }:=j.kept (t':=O.toks) hk
 refine#[O.heap.objs.size+4,[O.heap.objs.size+4,O.heap.objs.size+2,O.heap.objs.size+3,O.heap.objs.size,O.heap.objs.size+1],_,Itz X.K w n,S,rfl,I2,jY7 w n _ _ _ _ _ (Gx C N),#[A,x,#[_,_,y],h1,h2],λc hc=>?_,q]
 have z:c=O.heap.objs.size+4∨c=O.heap.objs.size+2∨c=O.heap.objs.size+3∨c=O.heap.objs.size∨c=O.heap.objs.size+1:=by simpa using hc
 have r:O.heap.objs.size<=c:=by rcases z with rfl |rfl |rfl |rfl |rfl<;>omega
 exact j.fpOk r (j.hok.fresh r)
end
theorem for_zip{b:Addr}{D:rW}{Z:St}(h:Nat->St->Hp->Prop)(h0:h 0 Z H)(Y:∀i Z H,i<=xs.length->h i Z H->SqL K H a xs/\SqL K H b ys)(U:xs.length=ys.length)
  (hs:∀i x y p Z H,xs[i]?=some x->ys[i]?=some y->h i Z H->H p=none->g (.ref p) Z (upd H p (.tup [x,y])) λj M=>tb { D with nx:=h (i+1),ct:=h (i+1),bk:=D.nx } j M) (hd:∀Z H,h xs.length Z H->D.nx Z H):
  ∃W:Nat->Nat->St->Hp->Prop,(∃m,W 0 m Z H)/\∀i m Z H,W i m Z H->
   ((Itz K a b).stop i H/\D.nx Z H)∨((Itz K a b).go i H/\∃N:St->Hp->Prop,(∀G d,N G d->∃l,l<m/\W (i+1) l G d)/\∀x d,(Itz K a b).yld i H x d->g x Z d λj M=>tb { D with nx:=N,ct:=N,bk:=D.nx } j M):=by
 refine#[λi m Z H=>m=xs.length-i/\i<=xs.length/\h i Z H,#[xs.length,by simp,dL _,h0],?_]
 rintro i m Z H ⟨rfl,hi,p⟩
 obtain⟨q,r⟩:=Y i Z H hi p
 by_cases f:i<xs.length
 ·have n:i<ys.length:=#[]
  refine .inr #[#[xs,xs[i],ys,ys[i],q,by simp [f],r,by simp [n]],h (i+1),λG d k=>#[xs.length-(i+1),#[],rfl,f,k],λx d y=>?_]
  obtain⟨s,O,o,e1,C,T,I,X⟩:=y
  subst e1 T
  exact hs i O o s Z _ (I xs q) (X ys r) p C
 ·have e:i=xs.length:=#[]
  subst e
  exact .inl #[#[xs,ys,q,r,.inl (aM _)],hd Z H p]
section
variable{X:Cx}{pins:List (Addr×Obj)}{σ:List (Option V)}{H:Hp}{s:Shared}
theorem Xo{P:Program}{w:World}{u v:HO}(x:HOk P w H h)(e:H a=some u)(R:(∀F,u≠.tup F)/\∀y,u≠.own y)(new:jE P w H h a v):HOk P w (upd H a v) h:=by
 have D:∀b y,H b=some (.own y)->upd H a v b=some (.own y):=λb y q=>by
  rw[bY (λz=>by subst z;rw[e]at q;exact R.2 y (aV q))];exact q
 have d:∀b F,H b=some (.tup F)->upd H a v b=some (.tup F):=λb F q=>by
  rw[bY (λz=>by subst z;rw[e]at q;exact R.1 F (aV q))];exact q
 intro b o q
 by_cases hb:b=a
 ·subst hb
  rw[aI]at q
  cases q
  exact new.stay (λ_ _ _ z=>z) (λc z=>D c _ z) d
 ·rw[bY hb]at q
  exact(x b o q).stay (λ_ _ _ z=>z) (λc z=>D c _ z) d
theorem Inv.freeze(I:Inv X pins σ H s)(e:H a=some (.dT kvs)):∃ob,s.heap.get? a=some ob/\Inv X pins σ (upd H a (.frz ob (.dT kvs))) s:=by
 have hx:=I.hok a _ e
 obtain⟨_,_,_,_,ob,_,_,D,_⟩:=id hx
 refine#[ob,D,?_]
 have ne:∀b,H b=none->b≠a:=λb q z=>by subst z;rw[e]at q;cases q
 refine I.step (s:=s) (h':=s.heap) (g':=s.gens) (d':=s.drawn) (t':=s.toks) (ch:=[]) (λ_ z=>nomatch z) (λ_ _ _ _ _ q _=>q) (λ_ o _ _ _ q _=>#[o.slots,q]) (λb _ _ _ q=>by rw[bY (ne b q)];exact q) (λ_ o _ q=>#[o,q])
  (λb F q=>by rw[bY (kU q e (by intro z;cases z))];exact q) (λb o u q=>by rw[bY (kU q e (by intro z;cases z))];exact q) (λb S q=>#[(List.toArray []),by rw[bY (kU q e (by intro z;cases z)),q];simp]) (λ_ q=>q) ?_ I.bare
 exact Xo I.hok e #[λ_ z=>(by cases z),λ_ z=>(by cases z)] #[D,hx]
theorem Inv.thaw(I:Inv X pins σ H s)(e:H a=some (.frz ob (.dT kvs)))(O:∀o u,X.H₀ a≠some (.frz o u)):Inv X pins σ (upd H a (.dT kvs)) s:=by
 have ne:∀b,H b=none->b≠a:=λb q z=>by subst z;rw[e]at q;cases q
 have off:∀b,H b=none->upd H a (.dT kvs) b=none:=λb q=>by rw[bY (ne b q)];exact q
 refine#[I.ok,I.os,I.bare,#[I.base.keep,I.base.slot,λb o q n hx=>off b (I.base.free b o q n hx),I.base.there,λb F q=>?_,λb o u q=>?_,λb S q=>?_],I.loc,I.cell,off _ I.free,λx c q=>off c (I.freeC x c q),λp hp=>?_,?_,I.len]
 ·have z:=I.base.tups b F q
  rw[bY (kU z e (by intro z;cases z))];exact z
 ·have z:=I.base.frzs b o u q
  have hb:b≠a:=λy=>by subst y;exact O o u q
  rw[bY hb];exact z
 ·obtain⟨m,z⟩:=I.base.tbls b S q
  exact#[m,by rw[bY (kU z e (by intro z;cases z))];exact z]
 ·obtain⟨q,n,r⟩:=I.pin p hp
  exact#[q,off _ n,r]
 ·obtain⟨_,hx⟩:=I.hok a _ e
  exact Xo I.hok e #[λ_ z=>(by cases z),λ_ z=>(by cases z)] hx
end
noncomputable def jZh(n:Addr->Prop)(D:rW):rW where
 nx:=λZ H=>∃a kvs ob,n a/\H a=some (.frz ob (.dT kvs))/\D.nx Z (upd H a (.dT kvs))
 rt:=λv H=>∃a kvs ob,n a/\H a=some (.frz ob (.dT kvs))/\D.rt v (upd H a (.dT kvs))
 bk:=λZ H=>∃a kvs ob,n a/\H a=some (.frz ob (.dT kvs))/\D.bk Z (upd H a (.dT kvs))
 ct:=λZ H=>∃a kvs ob,n a/\H a=some (.frz ob (.dT kvs))/\D.ct Z (upd H a (.dT kvs))
theorem KT.at{H:Hp}{kvs:List (List Key×V)}{xs:List (List Key×Addr×Value)}(r:KT H kvs xs):∀(i:Nat) p,kvs[i]?=some p->∃q,xs[i]?=some q/\p.1=q.1/\H q.2.1=some (.tup (p.1.map kV))/\eZ p.2 q.2.2:=by
 induction r with
 |nil=>intro i p hp;simp at hp
 |@cons p q ps qs hq t ih=>
  intro i k hp
  cases i with
  |zero=>simp at hp;subst hp;exact#[q,rfl,hq]
  |succ i=>exact ih i k (by simpa using hp)
structure jQ(FS scope:Scope)(N:List Str)(xs ys:List Str)(caps:List Nat):Prop where
 ncell:∀y∈scope.names,y.2≠.cell
 kind:scope.kind=.function
 names:∀y∈scope.names,y.2=.local->scope.names.lookup y.1=some .local
 fr:∀p∈scope.names,p.2=.free->FS.names.lookup p.1=some .cell
 fk:FS.kind=.function
 cap:∀p∈ys.zip caps,N[p.2]?=some p.1/\scope.names.lookup p.1=some .free
 len:ys.length=caps.length
noncomputable def mE(J:It)(Z:St)(k:Nat)(caps:List Nat)(g:TG)(c:TE)(S:Hp)(fin:List V->Hp->Prop):Prop:=
 ∃(n:Nat)(W:Nat->List V->Hp->Prop),n<=sizeLine/\W 0 [] S/\∀i ys M,i<=n->ys.length=i->W i ys M->
  (J.stop i M/\fin ys M)∨(i<n/\J.go i M/\∀x U,J.yld i M x U->∀os:St,os.length=k->g x (os++cL Z caps) U λj G=>(∃h:St,h.length=k/\j=h++cL Z caps)/\c j G λy w=>W (i+1) (ys++ [y]) w)
noncomputable def gW(q:TI)(k:Nat)(caps:List Nat)(g:TG)(c:TE):TE:=λZ H Q=>q Z H λJ S=>mE J Z k caps g c S λys M=>∀p,M p=none->Q (.ref p) (upd M p (.lst ys))
section
variable{X:Cx}{scope:Scope}{xs ys:List Str}{caps:List Nat}
theorem jQ.cells{B:List (Addr×Obj)}{Z:St}(S:jQ X.env.scope scope X.N xs ys caps)(I:Inv X B Z H s):∀p∈scope.names,p.2=.free->∃c,X.env.cells.lookup p.1=some c:=λp hp hf=>
 I.ok.has p.1 (.inl (S.fr p hp hf))
theorem jQ.sub{B:List (Addr×Obj)}{Z:St}(S:jQ X.env.scope scope X.N xs ys caps)(I:Inv X B Z H s){y:Str}{c:Addr}(e:(Bu X scope).lookup y=some c):X.env.cells.lookup y=some c:=
 Oo (S.cells I) (λp hp=>absurd hp (by simp)) (y,c) (PySem.mem_of_lookup e)
theorem Inv.enterG{B:List (Addr×Obj)}{Z:St}{a:Heap}{tk:Nat}{pl:List (Addr×Obj)}(S:jQ X.env.scope scope X.N xs ys caps)(t:X.calm=true)(I:Inv X B Z H s)
  (R:a.Ns s.heap.objs.size (λ_=>none)) (keep:∀b o,s.heap.get? b=some o->a.get? b=some o)
  (n:∀b∈ex,b<s.heap.objs.size/\b∉frs X.stack/\(∀y c,X.env.cells.lookup y=some c->c≠b)/\X.base.get? b=none)
  (a0:∀p∈pl,s.heap.get? p.1=some p.2/\H p.1=none/\p.1∉frs X.stack/\∀v,p.2.data≠.cell v):
  Inv (fE X scope (xs++ys) s H ex (X.pn++B)) pl (xs.map (λ_=>none)++cL Z caps) H { s with heap:=a,toks:=tk }:=by
 have hL:s.heap.objs.size≠X.env.locals:=Nat.ne_of_gt I.lt
 have J:∀b o,s.heap.get? b=some o->b≠s.heap.objs.size:=λb o e=>bJ (aW e)
 have M:∀y c,X.env.cells.lookup y=some c->c<s.heap.objs.size:=λy c e=>by
  obtain⟨v,z⟩:=I.cell y c e
  exact z.lt
 have w:∀{c:Addr}{v:Option Value},s.heap.IsCell c v->a.IsCell c v:=fun{c v}⟨o,D,hd⟩=>#[o,keep c o D,hd]
 refine#[#[I.ok.mod,S.kind,I.ok.glob,I.ok.blt,aM _,λy z c h1 h2=>I.ok.inj y z c (S.sub I h1) (S.sub I h2),λy d=>?_,λy c hf _=>?_,λ_=>I.ok.hd t,I.ok.frames,.inl rfl,λb hb=>?_,I.bs,cO I.ok.bsz I.sz,λb o e hb=>?_,λb hb=>(n b hb).2.1,I.stack,I.stkFree],
  rfl,I.bare,Un.kept keep,#[_,R,λi y v e1 C T=>?_],λy c e=>?_,I.hok.fresh (aM _),λy c e=>I.freeC y c (S.sub I e),λp hp=>?_,I.hok.kept keep,?_]
 ·have a6:(y,NameKind.free)∈scope.names:=Oc (env:=X.env) S.ncell (by
   rcases d with d |d
   ·exact#[_,d,.inl rfl]
   ·exact#[_,d,.inr rfl])
  exact tP (Dw a6)
 ·exact absurd (show false=true from hf) bU
 ·exact#[bJ (n b hb).1,λy c e=>(n b hb).2.2.1 y c (S.sub I e)]
 ·have z:=(n b hb).2.2.2
  have O:X.base.get? b=some o:=e
  rw[z]at O;cases O
 ·have x:(xs++ys)[i]?=some y:=e1
  obtain⟨i,e1,C⟩:∃Q,ys[Q]?=some y/\(cL Z caps)[Q]?=some (some v):=by
   by_cases hi:i<xs.length
   ·rw[bV (by rw[aA];exact hi),aY,aD hi]at C
    cases C
   ·rw[bO #[]]at x
    rw[bO (by rw[aA];omega),aA]at C
    exact#[_,x,C]
  obtain⟨j,P,hv⟩:∃j,caps[i]?=some j/\Z[j]?=some (some v):=by
   unfold cL at C
   rw[aY]at C
   cases q:caps[i]? with
   |none=>rw[q]at C;cases C
   |some j=>
    rw[q]at C
    have T:(Z[j]?).join=some v:=aV C
    cases q2:Z[j]? with
    |none=>rw[q2]at T;cases T
    |some w'=>rw[q2]at T;exact#[j,rfl,by rw[show w'=some v from T]at q2;exact q2]
  have A:(y,j)∈ys.zip caps:=aL (i:=i) (by rw[List.getElem?_zip_eq_some];exact#[e1,P])
  obtain⟨K,hf⟩:=S.cap (y,j) A
  have g:X.env.kindOf y=some .cell:=S.fr (y,.free) (PySem.mem_of_lookup hf) rfl
  obtain⟨m,hm,Y⟩:=I.loc
  obtain⟨u,r,l⟩:=Y j y v K hv (.inr (.inl g))
  refine#[u,r,?_]
  rcases l with⟨hk,_⟩|⟨_,c,hc,f⟩
  ·rw[g]at hk;cases hk
  ·obtain⟨c',F⟩:=tP (Dw (env:=X.env) (cs:=[]) (PySem.mem_of_lookup hf))
   have:=S.sub I F
   rw[hc]at this
   cases this
   exact .inr #[.inl (Gg S.fk hf g),c,F,w f]
 ·obtain⟨v,z⟩:=I.cell y c (S.sub I e)
  exact#[v,w z]
 ·rcases cR.mp hp with hp |hp
  ·obtain⟨U,G,a3,h,k⟩:=I.pin p hp
   exact#[keep _ _ U,G,J _ _ U,λz=>(dW.mp (I.stkSub p.1 z)).elim a3 h,k]
  ·obtain⟨U,G,h,k⟩:=a0 p hp
   exact#[keep _ _ U,G,J _ _ U,h,k]
 ·show(xs.map (λ_=>none)++cL Z caps).length=(xs++ys).length
  rw[bC,bC,aA,cL,aA,S.len]
end
noncomputable def qT(J:It)(Z:St)(k:Nat)(caps:List Nat)(g:TG)(l:TT)(c:TE)(S:Hp)(fin:List V->Hp->Prop):Prop:=
 ∃(n:Nat)(W:Nat->List V->Hp->Prop),n<=sizeLine/\W 0 [] S/\∀i ys M,i<=n->ys.length<=i->W i ys M->
  (J.stop i M/\fin ys M)∨(i<n/\J.go i M/\∀x U,J.yld i M x U->∀os:St,os.length=k->g x (os++cL Z caps) U λj G=>(∃h:St,h.length=k/\j=h++cL Z caps)/\l j G λb w=>if b=true then c j w λy C=>W (i+1) (ys++ [y]) C else W (i+1) ys w)
noncomputable def Uu(q:TI)(k:Nat)(caps:List Nat)(g:TG)(l:TT)(c:TE):TE:=λZ H Q=>q Z H λJ S=>qT J Z k caps g l c S λys M=>∀p,M p=none->Q (.ref p) (upd M p (.lst ys))
noncomputable def tY:TT:=λ_ H Q=>Q true H
noncomputable def PIs(X:Cx)(a:List Expr)(l:TT):Prop:=a=[]/\l=tY∨∃t,a=[t]/\PT X t l
theorem PIs.run{a:List Expr}{l:TT}{B:List (Addr×Obj)}{Z:St}{R:Bool->Hp->Prop}(h:PIs X a l)(I:Inv X B Z H s)(q:l Z H R):
  wpAny (model X.prog X.w) X.A (forIn a true λc r=>if r=true then do let ok ←isTrue c X.env (eval c X.env);pure (ForInStep.yield ok)else pure (ForInStep.yield r)) (TP X B Z R) X.xe s:=by
 rcases h with⟨rfl,rfl⟩|⟨t,rfl,p⟩
 ·exact wpAny_tests_nil #[H,I,q]
 ·exact wpAny_tests_one (p B s Z H R I q)
theorem pis0:PIs X [] tY:=.inl #[rfl,rfl]
theorem pis1{t:Expr}{l:TT}(h:PT X t l):PIs X [t] l:=.inr #[t,rfl,h]
section
variable{X:Cx}{scope:Scope}{xs ys:List Str}{caps:List Nat}{elt iter tg:Expr}{ifs:List Expr}{te:TE}{tt:TT}{g:TG}{pos:Pos}
theorem Sl{B:List (Addr×Obj)}{Z:St}{M:Hp}{F:Shared}{D:List Addr}{it:Addr}{tn:Nat->Heap->Prop}{E:Value->Shared->Prop}{fin:List V->Hp->Prop}{RR:Value->Addr->Result->Shared->Prop}
  (t:X.calm=true) (S:jQ X.env.scope scope X.N xs ys caps) (hg:∀s H ex pn,PG (fE X scope (xs++ys) s H ex pn) tg g) (hT:∀s H ex pn,PIs (fE X scope (xs++ys) s H ex pn) ifs tt) (he:∀s H ex pn,PE (fE X scope (xs++ys) s H ex pn) elt te)
  (I2:Inv X B Z M F) (T:Tp X.prog X.w X.K tg J D it tn) (d0:tn 0 F.heap) (f2:∀b∈D,Tu X B M b) (rd:qT J Z xs.length caps g tt te M fin)
  (f7:∀(C:Addr)(a7:List V)(G:List Value)(n:Nat)(H8:Hp)(P:Shared)(m:Str->Option Value),C=F.heap.objs.size+1->Inv X B Z H8 P->H8 F.heap.objs.size=none->H8 C=none->fD a7 G->a7.length<=sizeLine->
   P.heap.get? F.heap.objs.size=some (Bi G n)->P.heap.Ns C m->fin a7 H8->RR (.ref F.heap.objs.size) C (.ok .next) P):
  wpAny (model X.prog X.w) X.A (newList []) (λd1 a8=>wpAny (model X.prog X.w) X.A (newFunctionEnv scope X.env.globals (Bu X scope) [] X.env.qual none .none (some X.env)) (λb7 d2=>
   codeAny (model X.prog X.w) X.A (.compStart (.ListComp elt [#[tg,iter,ifs,0]] scope pos) 0 (.ref it) d1 { b7 with scope:=relabel scope X.env }) (RR d1 b7.locals) d2) E a8) E F:=by
 obtain⟨n0,W,h9,w0,turn⟩:=rd
 refine wpAny_newObj_type (wpAny_newFunctionEnv S.ncell (by intro y hy;simp at hy) (λa c3 c4=>?_) S.kind)
 dsimp only at c3 c4⊢
 generalize c5:F.heap.push { cls:=.type "list",dict:=none,data:=.seq ([]:List Value).toArray }=g3 at c3 c4⊢
 have hC:g3.objs.size=F.heap.objs.size+1:=by rw[←c5,Heap.size_push]
 have d3:∀b o,F.heap.get? b=some o->g3.get? b=some o:=λb o e=>c5▸aQ _ e
 have I3:Inv X B Z M { F with heap:=g3 }:=I2.kept (t':=F.toks) d3
 have keep:∀b o,g3.get? b=some o->a.get? b=some o:=λb o e=>c4.extBut b o (bJ (aW e)) (aQ _ e)
 have d4:g3.get? F.heap.objs.size=some (Bi [] 0):=c5▸bL _ rfl
 have d5:F.heap.objs.size≠X.env.locals:=Nat.ne_of_gt I2.lt
 have d6:F.heap.objs.size∉X.fs:=I2.nofs (aM _)
 have b8:F.heap.objs.size∉frs X.stack:=λz=>(dW.mp (I2.stkSub _ z)).elim d5 d6
 have d7:∀y c,X.env.cells.lookup y=some c->c≠F.heap.objs.size:=λy c e=>by
  obtain⟨v,z⟩:=I2.cell y c e
  exact bJ z.lt
 have d9:∀p∈X.pn++B,p.1≠F.heap.objs.size:=λp hp=>bJ (aW (I2.pin p hp).1)
 have c6:∀b∈D,b<F.heap.objs.size:=λb hb=>by
  obtain⟨o,e,_⟩:=T.obj _ _ d0 b hb
  exact aW e
 have f8:X.base.objs.size<=X.s₀.heap.objs.size:=I2.ok.bsz
 have c7:∀b∈F.heap.objs.size::D,(b∈X.ex∨X.s₀.heap.objs.size<=b)/\b≠X.env.locals/\(∀y c,X.env.cells.lookup y=some c->c≠b)/\∀p∈X.pn++B,p.1≠b:=λb hb=>by
  rcases dW.mp hb with rfl |hb
  ·exact#[.inr I2.sz,d5,d7,d9]
  ·obtain⟨a1,a2,a3,a4,a5,a6⟩:=f2 b hb
   exact#[a4,a2,a5,a6]
 have c8:∀b∈F.heap.objs.size::D,b<g3.objs.size/\b∉frs X.stack/\(∀y c,X.env.cells.lookup y=some c->c≠b)/\X.base.get? b=none:=λb hb=>by
  have f9:b∉frs X.stack:=by
   rcases dW.mp hb with rfl |hb
   ·exact b8
   ·obtain⟨a1,a2,a3,a4,a5,a6⟩:=f2 b hb
    exact λz=>(dW.mp (I2.stkSub _ z)).elim a2 a3
  have f:b<g3.objs.size:=by
   rw[hC]
   rcases dW.mp hb with rfl |hb
   ·exact gD _
   ·exact Nat.lt_succ_of_lt (c6 b hb)
  refine#[f,f9,(c7 b hb).2.2.1,?_]
  cases q:X.base.get? b with
  |none=>rfl
  |some o=>
   rcases(c7 b hb).1 with z |z
   ·exact absurd z (I2.ok.noex b o q)
   ·exact absurd (bQ (aW q) (cO f8 z)) (eV _)
 have g0:M F.heap.objs.size=none:=I2.hok.fresh (aM _)
 have I4:Inv (fE X scope (xs++ys) { F with heap:=g3 } M (F.heap.objs.size::D) (X.pn++B)) [(F.heap.objs.size,Bi [] 0)] (xs.map (λ_=>none)++cL Z caps) M { F with heap:=a,toks:=F.toks+([]:List (Str×Value)).length }:=
  Inv.enterG S t I3 c3 keep c8 λp hp=>by
   have e:p=(F.heap.objs.size,Bi [] 0):=by simpa using hp
   subst e
   exact#[d4,g0,b8,λv z=>nomatch z]
 have e0:tn 0 a:=T.keep _ _ _ d0 λb hb o e=>keep b o (d3 b o e)
 generalize hY:fE X scope (xs++ys) { F with heap:=g3 } M (F.heap.objs.size::D) (X.pn++B)=Y at I4
 have yP:Y.prog=X.prog:=by rw[←hY];rfl
 have yW:Y.w=X.w:=by rw[←hY];rfl
 have yK:Y.K=X.K:=by rw[←hY];rfl
 have yA:Y.A=X.A:=by rw[←hY];rfl
 have yC:Y.calm=true:=by rw[←hY];exact t
 have yX:Y.xe=λ_ _=>False:=by rw[←hY];rfl
 have yN:Y.N=xs++ys:=by rw[←hY];rfl
 have yE:Y.env=compEnvC scope (Bu X scope) g3.objs.size X.env:=by rw[←hY];rfl
 have e2:Y.ex=F.heap.objs.size::D:=by rw[←hY];rfl
 have e3:Y.pn=X.pn++B:=by rw[←hY];rfl
 have g1:Y.fs=frs X.stack:=by rw[←hY];rfl
 have c9:∀{l e4 d U},Inv Y l e4 d U->Un (frs X.stack) (F.heap.objs.size::D) M d g3 U.heap/\U.os=F.os:=by
  intro l e4 d U I
  rw[←hY]at I
  exact#[I.base,I.os]
 have g4:PG Y tg g:=by rw[←hY];exact hg _ _ _ _
 have g5:PE Y elt te:=by rw[←hY];exact he _ _ _ _
 have g6:PIs Y ifs tt:=by rw[←hY];exact hT _ _ _ _
 have e5:∀y c,Y.env.cells.lookup y=some c->X.env.cells.lookup y=some c:=λy c e=>by
  rw[yE]at e
  exact S.sub I2 e
 have e7:∀{d:Hp}{o:Obj},(∀b∈D,d b=none)->∀b∈D,Tu Y [(F.heap.objs.size,o)] d b:=fun{d o} R b hb=>by
  obtain⟨a1,a2,a3,a4,a5,a6⟩:=f2 b hb
  refine#[R b hb,?_,?_,?_,λy c e=>a5 y c (e5 y c e),λp hp=>?_]
  ·rw[yE];exact bJ (c8 b (bI _ hb)).1
  ·rw[g1];exact(c8 b (bI _ hb)).2.1
  ·rw[e2];exact .inl (bI _ hb)
  ·rw[e3]at hp
   rcases cR.mp hp with hp |hp
   ·exact a6 p hp
   ·have e:p=(F.heap.objs.size,o):=by simpa using hp
    subst e
    exact Nat.ne_of_gt (c6 b hb)
 have b9:∀a8:Shared,a8={ F with heap:=a,toks:=F.toks+([]:List (Str×Value)).length }->
   codeAny (model X.prog X.w) X.A (.compLoop (.ListComp elt [#[tg,iter,ifs,0]] scope pos) 0 (.ref it) (.ref F.heap.objs.size) (compEnvC scope (Bu X scope) g3.objs.size X.env)) (RR (.ref F.heap.objs.size) g3.objs.size) a8:=by
  rintro a8 rfl
  refine codeAny_loop rfl (λk U=>∃i a7 G a0 d os,os.length=xs.length/\k=n0+1-i/\Inv Y [(F.heap.objs.size,Bi G a0)] (os++cL Z caps) d U/\tn i U.heap/\(∀b∈D,d b=none)/\fD a7 G/\a7.length<=i/\i<=n0/\W i a7 d) ?_ (n0+1)
   #[0,[],[],0,M,xs.map (λ_=>none),by rw[aA],rfl,I4,e0,λb hb=>(f2 b hb).1,.nil,aM _,dL _,w0]
  rintro k U ⟨i,a7,G,a0,d,os,g7,rfl,I',e8,g8,vv,e9,h0,hw⟩
  show wpAny _ _ ((compTurn (.ListComp elt [#[tg,iter,ifs,0]] scope pos) 0 (.ref it) (.ref F.heap.objs.size) (compEnvC scope (Bu X scope) g3.objs.size X.env)).onRaise (λx=>do noteFrame x (compEnvC scope (Bu X scope) g3.objs.size X.env);theTreesLotGoes x)) _ _ U
  refine wpAny_noted ?_
  rw[compTurn_list]
  have c1:=e7 (o:=Bi G a0) g8
  rcases turn i a7 d h0 e9 hw with⟨stop,f1⟩|⟨f,go,step⟩
  ·refine aB (wpAny_standAt (aB (thn (Q:=λr O=>r=none/\Inv Y [(F.heap.objs.size,Bi G a0)] (os++cL Z caps) d O) ?_ λr O#[hr,j]=>?_)))
   ·have:=T.done Y yP yW yK yC i _ U _ d (notedBy (model X.prog X.w) X.A (compEnvC scope (Bu X scope) g3.objs.size X.env) λe U=>RR (.ref F.heap.objs.size) g3.objs.size (.error e) U) I' c1 e8 stop
    rw[yA]at this
    exact this
   ·subst hr
    refine aT ?_
    obtain⟨ub,uo⟩:=c9 j
    obtain⟨m,hm,_⟩:=j.loc
    obtain⟨p1,p2,_⟩:=j.pin (F.heap.objs.size,Bi G a0) (cX _ bT)
    have hok:HOk X.prog X.w d O.heap:=by have:=j.hok;rw[yP,yW]at this;exact this
    have f3:=j.free
    rw[yE]at hm f3
    refine f7 g3.objs.size a7 G a0 d O m hC (I3.call' uo ub hok j.bare c7) p2 f3 vv #[] p1 hm f1
  ·refine aB (wpAny_standAt (aB (thn (Q:=λr O=>∃u,r=some u/\wpAny (model X.prog X.w) X.A (letOwnedTupleGo tg (.ref it) u) (λ_ s5=>∃x H5,Inv Y [(F.heap.objs.size,Bi G a0)] (os++cL Z caps) H5 s5/\eZ x u/\J.yld i d x H5/\tn (i+1) s5.heap/\∀b∈D,H5 b=none)
     (notedBy (model X.prog X.w) X.A (compEnvC scope (Bu X scope) g3.objs.size X.env) λe U=>RR (.ref F.heap.objs.size) g3.objs.size (.error e) U) O) ?_ λr O#[u,hr,h4]=>?_)))
   ·have:=T.item Y yP yW yK yC i _ U _ d (notedBy (model X.prog X.w) X.A (compEnvC scope (Bu X scope) g3.objs.size X.env) λe U=>RR (.ref F.heap.objs.size) g3.objs.size (.error e) U) I' c1 e8 go
    rw[yA]at this
    exact this
   ·subst hr
    refine aB (thn h4 λ_ s5#[xv,H5,I5,r5,y5,b0,h5]=>?_)
    have h6:=I5.pinned (e7 h5) (T.obj _ _ b0)
    have f4:=g4 _ s5 _ H5 xv u _ h6 r5 (step xv H5 y5 os g7)
    rw[yP,yW,yA,yE]at f4
    refine aB (nxE yX f4 λ_ s6#[i0,H6,I6,#[h,c2,e6],t6]=>?_)
    subst e6
    have tv:=g6.run I6 t6
    rw[yP,yW,yA,yE]at tv
    refine aB (nxE yX tv λok f5#[H7,b3,w6]=>?_)
    have i1:=vv.length
    cases ok with
    |false=>
     rw[aF bU]at w6
     rw[aF bU]
     obtain⟨zD,b5,a9,b4,_⟩:=b3.pin (F.heap.objs.size,Bi G a0) (cX _ (iH _ bT))
     have I9:Inv Y [(F.heap.objs.size,Bi G a0)] (h++cL Z caps) H7 f5:=b3.pins_of λp hp=>by
      have e:p=(F.heap.objs.size,Bi G a0):=by simpa using hp
      subst e
      exact#[zD,b5,a9,b4,(λv z=>nomatch z)]
     refine aT #[rfl,n0+1-(i+1),#[],i+1,a7,G,a0,H7,h,c2,rfl,I9,?_,?_,vv,#[],f,w6]
     ·refine T.keep _ _ _ b0 λb hb ob e=>?_
      exact(b3.pin (b,ob) (cX _ (cX _ (oB hb e)))).1
     ·intro b hb
      obtain⟨ob,e,_⟩:=T.obj _ _ b0 b hb
      exact(b3.pin (b,ob) (cX _ (cX _ (oB hb e)))).2.1
    |true=>
     rw[aJ rfl]at w6
     rw[aJ rfl]
     have ev:=g5 _ f5 _ H7 _ b3 w6
     rw[yP,yW,yA,yE]at ev
     refine aB (aB (nxE yX ev λyv s7#[y,H8,I7,r7,w7]=>?_))
     obtain⟨zD,b5,a9,b4,_⟩:=I7.pin (F.heap.objs.size,Bi G a0) (cX _ (iH _ bT))
     refine aB (append_at zD (λh8 f6 d8=>aT (aT #[rfl,?_])) (by rw[bM];omega))
     have h7:Inv Y [] (h++cL Z caps) H8 s7:=I7.pins_of λp hp=>nomatch hp
     have I8:Inv Y [] (h++cL Z caps) H8 { s7 with heap:=h8 }:=h7.turned (t':=s7.toks) (λb ob hb e=>(f6.2 b hb).trans e) b5 a9 (.inl (by rw[e2];exact bT)) (λy c e=>d7 y c (e5 y c e)) (λp hp=>by
      rw[e3,bZ]at hp
      exact d9 p hp)
     have I9:Inv Y [(F.heap.objs.size,Bi (G++ [yv]) (a0+1))] (h++cL Z caps) H8 { s7 with heap:=h8 }:=I8.pins_of λp hp=>by
      have e:p=(F.heap.objs.size,Bi (G++ [yv]) (a0+1)):=by simpa using hp
      subst e
      refine#[?_,b5,a9,b4,λv z=>nomatch z]
      show h8.get? F.heap.objs.size=some { cls:=.type "list",data:=.seq (G++ [yv]).toArray (a0+1) }
      rw[d8,List.push_toArray]
     refine#[n0+1-(i+1),#[],i+1,a7++ [y],G++ [yv],a0+1,H8,h,c2,rfl,I9,?_,?_,vv.append (.cons r7 .nil),by rw[bC];show a7.length+1<=i+1;omega,f,w7]
     ·refine T.keep _ _ _ b0 λb hb ob e=>(f6.2 b (bJ (c6 b hb))).trans ?_
      exact(I7.pin (b,ob) (cX _ (cX _ (oB hb e)))).1
     ·intro b hb
      obtain⟨ob,e,_⟩:=T.obj _ _ b0 b hb
      exact(I7.pin (b,ob) (cX _ (cX _ (oB hb e)))).2.1
 exact codeAny_compStart_list (b9 _ rfl) (T.self _ 0 _ _ _ e0 (b9 _ rfl))
theorem Ew{q:TI}{RD:St->VK->It->Hp->Prop}(a0:∀Z Q J H1,RD Z Q J H1->qT J Z xs.length caps g tt te H1 λys M=>∀p,M p=none->Q (.ref p) (upd M p (.lst ys))){FS:Scope}(j:jQ FS scope N xs ys caps)(r:X.env.scope=FS)(a:X.N=N)(t:X.calm=true)(hi:PI X tg iter q)(hT:∀s H ex pn,PIs (fE X scope (xs++ys) s H ex pn) ifs tt)(hg:∀s H ex pn,PG (fE X scope (xs++ys) s H ex pn) tg g)(U:∀s H ex pn,PE (fE X scope (xs++ys) s H ex pn) elt te)
  (hs:∀v,foldedSetIterable iter X.env v=pure v:=by intro _;rfl):PE X (.ListComp elt [#[tg,iter,ifs,0]] scope pos) (λZ H Q=>q Z H (RD Z Q)):=by
 have S:jQ X.env.scope scope X.N xs ys caps:=by rw[r,a];exact j
 intro B s Z H Q I h
 rw[eval_ListComp]
 refine wpAny_comprehension_free (use:=none) rfl hs (Cg (S.cells I)) S.kind S.names (thn (hi B s Z H _ I h) λv O h1=>thn h1 λa4 F h2=>?_)
 obtain⟨it,D,Y,J,M,rfl,k,T,i,u,rd⟩:=h2
 refine Sl (RR:=λd C=>compPost (model X.prog X.w) X.A X.xe none (EP X B Z Q) d C) t S hg hT U k T i u (a0 _ _ _ _ rd) ?_
 intro C f G n x P m hC I8 K a1 vv hz oD R fin
 refine#[m,R,λh' sb=>?_]
 have sz:=k.sz
 have lt:=k.lt
 have ap:∀b:Addr,b<F.heap.objs.size->b≠C/\C≠b:=λb hb=>by
  subst hC
  exact#[bJ (Nat.lt_succ_of_lt hb),Nat.ne_of_gt (Nat.lt_succ_of_lt hb)]
 have a2:X.s₀.heap.objs.size<=C:=by subst hC;exact Nat.le_succ_of_le sz
 have DC:F.heap.objs.size≠C:=by subst hC;exact bJ (gD _)
 have cl:∀y c,X.env.cells.lookup y=some c->c<F.heap.objs.size:=λy c e=>by
  obtain⟨w',z⟩:=k.cell y c e
  exact z.lt
 have l:∀p∈X.pn++B,p.1<F.heap.objs.size:=λp hp=>aW (k.pin p hp).1
 have I9:Inv X B Z x { P with heap:=h' }:=I8.turned (t':=P.toks) (λb o hb e=>(sb.2 b hb).trans e) a1 (ap _ lt).2 (.inr a2) (λy c e=>(ap c (cl y c e)).1) (λp hp=>(ap p.1 (l p hp)).1)
 have a3:h'.get? F.heap.objs.size=some (Bi G n):=(sb.2 _ DC).trans oD
 exact#[.ref F.heap.objs.size,upd x F.heap.objs.size (.lst f),I9.adopt K sz (Nat.ne_of_gt lt) (λy c e=>bJ (cl y c e)) (λp hp=>bJ (l p hp)) #[hz,G,n,vv,a3],rfl,fin _ K]
theorem zQ{q:TI}{RD:St->VK->It->Hp->Prop}(a1:∀Z Q J H1,RD Z Q J H1->qT J Z xs.length caps g tt te H1 λys M=>∀p,M p=none->Q (.ref p) (upd M p (.lst ys))){FS:Scope}{y:Str}{py:Pos}(j:jQ FS scope N xs ys caps)(r:X.env.scope=FS)(a2:X.N=N)(t:X.calm=true)(K:X.N.Nodup)(d:X.N[i]?=some y)(Y:Loc X.env.scope y)(hi:PI X tg iter q)(hT:∀s H ex pn,PIs (fE X scope (xs++ys) s H ex pn) ifs tt)(hg:∀s H ex pn,PG (fE X scope (xs++ys) s H ex pn) tg g)(he:∀s H ex pn,PE (fE X scope (xs++ys) s H ex pn) elt te)
  (a3:swapsWith (.ListComp elt [#[tg,iter,ifs,0]] scope pos) (some (.Name y py)) a0.line X.env=pure true:=by rfl)
  (hs:∀v,foldedSetIterable iter X.env v=pure v:=by intro _;rfl) (hf:X.fn y=true∨X.env.scope.names.lookup y=some .local:=by first |exact .inl rfl |exact .inr rfl |assumption):
  PS X (.Assign [.Name y py] (.ListComp elt [#[tg,iter,ifs,0]] scope pos) a0) (cU (λZ H Q=>q Z H (RD Z Q)) (aZ i)):=by
 have S:jQ X.env.scope scope X.N xs ys caps:=by rw[r,a2];exact j
 intro B s Z H D I h
 rw[exec_Assign_Name_used _ _ _ _ a3]
 refine aB (wpAny_standAt (aB ?_))
 show wpAny _ X.A (do let _ ←comprehension (.ListComp elt [#[tg,iter,ifs,0]] scope pos) scope X.env _ (newList []) false (eval iter X.env) (some (assign (.Name y py) X.env))) _ _ s
 refine aB (wpAny_mono (wpAny_comprehension_free (use:=some (assign (.Name y py) X.env)) (Q:=λ_ U=>SP X B D .next U) rfl hs (Cg (S.cells I)) S.kind S.names
  (thn (hi B s Z H _ I h) λv O h1=>thn h1 λb0 F h2=>?_)) (λ_ U hq=>aT (aT hq)) λ_ _ e=>e)
 obtain⟨it,fp,tn,J,M,rfl,k,T,a4,u,rd⟩:=h2
 refine Sl (RR:=λa5 C=>compPost (model X.prog X.w) X.A X.xe (some (assign (.Name y py) X.env)) (λ_ U=>SP X B D .next U) a5 C) t S hg hT he k T a4 u (a1 _ _ _ _ rd) ?_
 intro C f G n x P m hC I8 hD a6 vv hz oD R fin
 have sz:=k.sz
 have lt:=k.lt
 have ap:∀b:Addr,b<F.heap.objs.size->b≠C/\C≠b:=λb hb=>by
  subst hC
  exact#[bJ (Nat.lt_succ_of_lt hb),Nat.ne_of_gt (Nat.lt_succ_of_lt hb)]
 have a7:X.s₀.heap.objs.size<=C:=by subst hC;exact Nat.le_succ_of_le sz
 have DC:C≠F.heap.objs.size:=by subst hC;exact Nat.ne_of_gt (gD _)
 have cl:∀y c,X.env.cells.lookup y=some c->c<F.heap.objs.size:=λy c e=>by
  obtain⟨w',z⟩:=k.cell y c e
  exact z.lt
 have l:∀p∈X.pn++B,p.1<F.heap.objs.size:=λp hp=>aW (k.pin p hp).1
 have I9:Inv X B Z (upd x F.heap.objs.size (.lst f)) P:=I8.adopt hD sz (Nat.ne_of_gt lt) (λy c e=>bJ (cl y c e)) (λp hp=>bJ (l p hp)) #[hz,G,n,vv,oD]
 show wpAny (model X.prog X.w) X.A (assign (.Name y py) X.env (.ref F.heap.objs.size)) _ _ P
 refine wpAny_assign_Name (Rj (v:=.ref F.heap.objs.size) I9 K d Y rfl (λs9 a8#[a,sa,ha]=>?_) hf)
 have a9:C≠a:=by
  rcases ha with rfl |e
  ·exact(ap _ lt).2
  ·exact(ap _ (cl _ _ e)).2
 refine#[m,R.sameBut sa a9,λh' sb=>#[_,_,a8.turned (t':=s9.toks) (λb o hb e=>(sb.2 b hb).trans e) ?_ (ap _ lt).2 (.inr a7) (λy c e=>(ap c (cl y c e)).1) (λp hp=>(ap p.1 (l p hp)).1),fin _ hD]]
 rw[bY DC]
 exact a6
theorem pA{X:Cx}{scope:Scope}{a:List Str}{pn:List (Addr×Obj)}{x:Str}(K:a.Nodup)(hi:a[i]?=some x)(hx:scope.names.lookup x=some .local):PG (fE X scope a s H ex pn) (.Name x U) (aZ i):=
 jZy (X:=fE X scope a s H ex pn) K hi (.inl (lookup_relabel_local hx)) (.inr (lookup_relabel_local hx))
theorem sR.toG{x:Str}(S:sR e scope N x ys caps):jQ e scope N [x] ys caps:=#[S.ncell,S.kind,S.names,S.fr,S.fk,S.cap,S.len]
theorem vO.toG{Z:St}{te:TE}{S:Hp}{fin:List V->Hp->Prop}:vO J Z caps te S fin->mE J Z 1 caps (aZ 0) te S fin:=by
 rintro⟨n,W,R,c,h⟩
 refine#[n,W,R,c,λi ys M hi d hw=>?_]
 rcases h i ys M hi d hw with z |⟨z1,z2,z3⟩
 ·exact .inl z
 ·refine .inr #[z1,z2,λx U y os D=>?_]
  match os,D with
  | [o],_=>exact#[#[[some x],rfl,rfl],z3 x U y]
theorem mE.toT{Z:St}{S:Hp}{fin:List V->Hp->Prop}:mE J Z k caps g te S fin->qT J Z k caps g tY te S fin:=by
 rintro⟨n,W,R,c,h⟩
 refine#[n,λi ys H=>ys.length=i/\W i ys H,R,#[rfl,c],λi ys M hi _#[d,hw]=>(h i ys M hi d hw).imp id fun⟨O,l,a⟩=>#[O,l,λx U y os D=>?_]]
 have e:(fun(y:V)(H:Hp)=>(ys++ [y]).length=i+1/\W (i+1) (ys++ [y]) H)=λy H=>W (i+1) (ys++ [y]) H:=funext λy=>funext λH=>propext #[And.right,λw=>#[by rw[bC,d];rfl,w]]
 show g x _ U λj G=>_/\te j G λy H=>(ys++ [y]).length=i+1/\W (i+1) (ys++ [y]) H
 rw[e]
 exact a x U y os D
theorem oS.toT{Z:St}{S:Hp}{fin:List V->Hp->Prop}:oS J Z caps tt te S fin->qT J Z 1 caps (aZ 0) tt te S fin:=by
 rintro⟨n,W,R,c,h⟩
 refine#[n,W,R,c,λi ys M hi d hw=>(h i ys M hi d hw).imp id fun⟨O,l,a⟩=>#[O,l,λx U y os D=>?_]]
 match os,D with
 | [o],_=>exact#[#[[some x],rfl,rfl],a x U y]
end
section
variable{X:Cx}{scope:Scope}{xs ys:List Str}{caps:List Nat}{elt iter tg tst:Expr}{te:TE}{tt:TT}{g:TG}{pos:Pos}{x:Str}{px:Pos}
theorem jWk{q:TI}(j:jQ e scope N xs ys caps)(r:X.env.scope=e)(a:X.N=N)(t:X.calm=true)(hi:PI X tg iter q)(hg:∀s H ex pn,PG (fE X scope (xs++ys) s H ex pn) tg g)(U:∀s H ex pn,PE (fE X scope (xs++ys) s H ex pn) elt te)
  (hs:∀v,foldedSetIterable iter X.env v=pure v:=by intro _;rfl):PE X (.ListComp elt [#[tg,iter,[],0]] scope pos) (gW q xs.length caps g te):=Ew (λ_ _ _ _ h=>mE.toT h) j r a t hi (λ_ _ _ _=>pis0) hg U hs
theorem Yp{q:TI}{y:Str}{b c:Pos}(j:jQ e scope N xs ys caps)(r:X.env.scope=e)(a:X.N=N)(t:X.calm=true)(K:X.N.Nodup)(d:X.N[i]?=some y)(Y:Loc X.env.scope y)(hi:PI X tg iter q)(hg:∀s H ex pn,PG (fE X scope (xs++ys) s H ex pn) tg g)(U:∀s H ex pn,PE (fE X scope (xs++ys) s H ex pn) elt te)
  (f:swapsWith (.ListComp elt [#[tg,iter,[],0]] scope pos) (some (.Name y b)) c.line X.env=pure true:=by rfl)
  (hs:∀v,foldedSetIterable iter X.env v=pure v:=by intro _;rfl) (hf:X.fn y=true∨X.env.scope.names.lookup y=some .local:=by first |exact .inl rfl |exact .inr rfl |assumption):
  PS X (.Assign [.Name y b] (.ListComp elt [#[tg,iter,[],0]] scope pos) c) (cU (gW q xs.length caps g te) (aZ i)):=zQ (RD:=λZ Q J S=>mE J Z xs.length caps g te S λys M=>∀p,M p=none->Q (.ref p) (upd M p (.lst ys))) (λ_ _ _ _ h=>mE.toT h) j r a t K d Y hi (λ_ _ _ _=>pis0) hg U f hs hf
theorem pe_comp{q:TI}(j:sR e scope N x ys caps)(r:X.env.scope=e)(a:X.N=N)(t:X.calm=true)(hi:PI X (.Name x px) iter q)(U:∀s H ex pn,PE (fE X scope (x::ys) s H ex pn) elt te)
  (hs:∀v,foldedSetIterable iter X.env v=pure v:=by intro _;rfl):PE X (.ListComp elt [#[.Name x px,iter,[],0]] scope pos) (dN q caps te):=Ew (xs:=[x]) (g:=aZ 0) (λ_ _ _ _ h=>mE.toT (vO.toG h)) j.toG r a t hi (λ_ _ _ _=>pis0) (λ_ _ _ _=>pA j.nd rfl j.loc) U hs
theorem jJr{q:TI}{y:Str}{b c:Pos}(j:sR e scope N x ys caps)(r:X.env.scope=e)(a:X.N=N)(t:X.calm=true)(K:X.N.Nodup)(d:X.N[i]?=some y)(Y:Loc X.env.scope y)(hi:PI X (.Name x px) iter q)(U:∀s H ex pn,PE (fE X scope (x::ys) s H ex pn) elt te)
  (f:swapsWith (.ListComp elt [#[.Name x px,iter,[],0]] scope pos) (some (.Name y b)) c.line X.env=pure true:=by rfl)
  (hs:∀v,foldedSetIterable iter X.env v=pure v:=by intro _;rfl) (hf:X.fn y=true∨X.env.scope.names.lookup y=some .local:=by first |exact .inl rfl |exact .inr rfl |assumption):
  PS X (.Assign [.Name y b] (.ListComp elt [#[.Name x px,iter,[],0]] scope pos) c) (cU (dN q caps te) (aZ i)):=zQ (RD:=λZ Q J S=>vO J Z caps te S λys M=>∀p,M p=none->Q (.ref p) (upd M p (.lst ys))) (xs:=[x]) (g:=aZ 0) (λ_ _ _ _ h=>mE.toT (vO.toG h)) j.toG r a t K d Y hi (λ_ _ _ _=>pis0) (λ_ _ _ _=>pA j.nd rfl j.loc) U f hs hf
theorem jWj{q:TI}(j:sR e scope N x ys caps)(r:X.env.scope=e)(a:X.N=N)(t:X.calm=true)(hi:PI X (.Name x px) iter q)(B:∀s H ex pn,PT (fE X scope (x::ys) s H ex pn) tst tt)(U:∀s H ex pn,PE (fE X scope (x::ys) s H ex pn) elt te)
  (hs:∀v,foldedSetIterable iter X.env v=pure v:=by intro _;rfl):PE X (.ListComp elt [#[.Name x px,iter,[tst],0]] scope pos) (jZ q caps tt te):=Ew (xs:=[x]) (g:=aZ 0) (λ_ _ _ _ h=>oS.toT h) j.toG r a t hi (λ_ _ _ _=>pis1 (B _ _ _ _)) (λ_ _ _ _=>pA j.nd rfl j.loc) U hs
theorem Yo{q:TI}{y:Str}{b c:Pos}(j:sR e scope N x ys caps)(r:X.env.scope=e)(a:X.N=N)(t:X.calm=true)(K:X.N.Nodup)(d:X.N[i]?=some y)(Y:Loc X.env.scope y)(hi:PI X (.Name x px) iter q)(B:∀s H ex pn,PT (fE X scope (x::ys) s H ex pn) tst tt)(U:∀s H ex pn,PE (fE X scope (x::ys) s H ex pn) elt te)
  (f:swapsWith (.ListComp elt [#[.Name x px,iter,[tst],0]] scope pos) (some (.Name y b)) c.line X.env=pure true:=by rfl)
  (hs:∀v,foldedSetIterable iter X.env v=pure v:=by intro _;rfl) (hf:X.fn y=true∨X.env.scope.names.lookup y=some .local:=by first |exact .inl rfl |exact .inr rfl |assumption):
  PS X (.Assign [.Name y b] (.ListComp elt [#[.Name x px,iter,[tst],0]] scope pos) c) (cU (jZ q caps tt te) (aZ i)):=zQ (RD:=λZ Q J S=>oS J Z caps tt te S λys M=>∀p,M p=none->Q (.ref p) (upd M p (.lst ys))) (xs:=[x]) (g:=aZ 0) (λ_ _ _ _ h=>oS.toT h) j.toG r a t K d Y hi (λ_ _ _ _=>pis1 (B _ _ _ _)) (λ_ _ _ _=>pA j.nd rfl j.loc) U f hs hf
theorem jYc{q:TI}(j:jQ e scope N xs ys caps)(r:X.env.scope=e)(a:X.N=N)(t:X.calm=true)(hi:PI X tg iter q)(hg:∀s H ex pn,PG (fE X scope (xs++ys) s H ex pn) tg g)(B:∀s H ex pn,PT (fE X scope (xs++ys) s H ex pn) tst tt)(U:∀s H ex pn,PE (fE X scope (xs++ys) s H ex pn) elt te)
  (hs:∀v,foldedSetIterable iter X.env v=pure v:=by intro _;rfl):PE X (.ListComp elt [#[tg,iter,[tst],0]] scope pos) (Uu q xs.length caps g tt te):=Ew (λ_ _ _ _ h=>h) j r a t hi (λ_ _ _ _=>pis1 (B _ _ _ _)) hg U hs
end
noncomputable def Ws(K:aO):List V->Hp->VK->Prop:=λxs H Q=>∃p ns,xs=[.ref p]/\SqL K H p (List.map V.int ns)/\ns≠[]/\∀M,M∈ns->(∀a∈ns,a<=M)->Q (.int M) H
noncomputable def Lr(K:aO):List V->Hp->VK->Prop:=λxs H Q=>∃p ns,xs=[.ref p]/\SqL K H p (List.map V.int ns)/\ns≠[]/\∀M,M∈ns->(∀a∈ns,M<=a)->Q (.int M) H
theorem fD.ints:∀{ns:List Int}{us:List Value},fD (List.map V.int ns) us->∃F:List (Int×Tok),us=F.map (λp=>Value.int p.1 p.2)/\F.map (·.1)=ns
 | [],_,h=>by cases h;exact#[[],rfl,rfl]
 |n::ns,_,h=>by
  cases h with
  |cons r t=>
   obtain⟨tk,rfl⟩:=r
   obtain⟨F,e1,C⟩:=fD.ints t
   exact#[(n,tk)::F,by rw[e1];rfl,by rw[bR,C]]
theorem uA{xs:List (Int×Tok)}{ns:List Int}(e:xs.map (·.1)=ns)(i:Nat)(h:i<ns.length):∃n,ns[i]?=some n/\numAt xs.toArray i=n:=by
 have hx:i<xs.length:=by rw[←e,aA]at h;exact h
 refine#[xs[i].1,by rw[←e,aY,aD hx];rfl,?_]
 unfold numAt
 rw[List.getElem?_toArray,aD hx]
 rfl
section
variable{X:Cx}
theorem So(hc:X.calm=true):pY X (.builtin "max") (Ws X.K):=by
 intro B s Z H F R Q I r h
 obtain⟨p,ns,rfl,J,O,q⟩:=h
 obtain⟨u,rfl,g⟩:=xS r
 cases g
 obtain⟨G,D,l,A⟩:=I.list J
 obtain⟨S,e1,C⟩:=D.ints
 have Y:S.length=ns.length:=by rw[←C,aA]
 have c:0<ns.length:=List.length_pos_iff.mpr O
 have o:G.toArray=intItems S.toArray:=by rw[e1];unfold intItems;simp
 have b:=l.isList
 rw[o]at b
 refine max_intList (I.ok.hd hc) b (by rw[bM];omega) λv d tk hv hk=>?_
 obtain⟨t,rfl⟩:=intItems_at hv
 obtain⟨N,g2⟩:=argBest_gt (numAt S.toArray) (S.toArray.size-1)
 rw[bM]at N g2⊢
 obtain⟨M,m1,m2⟩:=uA C (argBest (λi j=>decide (numAt S.toArray i>numAt S.toArray j)) (S.length-1)) #[]
 rw[m2]at g2⊢
 refine#[.int M,H,I.kept hk,#[_,rfl],q M (aL m1) λa ha=>?_]
 obtain⟨j,P,f⟩:=List.getElem_of_mem ha
 obtain⟨n,n1,n2⟩:=uA C j P
 rw[aD P,f]at n1
 cases n1
 rw[←n2]
 exact g2 j #[]
theorem Ie(hc:X.calm=true):pY X (.builtin "min") (Lr X.K):=by
 intro B s Z H F R Q I r h
 obtain⟨p,ns,rfl,J,O,q⟩:=h
 obtain⟨u,rfl,g⟩:=xS r
 cases g
 obtain⟨G,D,l,A⟩:=I.list J
 obtain⟨S,e1,C⟩:=D.ints
 have Y:S.length=ns.length:=by rw[←C,aA]
 have c:0<ns.length:=List.length_pos_iff.mpr O
 have o:G.toArray=intItems S.toArray:=by rw[e1];unfold intItems;simp
 have b:=l.isList
 rw[o]at b
 refine min_intList (I.ok.hd hc) b (by rw[bM];omega) λv d tk hv hk=>?_
 obtain⟨t,rfl⟩:=intItems_at hv
 obtain⟨N,g2⟩:=argBest_lt (numAt S.toArray) (S.toArray.size-1)
 rw[bM]at N g2⊢
 obtain⟨M,m1,m2⟩:=uA C (argBest (λi j=>decide (numAt S.toArray i<numAt S.toArray j)) (S.length-1)) #[]
 rw[m2]at g2⊢
 refine#[.int M,H,I.kept hk,#[_,rfl],q M (aL m1) λa ha=>?_]
 obtain⟨j,P,f⟩:=List.getElem_of_mem ha
 obtain⟨n,n1,n2⟩:=uA C j P
 rw[aD P,f]at n1
 cases n1
 rw[←n2]
 exact g2 j #[]
end
theorem Dv{Z:St}{l:TT}{S:Hp}{fin:List V->Hp->Prop}(W:Nat->List V->Hp->Prop)(hz:xs.length<=sizeLine)(h0:W 0 [] S)(Y:∀i T H,i<=xs.length->W i T H->SqL K H a xs)
  (hs:∀i x T H,xs[i]?=some x->T.length<=i->W i T H->l (some x::cL Z caps) H λb G=>if b=true then c (some x::cL Z caps) G λy w=>W (i+1) (T++ [y]) w else W (i+1) T G) (hd:∀T H,W xs.length T H->fin T H):oS (Itl K a) Z caps l c S fin:=by
 refine#[xs.length,W,hz,h0,λi T M hi d hw=>?_]
 have q:=Y i T M hi hw
 by_cases f:i<xs.length
 ·refine .inr #[f,#[xs,xs[i],q,by simp [f]],λx U y=>?_]
  obtain⟨e,y⟩:=y
  subst e
  exact hs i x T _ (y xs q) d hw
 ·have e:i=xs.length:=#[]
  subst e
  exact .inl #[#[xs,q,aM _],hd T M hw]
noncomputable def eqN(n:Int):Value->Bool
 | .int a _=>a==n
 |_=>false
theorem lN{b:Addr}{Z:St}{S:Hp}{fin:List V->Hp->Prop}(W:Nat->List V->Hp->Prop)(hz:xs.length<=sizeLine)(l:xs.length=ys.length)(h0:W 0 [] S)(Y:∀i N H,i<=xs.length->W i N H->SqL K H a xs/\SqL K H b ys)
  (hs:∀i x y p N H,xs[i]?=some x->ys[i]?=some y->N.length=i->W i N H->H p=none->∀os:St,os.length=k->g (.ref p) (os++cL Z caps) (upd H p (.tup [x,y])) λj G=>(∃h:St,h.length=k/\j=h++cL Z caps)/\c j G λz w=>W (i+1) (N++ [z]) w)
  (hd:∀N H,N.length=xs.length->W xs.length N H->fin N H):mE (Itz K a b) Z k caps g c S fin:=by
 refine#[xs.length,W,hz,h0,λi N M hi d hw=>?_]
 obtain⟨q,r⟩:=Y i N M hi hw
 by_cases f:i<xs.length
 ·have n:i<ys.length:=#[]
  refine .inr #[f,#[xs,xs[i],ys,ys[i],q,by simp [f],r,by simp [n]],λx U y os D=>?_]
  obtain⟨s,O,o,e1,C,T,I,X⟩:=y
  subst e1 T
  exact hs i O o s N _ (I xs q) (X ys r) d hw C os D
 ·have e:i=xs.length:=#[]
  subst e
  exact .inl #[#[xs,ys,q,r,.inl (aM _)],hd N M d hw]
theorem jZc{Z:St}{S:Hp}{fin:List V->Hp->Prop}(W:Nat->List V->Hp->Prop)(hz:xs.length<=sizeLine)(h0:W 0 [] S)(Y:∀i N H,i<=xs.length->W i N H->SqL K H a xs)
  (hs:∀i x p N H,xs[i]?=some x->N.length=i->W i N H->H p=none->∀os:St,os.length=k->g (.ref p) (os++cL Z caps) (upd H p (.tup [.int i,x])) λj G=>(∃h:St,h.length=k/\j=h++cL Z caps)/\c j G λz w=>W (i+1) (N++ [z]) w)
  (hd:∀N H,N.length=xs.length->W xs.length N H->fin N H):mE (Ite K a) Z k caps g c S fin:=by
 refine#[xs.length,W,hz,h0,λi N M hi d hw=>?_]
 have q:=Y i N M hi hw
 by_cases f:i<xs.length
 ·refine .inr #[f,#[xs,xs[i],q,by simp [f]],λx U y os D=>?_]
  obtain⟨s,z,e1,C,T,y⟩:=y
  subst e1 T
  exact hs i z s N _ (y xs q) d hw C os D
 ·have e:i=xs.length:=#[]
  subst e
  exact .inl #[#[xs,q,aM _],hd N M d hw]
noncomputable def Kh:R2:=λx y H Q=>y=.non/\Q (.bl (decide (x=.non))) H
noncomputable def Wo:R2:=λx y H Q=>y=.non/\Q (.bl (!decide (x=.non))) H
theorem jW6{b:Addr}{D:rW}{Z:St}(n:Nat)(h:Nat->St->Hp->Prop)(h0:h 0 Z H)(Y:∀i Z H,i<=n->h i Z H->SqL K H a xs/\SqL K H b ys)(hx:n<=xs.length)(c:n<=ys.length)(U:xs.length<=n∨ys.length<=n)
  (hs:∀i x y p Z H,xs[i]?=some x->ys[i]?=some y->i<n->h i Z H->H p=none->g (.ref p) Z (upd H p (.tup [x,y])) λj M=>tb { D with nx:=h (i+1),ct:=h (i+1),bk:=D.nx } j M) (hd:∀Z H,h n Z H->D.nx Z H):
  ∃W:Nat->Nat->St->Hp->Prop,(∃m,W 0 m Z H)/\∀i m Z H,W i m Z H->
   ((Itz K a b).stop i H/\D.nx Z H)∨((Itz K a b).go i H/\∃N:St->Hp->Prop,(∀G d,N G d->∃l,l<m/\W (i+1) l G d)/\∀x d,(Itz K a b).yld i H x d->g x Z d λj M=>tb { D with nx:=N,ct:=N,bk:=D.nx } j M):=by
 refine#[λi m Z H=>m=n-i/\i<=n/\h i Z H,#[n,by simp,dL _,h0],?_]
 rintro i m Z H ⟨rfl,hi,p⟩
 obtain⟨q,r⟩:=Y i Z H hi p
 by_cases f:i<n
 ·have h1:i<xs.length:=#[]
  have h2:i<ys.length:=#[]
  refine .inr #[#[xs,xs[i],ys,ys[i],q,by simp [h1],r,by simp [h2]],h (i+1),λG d k=>#[n-(i+1),#[],rfl,f,k],λx d y=>?_]
  obtain⟨s,O,o,e1,C,T,I,X⟩:=y
  subst e1 T
  exact hs i O o s Z _ (I xs q) (X ys r) f p C
 ·have e:i=n:=#[]
  subst e
  exact .inl #[#[xs,ys,q,r,U],hd Z H p]
theorem jZb{b:Addr}{Z:St}{S:Hp}{fin:List V->Hp->Prop}(n:Nat)(W:Nat->List V->Hp->Prop)(hz:n<=sizeLine)(hx:n<=xs.length)(d:n<=ys.length)(m:xs.length<=n∨ys.length<=n)(h0:W 0 [] S)(Y:∀i N H,i<=n->W i N H->SqL K H a xs/\SqL K H b ys)
  (hs:∀i x y p N H,xs[i]?=some x->ys[i]?=some y->i<n->N.length=i->W i N H->H p=none->∀os:St,os.length=k->g (.ref p) (os++cL Z caps) (upd H p (.tup [x,y])) λj G=>(∃h:St,h.length=k/\j=h++cL Z caps)/\c j G λz w=>W (i+1) (N++ [z]) w)
  (hd:∀N H,N.length=n->W n N H->fin N H):mE (Itz K a b) Z k caps g c S fin:=by
 refine#[n,W,hz,h0,λi N M hi l hw=>?_]
 obtain⟨q,r⟩:=Y i N M hi hw
 by_cases f:i<n
 ·have h1:i<xs.length:=#[]
  have h2:i<ys.length:=#[]
  refine .inr #[f,#[xs,xs[i],ys,ys[i],q,by simp [h1],r,by simp [h2]],λx U y os D=>?_]
  obtain⟨s,O,o,e1,C,T,I,X⟩:=y
  subst e1 T
  exact hs i O o s N _ (I xs q) (X ys r) f l hw C os D
 ·have e:i=n:=#[]
  subst e
  exact .inl #[#[xs,ys,q,r,m],hd N M l hw]
structure xP(K:aO):Prop where
 cl:Cls K (eE K "Corner")
 nb:pR K (eE K "Corner") "begun"
 ns:pR K (eE K "Corner") "spans"
 nk:pR K (eE K "Corner") "kept"
 ni:pR K (eE K "Corner") "inside"
section
variable{X:Cx}
noncomputable def cIsT(K:aO):List V->Hp->VK->Prop:=λxs H Q=>∃p ys,xs=[.ref p,.ty "tuple"]/\SqT K H p ys/\Q (.bl true) H
theorem jVV:pY X (.builtin "isinstance") (cIsT X.K):=by
 intro B s Z H F R Q I r h
 obtain⟨p,T,rfl,J,q⟩:=h
 obtain⟨u,c,rfl,g,a⟩:=Qn r
 obtain rfl:c=Value.type "tuple":=a
 obtain rfl:u=Value.ref p:=g
 obtain⟨G,t,⟨o,h1,h2,_⟩,A⟩:=I.tuple J
 exact PySem.W.kia_one PySem.W.kitx_tuple I.kIn #[o,h1,h2] (kit_tt _) (λz=>nomatch z) λtk=>#[.bl true,H,I.tok _,rfl,q]
end
noncomputable def Wp:V->List V->Hp->VK->Prop:=λx vs H Q=>∃n:Int,x=.int n/\vs=[]/\Q (.int ((Builtin.Int.intBits n:Nat):Int)) H
noncomputable def CShl(i n:Int):Prop:=0<=n/\((Builtin.Int.intBits i:Nat):Int)+n<=2^27
noncomputable def rShl:R2:=rI CShl λi n=>.int (i*2^n.toNat)
noncomputable def rShr:R2:=rI (λ_ n=>0<=n) λi n=>.int (i.fdiv (2^n.toNat))
section
variable{X:Cx}
theorem jXY:MtR X "int.bit_length" Wp:=by
 intro B s Z H x F v R Q I N D h
 obtain⟨n,rfl,rfl,q⟩:=h
 obtain⟨t,rfl⟩:=N
 cases D
 exact call_int_bit_length #[.int _,H,I.tok _,#[_,rfl],q]
theorem jZ3:OpR X (binaryOp .LShift) rShl:=opI λ_ _ _ _ _ _ _ hc q=>lshift_int hc.1 hc.2 q
theorem jZ2:OpR X (binaryOp .RShift) rShr:=opI λ_ _ _ _ _ _ _ hc q=>rshift_int hc q
end
theorem oU:plainId "list.remove.loop"=true:=by decide+kernel
theorem Cf:entryFor table "list.remove.loop"=some Builtin.«list.remove.loop»:=entryFor_of_fast (by kernel_rfl)
theorem Yg(l:Addr)(zs:Array Value)(c:Nat)(x:Value)(q:Value->Bool)(j:Nat)(P:j<zs.size)(t:q zs[j]=true)(hz:zs.size<=sizeLine):∀(d i:Nat),j=i+d->(∀m(hm:m<zs.size),m<j->q zs[m]=false)->
  Meets (Builtin.«list.remove.loop» #[[.ref l,x,rawInt i],[]])
   (λA R s=>s.heap.get? l=some { cls:=.type "list",data:=.seq zs c }/\(∀y,y∈zs->SeqAt.EqAt A.in1 s y x (q y))/\R (.ok (.ret .none)) { s with heap:=s.heap.update l (Obj.mapSeq λa=>a.eraseIdxIfInBounds j) }):=by
 intro d
 induction d with
 |zero=>
  intro i o n prog w A R s h
  obtain⟨hp,g,G,tk,os⟩:=s
  obtain⟨Y,U,h⟩:=h
  obtain rfl:j=i:=o
  wp_walk using wpAny_loadPart' Y
  have e:zs[((j:Nat):Int).toNat]?=some zs[j]:=by simp [P]
  rw[e]
  refine aB (U _ (Array.getElem_mem P) prog w _ _ ?_)
  rw[t]
  have b:(zs.eraseIdxIfInBounds j).size<=sizeLine+1:=cO (PySem.MeetsSeq.size_erased zs _) (Nat.le_succ_of_le hz)
  wp_walk using(wpAny_updateSeq Y rfl (hz:=hz) (_hz':=b)),wpAny_loadPart' Y
  exact h
 |succ d ih=>
  intro i o n prog w A R s h
  obtain⟨hp,g,G,tk,os⟩:=s
  obtain⟨Y,U,h⟩:=h
  have T:i<zs.size:=#[]
  wp_walk using wpAny_loadPart' Y
  have e:zs[((i:Nat):Int).toNat]?=some zs[i]:=by simp [T]
  have e1:((i:Int)+1)=((i+1:Nat):Int):=#[]
  rw[e]
  refine aB (U _ (Array.getElem_mem T) prog w _ _ ?_)
  rw[n i T #[]]
  wp_walk
  rw[e1]
  refine#[plainId_quiet oU _,codeAny_builtin Cf ?_]
  rw[Around.under_plainId oU _]
  exact ih (i+1) #[] n prog w A R _ #[Y,U,h]
theorem jX8(l:Addr)(zs:Array Value)(c:Nat)(x:Value)(q:Value->Bool)(j:Nat)(P:j<zs.size)(t:q zs[j]=true)(hz:zs.size<=sizeLine)(n:∀m(hm:m<zs.size),m<j->q zs[m]=false):
  Meets (Builtin.«list.remove» #[[.ref l,x],[]])
   (λA R s=>s.heap.get? l=some { cls:=.type "list",data:=.seq zs c }/\(∀y,y∈zs->SeqAt.EqAt A.in1 s y x (q y))/\R (.ok (.ret .none)) { s with heap:=s.heap.update l (Obj.mapSeq λa=>a.eraseIdxIfInBounds j) }):=by
 intro prog w A R s h
 obtain⟨hp,g,G,tk,os⟩:=s
 wp_walk
 refine#[plainId_quiet oU _,codeAny_builtin Cf ?_]
 rw[Around.under_plainId oU _]
 exact Yg l zs c x q j P t hz j 0 #[] n prog w A R _ h
noncomputable def Kx:V->List V->Hp->VK->Prop:=λx vs H Q=>∃l ns n j,x=.ref l/\vs=[.int n]/\H l=some (.lst (List.map V.int ns))/\ns[j]?=some n/\(∀m,m<j->ns[m]?≠some n)/\Q .non (upd H l (.lst (List.map V.int (ns.eraseIdx j))))
theorem Ug{d c:Type}(f:d->c):∀(l:List d)(i:Nat),(l.eraseIdx i).map f=(l.map f).eraseIdx i
 | [],i=>by simp
 |a::r,0=>rfl
 |a::r,i+1=>by show f a::(r.eraseIdx i).map f=f a::(r.map f).eraseIdx i;rw[Ug f r i]
theorem jYj:MtM X "list.remove" Kx:=by
 intro B s Z H x p v R Q I N D h
 obtain⟨l,ns,n,j,rfl,rfl,k,P,f,q⟩:=h
 cases N
 obtain⟨u,rfl,g⟩:=D.one
 obtain⟨z,G,c,r,Y,e⟩:=I.lstM k
 have b:j<ns.length:=(aK.mp P).1
 have len:=r.length
 rw[aA]at len
 have at_:∀m(hm:m<G.toArray.size),∃a t,ns[m]?=some a/\G.toArray[m]=.int a t:=λm hm=>by
  have h1:m<G.length:=by simpa using hm
  have h2:m<ns.length:=#[]
  obtain⟨w,e1,C⟩:=r.get (i:=m) (x:=.int ns[m]) (by rw[aY,aD h2];rfl)
  obtain⟨t,rfl⟩:=C
  refine#[ns[m],t,aD h2,?_]
  obtain⟨_,T⟩:=aK.mp e1
  simpa using T
 refine call_meets F.slot_list_remove #[_,e,rfl] F.entry_list_remove (F.args_list_remove_2 _ _) (jX8 l G.toArray c u (eqN n) j (by rw[bM];omega) ?_ (by rw[bM,←Y];exact z) λm hm o=>?_) #[e,λy d=>?_,?_]
 ·obtain⟨a,t,e1,C⟩:=at_ j (by rw[bM];omega)
  rw[P]at e1
  cases e1
  rw[C]
  show(n==n)=true
  simp
 ·obtain⟨a,t,e1,C⟩:=at_ m hm
  rw[C]
  show(a==n)=false
  have:a≠n:=λz=>f m o (by rw[e1,z])
  simpa using this
 ·obtain⟨m,hm,e1⟩:=Array.getElem_of_mem d
  obtain⟨a,t,_,C⟩:=at_ m hm
  rw[←e1,C]
  exact Si (i:=a) (j:=n) #[t,rfl] g
 ·refine#[.non,_,I.lset (its':=G.eraseIdx j) k e ?_ ?_ ?_,rfl,q]
  ·show G.toArray.eraseIdxIfInBounds j=(G.eraseIdx j).toArray
   rw[List.eraseIdxIfInBounds_toArray]
  ·rw[Ug];exact r.eraseIdx j
  ·have:=Rx (List.map V.int ns) j
   rw[Ug]
   omega
section
variable{prog:Program}{w:World}{A:Around}{R:Result->Shared->Prop}{it:Addr}{fp wr:List Addr}{n:Nat}{P:Nat->Value->Prop}{St:Nat->Heap->Prop}
theorem max_goD(W:Walks prog w A.in1 it fp wr n P St)(u:Nat->Nat->Bool)(C:CmpOf prog w A.in1 .Gt P u)(B:Addr)(out:B∉fp)(i:List (Str×Value)):∀(k j:Nat)(s:Shared)(d:Value)(c:Nat),n=j+1+k->St (j+1) s.heap->P (argBest u j) d->
  s.heap.get? B=some { cls:=.type "list",dict:=none,data:=.seq (List.toArray [d,d]) c,slots:=(List.toArray []) }->
  (∀v M tk,P (argBest u (n-1)) v->(∀b o,b∉wr->b≠B->s.heap.get? b=some o->M.get? b=some o)->R (.ok (.ret v)) { s with heap:=M,toks:=tk })->
  codeAny (model prog w) A (.builtin "max.loop" #[[.ref it,.none,.ref B],i]) R s:=by
 have p:B∉wr:=λz=>out (W.sub _ z)
 have y:(toString "max"++toString ".loop":String)="max.loop":=by decide
 intro k
 induction k with
 |zero=>
  intro j s d c en st I t fin
  refine codeAny_builtin PySem.F.entry_max_loop ?_;rw[Around.under_plainId PySem.F.plain_max_loop _]
  show wpAny _ A.in1 (seqItems? (.ref B)>>=_) _ _ s
  refine aB (wpAny_seqItems t rfl ?_);show wpAny _ A.in1 (tryCatch (pyNext (.ref it)) _>>=_) _ _ s
  have r:n=j+1:=en
  refine aB (wpAny_tryCatch (W.done s _ _ (r▸st) λM tk keep=>?_))
  have h:=keep B _ p t
  show wpAny _ A.in1 (updateSeq B (λ_=>(List.toArray []))>>=_) _ _ _
  refine aB ?_;refine wpAny_updateSeq h rfl (aB (wpAny_letGo (aT ?_)))
  refine fin d _ tk (by rw[r];exact I) λb o G x e=>(dJ _ _ (Ne.symm x)).trans (keep b o G e)
 |succ k ih=>
  intro j s d c en st I t fin
  refine codeAny_builtin PySem.F.entry_max_loop ?_;rw[Around.under_plainId PySem.F.plain_max_loop _]
  show wpAny _ A.in1 (seqItems? (.ref B)>>=_) _ _ s
  refine aB (wpAny_seqItems t rfl ?_);show wpAny _ A.in1 (tryCatch (pyNext (.ref it)) _>>=_) _ _ s
  refine aB (wpAny_tryCatch (W.item (j+1) s _ _ #[] st λv M tk a m keep=>?_))
  have h:=keep B _ p t
  show wpAny _ A.in1 (tryCatch (holding [v,v] (richCompare .Gt v d>>=_)) _>>=_) _ _ { s with heap:=M,toks:=tk }
  refine aB (wpAny_tryCatch (wpAny_holding (aB (C (j+1) (argBest u j) v d _ _ _ a I (aB (wpAny_holding (wpAny_truthy_bool (aB (wpAny_letGo (aT ?_))))))))))
  cases better:u (j+1) (argBest u j)with
  |true=>
   simp only[if_true]
   refine aB ?_;refine wpAny_updateSeq h rfl (aB (wpAny_letGo ?_));rw[y]
   refine aT #[plainId_quiet PySem.F.plain_max_loop _,ih (j+1) _ v _ #[] (W.frame _ _ _ m λb D o e=>?_) (by simp only[argBest,better,if_true];exact a) (Heap.get?_update_self _ h rfl) λS g l q f=>?_]
   ·exact(dJ _ _ (λz:B=b=>out (by rw[z];exact D))).trans e
   ·exact fin S g l q λb o G x e=>f b o G x ((dJ _ _ (Ne.symm x)).trans (keep b o G e))
  |false=>
   simp only[Bool.false_eq_true,if_false]
   refine aB (wpAny_letGo ?_);rw[y]
   refine aT #[plainId_quiet PySem.F.plain_max_loop _,ih (j+1) _ d c #[] m (by simp only[argBest,better,Bool.false_eq_true,if_false];exact I) h λS g l q f=>?_]
   exact fin S g l q λb o G x e=>f b o G x (keep b o G e)
theorem jJ3(W:Walks prog w A.in1 it fp wr n P St)(u:Nat->Nat->Bool)(C:CmpOf prog w A.in1 .Gt P u)(B:Addr)(out:B∉fp)(d:Value){c:Nat}(st:St 0 s.heap)(t:s.heap.get? B=some { cls:=.type "list",dict:=none,data:=.seq (List.toArray []) c,slots:=(List.toArray []) })
  (f0:n=0->∀M tk,(∀b o,b∉wr->b≠B->s.heap.get? b=some o->M.get? b=some o)->R (.ok (.ret d)) { s with heap:=M,toks:=tk })
  (r:0<n->∀v M tk,P (argBest u (n-1)) v->(∀b o,b∉wr->b≠B->s.heap.get? b=some o->M.get? b=some o)->R (.ok (.ret v)) { s with heap:=M,toks:=tk }):
  codeAny (model prog w) A (.builtin "max.loop" #[[.ref it,.none,.ref B],[("default",d)]]) R s:=by
 have p:B∉wr:=λz=>out (W.sub _ z)
 have y:(toString "max"++toString ".loop":String)="max.loop":=by decide
 refine codeAny_builtin PySem.F.entry_max_loop ?_;rw[Around.under_plainId PySem.F.plain_max_loop _]
 show wpAny _ A.in1 (seqItems? (.ref B)>>=_) _ _ s
 refine aB (wpAny_seqItems t rfl ?_);show wpAny _ A.in1 (tryCatch (pyNext (.ref it)) _>>=_) _ _ s
 rcases Nat.eq_zero_or_pos n with n0 |n1
 ·refine aB (wpAny_tryCatch (W.done s _ _ (n0▸st) λM tk keep=>?_))
  wp_walk
  exact f0 n0 M tk λb o G _ e=>keep b o G e
 ·refine aB (wpAny_tryCatch (W.item 0 s _ _ n1 st λv M tk a m keep=>?_))
  have h:=keep B _ p t
  show wpAny _ A.in1 (updateSeq B (λ_=>(List.toArray [v,v]))>>=_) _ _ { s with heap:=M,toks:=tk }
  refine aB ?_;refine wpAny_updateSeq h rfl ?_;rw[y]
  refine aT #[plainId_quiet PySem.F.plain_max_loop _,max_goD W u C B out _ (n-1) 0 _ v _ #[] (W.frame _ _ _ m λb D o e=>?_) a (Heap.get?_update_self _ h rfl) λS g l q f=>?_]
  ·exact(dJ _ _ (λz:B=b=>out (by rw[z];exact D))).trans e
  ·exact r n1 S g l q λb o G x e=>f b o G x ((dJ _ _ (Ne.symm x)).trans (keep b o G e))
end
theorem jZd{b:Addr}{Z:St}{l:TT}{S:Hp}{fin:List V->Hp->Prop}(W:Nat->List V->Hp->Prop)(hz:xs.length<=sizeLine)(t:xs.length=ys.length)(h0:W 0 [] S)(Y:∀i N H,i<=xs.length->W i N H->SqL K H a xs/\SqL K H b ys)
  (hs:∀i x y p N H,xs[i]?=some x->ys[i]?=some y->N.length<=i->W i N H->H p=none->∀os:St,os.length=k->g (.ref p) (os++cL Z caps) (upd H p (.tup [x,y])) λj G=>(∃h:St,h.length=k/\j=h++cL Z caps)/\l j G λb w=>if b=true then c j w λz m=>W (i+1) (N++ [z]) m else W (i+1) N w)
  (hd:∀N H,W xs.length N H->fin N H):qT (Itz K a b) Z k caps g l c S fin:=by
 refine#[xs.length,W,hz,h0,λi N M hi d hw=>?_]
 obtain⟨q,r⟩:=Y i N M hi hw
 by_cases f:i<xs.length
 ·have n:i<ys.length:=#[]
  refine .inr #[f,#[xs,xs[i],ys,ys[i],q,by simp [f],r,by simp [n]],λx U y os D=>?_]
  obtain⟨s,O,o,e1,C,T,I,X⟩:=y
  subst e1 T
  exact hs i O o s N _ (I xs q) (X ys r) d hw C os D
 ·have e:i=xs.length:=#[]
  subst e
  exact .inl #[#[xs,ys,q,r,.inl (aM _)],hd N M hw]
theorem jY0{lo:Int}{n:Nat}{Z:St}{l:TT}{S:Hp}{fin:List V->Hp->Prop}(W:Nat->List V->Hp->Prop)(hz:n<=sizeLine)(h0:W 0 [] S)
  (hs:∀i T H,i<n->T.length<=i->W i T H->l (some (.int (lo+i))::cL Z caps) H λb G=>if b=true then c (some (.int (lo+i))::cL Z caps) G λy w=>W (i+1) (T++ [y]) w else W (i+1) T G)
  (hd:∀T H,W n T H->fin T H):oS (Itr lo n) Z caps l c S fin:=by
 refine#[n,W,hz,h0,λi T M hi d hw=>?_]
 by_cases f:i<n
 ·refine .inr #[f,f,λx U y=>?_]
  obtain⟨e1,C⟩:=y
  subst e1 C
  exact hs i T _ f d hw
 ·have e:i=n:=#[]
  subst e
  exact .inl #[aM _,hd T M hw]
theorem jY4(a d:Value):argsOk "max" #[[a],[("default",d)]]:=by unfold argsOk;kernel_rfl
section
variable{prog:Program}{w:World}{A:Around}{E:Value->Shared->Prop}{s:Shared}
theorem jZe{id:String}{b:Builtin}{c:List Value}{i:List (Str×Value)}{Q:Value->Shared->Prop}(kind:builtinKind id=none)(a:plainId id=true)(ent:entryFor table id=some b)(ok:argsOk id #[c,i])
  (run:wpAny (model prog w) A.in1 (b #[c,i]) (λfin z=>match fin with
   | .done g=>(match(Except.ok g:Result)with | .ok (.ret u)=>Q u z | .ok _=>False | .error e=>E e z)
   | .again k=>k.quiet=true/\codeAny (model prog w) A k (λr y=>match r with | .ok (.ret u)=>Q u y | .ok _=>False | .error e=>E e y) z) E s):
  wpAny (model prog w) A (call (.builtin id) c i) Q E s:=by
 refine wpAny_call (codeAny_call_builtin a ent ?_)
 simp only[checkBuiltinCall,kind]
 cases sig:Manifest.signature? id with
 |none=>exact aT run
 |some g=>
  have x:Bind.checkArgs id g #[c,i]=pure ():=by simpa only[argsOk,sig]using ok
  simp only[x]
  exact aT run
theorem jY1{l:Addr}{xs:Array (Int×Tok)}{d:Value}{Q:Value->Shared->Prop}(calm:A.handled=none)(Y:s.heap.IsList l (intItems xs))
  (f0:xs.size=0->∀M tk,(∀b o,s.heap.get? b=some o->M.get? b=some o)->Q d { s with heap:=M,toks:=tk })
  (r:0<xs.size->∀v M tk,(intItems xs)[argBest (λi j=>decide (numAt xs i>numAt xs j)) (xs.size-1)]?=some v->(∀b o,s.heap.get? b=some o->M.get? b=some o)->Q v { s with heap:=M,toks:=tk }):
  wpAny (model prog w) A (call (.builtin "max") [.ref l] [("default",d)]) Q E s:=by
 have y:(toString "max"++toString ".loop":String)="max.loop":=by decide
 have sz:(intItems xs).size=xs.size:=by simp [intItems]
 refine jZe PySem.F.kind_max PySem.F.plain_max PySem.F.entry_max (jY4 _ _) ?_
 show wpAny _ A.in1 (Builtin.Builtins.bindParams "max" ["key","default"] 0 #[[],[("default",d)]]>>=_) _ _ s
 refine aB (wpAny_of_eq (show Builtin.Builtins.bindParams "max" ["key","default"] 0 #[[],[("default",d)]]=pure [none,some d]from rfl) ?_)
 refine aB (aT (aB (iter_intList Y λg e st c f=>?_)))
 subst e
 refine aB (wpAny_newObj_type ?_)
 rw[y]
 have W:=Walks.list (prog:=prog) (w:=w) (A:=A.in1) calm _ l f (intItems xs)
 refine aT #[plainId_quiet PySem.F.plain_max_loop _,jJ3 W _ (CmpOf.ints_gt (numAt xs) (λ_ _=>intItems_at)) _ (λz=>eV _ (c _ z)) d (W.frame _ _ _ st λb _ o e=>aQ _ e) (bL _ rfl) (λN M tk keep=>?_) λn1 v M tk a keep=>?_]
 ·refine f0 (by rw[←sz];exact N) M tk (old_kept λb o G e=>keep b o G (bJ (aW e)) (aQ _ e))
 ·rw[sz]at n1 a
  refine r n1 v M tk a (old_kept λb o G e=>keep b o G (bJ (aW e)) (aQ _ e))
end
noncomputable def tMaxD(K:aO)(t:TA)(d:TE):TE:=λZ H Q=>t Z H λvs S=>∃x,vs=[x]/\d Z S λy b=>∃p ns,x=.ref p/\SqL K b p (List.map V.int ns)/\(ns=[]->Q y b)/\(ns≠[]->∀M,M∈ns->(∀a∈ns,a<=M)->Q (.int M) b)
noncomputable def tTru(K:aO)(t:TE):TT:=λZ H Q=>t Z H λx H'=>∃k,TruV K x H' k/\Q k H'
section
variable{X:Cx}
theorem pe_maxD{e d:Expr}{c:TA}{T:TE}{kp pos:Pos}(calm:X.calm=true)(hg:Gl X "max")(hm:X.mg "max"=none)(ha:PA X [e] c)(hd:PE X d T)
  (h1:backTo pos (starEach [e] X.env)=(false,eval e X.env)::backTo pos (starEach [] X.env):=by rfl) (h2:(backTo pos (starEach [e] X.env)).any (·.1)=false:=by rfl):PE X (.Call (.Name "max" p) [e] [#[some "default",d,kp]] pos) (tMaxD X.K c T):=by
 intro B s Z H Q I h
 refine wpAny_Call_Name_kw (lS I hg hm Mg ?_ (by decide) (by decide))
 refine callWith_kw ?_ h1 h2
 refine thn (ha pos B s Z H _ I h) λR O z=>?_
 obtain⟨m,S,I1,f,x,rfl,q1⟩:=z
 obtain⟨u,rfl,g⟩:=xS f
 refine kws_cons (thn (hd B O Z S _ I1 q1) λv F#[y,U,k,ry,l,ns,ex,hp,q0,J]=>kws_nil ?_)
 subst ex
 cases g
 obtain⟨G,D,pl,A⟩:=k.list hp
 obtain⟨q,e1,C⟩:=D.ints
 have Y:q.length=ns.length:=by rw[←C,aA]
 have o:G.toArray=intItems q.toArray:=by rw[e1];unfold intItems;simp
 have b:=pl.isList
 rw[o]at b
 refine jY1 (k.ok.hd calm) b (λN h' tk keep=>?_) λn1 w h' tk hw keep=>?_
 ·rw[bM]at N
  exact#[y,U,k.kept keep,ry,q0 (List.length_eq_zero_iff.mp #[])]
 ·obtain⟨t,rfl⟩:=intItems_at hw
  obtain⟨g1,g2⟩:=argBest_gt (numAt q.toArray) (q.toArray.size-1)
  rw[bM]at g1 g2 n1⊢
  obtain⟨M,m1,m2⟩:=uA C (argBest (λi j=>decide (numAt q.toArray i>numAt q.toArray j)) (q.length-1)) #[]
  rw[m2]at g2⊢
  refine#[.int M,U,k.kept keep,#[_,rfl],J (λz=>by rw[z,List.length_nil]at Y;omega) M (aL m1) λa ha=>?_]
  obtain⟨j,P,ej⟩:=List.getElem_of_mem ha
  obtain⟨n,r,n2⟩:=uA C j P
  rw[aD P,ej]at r
  cases r
  rw[←n2]
  exact g2 j #[]
theorem jWi{x:Str}{n:Int}{pos:Pos}(hg:Gl X x)(hm:∃t,X.mg x=some (.int n t))(hd:(x==("__debug__":Str))=false:=by decide):PE X (.Name x pos) (tC (.int n)):=
 let⟨t,e⟩:=hm
 pe_glob (v:=.int n) hg e #[t,rfl] hd
end
structure Bk(K:aO)(x qual:Str)(st:Stmt)(df:Value)(f:Addr)(fd:FuncData):Prop where
 ex:∃(oc:Value)(od:Option Addr)(kV doc pm:Value)(an:Option Addr)(cdv ct:Value)(osl:Array (Option Value)),
  fd=PySem.W.fnOf x qual (oR st) (nF st) (eT st) df kV doc pm an cdv ct/\K.lookup f=some #[oc,od,.func fd,osl]/\PySem.W.codeIn K cdv qual=true
 kp:PySem.W.keepIn K (.ref f)=true
section
variable{P:Program}{w:World}{K:aO}{mg:Str->Option Value}{base:Heap}{x qual:Str}{st:Stmt}{df:Value}{f:Addr}{fd:FuncData}{N ps:List Str}{k:Nat}{sp:Sp}
theorem Bk.binds(F:Bk K x qual st df f fd)(h:∀(kV i z:Value)(C:Option Addr)(cdv ct:Value)(us:List Value),us.length=ps.length->bindArgs (PySem.W.fnOf x qual (oR st) (nF st) (eT st) df kV i z C cdv ct) #[us,[]]=pure (ps.zip us)):sD K fd ps []:=by
 obtain⟨X,l,kV,i,z,C,cdv,ct,M,rfl,Z,p⟩:=F.ex
 exact .all (h kV i z C cdv ct)
theorem Bk.bindsD{T:Addr}{items:Array Value}{n:Nat}(F:Bk K x qual st (.ref T) f fd)(d:K.lookup T=some o)(hd:o.data=.seq items n)
  (h:∀(kV i z:Value)(C:Option Addr)(cdv ct:Value)(us:List Value),us.length=ps.length->∃k,bindArgs (PySem.W.fnOf x qual (oR st) (nF st) (eT st) (.ref T) kV i z C cdv ct) #[us,[]]=seqItems? (.ref T)>>=k/\k (some items)=pure (ps.zip us)):sD K fd ps []:=by
 obtain⟨X,l,kV,i,z,C,cdv,ct,M,rfl,Z,p⟩:=F.ex
 intro s us S Y
 rw[bZ]at Y⊢
 obtain⟨k,h1,h2⟩:=h kV i z C cdv ct us Y
 exact BindsTo.of_defaults rfl (S _ _ d) hd h1 h2
end
theorem ty_zip3(a b c:Value):checkTypeCall "zip" #[[a,b,c],[]]=pure ():=by kernel_rfl
theorem nw_zip3(a b c:Value):checkBuiltinCall "zip.__new__" #[[.type "zip",a,b,c],[]]=pure ():=by kernel_rfl
theorem jVa(a b c d:Value):argsOk "object.__init__" #[[a,b,c,d],[]]:=by unfold argsOk;rw[signature?_of (id:="object.__init__") (n:=['_','_','t','i','n','i','_','_']) (o:=['t','c','e','j','b','o']) (by kernel_rfl) F.owner_object];kernel_rfl
noncomputable abbrev xW(h:Heap)(T:Addr)(u v x:Value):Prop:=h.get? T=some { cls:=.type "tuple",data:=.seq (List.toArray [u,v,x]) }
structure Z3(n l1 l2 l3 i:Nat)(f0:Value)(h:Heap):Prop where
 z:IsZip h (n+5) (n+3) (n+4) f0
 ti:xW h (n+3) (.ref n) (.ref (n+1)) (.ref (n+2))
 to:∃u v x,xW h (n+4) u v x
 h1:h.IsListIter n l1 i
 h2:h.IsListIter (n+1) l2 i
 h3:h.IsListIter (n+2) l3 i
section
variable{prog:Program}{w:World}{A:Around}{E:Value->Shared->Prop}{s:Shared}{n l1 l2 l3 i:Nat}{xs ys zs:Array Value}
theorem Zg{T:Addr}{a b c x:Value}{Q:Unit->Shared->Prop}(B:xW s.heap T a b c)
  (h:∀g,g.get? T=some { cls:=.type "tuple",data:=.seq (((List.toArray [a,b,c]):Array Value).setIfInBounds k x) }->Heap.SameBut T s.heap g->Q () { s with heap:=g }):wpAny (model prog w) A (updateSeq T (·.setIfInBounds k x)) Q E s:=by
 refine wpAny_updateSeq B rfl (h _ ?_ (Heap.SameBut.update ..))
 rw[Heap.get?_update_self _ B rfl];simp [Obj.mapSeq]
theorem rZ{c0:Nat}{g g':Heap}(b:Heap.SameBut c0 g g'):∀(c:Nat) o,c≠c0->g.get? c=some o->g'.get? c=some o:=λc o h e=>b.extBut _ _ h e
theorem z3_item{x y z:Value}(b1:l1<n)(b2:l2<n)(R:l3<n)(Z:Z3 n l1 l2 l3 i .none s.heap)(M:s.heap.IsList l1 xs)(p2:s.heap.IsList l2 ys)(p3:s.heap.IsList l3 zs)
  (hx:xs[i]?=some x) (d:ys[i]?=some y) (hz:zs[i]?=some z)
  (k:∀g,Z3 n l1 l2 l3 (i+1) (rawInt s.heap.objs.size) g->xW g s.heap.objs.size x y z->(∀(c:Nat) o,c<n∨n+6<=c->s.heap.get? c=some o->g.get? c=some o)->Q (some (.ref s.heap.objs.size)) { s with heap:=g }):
  wpAny (model prog w) A (pyNext (.ref (n+5))) Q E s:=by
 have B:s.TypeIs (.ref (n+5)) "zip":=#[_,Z.z,rfl]
 unfold pyNext
 refine aB (wpAny_attempt (wpAny_callSpecial?_slot (name:="__next__") B F.slot_zip_next (wpAny_call_entry F.slot_zip_next B F.entry_zip_next ?_ (F.args_zip_next_1 _))))
 obtain⟨u,v,t,kO⟩:=Z.to
 show wpAny _ _ (field _ 2>>=_) _ _ _
 refine aB (wpAny_field Z.z rfl (x:=.bool false) rfl ?_)
 show wpAny _ _ (field _ 3>>=_) _ _ _
 refine aB (wpAny_field Z.z rfl (x:=.ref (n+3)) rfl (aB (wpAny_seqItems Z.ti rfl ?_)))
 show wpAny _ _ (Builtin.SmallTypes.ownedTupleIsFree _>>=_) _ _ _
 refine aB ?_
 unfold Builtin.SmallTypes.ownedTupleIsFree
 refine aB (wpAny_field Z.z rfl (x:=.none) rfl (aT ?_))
 simp only[if_true]
 refine aB (wpAny_rule (aB (wpAny_field Z.z rfl (x:=.ref (n+4)) rfl (aB (wpAny_setField_rec Z.z (by simp) λN O b1=>?_)))))
 replace O:IsZip N (n+5) (n+3) (n+4) .ellipsis:=O
 have r:=rZ b1
 refine aB ?_
 simp only[List.zipIdx_cons,List.zipIdx_nil,List.forIn_cons,List.forIn_nil]
 refine aB (aB (wpAny_onRaise ?_))
 show wpAny _ _ (Builtin.SmallTypes.nextOf _>>=_) _ _ _
 refine aB (wpAny_nextOf_list_item (s:={ s with heap:=N }) (Z.h1.at λo e=>r _ o #[] e) (M.at λo e=>r _ o #[] e) hx λg2 J b2=>aT ?_)
 have l:=rZ b2
 have t2:xW g2 (n+4) u v t:=l _ _ #[] (r _ _ #[] kO)
 refine aB (wpAny_seqItems t2 rfl (aB (Zg t2 λa p R=>?_)))
 replace p:xW a (n+4) x v t:=p
 have u3:=rZ R
 refine aB (wpAny_letGo (aT (aB (aB (wpAny_onRaise ?_)))))
 show wpAny _ _ (Builtin.SmallTypes.nextOf _>>=_) _ _ _
 have G:∀(c:Nat) o,c≠n+5->c≠n->c≠n+4->s.heap.get? c=some o->a.get? c=some o:=λc o q C X e=>u3 c o X (l c o C (r c o q e))
 refine aB (wpAny_nextOf_list_item (s:={ s with heap:=a }) (Z.h2.at λo e=>G _ o #[] #[] #[] e) (p2.at λo e=>G _ o #[] #[] #[] e) d λg4 q4 j=>aT ?_)
 have u4:=rZ j
 have H:xW g4 (n+4) x v t:=u4 _ _ #[] p
 refine aB (wpAny_seqItems H rfl (aB (Zg H λU I b=>?_)))
 replace I:xW U (n+4) x y t:=I
 have u5:=rZ b
 refine aB (wpAny_letGo (aT (aB (aB (wpAny_onRaise ?_)))))
 show wpAny _ _ (Builtin.SmallTypes.nextOf _>>=_) _ _ _
 have K:∀(c:Nat) o,c≠n+4->c≠n+1->a.get? c=some o->U.get? c=some o:=λc o q C e=>u5 c o q (u4 c o C e)
 refine aB (wpAny_nextOf_list_item (s:={ s with heap:=U }) (Z.h3.at λo e=>K _ o #[] #[] (G _ o #[] #[] #[] e)) (p3.at λo e=>K _ o #[] #[] (G _ o #[] #[] #[] e)) hz λg6 q6 b6=>aT ?_)
 have u6:=rZ b6
 have T:xW g6 (n+4) x y t:=u6 _ _ #[] I
 refine aB (wpAny_seqItems T rfl (aB (Zg T λf Y b7=>?_)))
 replace Y:xW f (n+4) x y z:=Y
 have u7:=rZ b7
 refine aB (wpAny_letGo (aT (aT (aB (wpAny_seqItems Y rfl (aB (wpAny_newTuple ?_)))))))
 have sz:f.objs.size=s.heap.objs.size:=by rw[b7.1,b6.1,b.1,j.1,R.1,b2.1,b1.1]
 have S:∀(c:Nat) o,c≠n+4->c≠n+2->U.get? c=some o->f.get? c=some o:=λc o q C e=>u7 c o q (u6 c o C e)
 have z7:IsZip f (n+5) (n+3) (n+4) .ellipsis:=S _ _ #[] #[] (K _ _ #[] #[] (u3 _ _ #[] (l _ _ #[] O)))
 have zl:n+5<f.objs.size:=aW z7
 show wpAny _ _ (Builtin.SmallTypes.ownedTupleHandOut _ (.ref f.objs.size)>>=_) _ _ _
 refine aB ?_
 unfold Builtin.SmallTypes.ownedTupleHandOut
 refine aB (wpAny_setField_rec (aQ _ z7) (by simp) λg8 z8 b8=>?_)
 replace z8:IsZip g8 (n+5) (n+3) (n+4) (rawInt f.objs.size):=z8
 refine wpAny_setField_rec z8 (by simp) λg9 z9 D=>?_
 replace z9:IsZip g9 (n+5) (n+3) (n+4) (rawInt f.objs.size):=z9
 have P:∀(c:Nat) o,c≠n+5->f.get? c=some o->g9.get? c=some o:=λc o h e=>rZ D c o h (rZ b8 c o h (aQ _ e))
 have m:xW g9 f.objs.size x y z:=rZ D _ _ (Nat.ne_of_gt zl) (rZ b8 _ _ (Nat.ne_of_gt zl) (bL _ rfl))
 refine aT #[_,rfl,aT ?_]
 show Q (some (.ref f.objs.size)) _
 rw[sz]at z9 m⊢
 refine k g9 #[z9,P _ _ #[] (S _ _ #[] #[] (K _ _ #[] #[] (G _ _ #[] #[] #[] Z.ti))),#[_,_,_,P _ _ #[] Y],J.at λo e=>P _ o #[] (S _ o #[] #[] (K _ o #[] #[] (u3 _ o #[] e))),q4.at λo e=>P _ o #[] (S _ o #[] #[] (u5 _ o #[] e)),q6.at λo e=>P _ o #[] (u7 _ o #[] e)] m λc o hc e=>P c o #[] (S c o #[] #[] (K c o #[] #[] (G c o #[] #[] #[] e)))
theorem z3_end(t:A.handled=none)(b1:l1<n)(Z:Z3 n l1 l2 l3 i .none s.heap)(M:s.heap.IsList l1 xs)(hx:xs[i]?=none)
  (k:∀g,(∀(c:Nat) o,c<n∨n+6<=c->s.heap.get? c=some o->g.get? c=some o)->Q none { s with heap:=g }):wpAny (model prog w) A (pyNext (.ref (n+5))) Q E s:=by
 have B:s.TypeIs (.ref (n+5)) "zip":=#[_,Z.z,rfl]
 unfold pyNext
 refine aB (wpAny_attempt (wpAny_callSpecial?_slot (name:="__next__") B F.slot_zip_next (wpAny_call_entry F.slot_zip_next B F.entry_zip_next ?_ (F.args_zip_next_1 _))))
 show wpAny _ _ (field _ 2>>=_) _ _ _
 refine aB (wpAny_field Z.z rfl (x:=.bool false) rfl ?_)
 show wpAny _ _ (field _ 3>>=_) _ _ _
 refine aB (wpAny_field Z.z rfl (x:=.ref (n+3)) rfl (aB (wpAny_seqItems Z.ti rfl ?_)))
 show wpAny _ _ (Builtin.SmallTypes.ownedTupleIsFree _>>=_) _ _ _
 refine aB ?_
 unfold Builtin.SmallTypes.ownedTupleIsFree
 refine aB (wpAny_field Z.z rfl (x:=.none) rfl (aT ?_))
 simp only[if_true]
 refine aB (wpAny_rule (aB (wpAny_field Z.z rfl (x:=.ref (n+4)) rfl (aB (wpAny_setField_rec Z.z (by simp) λN O q=>?_)))))
 replace O:IsZip N (n+5) (n+3) (n+4) .ellipsis:=O
 have r:=rZ q
 refine aB ?_
 simp only[List.zipIdx_cons,List.zipIdx_nil,List.forIn_cons,List.forIn_nil]
 refine aB (aB (wpAny_onRaise ?_))
 show wpAny _ _ (Builtin.SmallTypes.nextOf _>>=_) _ _ _
 refine aB (wpAny_nextOf_list_end t (s:={ s with heap:=N }) (Z.h1.at λo e=>r _ o #[] e) (M.at λo e=>r _ o #[] e) hx λg2 e b2 U=>?_)
 obtain⟨v,d,m⟩:=U
 have l:IsZip g2 (n+5) (n+3) (n+4) .ellipsis:=b2 _ _ (show(n+5:Nat)≠n by omega) O
 have j:e≠n+5:=λh=>by rw[h,l]at d;cases d;simp at m
 refine wpAny_setField_rec l (by simp) λa _ R=>?_
 refine aB (wpAny_isInstance (T:="StopIteration") (b:=true) #[v,R.extBut _ _ j d,m] isSubtype_stop (aT (k a λc o hc h=>rZ R c o #[] (b2 c o (show(c:Nat)≠n by omega) (r c o #[] h)))))
end
noncomputable abbrev za1(g:Heap)(a:Addr):Heap:=g.push { cls:=.type "list_iterator",data:=.fields (List.toArray [.ref a,.int 0 0]) }
noncomputable abbrev za3(g:Heap)(a b c:Addr):Heap:=za1 (za1 (za1 g a) b) c
noncomputable abbrev za4(g:Heap)(a b c:Addr):Heap:=(za3 g a b c).push { cls:=.type "tuple",data:=.seq (List.toArray [.ref g.objs.size,.ref (za1 g a).objs.size,.ref (za1 (za1 g a) b).objs.size]) }
noncomputable abbrev za5(g:Heap)(a b c:Addr):Heap:=(za4 g a b c).push { cls:=.type "tuple",data:=.seq (List.toArray [.none,.none,.none]) }
noncomputable abbrev za6(g:Heap)(a b c:Addr):Heap:=(za5 g a b c).push { cls:=.type "zip",data:=.fields (List.toArray [.none,.bool false,.bool false,.ref (za3 g a b c).objs.size,.ref (za4 g a b c).objs.size]) }
theorem jWs(a b c:Addr)(xs ys zs:Array Value):Meets (Builtin.«zip.__new__» #[[.type "zip",.ref a,.ref b,.ref c],[]]) (λ_ R s=>s.heap.IsList a xs/\s.heap.IsList b ys/\s.heap.IsList c zs/\R (.ok (.ret (.ref (za5 s.heap a b c).objs.size))) { s with heap:=za6 s.heap a b c }):=
 .of_wp λprog w A R s h=>by
  obtain⟨hp,g,d,tk,os⟩:=s
  obtain⟨ha,hb,hc,h⟩:=h
  have e:=sub_zip
  have h1:Heap.IsList (Shared.heap #[hp,g,d,tk,os]) a xs:=ha
  have h2:Heap.IsList (Shared.heap #[za1 hp a,g,d,tk,os]) b ys:=Heap.IsList.push hb _
  have h3:Heap.IsList (Shared.heap #[za1 (za1 hp a) b,g,d,tk,os]) c zs:=Heap.IsList.push (Heap.IsList.push hc _) _
  wp_walk using wpAny_pyIter_list h1,wpAny_pyIter_list h2,wpAny_pyIter_list h3
  exact#[_,rfl,h]
section
variable{prog:Program}{w:World}{A:Around}{E:Value->Shared->Prop}{s:Shared}
theorem call_z3{b c:Addr}{xs ys zs:Array Value}{Q:Value->Shared->Prop}(ha:s.heap.IsList a xs)(hb:s.heap.IsList b ys)(hc:s.heap.IsList c zs)
  (k:∀g n,n=s.heap.objs.size->Z3 n a b c 0 .none g->(∀c o,s.heap.get? c=some o->g.get? c=some o)->Q (.ref (n+5)) { s with heap:=g }):wpAny (model prog w) A (call (.type "zip") [.ref a,.ref b,.ref c]) Q E s:=by
 refine callType_new F.called_zip (by decide) (ty_zip3 _ _ _) (nw_zip3 _ _ _) (λobj=>jVa obj _ _ _) F.entry_zip_new (jWs a b c xs ys zs) #[ha,hb,hc,?_]
 have I:(za1 s.heap a).objs.size=s.heap.objs.size+1:=Heap.size_push ..
 have X:(za1 (za1 s.heap a) b).objs.size=s.heap.objs.size+2:=by rw[Heap.size_push,I]
 have v:(za3 s.heap a b c).objs.size=s.heap.objs.size+3:=by rw[Heap.size_push,X]
 have j:(za4 s.heap a b c).objs.size=s.heap.objs.size+4:=by rw[Heap.size_push,v]
 have f:(za5 s.heap a b c).objs.size=s.heap.objs.size+5:=by rw[Heap.size_push,j]
 have d:∀i o,(za4 s.heap a b c).get? i=some o->(za6 s.heap a b c).get? i=some o:=λ_ _ e=>aQ _ (aQ _ e)
 have r:∀i o,(za3 s.heap a b c).get? i=some o->(za6 s.heap a b c).get? i=some o:=λ_ _ e=>d _ _ (aQ _ e)
 have h:(za6 s.heap a b c).get? (za5 s.heap a b c).objs.size=some _:=bL _ rfl
 have u:(za6 s.heap a b c).get? (za4 s.heap a b c).objs.size=some _:=aQ _ (bL _ rfl)
 have t:(za6 s.heap a b c).get? (za3 s.heap a b c).objs.size=some _:=d _ _ (bL _ rfl)
 have T:(za6 s.heap a b c).get? (za1 (za1 s.heap a) b).objs.size=some _:=r _ _ (bL _ rfl)
 have C:(za6 s.heap a b c).get? (za1 s.heap a).objs.size=some _:=r _ _ (aQ _ (bL _ rfl))
 have e1:(za6 s.heap a b c).get? s.heap.objs.size=some _:=r _ _ (aQ _ (aQ _ (bL _ rfl)))
 show _/\_
 rw[v,j,f]at h
 rw[j]at u
 rw[I,X,v]at t
 rw[X]at T
 rw[I]at C
 rw[f]
 exact#[#[_,h,rfl],k _ _ rfl #[h,t,#[_,_,_,u],#[_,e1,rfl,rfl],#[_,C,rfl,rfl],#[_,T,rfl,rfl]] λi o e=>r _ _ (aQ _ (aQ _ (aQ _ e)))]
end
theorem z3_out{d n:Nat}(h:d≠n+5/\d≠n+3/\d≠n+4/\d≠n/\d≠n+1/\d≠n+2):d<n∨n+6<=d:=#[]
noncomputable def Itz3(K:aO)(a b c:Addr):It:=
 #[λi H=>∃xs x ys y zs z,SqL K H a xs/\xs[i]?=some x/\SqL K H b ys/\ys[i]?=some y/\SqL K H c zs/\zs[i]?=some z,
  λi H v H'=>∃p x y z,v=.ref p/\H p=none/\H'=upd H p (.tup [x,y,z])/\(∀xs,SqL K H a xs->xs[i]?=some x)/\(∀ys,SqL K H b ys->ys[i]?=some y)/\(∀zs,SqL K H c zs->zs[i]?=some z),
  λi H=>∃xs,SqL K H a xs/\xs.length<=i]
noncomputable def iZip3(K:aO)(t:TA):TI:=λZ H R=>t Z H λvs S=>∃a b c,vs=[.ref a,.ref b,.ref c]/\(∃xs,SqL K S a xs)/\(∃ys,SqL K S b ys)/\(∃zs,SqL K S c zs)/\R (Itz3 K a b c) S
theorem turn_z3{P:Program}{w:World}{a0:List Expr}{tp:Pos}(n a b c:Nat)(b1:a<n)(b2:b<n)(b3:c<n):
  Tp P w K (.Tuple a0 k tp) (Itz3 K a b c) [n+5,n+3,n+4,n,n+1,n+2] (n+5) (λi h=>Z3 n a b c i .none h) where
 mem:=by simp
 obj:=λi h st d hd=>by
  obtain⟨A,l,⟨u,v,x,O⟩,⟨o1,e1,_,d1⟩,⟨o2,C,_,d2⟩,⟨o3,e3,_,d3⟩⟩:=st
  have q:d=n+5∨d=n+3∨d=n+4∨d=n∨d=n+1∨d=n+2:=by simpa using hd
  rcases q with rfl |rfl |rfl |rfl |rfl |rfl
  ·exact#[_,A,λv z=>nomatch z]
  ·exact#[_,l,λv z=>nomatch z]
  ·exact#[_,O,λv z=>nomatch z]
  ·exact#[o1,e1,λv z=>by rw[d1]at z;cases z]
  ·exact#[o2,C,λv z=>by rw[d2]at z;cases z]
  ·exact#[o3,e3,λv z=>by rw[d3]at z;cases z]
 keep:=λi h M st kp=>by
  obtain⟨A,l,⟨u,v,x,O⟩,h1,h2,h3⟩:=st
  exact#[kp _ (by simp) _ A,kp _ (by simp) _ l,#[u,v,x,kp _ (by simp) _ O],h1.at λo q=>kp _ (by simp) o q,h2.at λo q=>kp _ (by simp) o q,h3.at λo q=>kp _ (by simp) o q]
 item:=by
  intro X Q hw S hc i B s Z H E I hf st hg
  subst Q hw S
  obtain⟨F,x,T,y,N,z,J,hx,hr,hy,ht,A⟩:=hg
  obtain⟨G,D,p,_⟩:=I.list J
  obtain⟨a8,sv,r,_⟩:=I.list hr
  obtain⟨a9,tv,t,_⟩:=I.list ht
  obtain⟨u,R,ru⟩:=D.get hx
  obtain⟨v,hv,a5⟩:=sv.get hy
  obtain⟨q,a6,rq⟩:=tv.get A
  refine z3_item b1 b2 b3 st p.isList r.isList t.isList (x:=u) (y:=v) (z:=q) (by simpa using R) (by simpa using hv) (by simpa using a6) λg U a2 kp=>#[_,rfl,?_]
  refine wpAny_letOwnedTupleGo_zip (s:={ s with heap:=g }) U.z λg2 en sb=>?_
  have ub:=rZ (c0:=n+5) sb
  have lz:n+5<s.heap.objs.size:=aW st.z
  have j:Inv X B Z H { s with heap:=g2,toks:=s.toks }:=I.turnedL (ch:=[n+5,n+3,n+4,n,n+1,n+2]) (λd o hb q=>by
   have m:d≠n+5/\d≠n+3/\d≠n+4/\d≠n/\d≠n+1/\d≠n+2:=by simpa using hb
   exact ub d o m.1 (kp d o (z3_out m) q)) hf
  have a3:H s.heap.objs.size=none:=I.hok.fresh (aM _)
  have a4:g2.get? s.heap.objs.size=some { cls:=.type "tuple",data:=.seq (List.toArray [u,v,q]) }:=ub _ _ (Nat.ne_of_gt lz) a2
  have I2:Inv X B Z (upd H s.heap.objs.size (.tup [x,y,z])) { s with heap:=g2,toks:=s.toks }:=j.adopt a3 I.sz (Nat.ne_of_gt I.lt) (λn c q=>by
   obtain⟨v,z⟩:=I.cell n c q
   exact bJ z.lt) (λq J=>bJ (aW (I.pin q J).1)) #[by show 3<=sizeLine;decide,[u,v,q],.cons ru (.cons a5 (.cons rq .nil)),#[_,a4,rfl,_,rfl]]
  refine#[.ref s.heap.objs.size,_,I2,rfl,#[_,x,y,z,rfl,a3,rfl,λN Y=>by rw[I.list_inj Y J];exact hx,λN Y=>by rw[I.list_inj Y hr];exact hy,λN Y=>by rw[I.list_inj Y ht];exact A],#[en,ub _ _ #[] U.ti,?_,U.h1.at λo e=>ub _ o #[] e,U.h2.at λo e=>ub _ o #[] e,U.h3.at λo e=>ub _ o #[] e],λd hb=>?_]
  ·obtain⟨u,v,x,e⟩:=U.to
   exact#[u,v,x,ub _ _ #[] e]
  ·have a7:=(hf d hb).1
   have q:d=n+5∨d=n+3∨d=n+4∨d=n∨d=n+1∨d=n+2:=by simpa using hb
   have f:d<s.heap.objs.size:=by rcases q with q |q |q |q |q |q<;>rw[q]<;>first |exact lz |exact iB (fT (by decide) n) lz |exact iB (dF n 5) lz
   rw[bY (bJ f)]
   exact a7
 done:=by
  intro X Q hw S hc i B s Z H E I hf st hg
  subst Q hw S
  obtain⟨F,J,hx⟩:=hg
  obtain⟨G,D,p,_⟩:=I.list J
  have l1:=D.length
  refine z3_end (I.ok.hd hc) b1 st p.isList (by simp;omega) λg kp=>#[rfl,?_]
  exact I.turnedL (t':=s.toks) (ch:=[n+5,n+3,n+4,n,n+1,n+2]) (λd o hb q=>by
   have m:d≠n+5/\d≠n+3/\d≠n+4/\d≠n/\d≠n+1/\d≠n+2:=by simpa using hb
   exact kp d o (z3_out m) q) hf
 self:=λ_ _ _ _ _ st h=>wpAny_pyIter_zip st.z h
section
variable{X:Cx}
theorem pi_zip3{i:List Expr}{Q:Pos}{a b c:Expr}{t:TA}{pos:Pos}(hg:Gl X "zip")(hm:X.mg "zip"=none)(Y:PA X [a,b,c] t)
  (U:starEach (a:: [b,c]) X.env=(false,eval a X.env)::starEach [b,c] X.env:=by rfl) (d:(backTo pos (starEach [b,c] X.env)).any (·.1)=false:=by rfl):PI X (.Tuple i k Q) (.Call (.Name "zip" p) [a,b,c] [] pos) (iZip3 X.K t):=by
 intro B s D H R I h
 refine wpAny_Call_Name_kw (lS I hg hm Uh ?_)
 refine cI (thn (Y pos B s D H _ I h) λus O#[m,S,j,f,q1]=>?_) U d
 obtain⟨w,x,v,M,⟨F,J⟩,⟨T,hr⟩,⟨N,y⟩,q⟩:=q1
 subst M
 rcases f with _ |⟨ra,_ |⟨rb,_ |⟨rc,f⟩⟩⟩
 cases f;cases ra;cases rb;cases rc
 obtain⟨G,_,A,_⟩:=j.list J
 obtain⟨P,_,C,_⟩:=j.list hr
 obtain⟨u,_,pn,_⟩:=j.list y
 have lt:∀{l:Addr}{F:Array Value},O.heap.IsList l F->(l:Nat)<O.heap.objs.size:=λe=>by obtain⟨o,e,_⟩:=e;exact aW e
 refine call_z3 A.isList C.isList pn.isList λg n hn Z hk=>?_
 subst hn
 refine wpAny_pyIter_zip Z.z ?_
 refine#[O.heap.objs.size+5,[O.heap.objs.size+5,O.heap.objs.size+3,O.heap.objs.size+4,O.heap.objs.size,O.heap.objs.size+1,O.heap.objs.size+2],_,Itz3 X.K w x v,S,rfl,j.kept (t':=O.toks) hk,turn_z3 _ w x v (lt A.isList) (lt C.isList) (lt pn.isList),Z,λc hc=>?_,q]
 have r:O.heap.objs.size<=c:=by
  have z:c=O.heap.objs.size+5∨c=O.heap.objs.size+3∨c=O.heap.objs.size+4∨c=O.heap.objs.size∨c=O.heap.objs.size+1∨c=O.heap.objs.size+2:=by simpa using hc
  rcases z with rfl |rfl |rfl |rfl |rfl |rfl<;>omega
 exact j.fpOk r (j.hok.fresh r)
end
theorem jW7{b c:Addr}{zs:List V}{D:rW}{Z:St}(h:Nat->St->Hp->Prop)(h0:h 0 Z H)(Y:∀i Z H,i<=xs.length->h i Z H->SqL K H a xs/\SqL K H b ys/\SqL K H c zs)(U:xs.length=ys.length)(hf:xs.length=zs.length)
  (hs:∀i x y z p Z H,xs[i]?=some x->ys[i]?=some y->zs[i]?=some z->h i Z H->H p=none->g (.ref p) Z (upd H p (.tup [x,y,z])) λj M=>tb { D with nx:=h (i+1),ct:=h (i+1),bk:=D.nx } j M) (hd:∀Z H,h xs.length Z H->D.nx Z H):
  ∃W:Nat->Nat->St->Hp->Prop,(∃m,W 0 m Z H)/\∀i m Z H,W i m Z H->
   ((Itz3 K a b c).stop i H/\D.nx Z H)∨((Itz3 K a b c).go i H/\∃N:St->Hp->Prop,(∀G d,N G d->∃l,l<m/\W (i+1) l G d)/\∀x d,(Itz3 K a b c).yld i H x d->g x Z d λj M=>tb { D with nx:=N,ct:=N,bk:=D.nx } j M):=by
 refine#[λi m Z H=>m=xs.length-i/\i<=xs.length/\h i Z H,#[xs.length,by simp,dL _,h0],?_]
 rintro i m Z H ⟨rfl,hi,p⟩
 obtain⟨q,r,t⟩:=Y i Z H hi p
 by_cases f:i<xs.length
 ·refine .inr #[#[xs,xs[i],ys,ys[i],zs,zs[i],q,by simp [f],r,by simp,t,by simp],h (i+1),λG d k=>#[xs.length-(i+1),#[],rfl,f,k],λx d y=>?_]
  obtain⟨s,O,o,J,e1,C,T,I,X,v⟩:=y
  subst e1 T
  exact hs i O o J s Z _ (I xs q) (X ys r) (v zs t) p C
 ·have e:i=xs.length:=#[]
  subst e
  exact .inl #[#[xs,q,aM _],hd Z H p]
noncomputable abbrev Gw(h:Heap)(z TI TO:Addr)(T:Addr)(b:Bool):Prop:=
 h.get? z=some { cls:=.type "zip",dict:=none,data:=.fields (List.toArray [rawInt T,.bool b,.bool false,.ref TI,.ref TO]),slots:=(List.toArray []) }
section
variable{prog:Program}{w:World}{A:Around}{E:Value->Shared->Prop}{s:Shared}
theorem Qr{TI TO T:Addr}{b:Bool}{Q:Bool->Shared->Prop}(hz:Gw s.heap z TI TO T b)(B:s.heap.get? T=some o)
  (h:∀M,Gw M z TI TO T true->Heap.SameBut z s.heap M->Q false { s with heap:=M }):wpAny (model prog w) A (Builtin.SmallTypes.ownedTupleIsFree (.ref z)) Q E s:=by
 unfold Builtin.SmallTypes.ownedTupleIsFree
 refine aB (wpAny_field hz rfl (x:=rawInt T) rfl ?_)
 show wpAny _ _ (loadIfAlive (T:Int).toNat>>=_) _ _ _
 refine aB (λd p c=>?_)
 unfold loadIfAlive
 rw[Sem.wp_loadIfAlive,dA,B]
 revert d p c
 show wpAny _ _ (pure (some o)) _ _ _
 refine aT ?_
 show wpAny _ _ (field (.ref z) 1>>=_) _ _ _
 refine aB (wpAny_field hz rfl (x:=.bool b) rfl ?_)
 cases b with
 |true=>
  rw[aF (by decide)]
  exact aB (aT (aT (h _ hz #[rfl,λ_ _=>rfl])))
 |false=>
  rw[aJ (by decide)]
  exact aB (wpAny_setField_rec hz (by simp) λe g a=>aT (h e g a))
theorem jX2{TI TO t Y l1 l2 T:Addr}{b:Bool}{xs ys:Array Value}{x y:Value}(D:ZipApart z TI TO t Y l1 l2)
  (hz:Gw s.heap z TI TO T b) (B:s.heap.get? T=some o) (l:IsPair s.heap TI (.ref t) (.ref Y))
  (h1:s.heap.IsListIter t l1 k) (h2:s.heap.IsListIter Y l2 k) (O:s.heap.IsList l1 xs) (S:s.heap.IsList l2 ys) (hx:xs[k]?=some x) (d:ys[k]?=some y)
  (p:∀M,Gw M z TI TO T true->M.IsListIter t l1 (k+1)->M.IsListIter Y l2 (k+1)->IsPair M s.heap.objs.size x y->
   (∀c o,c≠z->c≠t->c≠Y->s.heap.get? c=some o->M.get? c=some o)->Q (some (.ref s.heap.objs.size)) { s with heap:=M }):
  wpAny (model prog w) A (pyNext (.ref z)) Q E s:=by
 have u:s.TypeIs (.ref z) "zip":=#[_,hz,rfl]
 unfold pyNext
 refine aB (wpAny_attempt (wpAny_callSpecial?_slot (name:=Str.ofString "__next__") u F.slot_zip_next (wpAny_call_entry F.slot_zip_next u F.entry_zip_next ?_ (F.args_zip_next_1 _))))
 show wpAny _ _ (field (.ref z) 2>>=_) _ _ _
 refine aB (wpAny_field hz rfl (x:=.bool false) rfl ?_)
 show wpAny _ _ (field (.ref z) 3>>=_) _ _ _
 refine aB (wpAny_field hz rfl (x:=.ref TI) rfl ?_)
 refine aB (wpAny_seqItems l rfl ?_)
 show wpAny _ _ (Builtin.SmallTypes.ownedTupleIsFree (.ref z)>>=_) _ _ _
 refine aB (Qr hz B λv g a=>?_)
 simp only[Bool.false_eq_true,if_false]
 refine aB ?_
 rw[←Array.forIn_toList]
 simp only[List.forIn_cons,List.forIn_nil]
 refine aB (aB (wpAny_holding ?_))
 show wpAny _ _ (Builtin.SmallTypes.nextOf (.ref t)>>=_) _ _ _
 refine aB (wpAny_nextOf_list_item (h1.extBut a.extBut D.i1z) (O.extBut a.extBut D.l1z) hx λj i f=>aT (aT ?_))
 refine aB (aB (wpAny_holding ?_))
 show wpAny _ _ (Builtin.SmallTypes.nextOf (.ref Y)>>=_) _ _ _
 refine aB (wpAny_nextOf_list_item ((h2.extBut a.extBut D.i2z).extBut f.extBut D.i12.symm) ((S.extBut a.extBut D.l2z).extBut f.extBut D.l2i1) d λm n h=>aT (aT (aT ?_)))
 show wpAny _ _ (newTuple [x,y]>>=_) _ _ _
 refine aB (wpAny_newTuple (aT #[_,rfl,aT ?_]))
 have P:m.objs.size=s.heap.objs.size:=by rw[h.1,f.1,a.1]
 have r:=h.extBut _ _ D.i2z.symm (f.extBut _ _ D.i1z.symm g)
 show Q (some (.ref m.objs.size)) _
 rw[P]
 refine p _ (aQ _ r) ((i.extBut h.extBut D.i12).at λo e=>aQ _ e) (n.at λo e=>aQ _ e) (P▸bL _ rfl) λc o q C X e=>aQ _ (h.extBut _ _ X (f.extBut _ _ C (a.extBut _ _ q e)))
theorem jY6{TI TO S Y l1 l2 T:Addr}{b:Bool}{xs:Array Value}(t:A.handled=none)(D:ZipApart z TI TO S Y l1 l2)
  (hz:Gw s.heap z TI TO T b) (B:s.heap.get? T=some o) (l:IsPair s.heap TI (.ref S) (.ref Y)) (h1:s.heap.IsListIter S l1 k) (O:s.heap.IsList l1 xs) (hx:xs[k]?=none)
  (p:∀M,(∀c o,c≠z->c≠S->s.heap.get? c=some o->M.get? c=some o)->Q none { s with heap:=M }):wpAny (model prog w) A (pyNext (.ref z)) Q E s:=by
 have u:s.TypeIs (.ref z) "zip":=#[_,hz,rfl]
 unfold pyNext
 refine aB (wpAny_attempt (wpAny_callSpecial?_slot (name:=Str.ofString "__next__") u F.slot_zip_next (wpAny_call_entry F.slot_zip_next u F.entry_zip_next ?_ (F.args_zip_next_1 _))))
 show wpAny _ _ (field (.ref z) 2>>=_) _ _ _
 refine aB (wpAny_field hz rfl (x:=.bool false) rfl ?_)
 show wpAny _ _ (field (.ref z) 3>>=_) _ _ _
 refine aB (wpAny_field hz rfl (x:=.ref TI) rfl ?_)
 refine aB (wpAny_seqItems l rfl ?_)
 show wpAny _ _ (Builtin.SmallTypes.ownedTupleIsFree (.ref z)>>=_) _ _ _
 refine aB (Qr hz B λh g a=>?_)
 simp only[Bool.false_eq_true,if_false]
 refine aB ?_
 rw[←Array.forIn_toList]
 simp only[List.forIn_cons,List.forIn_nil]
 refine aB (aB (wpAny_holding ?_))
 show wpAny _ _ (Builtin.SmallTypes.nextOf (.ref S)>>=_) _ _ _
 refine aB (wpAny_nextOf_list_end t (h1.extBut a.extBut D.i1z) (O.extBut a.extBut D.l1z) hx λj e f U=>?_)
 obtain⟨v,d,m⟩:=U
 refine aB (wpAny_isInstance (T:="StopIteration") (b:=true) #[v,d,m] isSubtype_stop ?_)
 exact aT (p _ λc o q X x=>f _ _ X (a.extBut _ _ q x))
end
section
variable{prog:Program}{w:World}{A:Around}{E:Value->Shared->Prop}{s:Shared}
theorem Wd:entryFor table "zip.__getattribute__"=some Builtin.«object.__getattribute__»:=
 entryFor_alias (id':="object.__getattribute__") (by kernel_rfl) (by decide+kernel) (by decide+kernel) (by kernel_rfl)
theorem Zy:typeLookup (.type "zip") "keys"=pure none:=by rw[typeLookup_type,builtinLookup_eq_fast];kernel_rfl
theorem Zz:typeLookup (.type "zip") "__getattr__"=pure none:=by rw[typeLookup_type,builtinLookup_eq_fast];kernel_rfl
theorem Yd(a:Addr)(fs:Array Value)(u:Tok):
  Meets (Builtin.«object.__getattribute__» #[[.ref a,.str "keys" u],[]]) (λA R s=>s.heap.get? a=some { cls:=.type "zip",dict:=none,data:=.fields fs,slots:=(List.toArray []) }/\raisesAttr (.ref a) "keys" A R s):=
 Meets.of_wp λprog w A R s hs=>by
  obtain⟨hp,g,d,tk,os⟩:=s
  obtain⟨hx,hs⟩:=hs
  have B:(#[hp,g,d,tk,os]:Shared).TypeIs (.ref a) "zip":=#[_,hx,rfl]
  have b:=Zy
  unfold Builtin.«object.__getattribute__»
  repeat(any_goals(first |assumption |wp_step))
  exact wpAny_raiseAttrError hs.1 hs.2 (attrMsg_fits (by decide+kernel) (by size_fits))
theorem jY5{fs:Array Value}(hx:s.heap.get? a=some { cls:=.type "zip",dict:=none,data:=.fields fs,slots:=(List.toArray []) })(G:A.handled=none)
  (h:∀M tk,(∀b ob,s.heap.get? b=some ob->M.get? b=some ob)->Q none { s with heap:=M,toks:=tk }):wpAny (model prog w) A (getAttr? (.ref a) "keys") Q E s:=by
 obtain⟨hp,g,d,tk,os⟩:=s
 have B:∀l,(#[hp,g,d,l,os]:Shared).TypeIs (.ref a) "zip":=λ_=>#[_,hx,rfl]
 have r:=sub_AttributeError
 have c:=F.slot_zip_getattribute.lookup
 have C:=F.slot_zip_getattribute.bind (.ref a)
 have f:=Zz
 unfold getAttr? getAttrBy? getAttrBy
 repeat(any_goals(first |assumption |exact B _ |((with_reducible show wpAny _ _ (call (Value.builtin "zip.__getattribute__") _ _) _ _ _);refine call_meets F.slot_zip_getattribute (B _) Wd (F.args_zip_getattribute_2 _ _) (Yd a fs _) #[hx,G,λM l e T=>?_])|wp_step))
 obtain⟨O,m,U⟩:=T.there
 show wpAny _ _ (getattributeRaised _ _ _ _ _ _ _) _ _ _
 unfold getattributeRaised
 repeat(any_goals(first |assumption |wp_step))
 exact h _ _ T.keeps
end
theorem Sj:entryFor table "dict.update.loop"=some Builtin.«dict.update.loop»:=entryFor_of_tree (by kernel_rfl)
theorem Bb:plainId "dict.update.loop"=true:=by decide+kernel
structure ZS(N l1 l2 i:Nat)(h:Heap):Prop where
 ti:IsPair h (N+2) (.ref N) (.ref (N+1))
 h1:h.IsListIter N l1 i
 h2:h.IsListIter (N+1) l2 i
 z:(IsZip h (N+4) (N+2) (N+3) .none/\∃u v,IsPair h (N+3) u v)∨∃(T:Nat)(b:Bool)(o:Obj),Gw h (N+4) (N+2) (N+3) T b/\h.get? T=some o/\N+6<=T
section
variable{prog:Program}{w:World}{A:Around}{E:Value->Shared->Prop}{s:Shared}{N l1 l2 i:Nat}{xs ys:Array Value}
theorem ZS.keep{h':Heap}(Z:ZS N l1 l2 i h)(k:∀(c:Nat) o,c≠N+5->h.get? c=some o->h'.get? c=some o):ZS N l1 l2 i h':=by
 refine#[k _ _ #[] Z.ti,Z.h1.at λo e=>k _ o #[] e,Z.h2.at λo e=>k _ o #[] e,?_]
 rcases Z.z with⟨a,u,v,b⟩|⟨T,b,o,a,e,le⟩
 ·exact .inl #[k _ _ #[] a,u,v,k _ _ #[] b]
 ·exact .inr #[T,b,o,k _ _ #[] a,k _ _ #[] e,le]
theorem ZS.item{x y:Value}(b1:l1<N)(b2:l2<N)(Z:ZS N l1 l2 i s.heap)(a:N+5<s.heap.objs.size)(O:s.heap.IsList l1 xs)(S:s.heap.IsList l2 ys)(hx:xs[i]?=some x)(d:ys[i]?=some y)
  (p:∀M,ZS N l1 l2 (i+1) M->IsPair M s.heap.objs.size x y->(∀(c:Nat) o,c<N∨N+5<=c->s.heap.get? c=some o->M.get? c=some o)->Q (some (.ref s.heap.objs.size)) { s with heap:=M }):wpAny (model prog w) A (pyNext (.ref (N+4))) Q E s:=by
 have D:=Gx b1 b2
 rcases Z.z with⟨z,u,v,o⟩|⟨T,b,o,z,e,le⟩
 ·refine wpAny_pyNext_zip_item D z Z.ti o Z.h1 Z.h2 O S hx d λM U G l h k f kp=>p M #[kp _ _ D.TIz D.TITO D.TIi1 D.TIi2 Z.ti,l,h,.inr #[_,_,_,U,k,a]] k λc o hc e=>kp c o ?_ ?_ ?_ ?_ e<;>(intro q;have J:(_:Nat)=_:=q;omega)
 ·refine jX2 D z e Z.ti Z.h1 Z.h2 O S hx d λM U l h k kp=>p M #[kp _ _ D.TIz D.TIi1 D.TIi2 Z.ti,l,h,.inr #[_,_,_,U,kp _ _ ?_ ?_ ?_ e,le]] k λc o hc e=>kp c o ?_ ?_ ?_ e
  all_goals(intro q;have J:(_:Nat)=_:=q)
  all_goals omega
theorem ZS.stop(t:A.handled=none)(b1:l1<N)(b2:l2<N)(Z:ZS N l1 l2 i s.heap)(O:s.heap.IsList l1 xs)(S:s.heap.IsList l2 ys)(hx:xs[i]?=none)
  (p:∀M,(∀(c:Nat) o,c<N∨N+5<=c->s.heap.get? c=some o->M.get? c=some o)->Q none { s with heap:=M }):wpAny (model prog w) A (pyNext (.ref (N+4))) Q E s:=by
 have D:=Gx b1 b2
 rcases Z.z with⟨z,u,v,o⟩|⟨T,b,o,z,e,le⟩
 ·refine wpAny_pyNext_zip_end t D z Z.ti o Z.h1 Z.h2 O S (.inl hx) λM kp=>p M λc o hc e=>kp c o ?_ ?_ ?_ ?_ e<;>(intro q;have J:(_:Nat)=_:=q;omega)
 ·refine jY6 t D z e Z.ti Z.h1 O hx λM kp=>p M λc o hc e=>kp c o ?_ ?_ e<;>(intro q;have J:(_:Nat)=_:=q;omega)
end
section
variable{prog:Program}{w:World}{A:Around}{R:Result->Shared->Prop}{K:Type} [DecidableEq K]{knd:KeyKind prog w K}{s:Shared}{h0:Heap}{l1 l2:Nat}{xs ys:Array Value}{ps:List (List K×Addr×Value)}
theorem dz_loop(O:h0.IsList l1 xs)(S:h0.IsList l2 ys)(hx:∀(i:Nat)(p:List K×Addr×Value),ps[i]?=some p->xs[i]?=some (.ref p.2.1)/\ys[i]?=some p.2.2/\(tupleKind knd).is h0 p.1 p.2.1)(hn:xs.size=ps.length)(nd:(ps.map (·.1)).Nodup)(hz:ps.length<=sizeLine)(t:A.in1.handled=none)(hu:(tupleKind knd).room A.in1)
  (H:∀M tk,(∀b o,h0.get? b=some o->M.get? b=some o)->M.DictOfH (tupleKind knd) (h0.objs.size+5) ps->R (.ok (.ret .none)) { s with heap:=M,toks:=tk }):
  ∀(k i:Nat)(j:Int)(h:Heap)(tk:Nat),ps.length-i=k->i<=ps.length->ZS h0.objs.size l1 l2 i h->h0.objs.size+5<h.objs.size->(∀b o,h0.get? b=some o->h.get? b=some o)->h.DictOfH (tupleKind knd) (h0.objs.size+5) (ps.take i)->
   codeAny (model prog w) A (Code.builtin "dict.update.loop" #[[Value.ref (h0.objs.size+5),.ref (h0.objs.size+4),rawInt j,.none],[]]) R { s with heap:=h,toks:=tk }:=by
 have C:l1<h0.objs.size:=by obtain⟨o,e,_⟩:=O;exact aW e
 have N:l2<h0.objs.size:=by obtain⟨o,e,_⟩:=S;exact aW e
 intro k
 induction k with
 |zero=>
  intro i j h tk hk hi Z hs kp hd
  have e:i=ps.length:=#[]
  subst e
  refine codeAny_builtin Sj ?_
  rw[Around.under_plainId Bb _]
  show wpAny _ A.in1 (pyNext (Value.ref (h0.objs.size+4))>>=_) _ _ _
  refine aB (Z.stop (s:={ s with heap:=h,toks:=tk }) t C N (O.at λo e=>kp _ o e) (S.at λo e=>kp _ o e) (by rw[Array.getElem?_eq_none #[]]) λM v=>?_)
  show wpAny _ A.in1 (Builtin.Dict.addKeywords (h0.objs.size+5) []>>=_) _ _ _
  refine aB (aT (aT (H M tk (λb o e=>v b o (.inl (aW e)) (kp b o e)) ?_)))
  rw[cA]at hd
  obtain⟨o,g,ep,D,hc,y,U,P,d⟩:=hd
  refine#[o,g,ep,v _ _ (.inr (aM _)) D,hc,y,U,λx T=>?_,d]
  obtain⟨m,hm⟩:=cJ T
  obtain⟨q,u,n,J,r⟩:=(hx m x hm).2.2
  exact#[q,u,n,v _ _ (.inl (aW J)) (kp _ _ J),r]
 |succ k ih=>
  intro i j h tk hk hi Z hs kp hd
  have f:i<ps.length:=#[]
  have hp:ps[i]?=some ps[i]:=aD f
  obtain⟨x1,I,X⟩:=hx i _ hp
  refine codeAny_builtin Sj ?_
  rw[Around.under_plainId Bb _]
  show wpAny _ A.in1 (pyNext (Value.ref (h0.objs.size+4))>>=_) _ _ _
  refine aB (Z.item (s:={ s with heap:=h,toks:=tk }) C N hs (O.at λo e=>kp _ o e) (S.at λo e=>kp _ o e) x1 I λM Q B v=>?_)
  have a:∀b o,h0.get? b=some o->M.get? b=some o:=λb o e=>v b o (.inl (aW e)) (kp b o e)
  have F:h.objs.size<M.objs.size:=aW B
  have T1:Shared.TypeIs { s with heap:=M,toks:=tk } (.ref h.objs.size) "tuple":=#[_,B,rfl]
  have G:M.DictOfH (tupleKind knd) (h0.objs.size+5) (ps.take i):=by
   obtain⟨o,g,ep,D,hc,y,U,P,d⟩:=hd
   refine#[o,g,ep,v _ _ (.inr (aM _)) D,hc,y,U,λx T=>?_,d]
   obtain⟨m,hm⟩:=cJ (List.mem_of_mem_take T)
   obtain⟨q,u,n,J,r⟩:=(hx m x hm).2.2
   exact#[q,u,n,a _ _ J,r]
  show wpAny _ A.in1 (holding [Value.ref h.objs.size] (tryCatch (Builtin.Dict.pairItems (.ref h.objs.size)) _>>=_)>>=_) _ _ _
  refine aB (wpAny_holding (aB (wpAny_tryCatch ?_)))
  unfold Builtin.Dict.pairItems
  refine aB (wpAny_typeOf T1 ?_)
  rw[aJ (by decide)]
  refine aB (wpAny_seqItems B rfl (aT ?_))
  show wpAny _ A.in1 (holding [Value.ref ps[i].2.1,ps[i].2.2] (dictSet (h0.objs.size+5) (.ref ps[i].2.1) ps[i].2.2)) _ _ _
  refine wpAny_holding (wpAny_dictSet_heap (s:={ s with heap:=M,toks:=tk }) (hsz:=by rw[dM];omega) hu (let⟨q,u,n,J,r⟩:=X;#[q,u,n,a _ _ J,r]) G λh2 z sb=>aT #[plainId_quiet Bb _,?_])
  refine ih (i+1) _ h2 _ #[] f (Q.keep λc o hc e=>sb.extBut _ _ hc e) (by rw[sb.1];exact Nat.lt_trans hs F) (λb o e=>sb.extBut _ _ (bJ (bQ (aW e) (dF _ _))) (a b o e)) ?_
  have none:atKey (ps.take i) ps[i].1=none:=by
   refine atKey_none_of_get λm q hm=>?_
   have Y:m<i:=by have:=(aK.mp hm).1;rw[dM]at this;omega
   rw[List.getElem?_take_of_lt Y]at hm
   have e:m=i:=(List.getElem?_inj (l:=ps.map (·.1)) (by rw[aA];omega) nd).mp (by rw[aY,aY,hm,hp];rfl)
   omega
  rw[storedH_new none]at z
  rw[List.take_add_one,hp]
  exact z
end
section
variable{prog:Program}{w:World}{A:Around}{E:Value->Shared->Prop}{K:Type} [DecidableEq K]{knd:KeyKind prog w K}{s:Shared}{l1 l2:Nat}{xs ys:Array Value}{ps:List (List K×Addr×Value)}
theorem dz_call{h0:Heap}{Q:Value->Shared->Prop}(hs:s.heap.objs.size=h0.objs.size+5)(Z:ZS h0.objs.size l1 l2 0 s.heap)(kp:∀b o,h0.get? b=some o->s.heap.get? b=some o)(O:h0.IsList l1 xs)(S:h0.IsList l2 ys)
  (hx:∀(i:Nat)(p:List K×Addr×Value),ps[i]?=some p->xs[i]?=some (.ref p.2.1)/\ys[i]?=some p.2.2/\(tupleKind knd).is h0 p.1 p.2.1) (R:xs.size=ps.length) (nd:(ps.map (·.1)).Nodup) (hz:ps.length<=sizeLine) (t:A.handled=none) (q:(tupleKind knd).room A.in1.in1)
  (h:∀M tk,(∀b o,h0.get? b=some o->M.get? b=some o)->M.DictOfH (tupleKind knd) (h0.objs.size+5) ps->Q (.ref (h0.objs.size+5)) { s with heap:=M,toks:=tk }):
  wpAny (model prog w) A (call (.type "dict") [.ref (h0.objs.size+4)]) Q E s:=by
 refine callType_codes (Q₁:=λobj N=>obj=.ref s.heap.objs.size/\N={ s with heap:=s.heap.push { cls:=.type "dict",data:=.dict (List.toArray []) } }) F.kt_called_dict (F.kt_typeCall_dict_1 _) F.entry_dict_init (kt_code_dict_new _ #[rfl,rfl]) ?_
 rintro obj N ⟨rfl,rfl⟩
 have f:(s.heap.push { cls:=.type "dict",data:=.dict (List.toArray []) }).get? s.heap.objs.size=some { cls:=.type "dict",data:=.dict (List.toArray []) }:=bL _ rfl
 have n:Shared.TypeIs { s with heap:=s.heap.push { cls:=.type "dict",data:=.dict (List.toArray []) } } (.ref s.heap.objs.size) "dict":=#[_,f,rfl]
 have d:s.heap.get? (h0.objs.size+4)=some { cls:=.type "zip",dict:=none,data:=.fields (List.toArray [.none,.bool false,.bool false,.ref (h0.objs.size+2),.ref (h0.objs.size+3)]),slots:=(List.toArray []) }:=by
  rcases Z.z with⟨z,_⟩|⟨T,b,o,_,e,le⟩
  ·exact z
  ·have:T<s.heap.objs.size:=aW e
   omega
 have g:(s.heap.push { cls:=.type "dict",data:=.dict (List.toArray []) }).get? (h0.objs.size+4)=_:=aQ _ d
 have k:Shared.TypeIs { s with heap:=s.heap.push { cls:=.type "dict",data:=.dict (List.toArray []) } } (.ref (h0.objs.size+4)) "zip":=#[_,g,rfl]
 refine#[n,F.args_dict_init_2 _ _,?_]
 unfold Builtin.«dict.__init__»;refine aB ?_;unfold Builtin.Dict.selfAndRest;refine aB (wpAny_notOrdered_dict n ?_)
 show wpAny _ _ (pure (s.heap.objs.size,[Value.ref (h0.objs.size+4)])) _ _ _;refine aT ?_
 show wpAny _ _ (Builtin.Dict.updateFrom "dict.__init__" s.heap.objs.size (.ref (h0.objs.size+4)) [] .none) _ _ _;unfold Builtin.Dict.updateFrom
 refine aB (wpAny_typeOf k ?_);rw[aJ (by decide)]
 refine aB (jY5 g t λM tk v=>?_)
 rw[aJ (by rfl)]
 refine aB (wpAny_rule ?_)
 have a:∀b o,s.heap.get? b=some o->M.get? b=some o:=λb o e=>v b o (aQ _ e)
 refine aB (wpAny_pyIter_zip (a _ _ d) (aT #[plainId_quiet Bb _,?_]))
 rw[hs]
 rw[hs]at f
 have j:=v _ _ f
 refine dz_loop (A:=A.in1) (s:=s) O S hx R nd hz t q (λh2 l m hd=>?_) _ 0 0 M tk rfl (dL _) (Z.keep λc o _ e=>a c o e) (aW j) (λb o e=>a b o (kp b o e)) #[_,_,_,j,#[rfl,rfl,rfl],rfl,rfl,(λx hx=>nomatch hx),List.nodup_nil]
 exact#[rfl,h h2 l m hd]
end
noncomputable def tDZip(K:aO)(t:TA):TE:=λZ H Q=>t Z H λvs S=>∃(a b:Addr)(ks:List (List Key))(qs:List Addr)(ys:List V),vs=[.ref a,.ref b]/\SqL K S a (qs.map V.ref)/\SqL K S b ys/\qs.length=ks.length/\ks.length<=ys.length/\
 (∀(i:Nat) q k,qs[i]?=some q->ks[i]?=some k->S q=some (.tup (k.map kV)))/\ks.Nodup/\∀p,S p=none->Q (.ref p) (upd S p (.dT (ks.zip ys)))
theorem kt_zip{H:Hp}:∀{ks:List (List Key)}{qs:List Addr}{ys:List V}{us:List Value},qs.length=ks.length->fD ys us->ks.length<=ys.length->(∀(i:Nat) q k,qs[i]?=some q->ks[i]?=some k->H q=some (.tup (k.map kV)))->KT H (ks.zip ys) (ks.zip (qs.zip us))
 | [],[],_,_,_,_,_,_=>.nil
 | [],_::_,_,_,h,_,_,_=>nomatch h
 |_::_,[],_,_,h,_,_,_=>nomatch h
 |_::_,_::_,_,_,_,.nil,h,_=>absurd h (Nat.not_succ_le_zero _)
 |k::ks,q::qs,_,_,h1,.cons r rs,h2,h3=>.cons #[rfl,h3 0 q k rfl rfl,r] (kt_zip (Nat.succ.inj h1) rs (Nat.le_of_succ_le_succ h2) λi q k e1 C=>h3 (i+1) q k e1 C)
theorem Ml{d c a:Type}{ks:List d}{qs:List c}{us:List a}{p:d×c×a}(h:(ks.zip (qs.zip us))[i]?=some p):ks[i]?=some p.1/\qs[i]?=some p.2.1/\us[i]?=some p.2.2:=by
 rw[List.getElem?_zip_eq_some,List.getElem?_zip_eq_some]at h
 exact h
section
variable{X:Cx}
theorem pe_dzip{a b:Expr}{t:TA}{p2 k:Pos}(hu:X.A.units+64<cLine)(a5:Gl X "dict")(a6:X.mg "dict"=none)(a7:Gl X "zip")(a8:X.mg "zip"=none)(hc:X.calm=true)(Y:PA X [a,b] t)
  (y:starEach [.Call (.Name "zip" p2) [a,b] [] k] X.env=[(false,eval (.Call (.Name "zip" p2) [a,b] [] k) X.env)]:=by rfl)
  (U:starEach (a:: [b]) X.env=(false,eval a X.env)::starEach [b] X.env:=by rfl) (d:(backTo k (starEach [b] X.env)).any (·.1)=false:=by rfl):
  PE X (.Call (.Name "dict" p1) [.Call (.Name "zip" p2) [a,b] [] k] [] a0) (tDZip X.K t):=by
 intro B s Z H Q I h
 refine Call_ (lS I a5 a6 jXn (cI (spliced_more ?_ (by rw[y];rfl)) y rfl))
 refine Call_ (lS I a7 a8 Uh (cI (thn (Y k B s Z H _ I h) λus O#[m,S,j,f,q1]=>?_) U d))
 obtain⟨l1,n,ks,qs,T,F,J,hr,lq,ly,hk,nd,q⟩:=q1
 subst F
 cases f with
 |cons ra f=>
 cases f with
 |cons rb f=>
 cases f
 cases ra
 cases rb
 obtain⟨G,rv,l,a4⟩:=j.list J
 obtain⟨r,sv,z,b7⟩:=j.list hr
 have e1:=rv.length
 have C:=sv.length
 rw[aA]at e1
 refine call_zip_2 l.isList z.isList λg hz a9 b0 h1 h2 P kp=>spliced_none ?_
 have kq:∀i q,qs[i]?=some q->G[i]?=some (Value.ref q):=λi q e=>by
  obtain⟨u,hu,ru⟩:=rv.get (i:=i) (x:=V.ref q) (by rw[aY,e];rfl)
  cases ru
  exact hu
 have lp:(ks.zip (qs.zip r)).length=ks.length:=by rw[List.length_zip,List.length_zip];omega
 refine dz_call (knd:=kE X.prog X.w) (h0:=O.heap) (s:={ O with heap:=g }) (l1:=l1) (l2:=n) (xs:=G.toArray) (ys:=r.toArray) (ps:=ks.zip (qs.zip r)) P #[a9,h1,h2,.inl #[hz,_,_,b0]] kp l.isList z.isList (λi p hp=>?_) (by rw[bM,lp];omega) ?_ (by rw[aA]at a4;omega) (j.ok.hd hc) (by show X.A.units+1+1<cLine;omega) λM tk v hd=>?_
 ·obtain⟨a1,a2,a3⟩:=Ml hp
  exact#[by simpa using kq i _ a2,by simpa using a3,Mb j.hok (hk i _ _ a2 a1)]
 ·rw[List.map_fst_zip (by rw[List.length_zip];omega)];exact nd
 ·obtain⟨o,es,ep,D,b3,b4,b5,b8,R⟩:=hd
  refine#[.ref _,_,j.laid (t':=tk) (o:=.dT (ks.zip T)) v (dF _ 5) #[by rw[List.length_zip];rw[aA]at a4;omega,?_,_,(kt_zip lq sv ly hk).keeps λc N e=>?_,o,es,ep,D,b3,b4,b5,R],rfl,q _ (j.hok.fresh (dF _ 5))]
  ·have:=j.big
   exact beq_false_of_ne (Nat.ne_of_gt (bQ this (dF _ 5)))
  ·rw[bY (dE e (j.hok.fresh (dF _ 5)))];exact e
end
theorem jX1:typeLookup (.type "zip") "__len__"=pure none:=by rw[typeLookup_type,builtinLookup_eq_fast];kernel_rfl
theorem jJJ:typeLookup (.type "zip") "__length_hint__"=pure none:=by rw[typeLookup_type,builtinLookup_eq_fast];kernel_rfl
noncomputable def LZ(N:Nat)(xs ys:Array Value)(i:Nat)(n:List Nat)(h:Heap):Prop:=
 n.length=i/\n.Pairwise (·<·)/\∀(j T:Nat),n[j]?=some T->N+6<=T/\∃x y,xs[j]?=some x/\ys[j]?=some y/\IsPair h T x y
section
variable{prog:Program}{w:World}{A:Around}{E:Value->Shared->Prop}{R:Result->Shared->Prop}{s:Shared}{h0:Heap}{l1 l2:Nat}{xs ys:Array Value}
theorem lz_loop(O:h0.IsList l1 xs)(S:h0.IsList l2 ys)(u:xs.size=ys.size)(hz:xs.size<=sizeLine)(t:A.in1.handled=none)
  (H:∀M n c,(∀b o,h0.get? b=some o->M.get? b=some o)->M.get? (h0.objs.size+5)=some { cls:=.type "list",dict:=none,data:=.seq (n.map Value.ref).toArray c,slots:=(List.toArray []) }->LZ h0.objs.size xs ys xs.size n M->R (.ok (.ret .none)) { s with heap:=M }):
  ∀(k i:Nat)(h:Heap)(n:List Nat)(d:Array Value)(c:Nat),xs.size-i=k->i<=xs.size->ZS h0.objs.size l1 l2 i h->(∀b o,h0.get? b=some o->h.get? b=some o)->h.get? (h0.objs.size+5)=some { cls:=.type "list",dict:=none,data:=.seq d c,slots:=(List.toArray []) }->d=(n.map Value.ref).toArray->LZ h0.objs.size xs ys i n h->
   codeAny (model prog w) A (Code.builtin "list.extend.loop" #[[Value.ref (h0.objs.size+5),.ref (h0.objs.size+4),.none],[]]) R { s with heap:=h }:=by
 have C:l1<h0.objs.size:=by obtain⟨o,e,_⟩:=O;exact aW e
 have N:l2<h0.objs.size:=by obtain⟨o,e,_⟩:=S;exact aW e
 intro k
 induction k with
 |zero=>
  intro i h n d c hk hi Z kp hd Y L
  subst Y
  have e:i=xs.size:=#[]
  subst e
  refine codeAny_builtin F.entry_extend_loop ?_
  rw[Around.under_plainId F.plain_extend_loop _]
  show wpAny _ A.in1 (pyNext (Value.ref (h0.objs.size+4))>>=_) _ _ _
  refine aB (Z.stop (s:={ s with heap:=h }) t C N (O.at λo e=>kp _ o e) (S.at λo e=>kp _ o e) (by rw[Array.getElem?_eq_none #[]]) λM v=>?_)
  exact aT (H M n c (λb o e=>v b o (.inl (aW e)) (kp b o e)) (v _ _ (.inr (aM _)) hd) #[L.1,L.2.1,λj T e=>#[(L.2.2 j T e).1,let⟨x,y,a,b,p⟩:=(L.2.2 j T e).2;#[x,y,a,b,v _ _ (.inr (Nat.le_of_succ_le (L.2.2 j T e).1)) p]]])
 |succ k ih=>
  intro i h n d c hk hi Z kp hd Y L
  have g:d.size=i:=by rw[Y];simp [L.1]
  have f:i<xs.size:=#[]
  have l:xs[i]?=some xs[i]:=Array.getElem?_eq_getElem f
  have I:ys[i]?=some ys[i]:=Array.getElem?_eq_getElem (u▸f)
  refine codeAny_builtin F.entry_extend_loop ?_
  rw[Around.under_plainId F.plain_extend_loop _]
  show wpAny _ A.in1 (pyNext (Value.ref (h0.objs.size+4))>>=_) _ _ _
  have hs:h0.objs.size+5<h.objs.size:=aW hd
  refine aB (Z.item (s:={ s with heap:=h }) C N hs (O.at λo e=>kp _ o e) (S.at λo e=>kp _ o e) l I λM Q B v=>?_)
  have G:=v _ _ (.inr (aM _)) hd
  show wpAny _ A.in1 (updateSeq (h0.objs.size+5) (·.push (.ref h.objs.size))>>=_) _ _ _
  have q:∀(b:Nat) o,b≠h0.objs.size+5->M.get? b=some o->(M.update (h0.objs.size+5) (Obj.mapSeq (·.push (Value.ref h.objs.size)))).get? b=some o:=λb o hb e=>(dJ _ _ (Ne.symm hb)).trans e
  refine aB (wpAny_updateSeq G rfl (aT #[plainId_quiet F.plain_extend_loop _,?_]) (by rw[g];omega) (by show(d.push _).size<=sizeLine+1;rw[Array.size_push,g];omega))
  refine ih (i+1) _ (n++ [h.objs.size]) (d.push (.ref h.objs.size)) _ #[] f (Q.keep λc o hc e=>q c o hc e) (λb o e=>q b o (bJ (bQ (aW e) (dF _ _))) (v b o (.inl (aW e)) (kp b o e))) (Heap.get?_update_self _ G rfl) (by rw[Y];simp) #[by rw[bC,L.1];rfl,List.pairwise_append.mpr #[L.2.1,List.pairwise_singleton _ _,λa ha b hb=>?_],λj T e=>?_]
  ·obtain⟨m,hm⟩:=cJ ha
   obtain⟨x,y,_,_,p⟩:=(L.2.2 m a hm).2
   rw[bX.mp hb];exact aW p
  ·by_cases P:j<n.length
   ·rw[bV P]at e
    obtain⟨a,x,y,b1,b2,p⟩:=L.2.2 j T e
    exact#[a,x,y,b1,b2,q _ _ #[] (v _ _ (.inr (Nat.le_of_succ_le a)) p)]
   ·have r:j=i:=by
     have:=(aK.mp e).1
     rw[bC,List.length_singleton]at this;have:=L.1;omega
    subst r
    rw[bO #[],L.1,fZ]at e
    cases e
    exact#[hs,_,_,l,I,q _ _ #[] B]
theorem lz_call{Q:Value->Shared->Prop}(hs:s.heap.objs.size=h0.objs.size+5)(Z:ZS h0.objs.size l1 l2 0 s.heap)(kp:∀b o,h0.get? b=some o->s.heap.get? b=some o)(O:h0.IsList l1 xs)(S:h0.IsList l2 ys)(m:xs.size=ys.size)(hz:xs.size<=sizeLine)(t:A.handled=none)
  (h:∀M n c,(∀b o,h0.get? b=some o->M.get? b=some o)->M.get? (h0.objs.size+5)=some { cls:=.type "list",dict:=none,data:=.seq (n.map Value.ref).toArray c,slots:=(List.toArray []) }->LZ h0.objs.size xs ys xs.size n M->Q (.ref (h0.objs.size+5)) { s with heap:=M }):
  wpAny (model prog w) A (call (.type "list") [.ref (h0.objs.size+4)]) Q E s:=by
 refine callType_codes (Q₁:=λobj N=>obj=.ref s.heap.objs.size/\N={ s with heap:=s.heap.push { cls:=.type "list",data:=.seq (List.toArray []) } }) F.called_list (F.typeCall_list_1 _) F.entry_list_init (code_list_new _ #[rfl,rfl]) ?_
 rintro obj N ⟨rfl,rfl⟩
 have P:(s.heap.push { cls:=.type "list",data:=.seq (List.toArray []) }).get? s.heap.objs.size=some { cls:=.type "list",data:=.seq (List.toArray []) }:=bL _ rfl
 refine#[#[_,P,rfl],F.args_list_init_2 _ _,?_]
 rw[hs]at P⊢
 have d:s.heap.get? (h0.objs.size+4)=some { cls:=.type "zip",dict:=none,data:=.fields (List.toArray [.none,.bool false,.bool false,.ref (h0.objs.size+2),.ref (h0.objs.size+3)]),slots:=(List.toArray []) }:=by
  rcases Z.z with⟨z,_⟩|⟨T,b,o,_,e,le⟩
  ·exact z
  ·have:T<s.heap.objs.size:=aW e
   omega
 show wpAny _ _ (Builtin.List.listItems (.ref (h0.objs.size+5))>>=_) _ _ _
 refine aB ?_
 unfold Builtin.List.listItems
 refine aB (wpAny_seqItems P rfl (aT ?_))
 show wpAny _ _ (updateSeq (h0.objs.size+5) (λ_=>(List.toArray []))>>=λ_=>letGo ((List.toArray []):Array Value).toList.reverse>>=λ_=>Builtin.List.listExtendWith (.ref (h0.objs.size+5)) (.ref (h0.objs.size+4)) .none) _ _ _
 refine aB (wpAny_updateSeq P rfl (aB (wpAny_letGo ?_)))
 have a:=Heap.get?_update_self (Obj.mapSeq (λ_=>((List.toArray []):Array Value))) P rfl
 have q:∀(b:Nat) o,b≠h0.objs.size+5->s.heap.get? b=some o->((s.heap.push { cls:=.type "list",data:=.seq (List.toArray []) }).update (h0.objs.size+5) (Obj.mapSeq (λ_=>((List.toArray []):Array Value)))).get? b=some o:=λb o hb e=>(dJ _ _ (Ne.symm hb)).trans (aQ _ e)
 generalize (s.heap.push { cls:=.type "list",data:=.seq (List.toArray []) }).update (h0.objs.size+5) (Obj.mapSeq (λ_=>((List.toArray []):Array Value)))=g at a q⊢
 have l:IsZip g (h0.objs.size+4) (h0.objs.size+2) (h0.objs.size+3) .none:=q _ _ #[] d
 have k:Shared.TypeIs { s with heap:=g } (.ref (h0.objs.size+4)) "zip":=#[_,l,rfl]
 unfold Builtin.List.listExtendWith
 refine aB (wpAny_typeOf k ?_)
 have e1:Builtin.List.listSameRef (.ref (h0.objs.size+5)) (.ref (h0.objs.size+4))=false:=by simp [Builtin.List.listSameRef]
 have C:(Value.type "zip"==Value.type "list")=false:=by decide
 have p:(Value.type "zip"==Value.type "tuple")=false:=by decide
 simp only[e1,C,p,Bool.or_false,Bool.false_eq_true,if_false]
 refine aB (wpAny_pyIter_zip l (aB (wpAny_holding ?_)))
 unfold Builtin.List.listLengthHint
 refine aB (wpAny_specialOf k jX1 ?_)
 show wpAny _ _ (specialOf (Value.ref (h0.objs.size+4)) (Str.ofString "__length_hint__")>>=_) _ _ _
 refine aB (wpAny_specialOf k jJJ (aT ?_))
 show wpAny _ _ (rule "list.extend.makes-room">>=λ_=>Builtin.List.listTouch (.ref (h0.objs.size+5))>>=λ_=>again (.builtin "list.extend.loop" #[[.ref (h0.objs.size+5),.ref (h0.objs.size+4),.none],[]])) _ _ _
 refine aB (wpAny_rule (aB ?_))
 show wpAny _ _ (updateSeq (h0.objs.size+5) (·.push .none)>>=λ_=>updateSeq (h0.objs.size+5) (·.pop)) _ _ _
 refine aB (wpAny_updateSeq a rfl ?_)
 have S3:=Heap.get?_update_self (Obj.mapSeq (·.push Value.none)) a rfl
 refine wpAny_updateSeq (hz:=by seq_fits) S3 rfl ?_
 have i:=Heap.get?_update_self (Obj.mapSeq (·.pop)) S3 rfl
 have r:∀(b:Nat) o,b≠h0.objs.size+5->s.heap.get? b=some o->((g.update (h0.objs.size+5) (Obj.mapSeq (·.push Value.none))).update (h0.objs.size+5) (Obj.mapSeq (·.pop))).get? b=some o:=λb o hb e=>(dJ _ _ (Ne.symm hb)).trans ((dJ _ _ (Ne.symm hb)).trans (q b o hb e))
 refine aT #[plainId_quiet F.plain_extend_loop _,lz_loop (A:=A.in1) (s:=s) O S m hz t (λM n c X y f=>#[rfl,h M n c X y f]) _ 0 _ [] _ _ rfl (dL _) (Z.keep λc o hc e=>r c o hc e) (λb o e=>r b o (bJ (bQ (aW e) (dF _ _))) (kp b o e)) i rfl #[rfl,.nil,λj T e=>by simp at e]]
end
section
variable{X:Cx}{pins:List (Addr×Obj)}{σ:List (Option V)}{s:Shared}
theorem Xj{N:Nat}(M:X.s₀.heap.objs.size<=N)(f:X.env.locals<N)(i:∀x c,X.env.cells.lookup x=some c->c<N)(r:∀p∈X.pn++pins,p.1<N):∀(L:List (Addr×V×V))(H:Hp),Inv X pins σ H s->
  (∀p∈L,N<=p.1/\H p.1=none/\∃u v,eZ p.2.1 u/\eZ p.2.2 v/\IsPair s.heap p.1 u v)->(L.map (·.1)).Nodup->∃d,Inv X pins σ d s/\(∀c,d c=H c∨H c=none/\∃p∈L,p.1=c)/\∀p∈L,d p.1=some (.tup [p.2.1,p.2.2])
 | [],H,I,_,_=>#[H,I,λ_=>.inl rfl,λ_ h=>nomatch h]
 |p::L,H,I,a,nd=>by
  obtain⟨U,G,u,v,g,D,hp⟩:=a p bT
  obtain⟨nn,b⟩:=List.nodup_cons.mp nd
  have ne:∀q∈L,q.1≠p.1:=λq J e=>nn (dD.mpr #[q,J,e])
  obtain⟨d,m,j,y⟩:=Xj M f i r L _ (I.adopt (o:=.tup [p.2.1,p.2.2]) G (cO M U) (Nat.ne_of_gt (bQ f U)) (λx c e=>bJ (bQ (i x c e) U)) (λq J=>bJ (bQ (r q J) U)) #[by show 2<=sizeLine;decide,[u,v],.cons g (.cons D .nil),#[_,hp,rfl,_,rfl]]) (λq J=>#[(a q (.tail _ J)).1,by rw[bY (ne q J)];exact(a q (.tail _ J)).2.1,(a q (.tail _ J)).2.2]) b
  have w:d p.1=some (.tup [p.2.1,p.2.2]):=by
   rcases j p.1 with e |⟨_,q,J,e⟩
   ·rw[e];exact aI
   ·exact absurd e (ne q J)
  refine#[d,m,λc=>?_,λq J=>?_]
  ·by_cases hc:c=p.1
   ·exact .inr #[hc▸G,p,bT,hc.symm]
   ·rcases j c with e |⟨e,q,J,C⟩
    ·exact .inl (by rw[e,bY hc])
    ·exact .inr #[by rwa [bY hc]at e,q,.tail _ J,C]
  ·rcases dW.mp J with rfl |J
   ·exact w
   ·exact y q J
end
noncomputable def Wl(K:aO)(t:TA):TE:=λZ H Q=>t Z H λvs S=>∃(a b:Addr)(xs ys:List V),vs=[.ref a,.ref b]/\SqL K S a xs/\SqL K S b ys/\xs.length=ys.length/\
 ∀(p:Addr)(qs:List Addr)(M:Hp),S p=none->M p=some (.lst (qs.map V.ref))->(∀c o,S c=some o->M c=some o)->qs.length=xs.length->(∀(i:Nat) q x y,qs[i]?=some q->xs[i]?=some x->ys[i]?=some y->M q=some (.tup [x,y]))->Q (.ref p) M
section
variable{X:Cx}
theorem jZz{a b:Expr}{t:TA}{p2 k:Pos}(a4:Gl X "list")(a5:X.mg "list"=none)(a6:Gl X "zip")(a7:X.mg "zip"=none)(hc:X.calm=true)(Y:PA X [a,b] t)
  (a2:starEach [.Call (.Name "zip" p2) [a,b] [] k] X.env=[(false,eval (.Call (.Name "zip" p2) [a,b] [] k) X.env)]:=by rfl)
  (U:starEach (a:: [b]) X.env=(false,eval a X.env)::starEach [b] X.env:=by rfl) (a8:(backTo k (starEach [b] X.env)).any (·.1)=false:=by rfl):
  PE X (.Call (.Name "list" p1) [.Call (.Name "zip" p2) [a,b] [] k] [] a0) (Wl X.K t):=by
 intro B s Z H Q I h
 refine Call_ (lS I a4 a5 nG (cI (spliced_more ?_ (by rw[a2];rfl)) a2 rfl))
 refine Call_ (lS I a6 a7 Uh (cI (thn (Y k B s Z H _ I h) λR O#[vs,S,j,f,q1]=>?_) U a8))
 obtain⟨w,n,F,ys,e0,J,hr,b5,q⟩:=q1
 subst e0
 rcases f with _ |⟨ra,_ |⟨rb,f⟩⟩
 cases f;cases ra;cases rb
 obtain⟨G,rv,l,b7⟩:=j.list J
 obtain⟨a3,sv,pm,b8⟩:=j.list hr
 have e1:=rv.length
 have C:=sv.length
 refine call_zip_2 l.isList pm.isList λg A a9 b0 h1 h2 P kp=>spliced_none ?_
 refine lz_call (h0:=O.heap) (s:={ O with heap:=g }) (l1:=w) (l2:=n) (xs:=G.toArray) (ys:=a3.toArray) P #[a9,h1,h2,.inl #[A,_,_,b0]] kp l.isList pm.isList (by simp;omega) (by simp;omega) (j.ok.hd hc) λM ts c b3 hd L=>?_
 have lt:ts.length=F.length:=by rw[L.1];simp;omega
 have AA:∀p∈ts.zip (F.zip ys),O.heap.objs.size<=p.1/\S p.1=none/\∃u v,eZ p.2.1 u/\eZ p.2.2 v/\IsPair M p.1 u v:=λp hp=>by
  obtain⟨m,hm⟩:=cJ hp
  obtain⟨r,f2,f3⟩:=Ml hm
  obtain⟨a1,x,y,b1,b2,pr⟩:=L.2.2 m p.1 r
  obtain⟨u,hu,ru⟩:=rv.get f2
  obtain⟨v,hv,b4⟩:=sv.get f3
  have c1:x=u:=by
   have:G[m]?=some x:=by simpa using b1
   rw[hu]at this;cases this;rfl
  have c2:y=v:=by
   have:a3[m]?=some y:=by simpa using b2
   rw[hv]at this;cases this;rfl
  subst c1 c2
  have le:O.heap.objs.size<=p.1:=cO (dF _ 6) a1
  exact#[le,j.hok.fresh le,x,y,ru,b4,pr]
 obtain⟨d,I',k1,k2⟩:=Xj (s:={ O with heap:=M,toks:=O.toks }) (N:=O.heap.objs.size) j.sz j.lt (λx c e=>(j.cell x c e).elim λv z=>z.lt) (λp hp=>aW (j.pin p hp).1) (ts.zip (F.zip ys)) S (j.kept (t':=O.toks) b3) AA (by
  rw[List.map_fst_zip (by rw[List.length_zip];omega)]
  exact L.2.1.imp λh=>bJ h)
 have n5:d (O.heap.objs.size+5)=none:=by
  rcases k1 (O.heap.objs.size+5)with e |⟨e,p,hp,C⟩
  ·rw[e];exact j.hok.fresh (dF _ 5)
  ·obtain⟨m,hm⟩:=cJ hp
   have:=(L.2.2 m p.1 (Ml hm).1).1
   rw[C]at this
   exact absurd this (Nat.not_succ_le_self _)
 refine#[.ref _,_,I'.adopt (D:=O.heap.objs.size+5) (o:=.lst (ts.map V.ref)) n5 (cO j.sz (dF _ 5)) (Nat.ne_of_gt (bQ j.lt (dF _ 5))) (λx c e=>bJ (bQ ((j.cell x c e).elim λv z=>z.lt) (dF _ 5))) (λp hp=>bJ (bQ (aW (j.pin p hp).1) (dF _ 5))) #[by rw[aA];omega,ts.map Value.ref,c,?_,hd],rfl,q _ ts _ (j.hok.fresh (dF _ 5)) (aI) (λc o e=>?_) lt λi a x y r f2 f3=>?_]
 ·exact sF (by simp) λi x u r f2=>by
   rw[aY]at r f2
   cases hi:ts[i]? with
   |none=>rw[hi]at r;cases r
   |some T=>rw[hi]at r f2;cases r;cases f2;rfl
 ·rw[bY (dE e (j.hok.fresh (dF _ 5)))]
  rcases k1 c with e' |⟨e',_⟩
  ·rw[e'];exact e
  ·rw[e]at e';cases e'
 ·have hm:(ts.zip (F.zip ys))[i]?=some (a,x,y):=by rw[List.getElem?_zip_eq_some,List.getElem?_zip_eq_some];exact#[r,f2,f3]
  have e':=k2 _ (aL hm)
  rw[bY (dE e' n5)];exact e'
end
section
variable{prog:Program}{w:World}{A:Around}{E:Value->Shared->Prop}{s:Shared}
theorem Sa{l:Obj}{g:Array DictEntry}{Q:Value->Shared->Prop}(hd:(d==sysModules)=false)(B:s.TypeIs (.ref d) "dict")(D:s.heap.get? d=some l)(c:l.data=.dict g j)
  (p:Q (.ref s.heap.objs.size) { s with heap:=s.heap.push { cls:=.type "dict_keyiterator",data:=.fields (List.toArray [.ref d,.int 0 0,.int g.size 0,.int j 0]) } }):wpAny (model prog w) A (pyIter (.ref d)) Q E s:=by
 refine wpAny_pyIter_slot B F.slot_dict_iter (wpAny_call_entry F.slot_dict_iter B F.entry_dict_iter ?_ (F.args_dict_iter_1 _));unfold Builtin.«dict.__iter__»
 refine aB ?_;unfold Builtin.Dict.dictSlotNone;refine aB (wpAny_notOrdered_dict B ?_);show wpAny _ _ (pure (Value.ref d)) _ _ s;refine aT ?_
 show wpAny _ _ (Builtin.Dict.showsAll d>>=_) _ _ s;unfold Builtin.Dict.showsAll;rw[hd,aF (by simp)]
 refine aB (aT (aB (wpAny_dictEntries D c (aB (wpAny_dictEpoch D c ?_)))))
 refine aB (wpAny_newObj_type (aT #[_,rfl,"dict_keyiterator",_,#[_,bL _ rfl,rfl],F.slot_dict_keyiterator_next.lookup,?_]))
 simpa [rawInt]using p
theorem Rz{N:Addr}{l:Obj}{g:Array DictEntry}(t:s.heap.IsKeyIter N d i g.size j)(c:s.heap.get? d=some l)(y:l.data=.dict g j)(f:i<g.size)
  (p:∀M,M.IsKeyIter N d (i+1) g.size j->Heap.SameBut N s.heap M->Q (some g[i].key) { s with heap:=M }):wpAny (model prog w) A (pyNext (.ref N)) Q E s:=by
 obtain⟨o,D,hc,hd⟩:=id t
 unfold pyNext;refine aB (wpAny_attempt (wpAny_callSpecial?_slot (name:=Str.ofString "__next__") t.typeIs F.slot_dict_keyiterator_next (wpAny_call_entry F.slot_dict_keyiterator_next t.typeIs F.entry_dict_keyiterator_next ?_ (F.args_dict_keyiterator_next_1 _))))
 refine aB (aT ?_);refine aB ?_;refine aB ?_
 refine aB (wpAny_typeNameOfWhole_keyiter t.typeIs (aT ?_));refine aB (wpAny_fieldsOf D hd ?_)
 simp only[show Builtin.Dict_items.ownsTuple "dict_keyiterator"=false by decide,Bool.false_eq_true,if_false]
 show wpAny _ _ (if(Value.ref d==Value.none)=true then _ else _) _ _ s;rw[aF (λz=>by cases z)];refine aB (aT (aB (wpAny_dictEntries c y ?_)))
 rw[aF (by simp)];refine aB (aT (aB (wpAny_dictEpoch c y ?_)));rw[aF (by simp)];refine aT ?_
 simp only[show ¬((i:Int)<0) by omega,if_false,dA,Array.getElem?_eq_getElem f]
 refine aB ?_;refine aB (wpAny_typeNameOfWhole_keyiter t.typeIs (aT (aB (wpAny_isOneOf_keyiter t.typeIs ?_))))
 show wpAny _ _ (setField (.ref N) 1 (rawInt ((i:Int)+1))>>=_) _ _ s;refine aB (wpAny_setField D hd (by simp) ?_)
 have m:(s.heap.update N (Obj.mapFields (·.setIfInBounds 1 (rawInt ((i:Int)+1))))).IsKeyIter N d (i+1) g.size j:=#[_,Heap.get?_update_self _ D (Obj.isFreed_of_fields (Obj.data_mapFields hd _)),(Obj.cls_mapFields ..).trans hc,by rw[Obj.data_mapFields hd];simp [rawInt]]
 refine aB (wpAny_holding ?_)
 refine aB (wpAny_isOneOf_keyiter (s:={ s with heap:=s.heap.update N (Obj.mapFields (·.setIfInBounds 1 (rawInt ((i:Int)+1)))) }) m.typeIs ?_)
 show wpAny _ _ (pure g[i].key) _ _ _;exact aT (aT #[_,rfl,aT (p _ m (Heap.SameBut.update ..))])
theorem Ry{N:Addr}{l:Obj}{g:Array DictEntry}(f:A.handled=none)(t:s.heap.IsKeyIter N d i g.size j)(c:s.heap.get? d=some l)(y:l.data=.dict g j)(e:g.size<=i)
  (p:∀M,Heap.ExtBut N s.heap M->Q none { s with heap:=M }):wpAny (model prog w) A (pyNext (.ref N)) Q E s:=by
 obtain⟨o,D,hc,hd⟩:=id t
 unfold pyNext;refine aB (wpAny_attempt (wpAny_callSpecial?_slot (name:=Str.ofString "__next__") t.typeIs F.slot_dict_keyiterator_next (wpAny_call_entry F.slot_dict_keyiterator_next t.typeIs F.entry_dict_keyiterator_next ?_ (F.args_dict_keyiterator_next_1 _))))
 refine aB (aT ?_);refine aB ?_;refine aB ?_
 refine aB (wpAny_typeNameOfWhole_keyiter t.typeIs (aT ?_));refine aB (wpAny_fieldsOf D hd ?_)
 simp only[show Builtin.Dict_items.ownsTuple "dict_keyiterator"=false by decide,Bool.false_eq_true,if_false]
 show wpAny _ _ (if(Value.ref d==Value.none)=true then _ else _) _ _ s;rw[aF (λz=>by cases z)];refine aB (aT (aB (wpAny_dictEntries c y ?_)))
 rw[aF (by simp)];refine aB (aT (aB (wpAny_dictEpoch c y ?_)));rw[aF (by simp)];refine aT ?_
 simp only[show ¬((i:Int)<0) by omega,if_false,dA,Array.getElem?_eq_none e]
 refine aB ?_;refine aB (wpAny_typeNameOfWhole_keyiter t.typeIs (aT ?_));show wpAny _ _ (setField (.ref N) 0 .none>>=_) _ _ s;refine aB (wpAny_setField D hd (by simp) ?_)
 show wpAny _ _ (newExc (.type "StopIteration") []>>=_) _ _ _;refine aB ?_;simp only[newExc,newTuple];refine aB (wpAny_newObj_type ?_ (by size_fits))
 refine aB (m:=firstArgMember _ _) (wpAny_of_eq (a:=Value.none) (by first |rfl |(simp only[firstArgMember];rfl)) (wpAny_newObj_type ?_ (by size_fits)))
 simp only[raiseNew];refine aB (wpAny_handled ?_);rw[show A.in1.handled=none from f];refine aB (aT (wpAny_throw ?_))
 refine aB (wpAny_isInstance (T:="StopIteration") (b:=true) #[_,bL _ rfl,rfl] isSubtype_stop ?_);exact aT (p _ (((Heap.SameBut.update ..).extBut.push _).push _))
end
theorem jJY{w:World}(t:A.handled=none)(I d:Addr)(O:d≠I){l:Obj}{g:Array DictEntry}(c:l.data=.dict g j):
  Walks prog w A I [I,d] [I] g.size (λi v=>∃e,g[i]?=some e/\e.key=v) (λi h=>h.IsKeyIter I d i g.size j/\h.get? d=some l) where
 sub:=λb hb=>by simp at hb;simp [hb]
 frame:=λ_ _ _ st hk=>#[st.1.at λo e=>hk I (by simp) o e,hk d (by simp) l st.2]
 item:=λi s Q E hi st p=>Rz st.1 st.2 c hi λM m F=>p _ M s.toks #[_,Array.getElem?_eq_getElem hi,rfl] #[m,F.extBut d l O st.2] λb o hb e=>F.extBut b o (λh=>hb (by simp [h])) e
 done:=λs Q E st p=>Ry t st.1 st.2 c (aM _) λM a=>p M s.toks λb o hb e=>a b o (λh=>hb (by simp [h])) e
 self:=λ_ _ _ _ st p=>wpAny_pyIter_keyiter st.1 p
theorem jY9{w:World}{l:Obj}{g:Array DictEntry}(hd:(d==sysModules)=false)(B:l.cls=.type "dict")(c:l.data=.dict g j):
  PySem.W.KdlSrc prog w "dict" d d g.size (λi v=>∃e,g[i]?=some e/\e.key=v) (λh=>h.get? d=some l) where
 type:=λ_ hm=>#[l,hm,B]
 there:=λ_ hm=>#[aW hm,aW hm]
 keep:=λ_ _ hm hk=>hk d (.inr rfl) l hm
 notList:=by decide
 notTuple:=by decide
 hint:=λ_ _ _ _ hm J=>PySem.W.kdl_hint_dict #[l,hm,B] J
 iter:=λ_ _ t hm=>#[_,_,(λ_ _ J=>Sa hd #[l,hm,B] hm c J),jJY t _ d (bJ (aW hm)) c,#[#[_,bL _ rfl,rfl,rfl],aQ _ hm]]
theorem Lc{P:Program}{w:World}(hok:HOk P w H h)(e:Rd H a (.dT kvs)):
  ∃ob g j,h.get? a=some ob/\ob.cls=.type "dict"/\ob.data=.dict g j/\g.size=kvs.length/\kvs.length<=sizeLine/\(a==sysModules)=false/\∀(i:Nat) e B,g[i]?=some e->kvs[i]?=some B->∃q,e.key=.ref q/\H q=some (.tup (B.1.map kV)):=by
 have X:jE P w H h a (.dT kvs):=by
  rcases e with e |⟨o,e⟩
  ·exact hok a _ e
  ·exact(hok a _ e).2
 obtain⟨A,ns,F,d,ob,g,j,k,hc,c,b,_⟩:=X
 refine#[ob,g,j,k,hc.1,c,by rw[show kvs.length=F.length from Paired.length d,←Array.length_toList,b,aA],A,ns,λi e B U hk=>?_]
 obtain⟨q,J,_,h2,_⟩:=KT.at d i B hk
 have C:g.toList[i]?=some e:=by rw[Array.getElem?_toList];exact U
 rw[b,aY,J]at C
 cases C
 exact#[q.2.1,rfl,h2]
noncomputable def tKeys(m:TE):TE:=λZ H Q=>m Z H λx S=>∃a kvs,x=.ref a/\Rd S a (.dT kvs)/\∀p(qs:List Addr),S p=none->qs.length=kvs.length->(∀(i:Nat) q kv,qs[i]?=some q->kvs[i]?=some kv->S q=some (.tup (kv.1.map kV)))->Q (.ref p) (upd S p (.lst (qs.map V.ref)))
section
variable{X:Cx}
theorem pe_keys{o:Expr}{m:TE}{M b:Pos}(z:Gl X "list")(U:X.mg "list"=none)(hc:X.calm=true)(D:PE X o m)(y:starEach [o] X.env=[(false,eval o X.env)]:=by rfl):PE X (.Call (.Name "list" M) [o] [] b) (tKeys m):=by
 intro B s Z H Q I h
 refine Call_ (lS I z U nG (cI (spliced_more ?_ (by rw[y];rfl)) y rfl))
 refine thn (D B s Z H _ I h) λv O#[x,S,j,r1,a,n,F,hd,q1]=>?_
 subst F
 cases r1
 obtain⟨ob,g,ep,k,J,c,p,A,ns,key⟩:=Lc j.hok hd
 refine spliced_none (PySem.W.kdl_call (jY9 ns J c) (j.ok.hd hc) k (by rw[p];exact A) λh2 tk d c' hk P N=>?_)
 have K:∀(l:List Value),(∀(i:Nat) u,l[i]?=some u->∃e,g[i]?=some e/\e.key=u)->l.length=n.length->∃qs:List Addr,l=qs.map Value.ref/\∀(i:Nat) q w,qs[i]?=some q->n[i]?=some w->S q=some (.tup (w.1.map kV)):=λl Y R=>by
  refine#[l.map λu=>match u with | .ref q=>q |_=>0,?_,λi q w h1 h2=>?_]
  ·refine List.ext_getElem? λi=>?_
   rw[aY,aY]
   cases hi:l[i]? with
   |none=>rfl
   |some u=>
    obtain⟨e,e1,C⟩:=Y i u hi
    have G:i<n.length:=by have:=(aK.mp hi).1;omega
    obtain⟨q,e3,_⟩:=key i e _ e1 (aD G)
    rw[←C,e3];rfl
  ·rw[aY]at h1
   cases hi:l[i]? with
   |none=>rw[hi]at h1;cases h1
   |some u=>
    obtain⟨e,e1,C⟩:=Y i u hi
    obtain⟨q',e3,t⟩:=key i e w e1 h2
    rw[hi,←C,e3]at h1;cases h1;exact t
 obtain⟨qs,e1,C⟩:=K d.toList (λi u h=>N.2 i u (by simpa using h)) (by rw[Array.length_toList,N.1,p])
 have lq:qs.length=n.length:=by rw[←aA (f:=Value.ref),←e1,Array.length_toList,N.1,p]
 refine#[.ref _,_,j.laid (t':=tk) (o:=.lst (qs.map V.ref)) hk (aM _) #[by rw[aA,lq];exact A,d.toList,c',?_,by simpa using P],rfl,q1 _ qs (j.hok.fresh (aM _)) lq C]
 rw[e1]
 exact sF (by rw[aA,aA]) λi x u r f2=>by
  rw[aY]at r f2
  cases hi:qs[i]? with
  |none=>rw[hi]at r;cases r
  |some T=>rw[hi]at r f2;cases r;cases f2;rfl
end
noncomputable def Itk(d:Addr)(ob:Obj)(kvs:List (List Key×V)):It:=
 #[λi H=>i<kvs.length/\H d=some (.frz ob (.dT kvs)),λi H v H'=>∃I B,v=.ref I/\kvs[i]?=some B/\H I=some (.tup (B.1.map kV))/\H'=H,λi H=>kvs.length<=i/\H d=some (.frz ob (.dT kvs))]
theorem Qv{P:Program}{w:World}{x:Str}{N:Addr}{b:Array DictEntry}(k:ob.data=.dict b j):
  Tp P w K (.Name x U) (Itk d ob kvs) [N] N (λi h=>h.IsKeyIter N d i b.size j) where
 mem:=by simp
 obj:=λi h#[o,e,_,C] c hc=>by
  have q:c=N:=by simpa using hc
  subst q
  exact#[o,e,λv z=>by rw[C]at z;cases z]
 keep:=λi h M st kp=>st.at λo e=>kp N (by simp) o e
 item:=by
  intro X Q hw l hc i B s Z H E I hf st ⟨hlt,hd⟩
  subst Q hw l
  obtain⟨m,f,A,h1,_,h3,S,_,_,key⟩:=Lc I.hok (.inr #[ob,hd])
  have F:=(I.hok d _ hd).1
  rw[F]at h1;cases h1
  rw[k]at h3;cases h3
  have a:kvs[i]?=some kvs[i]:=aD hlt
  have r:i<b.size:=#[]
  obtain⟨q,T,n⟩:=key i _ _ (Array.getElem?_eq_getElem r) a
  refine Rz st F k r λg t sb=>#[_,rfl,?_]
  rw[T]
  refine letGo_keyiter t ?_
  refine#[.ref q,H,I.turnedL (t':=s.toks) (ch:=[N]) (λc o hb z=>(sb.2 c (by simpa using hb)).trans z) hf,rfl,#[q,_,rfl,a,n,rfl],t,λc hb=>(hf c hb).1]
 done:=by
  intro X Q hw l hc i B s Z H E I hf st ⟨hge,hd⟩
  subst Q hw l
  obtain⟨m,f,A,h1,_,h3,S,_,_,_⟩:=Lc I.hok (.inr #[ob,hd])
  have F:=(I.hok d _ hd).1
  rw[F]at h1;cases h1
  rw[k]at h3;cases h3
  exact Ry (I.ok.hd hc) st F k #[] λg O=>#[rfl,I.turnedL (t':=s.toks) (ch:=[N]) (λc o hb z=>O c o (by simpa using hb) z) hf]
 self:=λ_ _ _ _ _ st h=>wpAny_pyIter_keyiter st h
noncomputable def Lm(K:aO)(m:TE):TI:=λZ H R=>m Z H λx S=>∃a,x=.ref a/\((∃xs,SqL K S a xs)/\R (Itl K a) S∨∃kvs,S a=some (.dT kvs)/\(∀ob,R (Itk a ob kvs) (upd S a (.frz ob (.dT kvs))))∨∃ob,S a=some (.frz ob (.dT kvs))/\R (Itk a ob kvs) S)
section
variable{X:Cx}
theorem Lw{l:Expr}{w:TE}{x:Str}(Y:PE X l w):PI X (.Name x U) l (Lm X.K w):=by
 intro B s Z H R I h
 refine thn (Y B s Z H _ I h) λv O#[x,S,j,f,q1]=>?_
 obtain⟨a,e,q⟩:=q1
 subst e
 cases f
 rcases q with⟨⟨F,J⟩,q⟩|⟨n,q⟩
 ·obtain⟨G,D,p,A⟩:=j.list J
  refine wpAny_pyIter_list p.isList #[O.heap.objs.size,[O.heap.objs.size],_,_,S,rfl,j.kept (t':=O.toks) λb o e=>aQ _ e,Qu a _,#[_,bL _ rfl,rfl,rfl],λb hb=>?_,q]
  have e:b=O.heap.objs.size:=by simpa using hb
  subst e
  exact j.fpOk (aM _) (j.hok.fresh (aM _))
 ·obtain⟨ob,g,u,h1,h2,h3,C,T,i,_⟩:=Lc j.hok (a:=a) (kvs:=n) (q.elim (λz=>.inl z.1) fun⟨ob,z⟩=>.inr #[ob,z.1])
  refine Sa i #[ob,h1,h2] h1 h3 ?_
  have k:Inv X B Z S { O with heap:=O.heap.push { cls:=.type "dict_keyiterator",data:=.fields (List.toArray [.ref a,.int 0 0,.int g.size 0,.int u 0]) },toks:=O.toks }:=j.kept λb o e=>aQ _ e
  have r:=j.hok.fresh (aM O.heap.objs.size)
  rcases q with⟨z,q⟩|⟨m,z,q⟩
  ·obtain⟨m,d,y⟩:=k.freeze z
   have t:m=ob:=aV (d.symm.trans (aQ _ h1))
   subst t
   refine#[O.heap.objs.size,[O.heap.objs.size],_,_,_,rfl,y,Qv h3,#[_,bL _ rfl,rfl,rfl],λc hc=>?_,q m]
   have z:c=O.heap.objs.size:=by simpa using hc
   subst z
   exact j.fpOk (aM _) (by rw[bY (Nat.ne_of_gt (aW h1))];exact r)
  ·have t:m=ob:=aV ((j.hok a _ z).1.symm.trans h1)
   subst t
   refine#[O.heap.objs.size,[O.heap.objs.size],_,_,_,rfl,k,Qv h3,#[_,bL _ rfl,rfl,rfl],λc hc=>?_,q]
   have z:c=O.heap.objs.size:=by simpa using hc
   subst z
   exact j.fpOk (aM _) r
end
noncomputable def mayE(n:Addr->Prop)(D:rW):rW where
 nx:=λZ H=>D.nx Z H∨(jZh n D).nx Z H
 rt:=λv H=>D.rt v H∨(jZh n D).rt v H
 bk:=λZ H=>D.bk Z H∨(jZh n D).bk Z H
 ct:=λZ H=>D.ct Z H∨(jZh n D).ct Z H
noncomputable def Lk(t:TS):TS:=λD Z H=>∀n:Addr->Prop,(∀a,(∀o u,H a≠some (.frz o u))->n a)->t (mayE n D) Z H
theorem Lu{st:Stmt}{t:TS}(h:PS X st t):PS X st (Lk t):=by
 intro B s Z H D I y
 have q:=h B s Z H _ I (y (λa=>∀o u,X.H₀ a≠some (.frz o u)) λa b o u z=>b o u (I.base.frzs a o u z))
 refine thn q λf U r=>?_
 cases f with
 |next=>exact let⟨σ',H',I',d⟩:=r;d.elim (λd=>#[σ',H',I',d]) fun⟨_,_,_,O,e,d⟩=>#[σ',_,I'.thaw e O,d]
 |brk=>exact let⟨σ',H',I',d⟩:=r;d.elim (λd=>#[σ',H',I',d]) fun⟨_,_,_,O,e,d⟩=>#[σ',_,I'.thaw e O,d]
 |cont=>exact let⟨σ',H',I',d⟩:=r;d.elim (λd=>#[σ',H',I',d]) fun⟨_,_,_,O,e,d⟩=>#[σ',_,I'.thaw e O,d]
 |ret v=>exact let⟨x,σ',H',I',rv,d⟩:=r;d.elim (λd=>#[x,σ',H',I',rv,d]) fun⟨_,_,_,O,e,d⟩=>#[x,σ',_,I'.thaw e O,rv,d]
theorem Xq{D:rW}{Z:St}(h:Nat->St->Hp->Prop)(h0:h 0 Z H)(Y:∀i Z H,i<=kvs.length->h i Z H->H a=some (.frz ob (.dT kvs)))
  (hs:∀i B I Z H,kvs[i]?=some B->h i Z H->H I=some (.tup (B.1.map kV))->g (.ref I) Z H λj M=>tb { D with nx:=h (i+1),ct:=h (i+1),bk:=D.nx } j M) (hd:∀Z H,h kvs.length Z H->D.nx Z H):
  ∃W:Nat->Nat->St->Hp->Prop,(∃m,W 0 m Z H)/\∀i m Z H,W i m Z H->
   ((Itk a ob kvs).stop i H/\D.nx Z H)∨((Itk a ob kvs).go i H/\∃N:St->Hp->Prop,(∀G d,N G d->∃l,l<m/\W (i+1) l G d)/\∀x d,(Itk a ob kvs).yld i H x d->g x Z d λj M=>tb { D with nx:=N,ct:=N,bk:=D.nx } j M):=by
 refine#[λi m Z H=>m=kvs.length-i/\i<=kvs.length/\h i Z H,#[kvs.length,by simp,dL _,h0],?_]
 rintro i m Z H ⟨rfl,hi,p⟩
 have q:=Y i Z H hi p
 by_cases f:i<kvs.length
 ·refine .inr #[#[f,q],h (i+1),λG d k=>#[kvs.length-(i+1),#[],rfl,f,k],λx d y=>?_]
  obtain⟨I,B,e1,T,t,u⟩:=y
  subst e1 u
  exact hs i B I Z _ T p t
 ·have e:i=kvs.length:=#[]
  subst e
  exact .inl #[#[aM _,q],hd Z H p]
theorem jZa{Z:St}{l:TT}{S:Hp}{fin:List V->Hp->Prop}(W:Nat->List V->Hp->Prop)(hz:kvs.length<=sizeLine)(h0:W 0 [] S)(Y:∀i T H,i<=kvs.length->W i T H->H a=some (.frz ob (.dT kvs)))
  (hs:∀i B I T H,kvs[i]?=some B->T.length<=i->W i T H->H I=some (.tup (B.1.map kV))->l (some (.ref I)::cL Z caps) H λb G=>if b=true then c (some (.ref I)::cL Z caps) G λy w=>W (i+1) (T++ [y]) w else W (i+1) T G)
  (hd:∀T H,W kvs.length T H->fin T H):oS (Itk a ob kvs) Z caps l c S fin:=by
 refine#[kvs.length,W,hz,h0,λi T M hi d hw=>?_]
 have q:=Y i T M hi hw
 by_cases f:i<kvs.length
 ·refine .inr #[f,#[f,q],λx U y=>?_]
  obtain⟨I,B,e1,g,t,u⟩:=y
  subst e1 u
  exact hs i B I T _ g d hw t
 ·have e:i=kvs.length:=#[]
  subst e
  exact .inl #[#[aM _,q],hd T M hw]
theorem Sk{Z:St}{S:Hp}{fin:List V->Hp->Prop}(W:Nat->List V->Hp->Prop)(hz:kvs.length<=sizeLine)(h0:W 0 [] S)(Y:∀i T H,i<=kvs.length->W i T H->H a=some (.frz ob (.dT kvs)))
  (hs:∀i B I T H,kvs[i]?=some B->T.length=i->W i T H->H I=some (.tup (B.1.map kV))->c (some (.ref I)::cL Z caps) H λy w=>W (i+1) (T++ [y]) w)
  (hd:∀T H,W kvs.length T H->fin T H):vO (Itk a ob kvs) Z caps c S fin:=by
 refine#[kvs.length,W,hz,h0,λi T M hi d hw=>?_]
 have q:=Y i T M hi hw
 by_cases f:i<kvs.length
 ·refine .inr #[f,#[f,q],λx U y=>?_]
  obtain⟨I,B,e1,b,t,u⟩:=y
  subst e1 u
  exact hs i B I T _ b d hw t
 ·have e:i=kvs.length:=#[]
  subst e
  exact .inl #[#[aM _,q],hd T M hw]
noncomputable def cLenA(K:aO):List V->Hp->VK->Prop:=λxs H Q=>Qq xs H Q∨jD K xs H Q
theorem jY2:pY X (.builtin "len") (cLenA X.K):=λB s Z H F R Q I v h=>h.elim (Ig B s Z H F R Q I v) (cW B s Z H F R Q I v)
section
variable{X:Cx}
noncomputable def cIsD:List V->Hp->VK->Prop:=λxs H Q=>∃p kvs,xs=[.ref p,.ty "dict"]/\H p=some (.dT kvs)/\Q (.bl true) H
theorem kit_dd(K:aO):PySem.W.kitOne K (.type "dict") (.type "dict")=some true:=by rfl
theorem jVU:pY X (.builtin "isinstance") cIsD:=by
 intro B s Z H F R Q I r h
 obtain⟨p,n,rfl,hp,q⟩:=h
 obtain⟨u,c,rfl,g,a⟩:=Qn r
 obtain rfl:c=Value.type "dict":=a
 exact qJ I g (.dT hp) (kit_dd _) λtk=>#[.bl true,H,I.tok _,rfl,q]
end
noncomputable def tV(st:Stmt):List Str:=(oR st).args.map (·.arg)
noncomputable def xM(N:List Str)(caps:List Nat):List Str:=caps.filterMap λi=>N[i]?
structure Rm(X:Cx)(k:Nat)(N:List Str)(st:Stmt):Prop where
 r:mR k X.A
 nd:N.Nodup
 sc:X.env.scope=eT st
 nn:X.N=N
 calm:X.calm=true
structure Ok(P:Program)(w:World)(K:aO)(mg:Str->Option Value)(base:Heap)(CX:CXT)(k:Nat)(x:Str)(sp:Sp):Prop where
 ex:∃f fd ps,Bl P w K mg base CX k f fd ps sp/\mg x=some (.ref f)/\PySem.W.keepIn K (.ref f)=true/\sD K fd ps []
structure OkM(P:Program)(w:World)(K:aO)(mg:Str->Option Value)(base:Heap)(CX:CXT)(k:Nat)(C:Addr)(m:Str)(sp:Sp):Prop where
 ex:∃f fd ps,Bl P w K mg base CX k f fd ps sp/\Meth K C m f/\sD K fd ps []
structure Df(K:aO)(mg:Str->Option Value)(x:Str)(st:Stmt):Prop where
 ex:∃df f fd,Bk K x x st df f fd/\sD K fd (tV st) []/\mg x=some (.ref f)
structure Mf(K:aO)(c m q:Str)(st:Stmt):Prop where
 ex:∃f fd,Bk K m q st .none f fd/\sD K fd (tV st) []/\Meth K (eE K c) m f
section
variable{P:Program}{w:World}{K:aO}{mg:Str->Option Value}{base:Heap}{x qual:Str}{st:Stmt}{df:Value}{f:Addr}{fd:FuncData}{N ps:List Str}{k:Nat}{sp:Sp}
theorem Bk.ok0(F:Bk K x qual st df f fd)(S:Au N ps (eT st))(len:∀vs H Q E,sp vs H Q E->vs.length=ps.length)
  (m:∀(cdv:Value)(A:Around)(outer:List Env)(s:Shared)(H:Hp)(vs:List V)(Q:VK)(E:XK),mR k (A.deeper (envOfC qual (eT st) s.heap.objs.size f cdv))->sp vs H Q E->
   ∃t,PSs (Wg CX0 P w K mg base N qual (eT st) f cdv A outer s H E).nox (nF st) t/\t { nx:=λ_ d=>Q .non d,rt:=Q } (start N vs) H):Bl P w K mg base CX0 (k+1) f fd ps sp:=by
 obtain⟨X,l,kV,i,z,C,cdv,ct,M,rfl,Z,p⟩:=F.ex
 refine fn_of Z p S len λA outer s H vs Q E hr B=>?_
 obtain⟨t,h,q⟩:=m cdv A outer s H vs Q E hr B
 exact#[t,h.nox,q]
noncomputable abbrev Bd0(P:Program)(w:World)(K:aO)(mg:Str->Option Value)(base:Heap)(N:List Str)(qual:Str)(st:Stmt)(k:Nat)(sp:Sp):Prop:=
 ∀{f:Addr}{cdv:Value}{A:Around}{outer:List Env}{s:Shared}{H:Hp}{vs:List V}{Q:VK}{E:XK},Rm (Wg CX0 P w K mg base N qual (eT st) f cdv A outer s H E).nox k N st->sp vs H Q E->
  ∃t:TS,t { nx:=λ_ H'=>Q .non H',rt:=Q } (start N vs) H/\PSs (Wg CX0 P w K mg base N qual (eT st) f cdv A outer s H E).nox (nF st) t
theorem Df.ok(D:Df K mg x st)(b:Bd0 P w K mg base N x st k sp)(len:∀{m H Q E},sp m H Q E->m.length=(tV st).length:=by intro _ _ _ _ h;repeat(first |(obtain⟨rfl,_⟩:=h;rfl)|obtain⟨_,h⟩:=h))
  (S:Au N (tV st) (eT st):=by exact#[rfl,rfl,rfl,by decide+kernel,rfl,by decide+kernel,by decide+kernel]):Ok P w K mg base CX0 (k+1) x sp:=
 let⟨_,f,fd,F,hb,hm⟩:=D.ex
 #[f,fd,_,F.ok0 S (λ_ _ _ _ h=>len h) λa A outer s H m Q E hr h=>let⟨t,q,p⟩:=b (f:=f) (cdv:=a) (outer:=outer) #[hr,S.nd,rfl,rfl,rfl] h;#[t,p,q],hm,F.kp,hb]
theorem Bk.fn(F:Bk K x x st df f fd)(b:Bd0 P w K mg base N x st k sp)(len:∀{m H Q E},sp m H Q E->m.length=(tV st).length:=by intro _ _ _ _ h;repeat(first |(obtain⟨rfl,_⟩:=h;rfl)|obtain⟨_,h⟩:=h))
  (S:Au N (tV st) (eT st):=by exact#[rfl,rfl,rfl,by decide+kernel,rfl,by decide+kernel,by decide+kernel]):Bl P w K mg base CX0 (k+1) f fd (tV st) sp:=
 F.ok0 S (λ_ _ _ _ h=>len h) λa A outer s H m Q E hr h=>let⟨t,q,p⟩:=b (f:=f) (cdv:=a) (outer:=outer) #[hr,S.nd,rfl,rfl,rfl] h;#[t,p,q]
theorem Mf.ok{c m:Str}(D:Mf K c m qual st)(b:Bd0 P w K mg base N qual st k sp)(len:∀{d H Q E},sp d H Q E->d.length=(tV st).length:=by intro _ _ _ _ h;repeat(first |(obtain⟨rfl,_⟩:=h;rfl)|obtain⟨_,h⟩:=h))
  (S:Au N (tV st) (eT st):=by exact#[rfl,rfl,rfl,by decide+kernel,rfl,by decide+kernel,by decide+kernel]):OkM P w K mg base CX0 (k+1) (eE K c) m sp:=
 let⟨f,fd,F,hb,hm⟩:=D.ex
 #[f,fd,_,F.ok0 S (λ_ _ _ _ h=>len h) λa A outer s H d Q E hr h=>let⟨t,q,p⟩:=b (f:=f) (cdv:=a) (outer:=outer) #[hr,S.nd,rfl,rfl,rfl] h;#[t,p,q],hm,hb]
end
section
variable{X:Cx}{k j:Nat}{C:Addr}{sp:Sp}{E:XK}{x m c:Str}{p pos apos:Pos}{e o:Expr}{es:List Expr}{ta:TE}{t:TA}
theorem c0(F:Ok X.prog X.w X.K X.mg X.base CX0 k x sp)(hr:mR j X.A)(ha:PA X (e::es) t)(hk:k<=j:=by decide)(hg:Gl X x:=by rfl)(a:(x==("__debug__":Str))=false:=by decide)(U:starEach (e::es) X.env=(false,eval e X.env)::starEach es X.env:=by rfl)(d:(backTo pos (starEach es X.env)).any (·.1)=false:=by rfl):
  PE X (.Call (.Name x p) (e::es) [] pos) (cB sp [] E0 t):=
 let⟨_,_,_,F,hm,hp,hb⟩:=F.ex
 pe_call F (hr.mono hk) hg hm hp hb .nil jZj ha a U d
theorem m1{pl:Sem Bool}(U:PE X o ta)(c:Cls X.K C)(F:OkM X.prog X.w X.K X.mg X.base CX0 k C m sp)(hr:mR j X.A)(ha:PA X (e::es) t)(hk:k<=j:=by decide)
  (T:starEach (e::es) X.env=(false,eval e X.env)::starEach es X.env:=by rfl) (d:(backTo pos (starEach es X.env)).any (·.1)=false:=by rfl)
  (y:eval (.Call (.Attribute o m apos) (e::es) [] pos) X.env=(do
   let b ←eval o X.env
   standAt apos.atName
   let(f,first) ←holding [b] (getMethod b m pl)
   callWith pos f first (backTo pos (starEach (e::es) X.env)) (backToKw pos (keywordEach [] X.env))):=by rfl):
  PE X (.Call (.Attribute o m apos) (e::es) [] pos) (eX C m sp [] E0 ta t):=
 let⟨_,_,_,F,hm,hb⟩:=F.ex
 pe_meth U c hm F (hr.mono hk) hb .nil jZj ha T d y
theorem m0{pl:Sem Bool}(U:PE X o ta)(c:Cls X.K C)(F:OkM X.prog X.w X.K X.mg X.base CX0 k C m sp)(hr:mR j X.A)(hk:k<=j:=by decide)
  (y:eval (.Call (.Attribute o m apos) [] [] pos) X.env=(do
   let b ←eval o X.env
   standAt apos.atName
   let(f,first) ←holding [b] (getMethod b m pl)
   callWith pos f first (backTo pos (starEach [] X.env)) (backToKw pos (keywordEach [] X.env))):=by rfl):
  PE X (.Call (.Attribute o m apos) [] [] pos) (eX C m sp [] E0 ta bE):=
 let⟨_,_,_,F,hm,hb⟩:=F.ex
 jWh U c hm F (hr.mono hk) hb .nil jZj y
theorem mk0(M:PySem.W.makesIn X.K C=true/\PySem.W.keepIn X.K (.ref C)=true)(F:OkM X.prog X.w X.K X.mg X.base CX0 k C "__init__" sp)(hr:mR j X.A)(hm:X.mg x=some (.ref C))(ha:PA X (e::es) t)(hk:k+1<=j:=by decide)(hg:Gl X x:=by rfl)(a:(x==("__debug__":Str))=false:=by decide)
  (U:starEach (e::es) X.env=(false,eval e X.env)::starEach es X.env:=by rfl) (d:(backTo pos (starEach es X.env)).any (·.1)=false:=by rfl):PE X (.Call (.Name x p) (e::es) [] pos) (Bp C sp [] E0 t):=
 let⟨_,_,_,F,hi,hb⟩:=F.ex
 pe_make #[M.1,hi.at_,hi.fn,M.2] F (hr.mono hk) hg hm hb .nil jZj ha a U d
end
section
variable{X:Cx}{k:Nat}{N:List Str}{st:Stmt}{i j:Nat}{x y:Str}{px py pos tp:Pos}{iter e elt tst:Expr}{body:List Stmt}{scope:Scope}{caps:List Nat}{te:TE}{tt:TT}{wi:TI}{tb:TS}
theorem sA(R:Rm X k N st)(U:PE X e te)(hi:N[i]?=some x:=by rfl)(hx:Loc (eT st) x:=by first |exact .inl rfl |exact .inr rfl)(hs:swapsWith e (some (.Name x px)) pos.line X.env=pure false:=by rfl)(hf:X.fn x=true∨X.env.scope.names.lookup x=some .local:=by first |exact .inl rfl |exact .inr rfl):
  PS X (.Assign [.Name x px] e pos) (cU te (aZ i)):=ps_set (by rw[R.nn];exact R.nd) (by rw[R.nn];exact hi) (by rw[R.sc];exact hx) U hs hf
theorem gN(R:Rm X k N st)(hi:N[i]?=some x:=by rfl)(hx:Loc (eT st) x:=by first |exact .inl rfl |exact .inr rfl)(hf:X.fn x=true∨X.env.scope.names.lookup x=some .local:=by first |exact .inl rfl |exact .inr rfl):PG X (.Name x px) (aZ i):=
 jZy (by rw[R.nn];exact R.nd) (by rw[R.nn];exact hi) (by rw[R.sc];exact hx) hf
theorem gN2{n:Nat}(R:Rm X k N st)(hi:N[i]?=some x:=by rfl)(hx:Loc (eT st) x:=by first |exact .inl rfl |exact .inr rfl)(hf:X.fn x=true∨X.env.scope.names.lookup x=some .local:=by first |exact .inl rfl |exact .inr rfl)
  (P:N[j]?=some y:=by rfl) (d:Loc (eT st) y:=by first |exact .inl rfl |exact .inr rfl) (hg:X.fn y=true∨X.env.scope.names.lookup y=some .local:=by first |exact .inl rfl |exact .inr rfl)
  (T:(assignEach [.Name x px,.Name y py] X.env).findIdx? (·.1)=none:=by rfl):PG X (.Tuple [.Name x px,.Name y py] n tp) (jN X.K 2 (eF (aZ i) (eF (aZ j) jO))):=
 Gs (n:=2) R.calm (iW (gN R hi hx hf) (iW (gN R P d hg) An)) rfl T
theorem fA{l:Expr}(R:Rm X k N st)(hi:PI X l iter wi)(hg:PG X l g)(hb:PSs X body tb)(hp:PassesOwn (model X.prog X.w) X.A X.env X.xe:=by first |exact PassesOwn.never |exact PassesOwn.leaving)(hs:∀x,foldedSetIterable iter X.env x=pure x:=by intro _;rfl):
  PS X (.For l iter body [] pos) (gA wi g tb):=ps_for hp R.calm hi hg hb hs
theorem wA{c:Expr}{o:TT}(hc:PT X c o)(hb:PSs X body tb)(hp:PassesOwn (model X.prog X.w) X.A X.env X.xe:=by first |exact PassesOwn.never |exact PassesOwn.leaving):PS X (.While c body [] pos) (xZ o tb):=jWf hp hc hb
theorem kA(R:Rm X k N st)(hi:PI X (.Name x px) iter wi)(U:∀s H ex pn,PE (fE X scope (x::xM N caps) s H ex pn) elt te)(hs:∀v,foldedSetIterable iter X.env v=pure v:=by intro _;rfl)
  (S:sR (eT st) scope N x (xM N caps) caps:=by exact#[by decide+kernel,rfl,by decide+kernel,rfl,by decide+kernel,rfl,by decide+kernel,rfl,by decide+kernel]):PE X (.ListComp elt [#[.Name x px,iter,[],0]] scope pos) (dN wi caps te):=
 pe_comp S R.sc R.nn R.calm hi U hs
theorem sK(R:Rm X k N st)(hi:PI X (.Name x px) iter wi)(U:∀s H ex pn,PE (fE X scope (x::xM N caps) s H ex pn) elt te)(hs:∀v,foldedSetIterable iter X.env v=pure v:=by intro _;rfl)
  (S:sR (eT st) scope N x (xM N caps) caps:=by exact#[by decide+kernel,rfl,by decide+kernel,rfl,by decide+kernel,rfl,by decide+kernel,rfl,by decide+kernel]) (P:N[j]?=some y:=by rfl) (d:Loc (eT st) y:=by first |exact .inl rfl |exact .inr rfl)
  (f:swapsWith (.ListComp elt [#[.Name x px,iter,[],0]] scope pos) (some (.Name y py)) tp.line X.env=pure true:=by rfl) (hf:X.fn y=true∨X.env.scope.names.lookup y=some .local:=by first |exact .inl rfl |exact .inr rfl):
  PS X (.Assign [.Name y py] (.ListComp elt [#[.Name x px,iter,[],0]] scope pos) tp) (cU (dN wi caps te) (aZ j)):=
 jJr S R.sc R.nn R.calm (by rw[R.nn];exact R.nd) (by rw[R.nn];exact P) (by rw[R.sc];exact d) hi U f hs hf
theorem kI(R:Rm X k N st)(hi:PI X (.Name x px) iter wi)(B:∀s H ex pn,PT (fE X scope (x::xM N caps) s H ex pn) tst tt)(U:∀s H ex pn,PE (fE X scope (x::xM N caps) s H ex pn) elt te)(hs:∀v,foldedSetIterable iter X.env v=pure v:=by intro _;rfl)
  (S:sR (eT st) scope N x (xM N caps) caps:=by exact#[by decide+kernel,rfl,by decide+kernel,rfl,by decide+kernel,rfl,by decide+kernel,rfl,by decide+kernel]):PE X (.ListComp elt [#[.Name x px,iter,[tst],0]] scope pos) (jZ wi caps tt te):=
 jWj S R.sc R.nn R.calm hi B U hs
theorem sKI(R:Rm X k N st)(hi:PI X (.Name x px) iter wi)(B:∀s H ex pn,PT (fE X scope (x::xM N caps) s H ex pn) tst tt)(U:∀s H ex pn,PE (fE X scope (x::xM N caps) s H ex pn) elt te)(hs:∀v,foldedSetIterable iter X.env v=pure v:=by intro _;rfl)
  (S:sR (eT st) scope N x (xM N caps) caps:=by exact#[by decide+kernel,rfl,by decide+kernel,rfl,by decide+kernel,rfl,by decide+kernel,rfl,by decide+kernel]) (P:N[j]?=some y:=by rfl) (d:Loc (eT st) y:=by first |exact .inl rfl |exact .inr rfl)
  (f:swapsWith (.ListComp elt [#[.Name x px,iter,[tst],0]] scope pos) (some (.Name y py)) tp.line X.env=pure true:=by rfl) (hf:X.fn y=true∨X.env.scope.names.lookup y=some .local:=by first |exact .inl rfl |exact .inr rfl):
  PS X (.Assign [.Name y py] (.ListComp elt [#[.Name x px,iter,[tst],0]] scope pos) tp) (cU (jZ wi caps tt te) (aZ j)):=
 Yo S R.sc R.nn R.calm (by rw[R.nn];exact R.nd) (by rw[R.nn];exact P) (by rw[R.sc];exact d) hi B U f hs hf
theorem g2{pn:List (Addr×Obj)}{ys:List Str}{n:Nat}(hc:X.calm=true)(nd:(x::y::ys).Nodup)(hx:scope.names.lookup x=some .local)(d:scope.names.lookup y=some .local)(T:(assignEach [.Name x px,.Name y py] (fE X scope (x::y::ys) s H ex pn).env).findIdx? (·.1)=none):
  PG (fE X scope ([x,y]++ys) s H ex pn) (.Tuple [.Name x px,.Name y py] n tp) (jN X.K 2 (eF (aZ 0) (eF (aZ 1) jO))):=
 Gs (n:=2) hc (iW (pA nd rfl hx) (iW (pA nd rfl d) An)) rfl T
theorem kG{n:Nat}(R:Rm X k N st)(hi:PI X (.Tuple [.Name x px,.Name y py] n tp) iter wi)(U:∀s H ex pn,PE (fE X scope ([x,y]++xM N caps) s H ex pn) elt te)(hs:∀v,foldedSetIterable iter X.env v=pure v:=by intro _;rfl)
  (S:jQ (eT st) scope N [x,y] (xM N caps) caps:=by exact#[by decide+kernel,rfl,by decide+kernel,by decide+kernel,rfl,by decide+kernel,rfl]) (nd:(x::y::xM N caps).Nodup:=by decide+kernel) (hx:scope.names.lookup x=some .local:=by rfl) (d:scope.names.lookup y=some .local:=by rfl)
  (T:∀s H ex pn,(assignEach [.Name x px,.Name y py] (fE X scope (x::y::xM N caps) s H ex pn).env).findIdx? (·.1)=none:=by intro _ _ _ _;rfl):PE X (.ListComp elt [#[.Tuple [.Name x px,.Name y py] n tp,iter,[],0]] scope pos) (gW wi 2 caps (jN X.K 2 (eF (aZ 0) (eF (aZ 1) jO))) te):=
 jWk S R.sc R.nn R.calm hi (λs H ex pn=>g2 R.calm nd hx d (T s H ex pn)) U hs
theorem sG{n:Nat}{z:Str}{B ap:Pos}(R:Rm X k N st)(hi:PI X (.Tuple [.Name x px,.Name y py] n tp) iter wi)(U:∀s H ex pn,PE (fE X scope ([x,y]++xM N caps) s H ex pn) elt te)(hs:∀v,foldedSetIterable iter X.env v=pure v:=by intro _;rfl)
  (S:jQ (eT st) scope N [x,y] (xM N caps) caps:=by exact#[by decide+kernel,rfl,by decide+kernel,by decide+kernel,rfl,by decide+kernel,rfl]) (nd:(x::y::xM N caps).Nodup:=by decide+kernel) (hx:scope.names.lookup x=some .local:=by rfl) (d:scope.names.lookup y=some .local:=by rfl)
  (T:∀s H ex pn,(assignEach [.Name x px,.Name y py] (fE X scope (x::y::xM N caps) s H ex pn).env).findIdx? (·.1)=none:=by intro _ _ _ _;rfl) (P:N[j]?=some z:=by rfl) (hz:Loc (eT st) z:=by first |exact .inl rfl |exact .inr rfl)
  (f:swapsWith (.ListComp elt [#[.Tuple [.Name x px,.Name y py] n tp,iter,[],0]] scope pos) (some (.Name z B)) ap.line X.env=pure true:=by rfl) (hf:X.fn z=true∨X.env.scope.names.lookup z=some .local:=by first |exact .inl rfl |exact .inr rfl):
  PS X (.Assign [.Name z B] (.ListComp elt [#[.Tuple [.Name x px,.Name y py] n tp,iter,[],0]] scope pos) ap) (cU (gW wi 2 caps (jN X.K 2 (eF (aZ 0) (eF (aZ 1) jO))) te) (aZ j)):=
 Yp S R.sc R.nn R.calm (by rw[R.nn];exact R.nd) (by rw[R.nn];exact P) (by rw[R.sc];exact hz) hi (λs H ex pn=>g2 R.calm nd hx d (T s H ex pn)) U f hs hf
end
section
variable{K:aO}{h:Heap}{mg:Str->Option Value}{x m q c:Str}{st:Stmt}{f C:Addr}{oc kV dc pm cd ct:Value}{od an:Option Addr}{sl:Array (Option Value)}
theorem ar1{P:List Value->Prop}(h:∀a,P [a]):∀R:List Value,R.length=1->P R
 | [],e=>nomatch e
 | [a],_=>h a
 |_::_::_,e=>nomatch e
theorem ar2{P:List Value->Prop}(h:∀a b,P [a,b]):∀R:List Value,R.length=2->P R
 | [],e=>nomatch e
 |a::R,e=>ar1 (P:=λl=>P (a::l)) (h a) R (Nat.succ.inj e)
theorem ar3{P:List Value->Prop}(h:∀a b c,P [a,b,c]):∀R:List Value,R.length=3->P R
 | [],e=>nomatch e
 |a::R,e=>ar2 (P:=λl=>P (a::l)) (h a) R (Nat.succ.inj e)
theorem ar4{P:List Value->Prop}(h:∀a b c d,P [a,b,c,d]):∀R:List Value,R.length=4->P R
 | [],e=>nomatch e
 |a::R,e=>ar3 (P:=λl=>P (a::l)) (h a) R (Nat.succ.inj e)
theorem ar5{P:List Value->Prop}(h:∀a b c d e,P [a,b,c,d,e]):∀R:List Value,R.length=5->P R
 | [],e=>nomatch e
 |a::R,e=>ar4 (P:=λl=>P (a::l)) (h a) R (Nat.succ.inj e)
noncomputable abbrev Bnd(x q:Str)(st:Stmt):Prop:=∀(kV i pm:Value)(an:Option Addr)(cdv ct:Value)(us:List Value),us.length=(tV st).length->bindArgs (PySem.W.fnOf x q (oR st) (nF st) (eT st) .none kV i pm an cdv ct) #[us,[]]=pure ((tV st).zip us)
theorem Df.mk'(X:K.In h)(G:h.Ns mainGlobals mg)(a:PySem.W.nsIn K mainGlobals x=some (some (.ref f)))(l:K.lookup f=some #[oc,od,.func (PySem.W.fnOf x x (oR st) (nF st) (eT st) .none kV dc pm an cd ct),sl])(c:PySem.W.codeIn K cd x=true)(k:PySem.W.keepIn K (.ref f)=true)
  (b:Bnd x x st:=by first |exact λ_ _ _ _ _ _=>L2.ar1 λ_=>rfl |exact λ_ _ _ _ _ _=>L2.ar2 λ_ _=>rfl |exact λ_ _ _ _ _ _=>L2.ar3 λ_ _ _=>rfl |exact λ_ _ _ _ _ _=>L2.ar4 λ_ _ _ _=>rfl |exact λ_ _ _ _ _ _=>L2.ar5 λ_ _ _ _ _=>rfl):Df K mg x st:=
 have F:Bk K x x st .none f _:=#[#[oc,od,kV,dc,pm,an,cd,ct,sl,rfl,l,c],k]
 #[_,f,_,F,F.binds b,PySem.W.mg_of X G a]
theorem Mf.mk'(y:PySem.W.nsIn K mainGlobals c=some (some (.ref C)))(a:PySem.W.findIn K (.ref C) m=some (some (.ref f)))(i:PySem.W.isFn K (.ref f)=true)(l:K.lookup f=some #[oc,od,.func (PySem.W.fnOf m q (oR st) (nF st) (eT st) .none kV dc pm an cd ct),sl])(d:PySem.W.codeIn K cd q=true)(k:PySem.W.keepIn K (.ref f)=true)
  (b:Bnd m q st:=by first |exact λ_ _ _ _ _ _=>L2.ar1 λ_=>rfl |exact λ_ _ _ _ _ _=>L2.ar2 λ_ _=>rfl |exact λ_ _ _ _ _ _=>L2.ar3 λ_ _ _=>rfl |exact λ_ _ _ _ _ _=>L2.ar4 λ_ _ _ _=>rfl |exact λ_ _ _ _ _ _=>L2.ar5 λ_ _ _ _ _=>rfl):Mf K c m q st:=
 have F:Bk K m q st .none f _:=#[#[oc,od,kV,dc,pm,an,cd,ct,sl,rfl,l,d],k]
 #[f,_,F,F.binds b,by rw[nE y];exact#[a,i,k]]
theorem law_mk(X:K.In h)(G:h.Ns mainGlobals mg)(a:PySem.W.nsIn K mainGlobals x=some (some (.ref f)))(l:K.lookup f=some #[oc,od,.func (PySem.W.fnOf x x (oR st) (nF st) (eT st) .none kV dc pm an cd ct),sl])(c:PySem.W.codeIn K cd x=true)(k:PySem.W.keepIn K (.ref f)=true):∃f fd,Bk K x x st .none f fd/\mg x=some (.ref f):=
 #[f,_,#[#[oc,od,kV,dc,pm,an,cd,ct,sl,rfl,l,c],k],PySem.W.mg_of X G a]
theorem Df.mkD{T:Addr}{items:Array Value}{n:Nat}(X:K.In h)(G:h.Ns mainGlobals mg)(a:PySem.W.nsIn K mainGlobals x=some (some (.ref f)))(l:K.lookup f=some #[oc,od,.func (PySem.W.fnOf x x (oR st) (nF st) (eT st) (.ref T) kV dc pm an cd ct),sl])(c:PySem.W.codeIn K cd x=true)(k:PySem.W.keepIn K (.ref f)=true)(d:K.lookup T=some o)(hd:o.data=.seq items n)
  (b:∀(kV i pm:Value)(an:Option Addr)(cdv ct:Value)(us:List Value),us.length=(tV st).length->∃k,bindArgs (PySem.W.fnOf x x (oR st) (nF st) (eT st) (.ref T) kV i pm an cdv ct) #[us,[]]=seqItems? (.ref T)>>=k/\k (some items)=pure ((tV st).zip us)):Df K mg x st:=
 have F:Bk K x x st (.ref T) f _:=#[#[oc,od,kV,dc,pm,an,cd,ct,sl,rfl,l,c],k]
 #[_,f,_,F,F.bindsD d hd b,PySem.W.mg_of X G a]
theorem gi_mk{i:Int}{t:Tok}(X:K.In h)(G:h.Ns mainGlobals mg)(z:PySem.W.nsIn K mainGlobals x=some (some (.int i t))):∃t,mg x=some (.int i t):=#[_,PySem.W.mg_of X G z]
theorem cls_mk(X:K.In h)(G:h.Ns mainGlobals mg)(y:PySem.W.nsIn K mainGlobals c=some (some (.ref C))):mg c=some (.ref (eE K c)):=by rw[nE y];exact PySem.W.mg_of X G y
theorem mkc_mk(y:PySem.W.nsIn K mainGlobals c=some (some (.ref C)))(a:PySem.W.makesIn K C=true)(b:PySem.W.keepIn K (.ref C)=true):PySem.W.makesIn K (eE K c)=true/\PySem.W.keepIn K (.ref (eE K c))=true:=by rw[nE y];exact#[a,b]
end
section
variable{X:Cx}{x:Str}{pos:Pos}{a b:Expr}{ta tb:TE}{i:Nat}
theorem pV(K:X.N[i]?=some x:=by rfl)(hv:Vis X.env.scope x:=by first |exact Or.inl rfl |exact Or.inr (Or.inl rfl)|exact Or.inr (Or.inr rfl))(hd:(x==("__debug__":Str))=false:=by decide)(p:(x==("__classdict__":Str))=false:=by decide):PE X (.Name x pos) (aE i):=pe_var K hv hd p
theorem iL(ha:PE X a ta)(hb:PE X b tb)(hs:Vj b:=by exact λ_ _=>rfl):PE X (.Subscript a b pos) (tOp (gJ X.K) ta tb):=pe_ix ix_list ha hb hs
theorem iT(ha:PE X a ta)(hb:PE X b tb)(hs:Vj b:=by exact λ_ _=>rfl):PE X (.Subscript a b pos) (tOp (dO X.K) ta tb):=pe_ix ix_tup ha hb hs
end
end L2
namespace L2
open PySem PySem.Spec PySem.Calls PyProof.Rows PySem.W PySem.W.X in
theorem walk_x{q:Program}{loose:List Str}{XP:(Str->Option Value)->Heap->Prop}{K:Params->aO}{as:List Addr}{n t:Nat}{r:PySem.W.RowW}{d:DefRec}{kwd:List (Str×Expr)}{run:Value->List Value->Sem Value}
  (e:∀P,as=(K P).map (·.1)) (W:PySem.W.WalkO q loose XP (λw h=>(K w.params).In h) r d kwd run):WalkX q loose XP (obsZ as) (valZ K n t) r d kwd run:=
 λw s₀ s₁ mg mb G y a o pm cd doc dV kV h1 h2 h3 h4 h5 h6 args vals as' L h7 h8 h9 h10 h11=>
  W w s₀ s₁ mg mb G (InK.keeps w _ _ (z_facts e y).2.1 L.keeps) a o pm cd doc dV kV h1 h2 h3 h4 h5 h6 args vals as' h7 h8 h9 h10 h11
end L2
set_option Elab.async false
set_option maxRecDepth 100000
set_option maxHeartbeats 4000000
set_option linter.all false
namespace My
open PySem L2
open List (length_map map_append getElem?_eq_getElem mem_of_getElem? getD_eq_getElem?_getD getElem_mem getElem?_map mem_append mem_singleton getElem?_eq_none mem_cons_of_mem mem_map length_append mem_cons_self take_length getElem?_of_mem length_take getElem?_set length_set map_congr_left mem_or_eq_of_mem_set mem_of_mem_take getElem?_append_left getElem?_append_right map_eq_nil_iff map_take take_of_length_le)
variable{A:List Nat->List V}{C a af p:Addr}{G H H':Hp}{J:Option V}{K:aO}{Q:VK}{U s:Nat->Nat}{X:List (List Int)}{Y:List Nat->Rat}{c h i j k m q:Nat}{cs qs:fO}{d:Type}{f:Int×Int}{g ps:List Addr}{kvs:List (List Key×V)}{ns:List Nat}{o:HO}{u z:Int}{v:V}{xs ys:List V}
noncomputable abbrev eQ(Q:VK):rW:={ nx:=λ_ H'=>Q .non H',rt:=Q }
noncomputable abbrev RdS(K:aO)(sp:aO->Sp)(t:aO->TS)(N:List Str):Prop:=∀{vs H Q E},sp K vs H Q E->t K (eQ Q) (start N vs) H
theorem sz0:0<=sizeLine:=by decide
theorem sz1:1<=sizeLine:=by decide
theorem sz2:2<=sizeLine:=by decide
theorem sz3:3<=sizeLine:=by decide
theorem Lq0{a:d}{l:List d}:(a::l)[0]?=some a:=rfl
theorem Lq1{a:d}{l:List d}:(a::l)[i+1]?=l[i]?:=rfl
theorem Ls0{a b:d}{l:List d}:(a::l).set 0 b=b::l:=rfl
theorem Ls1{a b:d}{l:List d}:(a::l).set (i+1) b=a::l.set i b:=rfl
theorem Lca{a:d}{l k:List d}:a::l++k=a::(l++k):=rfl
theorem Lna{k:List d}:[]++k=k:=rfl
local macro_rules | `(tactic| dsimp! [$xs,*]) => `(tactic| (try dsimp only [$xs,*, Lq0, Lq1, Ls0, Ls1, fG, fH, fF]; try simp only [$xs,*, Lq0, Lq1, Ls0, Ls1, Option.some.injEq, exists_eq_left', V.int.injEq, V.ref.injEq, V.bl.injEq, List.cons.injEq, and_true, true_and, exists_and_left, exists_eq_left, and_assoc, fG, fH, fF, gX, kD, iK]))
local macro_rules | `(tactic| dsimp? [$xs,*]) => `(tactic| (try dsimp only [$xs,*, cD, cU, aZ, aE, tC, tOp, tUn, rI0, rI, rU, iQ, lA, eU, kT, Lq, iV, tT, iE, kK, Zc, vI, Tn, rEq, rNe, gL, cP, fU, cY, tB, vG, eO, cB, aH, bE, hJ, mS, tCB, Cv, jD, Ki, tSl, lY, hU, xL, gJ, dO, rY, Zb, Ea, tOr, xT, Pz, jK, jN, eF, jO, Lq0, Lq1, Ls0, Ls1, Lca, Lna, fG, fH, fF]; try simp_arith [$xs,*]))
local macro_rules | `(tactic| simp_arith [$xs,*]) => `(tactic| simp only [$xs,*, cD, cU, aZ, aE, tC, tOp, tUn, rI0, rI, rU, iQ, lA, eU, kT, Lq, iV, tT, iE, kK, Zc, vI, Tn, rEq, rNe, gL, cP, fU, cY, tB, vG, eO, cB, aH, bE, hJ, mS, tCB, Cv, jD, Ki, tSl, lY, hU, xL, gJ, dO, rY, Zb, Ea, tOr, xT, Pz, jK, jN, eF, jO, Lq0, Lq1, Ls0, Ls1, Option.some.injEq, exists_eq_left', exists_eq_left, V.int.injEq, V.ref.injEq, V.bl.injEq, V.ty.injEq, List.cons.injEq, and_true, true_and, bZ, exists_and_left, cN, Lca, Lna, and_assoc, fG, fH, fF, gX, kD, iK])
theorem Zw(i:Int):(if i<0 then -i else i)=(i.natAbs:Int):=by split<;>omega
theorem Vh{ns:List Int}{k:Int}(h0:0<=k)(h:k<(ns.length:Int)):atI (List.map V.int ns) k=some (.int (ns.getD k.toNat 0)):=by
 have hk:k.toNat<ns.length:=#[]
 have e:=gM (xs:=List.map V.int ns) (j:=k.toNat) (v:=V.int (ns.getD k.toNat 0)) (by
  rw[aY,aD hk,aR,aD hk];rfl)
 rwa [Int.toNat_of_nonneg h0]at e
theorem iU{a:d}{l:List d}:atI (a::l) 0=some a:=gM (j:=0) rfl
theorem iJ{a b:d}{l:List d}:atI (a::b::l) 1=some b:=gM (j:=1) rfl
theorem atI2{a b c:d}{l:List d}:atI (a::b::c::l) 2=some c:=gM (j:=2) rfl
structure Lo(t b x y:Int):Prop where
 pos:0<y
 cop:Int.gcd x y=1
 eq:x*b=t*y
 bx:x.natAbs<=t.natAbs
 by_:y.natAbs<=b.natAbs
theorem lo_of{t b g q r:Int}(hb:b≠0)(hg:g≠0)(y:t=g*q)(a:b=g*r)(hr:0<r)(hc:Int.gcd q r=1):Lo t b (t.fdiv g) (b.fdiv g):=by
 have e1:t.fdiv g=q:=by rw[y,Int.mul_fdiv_cancel_left _ hg]
 have C:b.fdiv g=r:=by rw[a,Int.mul_fdiv_cancel_left _ hg]
 rw[e1,C]
 have z:1<=g.natAbs:=#[]
 refine#[hr,hc,by rw[y,a];rw[Int.mul_left_comm,gU],?_,?_]
 ·rw[y,cH];exact Nat.le_mul_of_pos_left _ z
 ·rw[a,cH];exact Nat.le_mul_of_pos_left _ z
theorem Ia{t b:Int}(hb:b≠0):∃q r:Int,t=(Int.gcd t b:Nat)*q/\b=(Int.gcd t b:Nat)*r/\Int.gcd q r=1/\0<Int.gcd t b:=by
 have hp:0<Int.gcd t b:=Int.gcd_pos_of_ne_zero_right _ hb
 obtain⟨q,J⟩:=Int.gcd_dvd_left (a:=t) (b:=b)
 obtain⟨r,hr⟩:=Int.gcd_dvd_right (a:=t) (b:=b)
 refine#[q,r,J,hr,?_,hp]
 have e:Int.gcd t b=Int.gcd ((Int.gcd t b:Nat)*q) ((Int.gcd t b:Nat)*r):=by rw[←J,←hr]
 rw[Int.gcd_mul_left,Int.natAbs_natCast]at e
 exact Nat.eq_of_mul_eq_mul_left hp (by rw[Nat.mul_one];exact e.symm)
theorem Zq{t b:Int}(hb:0<b):Lo t b (t.fdiv (Int.gcd t b:Nat)) (b.fdiv (Int.gcd t b:Nat)):=by
 obtain⟨q,r,h1,h2,h3,S⟩:=Ia (t:=t) (b:=b) #[]
 refine lo_of (q:=q) (r:=r) #[] #[] h1 h2 ?_ h3
 rcases Int.lt_trichotomy r 0 with h |h |h
 ·have:(Int.gcd t b:Int)*r<0:=Int.mul_neg_of_pos_of_neg #[] h
  omega
 ·rw[h,dI]at h2;omega
 ·exact h
theorem lo_neg{t b:Int}(hb:b<0):Lo t b (t.fdiv (-(Int.gcd t b:Nat))) (b.fdiv (-(Int.gcd t b:Nat))):=by
 obtain⟨q,r,h1,h2,h3,S⟩:=Ia (t:=t) (b:=b) #[]
 refine lo_of (q:=-q) (r:=-r) #[] #[] (by rw[Int.neg_mul_neg];exact h1) (by rw[Int.neg_mul_neg];exact h2) ?_ (by rw[Int.gcd,Int.natAbs_neg,Int.natAbs_neg];exact h3)
 rcases Int.lt_trichotomy r 0 with h |h |h
 ·omega
 ·rw[h,dI]at h2;omega
 ·have:(Int.gcd t b:Int)*r>0:=bK #[] h
  omega
noncomputable def intO:Option V->Int
 |some (.int i)=>i
 |_=>0
noncomputable def eC(K:aO)(H:Hp):List Addr->fP->Prop
 | [],[]=>True
 |p::ps,f::fs=>SqT K H p [.int f.1,.int f.2]/\eC K H ps fs
 |_,_=>False
theorem eC.same(s:aP H H'):∀{ps:List Addr}{fs:fP},eC K H ps fs->eC K H' ps fs
 | [],[],_=>trivial
 |_::_,_::_,h=>#[s.tup h.1,h.2.same s]
 | [],_::_,h=>h.elim
 |_::_,[],h=>h.elim
theorem eC.length:∀{ps:List Addr}{fs:fP},eC K H ps fs->ps.length=fs.length
 | [],[],_=>rfl
 |_::_,_::_,h=>by rw[cZ,cZ,h.2.length]
 | [],_::_,h=>h.elim
 |_::_,[],h=>h.elim
theorem eC.get{K:aO}{H:Hp}:∀{ps:List Addr}{fs:fP}{i:Nat}{p:Addr},eC K H ps fs->ps[i]?=some p->∃f,fs[i]?=some f/\SqT K H p [.int f.1,.int f.2]
 | [],[],_,_,_,e=>by simp at e
 |_::_,f::_,0,_,h,e=>by simp at e;subst e;exact#[f,rfl,h.1]
 |_::_,_::_,i+1,_,h,e=>by
  obtain⟨f,e1,C⟩:=h.2.get (i:=i) (by simpa using e)
  exact#[f,by simpa using e1,C]
 | [],_::_,_,_,h,_=>h.elim
 |_::_,[],_,_,h,_=>h.elim
theorem eC.set{q:Addr}{g:Int×Int}(J:SqT K H q [.int g.1,.int g.2]):∀{ps:List Addr}{fs:fP}(i:Nat),eC K H ps fs->eC K H (ps.set i q) (fs.set i g)
 | [],[],_,_=>trivial
 |_::_,_::_,0,h=>#[J,h.2]
 |_::_,_::_,i+1,h=>#[h.1,eC.set J i h.2]
 | [],_::_,_,h=>h.elim
 |_::_,[],_,h=>h.elim
theorem eC.append{qs:List Addr}{p:fP}(J:eC K H qs p):∀{ps:List Addr}{fs:fP},eC K H ps fs->eC K H (ps++qs) (fs++p)
 | [],[],_=>J
 |_::_,_::_,h=>#[h.1,eC.append J h.2]
 | [],_::_,h=>h.elim
 |_::_,[],h=>h.elim
theorem eC.off{r:Addr}{zs:List V}(hr:H r=some (.lst ys)):∀{ps:List Addr}{fs:fP},eC K H ps fs->eC K (upd H r (.lst zs)) ps fs
 | [],[],_=>trivial
 |_::_,_::_,h=>#[h.1.off hr,h.2.off hr]
 | [],_::_,h=>h.elim
 |_::_,[],h=>h.elim
theorem eR{x:V}(h:(List.map V.ref ps)[i]?=some x):∃p,x=.ref p/\ps[i]?=some p:=by
 rw[aY]at h
 cases e:ps[i]? with
 |none=>rw[e]at h;cases h
 |some z=>rw[e]at h;exact#[z,(aV h).symm,rfl]
theorem fQ{ns:List Int}{x:V}(h:(List.map V.int ns)[i]?=some x):∃c,x=.int c/\ns[i]?=some c:=by
 rw[aY]at h
 cases e:ns[i]? with
 |none=>rw[e]at h;cases h
 |some z=>rw[e]at h;exact#[z,(aV h).symm,rfl]
theorem dH{l:List d}{x:d}(h:l[i]?=some x):l.take (i+1)=l.take i++[x]:=by
 rw[List.take_succ,h];rfl
noncomputable def WEq(H:Hp)(P:Nat->List V->Prop):Nat->List V->Hp->Prop:=λi zs w=>w=H/\P i zs
noncomputable def SEq(H:Hp)(P:Nat->St->Prop):Nat->St->Hp->Prop:=λi Z w=>w=H/\P i Z
noncomputable def glf(g n:Int):Int:=((Int.gcd g n:Nat):Int)
noncomputable def gl(ns:List Int):Int:=ns.foldl glf 0
theorem gl_snoc{ns:List Int}{c:Int}(h:ns[i]?=some c):gl (ns.take (i+1))=glf (gl (ns.take i)) c:=by
 unfold gl;rw[dH h,List.foldl_append];rfl
theorem jXQ:∀l:List Int,l.foldl glf 1=1
 | []=>rfl
 |a::r=>by
  have e:glf 1 a=1:=by unfold glf;rw[Int.gcd];simp
  rw[List.foldl_cons,e];exact jXQ r
theorem gl_one{ns:List Int}(h:gl (ns.take i)=1):gl ns=1:=by
 unfold gl at h⊢
 rw[←List.take_append_drop i ns,List.foldl_append,h]
 exact jXQ _
theorem Ol:∀(l:List Int)(g:Int),0<=g->0<=l.foldl glf g
 | [],_,h=>h
 |a::r,g,_=>by rw[List.foldl_cons];exact Ol r _ (by unfold glf;omega)
theorem Se(ns:List Int):0<=gl ns:=Ol ns 0 (by decide)
theorem jXa:∀(l:List Int)(g:Int),l.foldl glf g∣g/\∀n∈l,l.foldl glf g∣n
 | [],g=>#[Int.dvd_refl _,λ_ h=>nomatch h]
 |a::r,g=>by
  rw[List.foldl_cons]
  obtain⟨h1,h2⟩:=jXa r (glf g a)
  have i:glf g a∣g:=Int.gcd_dvd_left (a:=g) (b:=a)
  have c:glf g a∣a:=Int.gcd_dvd_right (a:=g) (b:=a)
  refine#[jC h1 i,λn R=>?_]
  rcases dW.mp R with rfl |R
  ·exact jC h1 c
  ·exact h2 n R
theorem gl_dvd{ns:List Int}{n:Int}(h:n∈ns):gl ns∣n:=(jXa ns 0).2 n h
theorem Xp:∀(l:List Int),(∀n∈l,n=0)->l.foldl glf 0=0
 | [],_=>rfl
 |a::r,h=>by
  rw[List.foldl_cons,h a bT]
  exact Xp r λn R=>h n (bI _ R)
theorem gl_bb{ns:List Int}(h:∀n∈ns,BB m n):BB m (gl ns):=by
 by_cases A:∃n∈ns,n≠0
 ·obtain⟨n,R,N⟩:=A
  refine(h n R).of_le (Nat.le_of_dvd #[] (Int.natAbs_dvd_natAbs.mpr (gl_dvd R)))
 ·have:gl ns=0:=Xp ns λn R=>Classical.byContradiction λc=>A #[n,R,c]
  rw[this]
  unfold BB
  exact dR _
noncomputable def vM(ns:List Int):List Int:=if gl ns<2 then ns else ns.map λn=>n.fdiv (gl ns)
theorem Ce(ns:List Int):(vM ns).length=ns.length:=by
 unfold vM;split
 ·rfl
 ·rw[aA]
theorem Od{ns:List Int}{n:Int}(h:ns[i]?=some n):∃t,(vM ns)[i]?=some t/\t*(if 1>gl ns then 1 else gl ns)=n:=by
 have s:=Se ns
 have hm:n∈ns:=aL h
 unfold vM
 by_cases h2:gl ns<2
 ·rw[aJ h2]
  refine#[n,h,?_]
  have:(if 1>gl ns then(1:Int)else gl ns)=1:=by split<;>omega
  rw[this,eA]
 ·rw[aF h2,aF #[]]
  refine#[n.fdiv (gl ns),by rw[aY,h];rfl,?_]
  obtain⟨z,A⟩:=gl_dvd hm
  have e:n.fdiv (gl ns)=z:=by
   conv=>lhs;rw[A]
   exact Int.mul_fdiv_cancel_left _ #[]
  rw[e,gR];exact A.symm
theorem jYb{ns:List Int}(h:∀n∈ns,BB m n):∀n∈vM ns,BB m n:=by
 intro t y
 obtain⟨i,hi⟩:=cJ y
 have f:i<ns.length:=by rw[←Ce];exact(aK.mp hi).1
 obtain⟨O,e1,C⟩:=Od (aD f)
 rw[hi]at e1
 obtain rfl:t=O:=aV e1
 refine(h _ (cS f)).of_le ?_
 rw[←C,cH]
 have s:=Se ns
 refine Nat.le_mul_of_pos_right _ ?_
 split<;>omega
theorem Ek{n:Nat}{k:Int}(h0:0<=k)(h:k<n):ixN n k=some k.toNat:=by
 unfold ixN
 rw[aJ h0,aJ h]
noncomputable def lcf(n:Int)(f:Int×Int):Int:=n*(f.2.fdiv ((Int.gcd n f.2:Nat):Int))
noncomputable def lc(fs:fP):Int:=fs.foldl lcf 1
noncomputable def clr(fs:fP):List Int:=fs.map λf=>f.1*((lc fs).fdiv f.2)
theorem lc_snoc{fs:fP}(h:fs[i]?=some f):lc (fs.take (i+1))=lcf (lc (fs.take i)) f:=by
 unfold lc;rw[dH h,List.foldl_append];rfl
theorem Zr{n:Int}(R:0<n)(hb:0<f.2):0<lcf n f/\n∣lcf n f/\f.2∣lcf n f/\(∀M,n∣M->f.2∣M->lcf n f∣M)/\(f.2.fdiv ((Int.gcd n f.2:Nat):Int)).natAbs<=f.2.natAbs:=by
 obtain⟨q,r,h1,h2,h3,S⟩:=Ia (t:=n) (b:=f.2) #[]
 have e:f.2.fdiv ((Int.gcd n f.2:Nat):Int)=r:=by
  conv=>lhs;lhs;rw[h2]
  exact Int.mul_fdiv_cancel_left _ #[]
 unfold lcf
 rw[e]
 generalize Int.gcd n f.2=g at h1 h2 S
 have k:0<r:=by
  rcases Int.lt_trichotomy r 0 with h |h |h
  ·have:(g:Int)*r<0:=Int.mul_neg_of_pos_of_neg #[] h
   omega
  ·rw[h,dI]at h2;omega
  ·exact h
 refine#[bK R k,#[r,rfl],#[q,?_],λM i c=>?_,?_]
 ·rw[h1,h2];ac_rfl
 ·obtain⟨x,hx⟩:=i
  obtain⟨y,d⟩:=c
  have C:q*x=r*y:=by
   apply Int.eq_of_mul_eq_mul_left (show(g:Int)≠0 by omega)
   rw[←gU,←gU,←h1,←h2,←hx,←d]
  have a:r∣x:=Int.natAbs_dvd_natAbs.mp (Nat.Coprime.dvd_of_dvd_mul_left (m:=q.natAbs) (Nat.Coprime.symm h3) (by rw[←cH];exact Int.natAbs_dvd_natAbs.mpr #[y,C]))
  obtain⟨z,A⟩:=a
  exact#[z,by rw[hx,A,gU]]
 ·rw[h2,cH];exact Nat.le_mul_of_pos_left _ #[]
theorem Gv:∀(fs:fP)(n:Int),0<n->(∀f∈fs,0<f.2)->0<fs.foldl lcf n/\n∣fs.foldl lcf n/\(∀f∈fs,f.2∣fs.foldl lcf n)/\∀M,n∣M->(∀f∈fs,f.2∣M)->fs.foldl lcf n∣M
 | [],n,hn,_=>#[hn,Int.dvd_refl _,(λ_ h=>nomatch h),λ_ h _=>h]
 |a::r,n,hn,h=>by
  rw[List.foldl_cons]
  obtain⟨U,G,l,b,_⟩:=Zr hn (h a bT)
  obtain⟨b1,b2,R,j⟩:=Gv r (lcf n a) U λf hf=>h f (bI _ hf)
  refine#[b1,jC G b2,λf hf=>?_,λM i c=>j M (b M i (c a bT)) λf hf=>c f (bI _ hf)]
  rcases dW.mp hf with rfl |hf
  ·exact jC l b2
  ·exact R f hf
theorem Ma{fs:fP}(h:∀f∈fs,0<f.2):0<lc fs:=(Gv fs 1 (by decide) h).1
theorem Zv{fs:fP}(h:∀f∈fs,0<f.2)(hf:f∈fs):f.1*((lc fs).fdiv f.2)*f.2=f.1*lc fs:=by
 obtain⟨k,hk⟩:=(Gv fs 1 (by decide) h).2.2.1 f hf
 have hk:lc fs=f.2*k:=hk
 have e:(lc fs).fdiv f.2=k:=by rw[hk];exact Int.mul_fdiv_cancel_left _ (by have:=h f hf;omega)
 rw[e,hk];ac_rfl
theorem jXk{fs:fP}(h:fs[i]?=some f):(clr fs)[i]?=some (f.1*((lc fs).fdiv f.2)):=by
 unfold clr;rw[aY,h];rfl
noncomputable def eG(H:Hp):List Addr->List (List Int)->Prop
 | [],[]=>True
 |p::ps,r::rs=>H p=some (.lst (List.map V.int r))/\eG H ps rs
 |_,_=>False
theorem eG.same(s:aP H H'):∀{ps:List Addr}{X:List (List Int)},eG H ps X->eG H' ps X
 | [],[],_=>trivial
 |_::_,_::_,h=>#[s _ _ h.1,h.2.same s]
 | [],_::_,h=>h.elim
 |_::_,[],h=>h.elim
theorem eG.length:∀{ps:List Addr}{X:List (List Int)},eG H ps X->ps.length=X.length
 | [],[],_=>rfl
 |_::_,_::_,h=>by rw[cZ,cZ,h.2.length]
 | [],_::_,h=>h.elim
 |_::_,[],h=>h.elim
theorem eG.get{H:Hp}:∀{ps:List Addr}{X:List (List Int)}{i:Nat}{p:Addr},eG H ps X->ps[i]?=some p->∃r,X[i]?=some r/\H p=some (.lst (List.map V.int r))
 | [],[],_,_,_,e=>by simp at e
 |_::_,r::_,0,_,h,e=>by simp at e;subst e;exact#[r,rfl,h.1]
 |_::_,_::_,i+1,_,h,e=>by
  obtain⟨f,e1,C⟩:=h.2.get (i:=i) (by simpa using e)
  exact#[f,by simpa using e1,C]
 | [],_::_,_,_,h,_=>h.elim
 |_::_,[],_,_,h,_=>h.elim
theorem eG.has(h:eG H ps X)(hp:p∈ps):∃r,r∈X/\H p=some (.lst (List.map V.int r)):=by
 obtain⟨i,hi⟩:=cJ hp
 obtain⟨r,e1,C⟩:=h.get hi
 exact#[r,aL e1,C]
theorem eG.append{qs:List Addr}{p:List (List Int)}(J:eG H qs p):∀{ps:List Addr}{X:List (List Int)},eG H ps X->eG H (ps++qs) (X++p)
 | [],[],_=>J
 |_::_,_::_,h=>#[h.1,eG.append J h.2]
 | [],_::_,h=>h.elim
 |_::_,[],h=>h.elim
theorem eG.snoc{q:Addr}{g:List Int}(h:eG H ps X)(J:H q=some (.lst (List.map V.int g))):eG H (ps++[q]) (X++[g]):=eG.append (show eG H [q] [g]from#[J,trivial]) h
theorem eG.put{q:Addr}:∀{ps:List Addr}{X:List (List Int)},q∉ps->eG H ps X->eG (upd H q o) ps X
 | [],[],_,_=>trivial
 |p::_,_::_,hn,h=>#[by rw[bY (λe:p=q=>hn (by rw[e];exact bT))];exact h.1,eG.put (λz=>hn (bI _ z)) h.2]
 | [],_::_,_,h=>h.elim
 |_::_,[],_,h=>h.elim
theorem eG.setr{q:Addr}{g:List Int}(J:H q=some (.lst (List.map V.int g))):∀{ps:List Addr}{X:List (List Int)}(i:Nat),eG H ps X->eG H (ps.set i q) (X.set i g)
 | [],[],_,_=>trivial
 |_::_,_::_,0,h=>#[J,h.2]
 |_::_,_::_,i+1,h=>#[h.1,eG.setr J i h.2]
 | [],_::_,_,h=>h.elim
 |_::_,[],_,h=>h.elim
theorem mB{l:List Int}(h:i<l.length):l.getD i 0∈l:=by
 rw[aR,aD h];exact cS h
theorem kQ{l:List Int}(h:i<l.length):atI (List.map V.int l) (i:Int)=some (.int (l.getD i 0)):=by
 have:=Vh (ns:=l) (k:=(i:Int)) #[] #[]
 rwa [dA]at this
theorem Ey{l:List Int}(h:i<l.length):l[i]?=some (l.getD i 0):=by
 rw[aR,aD h];rfl
theorem qS{xs:List d}{x:d}(h:xs[xs.length-1]?=some x):atI xs (-1)=some x:=by
 have Y:xs.length-1<xs.length:=(aK.mp h).1
 unfold atI ixN
 rw[aF #[],aJ #[]]
 show xs[(-1+(xs.length:Int)).toNat]?=some x
 rw[show(-1+(xs.length:Int)).toNat=xs.length-1 by omega]
 exact h
noncomputable def lx(a b:List Int)(c:Nat):List Nat->Option Bool
 | []=>none
 |p::r=>if a.getD p 0*b.getD c 0=b.getD p 0*a.getD c 0 then lx a b c r else some (decide (a.getD p 0*b.getD c 0<b.getD p 0*a.getD c 0))
theorem jXW{a b:List Int}{c:Nat}:∀(l:List Nat),lx b a c l=(lx a b c l).map (!·)
 | []=>rfl
 |p::r=>by
  unfold lx
  by_cases h:a.getD p 0*b.getD c 0=b.getD p 0*a.getD c 0
  ·rw[aJ h,aJ h.symm];exact jXW r
  ·rw[aF h,aF (λe=>h e.symm)]
   show some _=some _
   congr 1
   by_cases h2:a.getD p 0*b.getD c 0<b.getD p 0*a.getD c 0
   ·rw[decide_eq_true h2,decide_eq_false #[]];rfl
   ·rw[decide_eq_false h2,decide_eq_true #[]];rfl
theorem Xk{a b k:List Int}{c:Nat}(ha:0<a.getD c 0)(hb:0<b.getD c 0)(hk:0<k.getD c 0):∀(l:List Nat),lx a b c l=some true->lx b k c l≠some false->lx a k c l=some true
 | [],h,_=>by cases h
 |p::r,h1,h2=>by
  have m:=Xk ha hb hk r
  unfold lx at h1 h2⊢
  generalize a.getD c 0=d at*
  generalize b.getD c 0=bc at*
  generalize k.getD c 0=kc at*
  generalize a.getD p 0=ap at*
  generalize b.getD p 0=e at*
  generalize k.getD p 0=kp at*
  have m1:ap*bc*kc=ap*kc*bc:=by ac_rfl
  have m2:e*d*kc=e*kc*d:=by ac_rfl
  have g:kp*bc*d=kp*d*bc:=by ac_rfl
  have fin:ap*kc*bc<kp*d*bc->(if ap*kc=kp*d then lx a k c r else some (decide (ap*kc<kp*d)))=some true:=λh=>by
   have:ap*kc<kp*d:=Int.lt_of_mul_lt_mul_right h #[]
   rw[aF #[],decide_eq_true this]
  by_cases e1:ap*bc=e*d
  ·rw[aJ e1]at h1
   have f:ap*bc*kc=e*d*kc:=by rw[e1]
   by_cases C:e*kc=kp*bc
   ·rw[aJ C]at h2
    have N:e*kc*d=kp*bc*d:=by rw[C]
    have:ap*kc=kp*d:=eW (show bc≠0 by omega) #[]
    rw[aJ this]
    exact m h1 h2
   ·rw[aF C]at h2
    have h3:e*kc<kp*bc:=Classical.byContradiction λz=>h2 (by rw[decide_eq_false z])
    have N:e*kc*d<kp*bc*d:=Int.mul_lt_mul_of_pos_right h3 ha
    exact fin #[]
  ·rw[aF e1]at h1
   have h3:ap*bc<e*d:=by simpa using h1
   have f:ap*bc*kc<e*d*kc:=Int.mul_lt_mul_of_pos_right h3 hk
   by_cases C:e*kc=kp*bc
   ·have N:e*kc*d=kp*bc*d:=by rw[C]
    exact fin #[]
   ·rw[aF C]at h2
    have h3:e*kc<kp*bc:=Classical.byContradiction λz=>h2 (by rw[decide_eq_false z])
    have N:e*kc*d<kp*bc*d:=Int.mul_lt_mul_of_pos_right h3 ha
    exact fin #[]
noncomputable def Lv(X:List (List Int))(c:Nat)(l:List Nat)(i:Nat):Option Nat->Prop
 |none=>∀k row,k<i->X[k]?=some row->¬0<row.getD c 0
 |some f=>f<i/\∃fr,X[f]?=some fr/\0<fr.getD c 0/\∀k row,k<i->X[k]?=some row->0<row.getD c 0->lx fr row c l≠some false/\(lx fr row c l=none->f<=k)
theorem Lv.skip{l:List Nat}{o:Option Nat}{row:List Int}(h:Lv X c l i o)(hr:X[i]?=some row)(R:¬0<row.getD c 0):Lv X c l (i+1) o:=by
 cases o with
 |none=>
  intro k d hk e
  by_cases g:k<i
  ·exact h k d g e
  ·have:k=i:=#[]
   subst this
   rw[hr]at e
   obtain rfl:=aV e
   exact R
 |some f=>
  obtain⟨h1,fr,h2,h3,S⟩:=h
  refine#[#[],fr,h2,h3,λk d hk e hp=>?_]
  by_cases g:k<i
  ·exact S k d g e hp
  ·have:k=i:=#[]
   subst this
   rw[hr]at e
   obtain rfl:=aV e
   exact absurd hp R
theorem Vc{a:List Int}{c:Nat}:∀l:List Nat,lx a a c l=none
 | []=>rfl
 |p::r=>by unfold lx;rw[aJ rfl];exact Vc r
theorem Lv.first{l:List Nat}{row:List Int}(h:Lv X c l i none)(hr:X[i]?=some row)(hp:0<row.getD c 0):Lv X c l (i+1) (some i):=by
 refine#[#[],row,hr,hp,λk d hk e w=>?_]
 by_cases g:k<i
 ·exact absurd w (h k d g e)
 ·have:k=i:=#[]
  subst this
  rw[hr]at e
  obtain rfl:=aV e
  rw[Vc]
  exact#[by simp,λ_=>aM _]
theorem Lv.keep{l:List Nat}{f:Nat}{row fr:List Int}(h:Lv X c l i (some f))(hf:X[f]?=some fr)(hr:X[i]?=some row)(hp:0<row.getD c 0)(ha:lx row fr c l≠some true):Lv X c l (i+1) (some f):=by
 obtain⟨h1,J,h2,h3,S⟩:=h
 rw[hf]at h2
 obtain rfl:=aV h2
 refine#[#[],fr,hf,h3,λk d hk e w=>?_]
 by_cases g:k<i
 ·exact S k d g e w
 ·have:k=i:=#[]
  subst this
  rw[hr]at e
  obtain rfl:=aV e
  refine#[λz=>ha ?_,λ_=>by omega]
  rw[jXW (a:=fr) (b:=row),z];rfl
theorem Lv.take{l:List Nat}{f:Nat}{row fr:List Int}(h:Lv X c l i (some f))(hf:X[f]?=some fr)(hr:X[i]?=some row)(hp:0<row.getD c 0)(ha:lx row fr c l=some true):Lv X c l (i+1) (some i):=by
 obtain⟨h1,J,h2,h3,S⟩:=h
 rw[hf]at h2
 obtain rfl:=aV h2
 refine#[#[],row,hr,hp,λk d hk e w=>?_]
 by_cases g:k<i
 ·have:=Xk hp h3 w l ha (S k d g e w).1
  rw[this]
  exact#[by simp,λz=>by cases z]
 ·have:k=i:=#[]
  subst this
  rw[hr]at e
  obtain rfl:=aV e
  rw[Vc]
  exact#[by simp,λ_=>aM _]
noncomputable def sm:Nat->(Nat->Int)->Int
 |0,_=>0
 |n+1,f=>sm n f+f n
theorem iM:∀{n:Nat}{f g:Nat->Int},(∀k,k<n->f k=g k)->sm n f=sm n g
 |0,_,_,_=>rfl
 |n+1,f,g,h=>by
  show sm n f+f n=sm n g+g n
  rw[iM (n:=n) λk hk=>h k #[],h n #[]]
theorem kN:∀{n:Nat}{f:Nat->Int},(∀k,k<n->f k=0)->sm n f=0
 |0,_,_=>rfl
 |n+1,f,h=>by
  show sm n f+f n=0
  rw[kN (n:=n) λk hk=>h k #[],h n #[]];rfl
theorem yB(a b:Int):∀(n:Nat)(f g:Nat->Int),sm n (λk=>a*f k+b*g k)=a*sm n f+b*sm n g
 |0,_,_=>by show(0:Int)=a*0+b*0;simp
 |n+1,f,g=>by
  show sm n (λk=>a*f k+b*g k)+(a*f n+b*g n)=a*(sm n f+f n)+b*(sm n g+g n)
  rw[yB a b n f g,Int.mul_add,Int.mul_add];omega
theorem oP{p:Nat}:∀{n:Nat}{f:Nat->Int},p<n->(∀k,k<n->k≠p->f k=0)->sm n f=f p
 |0,_,h,_=>absurd h (eN _)
 |n+1,f,hp,h=>by
  show sm n f+f n=f p
  by_cases e:p=n
  ·rw[kN (n:=n) λk hk=>h k #[] #[],e];omega
  ·rw[oP (n:=n) #[] λk hk O=>h k #[] O,h n #[] #[]];omega
theorem Tz{p q:Nat}:∀{n:Nat}{f:Nat->Int},p<q->q<n->(∀k,k<n->k≠p->k≠q->f k=0)->sm n f=f p+f q
 |0,_,_,h,_=>absurd h (eN _)
 |n+1,f,hpq,hq,h=>by
  show sm n f+f n=f p+f q
  by_cases e:q=n
  ·rw[oP (p:=p) (n:=n) #[] λk hk O=>h k #[] O #[],e]
  ·rw[Tz (n:=n) hpq #[] λk hk h1 h2=>h k #[] h1 h2,h n #[] #[] #[]];omega
noncomputable def sg(k:Nat):Int:=if k%2=0 then 1 else -1
theorem sg_succ(k:Nat):sg (k+1)=-sg k:=by
 unfold sg
 split<;>split<;>omega
theorem sg_abs(k:Nat):(sg k).natAbs=1:=by unfold sg;split<;>rfl
noncomputable def skp(k i:Nat):Nat:=if i<k then i else i+1
theorem skp_ne(k i:Nat):skp k i≠k:=by unfold skp;split<;>omega
theorem skp_lt{n:Nat}(h:i<n):skp k i<n+1:=by unfold skp;split<;>omega
theorem skp_inj(h:skp k i=skp k j):i=j:=by unfold skp at h;split at h<;>split at h<;>omega
theorem jWJ{n:Nat}(hk:k<n+1)(P:j<n+1)(O:j≠k):∃i,i<n/\skp k i=j:=by
 unfold skp
 by_cases h:j<k
 ·exact#[j,#[],by rw[aJ h]]
 ·exact#[j-1,#[],by rw[aF #[]];omega]
noncomputable abbrev Mx:=Nat->Nat->Int
noncomputable def mnr(M:Mx)(k:Nat):Mx:=λi r=>M (skp k i) (r+1)
noncomputable def det:Nat->Mx->Int
 |0,_=>1
 |n+1,M=>sm (n+1) λk=>sg k*M k 0*det n (mnr M k)
theorem Bd:∀{n:Nat}{M L:Mx},(∀i,i<n->∀r,r<n->M i r=L i r)->det n M=det n L
 |0,_,_,_=>rfl
 |n+1,M,L,h=>by
  refine iM λk hk=>?_
  rw[h k hk 0 #[],Bd (n:=n) (M:=mnr M k) (L:=mnr L k) λi hi r hr=>h _ (skp_lt hi) _ #[]]
noncomputable def pt(M:Mx)(j:Nat)(v:Nat->Int):Mx:=λi=>if i=j then v else M i
theorem tU(M:Mx)(j:Nat)(v:Nat->Int):pt M j v j=v:=by unfold pt;rw[aJ rfl]
theorem mJ(M:Mx)(v:Nat->Int)(h:i≠j):pt M j v i=M i:=by unfold pt;rw[aF h]
theorem Eh(M:Mx)(j:Nat):pt M j (M j)=M:=by
 funext i;unfold pt;split
 ·rename_i e;rw[e]
 ·rfl
theorem pt_pt(M:Mx)(j:Nat)(u v:Nat->Int):pt (pt M j u) j v=pt M j v:=by
 funext i;unfold pt;split<;>rfl
theorem Am(M:Mx)(h:i≠j)(u v:Nat->Int):pt (pt M i u) j v=pt (pt M j v) i u:=by
 funext k;unfold pt
 by_cases h1:k=j
 ·rw[aJ h1,aF #[],aJ h1]
 ·rw[aF h1]
  by_cases h2:k=i
  ·rw[aJ h2,aJ h2]
  ·rw[aF h2,aF h2,aF h1]
theorem zR(M:Mx)(k:Nat)(v:Nat->Int):mnr (pt M k v) k=mnr M k:=by
 funext i r
 show pt M k v (skp k i) (r+1)=M (skp k i) (r+1)
 rw[mJ _ _ (skp_ne k i)]
theorem Zp(M:Mx)(v:Nat->Int):mnr (pt M (skp k c) v) k=pt (mnr M k) c (λr=>v (r+1)):=by
 funext i r
 show pt M (skp k c) v (skp k i) (r+1)=_
 unfold pt
 by_cases h:i=c
 ·rw[aJ h,aJ (by rw[h])]
 ·rw[aF h,aF (λe=>h (skp_inj e))];rfl
theorem Vf(a b:Int):∀{n:Nat}(M:Mx){j:Nat}(u v:Nat->Int),j<n->det n (pt M j (λr=>a*u r+b*v r))=a*det n (pt M j u)+b*det n (pt M j v)
 |0,_,_,_,_,h=>absurd h (eN _)
 |n+1,M,j,u,v,hj=>by
  show sm (n+1) _=a*sm (n+1) _+b*sm (n+1) _
  rw[←yB]
  refine iM λk hk=>?_
  by_cases e:k=j
  ·subst e
   rw[tU,tU,tU,zR,zR,zR]
   grind
  ·obtain⟨c,S,f⟩:=jWJ hk hj (λz=>e z.symm)
   rw[mJ _ _ e,mJ _ _ e,mJ _ _ e,←f,Zp,Zp,Zp,Vf a b (mnr M k) (λr=>u (r+1)) (λr=>v (r+1)) S]
   grind
theorem Li:∀{n:Nat}{M:Mx}{p:Nat},p+1<n->M p=M (p+1)->det n M=0
 |0,_,_,h,_=>absurd h (eN _)
 |n+1,M,p,hp,e=>by
  show sm (n+1) _=0
  rw[Tz (p:=p) (q:=p+1) #[] hp]
  ·have g:mnr M p=mnr M (p+1):=by
    funext i r
    show M (skp p i) (r+1)=M (skp (p+1) i) (r+1)
    unfold skp
    by_cases h1:i<p
    ·rw[aJ h1,aJ #[]]
    ·rw[aF h1]
     by_cases h2:i=p
     ·rw[aJ #[],h2,e]
     ·rw[aF #[]]
   rw[g,e,sg_succ];grind
  ·intro k hk h1 h2
   have:det n (mnr M k)=0:=by
    by_cases h:k<p
    ·refine Li (p:=p-1) #[] ?_
     funext r
     show M (skp k (p-1)) (r+1)=M (skp k (p-1+1)) (r+1)
     unfold skp
     rw[aF #[],aF #[],show p-1+1=p by omega,e]
    ·refine Li (p:=p) #[] ?_
     funext r
     show M (skp k p) (r+1)=M (skp k (p+1)) (r+1)
     unfold skp
     rw[aJ #[],aJ #[],e]
   rw[this,dI]
theorem Lj{n:Nat}(M:Mx)(u v:Nat->Int)(h:j<n):det n (pt M j (λr=>u r+v r))=det n (pt M j u)+det n (pt M j v):=by
 have:=Vf 1 1 M u v h
 simp only[fY]at this
 exact this
theorem Ic{n:Nat}(M:Mx)(a:Int)(u:Nat->Int)(h:j<n):det n (pt M j (λr=>a*u r))=a*det n (pt M j u):=by
 have:=Vf a 0 M u u h
 simp only[fN,Int.add_zero]at this
 exact this
theorem jZt{n p:Nat}(hp:p<n)(J:q<n)(O:p≠q)(z:∀M:Mx,M p=M q->det n M=0)(M:Mx)(u v:Nat->Int):det n (pt (pt M p u) q v)=-det n (pt (pt M p v) q u):=by
 have c:=z (pt (pt M p (λr=>u r+v r)) q (λr=>u r+v r)) (by rw[tU,mJ _ _ O,tU])
 have a:=z (pt (pt M p u) q u) (by rw[tU,mJ _ _ O,tU])
 have b:=z (pt (pt M p v) q v) (by rw[tU,mJ _ _ O,tU])
 rw[Lj _ _ _ J,Am M O,Am M O,Lj _ _ _ hp,Lj _ _ _ hp,Am M (Ne.symm O),Am M (Ne.symm O),Am M (Ne.symm O),Am M (Ne.symm O)]at c
 omega
theorem Vg{n:Nat}:∀(d:Nat){M:Mx}{p q:Nat},q=p+1+d->q<n->M p=M q->det n M=0
 |0,M,p,q,e,hq,h=>Li (p:=p) #[] (by rw[h,e])
 |d+1,M,p,q,e,hq,h=>by
  have a:=jZt (n:=n) (p:=q-1) (q:=q-1+1) #[] #[] #[] (λL C=>Li #[] C) M (M (q-1)) (M q)
  rw[show q-1+1=q by omega]at a
  rw[Eh,Eh]at a
  rw[a,Vg d (p:=p) (q:=q-1) #[] #[]]
  ·rfl
  ·rw[mJ _ _ (show p≠q by omega),mJ _ _ (show p≠q-1 by omega),mJ _ _ (show q-1≠q by omega),tU,h]
theorem Nu{n:Nat}{M:Mx}{p:Nat}(hp:p<n)(J:q<n)(O:p≠q)(h:M p=M q):det n M=0:=by
 by_cases f:p<q
 ·exact Vg (q-p-1) (p:=p) (q:=q) #[] J h
 ·exact Vg (p-q-1) (p:=q) (q:=p) #[] hp h.symm
theorem jVX{n p:Nat}(hp:p<n)(J:q<n)(O:p≠q)(M:Mx)(u v:Nat->Int):det n (pt (pt M p u) q v)=-det n (pt (pt M p v) q u):=jZt hp J O (λ_ h=>Nu hp J O h) M u v
noncomputable def e1(i:Nat):Nat->Int:=λr=>if r=i then 1 else 0
noncomputable def Im:Mx:=e1
theorem Lh:∀n:Nat,det n Im=1
 |0=>rfl
 |n+1=>by
  show sm (n+1) _=1
  rw[oP (p:=0) #[]]
  ·have:det n (mnr Im 0)=det n Im:=Bd λi _ r _=>by
    show e1 (skp 0 i) (r+1)=e1 i r
    unfold e1 skp
    rw[aF (eN i)]
    by_cases h:r=i
    ·rw[aJ h,aJ #[]]
    ·rw[aF h,aF #[]]
   rw[this,Lh n];rfl
  ·intro k _ hk
   have:Im k 0=0:=by show e1 k 0=0;unfold e1;rw[aF (λz=>hk z.symm)]
   rw[this];grind
theorem Nt{n:Nat}(M:Mx){j:Nat}(P:j<n)(c:Nat->Int)(w:Nat->Nat->Int):∀m:Nat,det n (pt M j (λr=>sm m λk=>c k*w k r))=sm m λk=>c k*det n (pt M j (w k))
 |0=>by
  have:=Ic M 0 (λ_=>0) P
  simp only[fN]at this
  exact this
 |m+1=>by
  show det n (pt M j (λr=>sm m (λk=>c k*w k r)+c m*w m r))=sm m _+c m*_
  rw[Lj _ _ _ P,Nt M P c w m,Ic _ _ _ P]
theorem Xa(v:Nat->Int):∀(n r:Nat),r<n->(sm n λk=>v k*e1 k r)=v r:=λn r hr=>by
 rw[oP (p:=r) hr]
 ·unfold e1;rw[aJ rfl,eA]
 ·intro k _ hk
  unfold e1;rw[aF (λz=>hk z.symm),dI]
theorem det_sum{n:Nat}(M:Mx)(P:j<n)(v:Nat->Int):det n (pt M j v)=sm n λk=>v k*det n (pt M j (e1 k)):=by
 rw[←Nt M P v e1 n]
 refine Bd λi hi r hr=>?_
 unfold pt
 split
 ·exact(Xa v n r hr).symm
 ·rfl
section
variable{N:Nat}
noncomputable def Tt(N:Nat)(B:Mx)(i:Nat)(y:Nat->Int):Int:=det N (pt B i y)
noncomputable def Cr(N:Nat)(B:Mx):Prop:=∀(y:Nat->Int)(r:Nat),r<N->(sm N λi=>Tt N B i y*B i r)=det N B*y r
theorem Zx(B:Mx)(i:Nat):Tt N B i (B i)=det N B:=by unfold Tt;rw[Eh]
theorem Ny{B:Mx}(hi:i<N)(P:j<N)(h:i≠j):Tt N B i (B j)=0:=
 Nu hi P h (by rw[tU,mJ _ _ (Ne.symm h)])
theorem Tt_lin{B:Mx}(hi:i<N)(y:Nat->Int):Tt N B i y=sm N λk=>y k*Tt N B i (e1 k):=det_sum B hi y
theorem Tt_one(hi:i<N)(y:Nat->Int):Tt N Im i y=y i:=by
 rw[Tt_lin hi,oP (p:=i) hi]
 ·rw[show Tt N Im i (e1 i)=det N Im from Zx Im i,Lh,eA]
 ·intro k hk O
  rw[show Tt N Im i (e1 k)=0 from Ny hi hk (Ne.symm O),dI]
theorem Cr_one:Cr N Im:=by
 intro y r hr
 rw[Lh,fY,←Xa y N r hr]
 exact iM λi hi=>by rw[Tt_one hi];rfl
theorem exchT{B:Mx}(t:Cr N B){r:Nat}(hr:r<N)(hi:i<N)(O:i≠r)(x y:Nat->Int):det N B*Tt N (pt B r x) i y=Tt N B i y*Tt N B r x-Tt N B r y*Tt N B i x:=by
 have h1:det N B*Tt N (pt B r x) i y=det N (pt (pt B r x) i (λs=>det N B*y s)):=(Ic _ _ _ hi).symm
 have h2:det N (pt (pt B r x) i (λs=>det N B*y s))=det N (pt (pt B r x) i (λs=>sm N λk=>Tt N B k y*B k s)):=Bd λj _ s hs=>by
  unfold pt
  by_cases e:j=i
  ·rw[aJ e,aJ e,t y s hs]
  ·rw[aF e,aF e]
 rw[h1,h2,Nt _ hi]
 have b:det N (pt (pt B r x) i (B i))=Tt N B r x:=by
  have:pt (pt B r x) i (B i)=pt B r x:=by
   have:=Eh (pt B r x) i
   rwa [mJ _ _ O]at this
  rw[this];rfl
 have a:det N (pt (pt B r x) i (B r))=-Tt N B i x:=by
  rw[jVX hr hi (Ne.symm O),Eh];rfl
 have key:∀k,k<N->k≠i->k≠r->Tt N B k y*det N (pt (pt B r x) i (B k))=0:=λk hk h1 h2=>by
  rw[Nu hi hk (Ne.symm h1) (by rw[tU,mJ _ _ h1,mJ _ _ h2]),dI]
 by_cases f:i<r
 ·rw[Tz f hr (λk hk h1 h2=>key k hk h1 h2),b,a,Int.mul_neg];rfl
 ·rw[Tz (p:=r) (q:=i) #[] hi (λk hk h1 h2=>key k hk h2 h1),b,a,Int.mul_neg];omega
theorem jXq(B:Mx)(r:Nat)(x y:Nat->Int):Tt N (pt B r x) r y=Tt N B r y:=by unfold Tt;rw[pt_pt]
theorem det_pt(B:Mx)(r:Nat)(x:Nat->Int):det N (pt B r x)=Tt N B r x:=rfl
theorem Cr.turn{B:Mx}(t:Cr N B)(K:det N B≠0){r:Nat}(hr:r<N)(x:Nat->Int):Cr N (pt B r x):=by
 intro y s hs
 apply Int.eq_of_mul_eq_mul_left K
 have e:∀i,i<N->det N B*(Tt N (pt B r x) i y*(pt B r x) i s)=Tt N B r x*(Tt N B i y*B i s)+(-Tt N B r y)*(Tt N B i x*B i s)+(if i=r then det N B*Tt N B r y*x s else 0):=λi hi=>by
  by_cases h:i=r
  ·subst h
   rw[aJ rfl,jXq,tU];grind
  ·rw[aF h,mJ _ _ h,←gU,exchT t hr hi h];grind
 have O:det N B*sm N (λi=>Tt N (pt B r x) i y*(pt B r x) i s)=sm N λi=>det N B*(Tt N (pt B r x) i y*(pt B r x) i s):=by
  have:=yB (det N B) 0 N (λi=>Tt N (pt B r x) i y*(pt B r x) i s) (λ_=>0)
  simp only[fN,Int.add_zero]at this
  exact this.symm
 rw[O,iM e]
 have F:=yB 1 1 N (λi=>Tt N B r x*(Tt N B i y*B i s)+(-Tt N B r y)*(Tt N B i x*B i s)) (λi=>if i=r then det N B*Tt N B r y*x s else 0)
 simp only[fY]at F
 rw[F,yB,t y s hs,t x s hs,oP (p:=r) hr (λk _ hk=>aF hk),aJ rfl,det_pt]
 grind
end
noncomputable def lp(u:Nat->Int):List Nat->Prop
 | []=>False
 |p::r=>0<u p∨(u p=0/\lp u r)
noncomputable def lpn(u:Nat->Int):List Nat->Prop
 | []=>True
 |p::r=>0<u p∨(u p=0/\lpn u r)
theorem lp.weak{u:Nat->Int}:∀{l:List Nat},lp u l->lpn u l
 | [],h=>h.elim
 |_::_,.inl h=>.inl h
 |_::_,.inr h=>.inr #[h.1,h.2.weak]
theorem qR{u v:Nat->Int}:∀{l:List Nat},(∀p∈l,u p=v p)->lp u l->lp v l
 | [],_,h=>h
 |p::r,e,h=>by
  have j:=e p bT
  rcases h with h |h
  ·exact .inl (j▸h)
  ·exact .inr #[j▸h.1,qR (λq J=>e q (bI _ J)) h.2]
theorem Np{u:Nat->Int}{a:Int}(ha:0<a):∀{l:List Nat},lp u l->lp (λp=>a*u p) l
 | [],h=>h
 |p::r,h=>by
  rcases h with h |h
  ·exact .inl (bK ha h)
  ·exact .inr #[by show a*u p=0;rw[h.1,dI],Np ha h.2]
theorem vZ{u:Nat->Int}{a:Int}(ha:0<a):∀{l:List Nat},lp (λp=>a*u p) l->lp u l
 | [],h=>h
 |p::r,h=>by
  rcases h with h |h
  ·left
   have h:0<a*u p:=h
   rcases Int.lt_trichotomy (u p) 0 with z |z |z
   ·have:=Int.mul_neg_of_pos_of_neg ha z;omega
   ·rw[z,dI]at h;omega
   ·exact z
  ·right
   have h1:a*u p=0:=h.1
   refine#[?_,vZ ha h.2]
   rcases Int.mul_eq_zero.mp h1 with z |z
   ·omega
   ·exact z
theorem lp_add{u v:Nat->Int}{a b:Int}(ha:0<a)(hb:0<=b){l:List Nat}(h:lp u l)(k:lpn v l):lp (λp=>a*u p+b*v p) l:=by
 by_cases A:b=0
 ·subst A
  refine qR (λp _=>?_) (Np ha h)
  omega
 ·have hb:0<b:=#[]
  clear A
  induction l with
  |nil=>exact h.elim
  |cons p r ih=>
   rcases h with h |h
   ·left
    have h1:=bK ha h
    have h2:0<=b*v p:=by
     rcases k with k |k
     ·exact dY #[] #[]
     ·rw[k.1,dI];exact Int.le_refl _
    show 0<a*u p+b*v p
    omega
   ·rcases k with k |k
    ·left
     have h1:=bK hb k
     show 0<a*u p+b*v p
     rw[h.1,dI];omega
    ·exact .inr #[by show a*u p+b*v p=0;rw[h.1,k.1,dI,dI];rfl,ih h.2 k.2]
theorem Rv{u:Nat->Int}:∀{l:List Nat},(∀p∈l,u p=0)->¬lp u l
 | [],_,h=>h
 |p::r,e,h=>by
  have j:=e p bT
  rcases h with h |h
  ·omega
  ·exact Rv (λq J=>e q (bI _ J)) h.2
theorem lp_or{u:Nat->Int}:∀(l:List Nat),lp u l∨(∀p∈l,u p=0)∨lp (λp=>-u p) l
 | []=>.inr (.inl (λ_ h=>nomatch h))
 |p::r=>by
  rcases Int.lt_trichotomy (u p) 0 with z |z |z
  ·exact .inr (.inr (.inl (by show 0< -u p;omega)))
  ·rcases lp_or (u:=u) r with h |h |h
   ·exact .inl (.inr #[z,h])
   ·refine .inr (.inl λq J=>?_)
    rcases dW.mp J with rfl |J
    ·exact z
    ·exact h q J
   ·exact .inr (.inr (.inr #[by show-u p=0;omega,h]))
  ·exact .inl (.inl z)
structure Lpd where
 m:Nat
 n:Nat
 a:Nat->Nat->Int
 be:Nat->Int
 fl:Bool
namespace Lpd
variable(L:Lpd)
noncomputable def cv(j:Nat):Nat->Int:=if j<L.n then L.a j else e1 (j-L.n)
noncomputable def B(s:Nat->Nat):Mx:=λi=>if i<L.m then L.cv (s i)else e1 i
noncomputable def sg:Int:=if L.fl=true then -1 else 1
theorem sg2:L.sg*L.sg=1:=by unfold sg;split<;>rfl
theorem sg_abs(x:Int):(L.sg*x).natAbs=x.natAbs:=by unfold sg;split<;>omega
noncomputable def D(s:Nat->Nat):Int:=L.sg*det (L.m+1) (L.B s)
noncomputable def T(s:Nat->Nat)(i:Nat)(y:Nat->Int):Int:=L.sg*Tt (L.m+1) (L.B s) i y
noncomputable def li(p:Nat):Nat->Int:=if p=0 then L.be else e1 (p-1)
noncomputable def ls:List Nat:=List.range (L.m+1)
noncomputable def sput(s:Nat->Nat)(r c:Nat):Nat->Nat:=λi=>if i=r then c else s i
theorem B_put{r:Nat}(hr:r<L.m):L.B (sput s r c)=pt (L.B s) r (L.cv c):=by
 funext i
 unfold B sput pt
 by_cases h:i=r
 ·rw[aJ #[],aJ h,aJ h]
 ·rw[aF h,aF h]
structure Okn(s:Nat->Nat):Prop where
 ne:L.D s≠0
 cr:Cr (L.m+1) (L.B s)
structure Ok(s:Nat->Nat):Prop where
 pos:0<L.D s
 cr:Cr (L.m+1) (L.B s)
 bn:∀i,i<L.m->0<=L.T s i L.be
structure Okx(s:Nat->Nat):Prop where
 pos:0<L.D s
 cr:Cr (L.m+1) (L.B s)
 lex:∀i,i<L.m->lp (λp=>L.T s i (L.li p)) L.ls
theorem own(hi:i<L.m):L.T s i (L.cv (s i))=L.D s:=by
 have:=Zx (N:=L.m+1) (L.B s) i
 have e:L.B s i=L.cv (s i):=by unfold B;rw[aJ hi]
 rw[e]at this
 unfold T D;rw[this]
theorem last_own(s:Nat->Nat):L.T s L.m (e1 L.m)=L.D s:=by
 have:=Zx (N:=L.m+1) (L.B s) L.m
 have e:L.B s L.m=e1 L.m:=by unfold B;rw[aF (eV _)]
 rw[e]at this
 unfold T D;rw[this]
theorem not_last(hi:i<L.m):L.T s i (e1 L.m)=0:=by
 have:=Ny (N:=L.m+1) (B:=L.B s) (i:=i) (j:=L.m) #[] #[] #[]
 have e:L.B s L.m=e1 L.m:=by unfold B;rw[aF (eV _)]
 rw[e]at this
 unfold T;rw[this,dI]
theorem other(hi:i<L.m+1)(P:j<L.m)(h:i≠j):L.T s i (L.cv (s j))=0:=by
 have:=Ny (N:=L.m+1) (B:=L.B s) (i:=i) (j:=j) hi #[] h
 have e:L.B s j=L.cv (s j):=by unfold B;rw[aJ P]
 rw[e]at this
 unfold T;rw[this,dI]
theorem sm_by(c:Int)(n:Nat)(f:Nat->Int):sm n (λk=>c*f k)=c*sm n f:=by
 have:=yB c 0 n f f
 simp only[fN,Int.add_zero]at this
 exact this
theorem T_lin(hi:i<L.m+1)(y:Nat->Int):L.T s i y=sm (L.m+1) λk=>y k*L.T s i (e1 k):=by
 unfold T
 rw[Tt_lin hi,←sm_by]
 exact iM λk _=>by rw[Int.mul_left_comm]
theorem cr_T(h:Cr (L.m+1) (L.B s))(y:Nat->Int){r:Nat}(hr:r<L.m+1):(sm (L.m+1) λi=>L.T s i y*L.B s i r)=L.D s*y r:=by
 unfold T D
 rw[gU,←h y r hr,←sm_by]
 exact iM λk _=>by rw[gU]
section
variable{L}
theorem Ok.n(o:L.Ok s):L.Okn s:=#[Int.ne_of_gt o.pos,o.cr]
theorem Okx.n(o:L.Okx s):L.Okn s:=#[Int.ne_of_gt o.pos,o.cr]
theorem Okx.bound_nonneg(o:L.Okx s)(hi:i<L.m):0<=L.T s i L.be:=by
 have h:=o.lex i hi
 unfold ls at h
 rw[List.range_succ_eq_map]at h
 have e:L.li 0=L.be:=by unfold li;rw[aJ rfl]
 rcases h with h |h
 ·have h:0<L.T s i (L.li 0):=h
  rw[e]at h;omega
 ·have h:=h.1
  simp only[e]at h
  omega
theorem Okx.w(o:L.Okx s):L.Ok s:=#[o.pos,o.cr,λ_ hi=>o.bound_nonneg hi]
theorem Okn.exch(o:L.Okn s){r:Nat}(hr:r<L.m)(hi:i<L.m+1)(O:i≠r)(y:Nat->Int):L.D s*L.T (sput s r c) i y=L.T s i y*L.T s r (L.cv c)-L.T s r y*L.T s i (L.cv c):=by
 have h:=exchT o.cr (show r<L.m+1 by omega) hi O (L.cv c) y
 unfold T D
 rw[L.B_put hr]
 generalize Tt (L.m+1) (pt (L.B s) r (L.cv c)) i y=u at h⊢
 have e1:L.sg*det (L.m+1) (L.B s)*(L.sg*u)=(L.sg*L.sg)*(det (L.m+1) (L.B s)*u):=by ac_rfl
 have C:∀x y:Int,L.sg*x*(L.sg*y)=(L.sg*L.sg)*(x*y):=λx y=>by ac_rfl
 rw[e1,C,C,L.sg2,h,fY,fY,fY]
theorem Okx.exch(o:L.Okx s){r:Nat}(hr:r<L.m)(hi:i<L.m+1)(O:i≠r)(y:Nat->Int):L.D s*L.T (sput s r c) i y=L.T s i y*L.T s r (L.cv c)-L.T s r y*L.T s i (L.cv c):=o.n.exch hr hi O y
theorem Ok.same{r:Nat}(hr:r<L.m)(y:Nat->Int):L.T (sput s r c) r y=L.T s r y:=by
 unfold T;rw[L.B_put hr,jXq]
theorem Ok.newD{r:Nat}(hr:r<L.m):L.D (sput s r c)=L.T s r (L.cv c):=by
 unfold D T;rw[L.B_put hr];rfl
theorem det_ne(h:L.D s≠0):det (L.m+1) (L.B s)≠0:=λz=>h (by unfold D;rw[z,dI])
theorem Okn.step(o:L.Okn s){r:Nat}(hr:r<L.m)(hp:L.T s r (L.cv c)≠0):L.Okn (sput s r c):=by
 refine#[by rw[Ok.newD hr];exact hp,?_]
 rw[L.B_put hr]
 exact o.cr.turn (det_ne o.ne) #[] _
theorem Okx.step(o:L.Okx s){r:Nat}(hr:r<L.m)(hp:0<L.T s r (L.cv c))
  (F:∀i,i<L.m->0<L.T s i (L.cv c)->¬lp (λp=>-(L.T s i (L.li p)*L.T s r (L.cv c)-L.T s r (L.li p)*L.T s i (L.cv c))) L.ls):L.Okx (sput s r c):=by
 have K:=o.pos
 have d:0<L.D (sput s r c):=by rw[Ok.newD hr];exact hp
 have f:Cr (L.m+1) (L.B (sput s r c)):=by
  rw[L.B_put hr]
  exact o.cr.turn (det_ne #[]) #[] _
 refine#[d,f,λi hi=>?_]
 by_cases a:i=r
 ·subst a
  exact qR (λp _=>(Ok.same hi _).symm) (o.lex i hi)
 ·have ex:=λy=>o.exch (c:=c) hr (show i<L.m+1 by omega) a y
  by_cases R:L.T s i (L.cv c)<=0
  ·refine vZ K (qR (λp _=>?_) (lp_add hp (b:=-L.T s i (L.cv c)) #[] (o.lex i hi) (o.lex r hr).weak))
   rw[ex];grind
  ·have g:0<L.T s i (L.cv c):=#[]
   rcases lp_or (u:=λp=>L.T s i (L.li p)*L.T s r (L.cv c)-L.T s r (L.li p)*L.T s i (L.cv c)) L.ls with h |h |h
   ·exact vZ K (qR (λp _=>(ex _).symm) h)
   ·exfalso
    have z:∀k,k<L.m+1->L.T (sput s r c) i (e1 k)=0:=λk hk=>by
     by_cases j:k=L.m
     ·rw[j];exact L.not_last hi
     ·have h1:=h (k+1) (by unfold ls;exact fC.mpr #[])
      have e:L.li (k+1)=e1 k:=by unfold li;rw[aF #[]];rfl
      simp only[e]at h1
      have h2:=ex (e1 k)
      rw[h1]at h2
      rcases Int.mul_eq_zero.mp h2 with q |q
      ·omega
      ·exact q
    have hw:L.T (sput s r c) i (L.cv (sput s r c i))=0:=by
     rw[L.T_lin #[]]
     exact kN λk hk=>by rw[z k hk,dI]
    rw[L.own hi]at hw
    omega
   ·exact absurd h (F i hi g)
noncomputable def Fur(L:Lpd)(s t:Nat->Nat):Prop:=lp (λp=>L.T t L.m (L.li p)*L.D s-L.T s L.m (L.li p)*L.D t) L.ls
theorem Okx.further(o:L.Okx s){r:Nat}(hr:r<L.m)(l:L.T s L.m (L.cv c)<0):L.Fur s (sput s r c):=by
 refine qR (λp _=>?_) (Np (a:=-L.T s L.m (L.cv c)) #[] (o.lex r hr))
 have:=o.exch (c:=c) (i:=L.m) hr #[] #[] (L.li p)
 rw[Ok.newD hr,gR _ (L.D s),this];grind
theorem Fur.trans{t w:Nat->Nat}(hs:0<L.D s)(y:0<L.D t)(hw:0<L.D w)(h1:L.Fur s t)(h2:L.Fur t w):L.Fur s w:=by
 refine vZ y (qR (λp _=>?_) (lp_add hs (bW hw) h2 h1.weak))
 grind
theorem Fur.irrefl:¬L.Fur s s:=Rv λp _=>by omega
end
end Lpd
theorem Sf{d:Type}{p q:d->Bool}:∀{l:List d},(∀x∈l,p x=true->q x=true)->(∃x∈l,q x=true/\p x=false)->(l.filter p).length<(l.filter q).length
 | [],_,h=>by obtain⟨x,hx,_⟩:=h;cases hx
 |a::r,h1,h2=>by
  have hr:(r.filter p).length<=(r.filter q).length:=by
   have key:∀l:List d,(∀x∈l,p x=true->q x=true)->(l.filter p).length<=(l.filter q).length:=λl=>by
    induction l with
    |nil=>intro _;exact aM _
    |cons b t ih=>
     intro h
     have N:=ih λx hx=>h x (bI _ hx)
     have hb:=h b bT
     rw[List.filter_cons,List.filter_cons]
     cases hp:p b with
     |true=>rw[hb hp];simp only[if_true,cZ];omega
     |false=>
      cases q b with
      |true=>simp only[Bool.false_eq_true,if_false,if_true,cZ];omega
      |false=>simpa using N
   exact key r λx hx=>h1 x (bI _ hx)
  have ha:=h1 a bT
  rw[List.filter_cons,List.filter_cons]
  obtain⟨x,hx,c,U⟩:=h2
  rcases dW.mp hx with rfl |hx
  ·rw[c,U]
   simp only[Bool.false_eq_true,if_false,if_true,cZ]
   omega
  ·have N:=Sf (l:=r) (p:=p) (q:=q) (λx hx=>h1 x (bI _ hx)) #[x,hx,c,U]
   cases hp:p a with
   |true=>rw[ha hp];simp only[if_true,cZ];omega
   |false=>
    cases q a with
    |true=>simp only[Bool.false_eq_true,if_false,if_true,cZ];omega
    |false=>simpa using N
noncomputable def allL(k:Nat):Nat->fO
 |0=>[[]]
 |m+1=>(allL k m).flatMap λl=>(List.range k).map λc=>c::l
theorem Xi{k:Nat}:∀{m:Nat}{l:List Nat},l.length=m->(∀c∈l,c<k)->l∈allL k m
 |0,l,h,_=>by
  have:l=[]:=List.eq_nil_of_length_eq_zero h
  subst this;simp [allL]
 |m+1,[],h,_=>by simp at h
 |m+1,c::l,h,hc=>by
  simp only[allL,hV,dD,fC]
  exact#[l,Xi (by simpa using h) λx hx=>hc x (bI _ hx),c,hc c bT,rfl]
namespace Lpd
variable{L:Lpd}
noncomputable def sf(l:List Nat):Nat->Nat:=λi=>l.getD i 0
noncomputable def mu(L:Lpd)(s:Nat->Nat):Nat:=open Classical in ((allL (L.n+L.m) L.m).filter λt=>decide (0<L.D (sf t)/\L.Fur s (sf t))).length
theorem mu_lt{t:List Nat}(hs:0<L.D s)(y:0<L.D (sf t))(Y:t.length=L.m)(hc:∀c∈t,c<L.n+L.m)(h:L.Fur s (sf t)):L.mu (sf t)<L.mu s:=by
 classical
 unfold mu
 refine Sf (λx _ hx=>?_) #[t,Xi Y hc,?_,?_]
 ·have hx:=of_decide_eq_true hx
  exact decide_eq_true #[hx.1,Fur.trans hs y hx.1 h hx.2]
 ·exact decide_eq_true #[y,h]
 ·exact decide_eq_false λz=>Fur.irrefl z.2
theorem Ua(n:Nat)(f g:Nat->Int):sm n (λk=>f k+g k)=sm n f+sm n g:=by
 have:=yB 1 1 n f g
 simp only[fY]at this
 exact this
theorem sm_mul(c:Int)(n:Nat)(f:Nat->Int):sm n (λk=>c*f k)=c*sm n f:=by
 have:=yB c 0 n f f
 simp only[fN,Int.add_zero]at this
 exact this
theorem jZu(g:Nat->Nat->Int)(m:Nat):∀n:Nat,sm n (λj=>sm m λi=>g i j)=sm m λi=>sm n λj=>g i j
 |0=>(kN λ_ _=>rfl).symm
 |n+1=>by
  show sm n (λj=>sm m λi=>g i j)+sm m (λi=>g i n)=sm m λi=>sm n (λj=>g i j)+g i n
  rw[jZu g m n,Ua]
theorem sm_le:∀{n:Nat}{f g:Nat->Int},(∀k,k<n->f k<=g k)->sm n f<=sm n g
 |0,_,_,_=>Int.le_refl _
 |n+1,f,g,h=>Int.add_le_add (sm_le λk hk=>h k #[]) (h n #[])
theorem Hv{n:Nat}{f:Nat->Int}(h:∀k,k<n->0<=f k):0<=sm n f:=by
 have:=sm_le (n:=n) (f:=λ_=>0) (g:=f) h
 rwa [kN λ_ _=>rfl]at this
noncomputable def spr(m:Nat)(s:Nat->Nat)(t:Nat->Int)(j:Nat):Int:=sm m λi=>if s i=j then t i else 0
theorem spr_sum(m n:Nat)(s:Nat->Nat)(t:Nat->Int)(w:Nat->Int):(sm n λj=>spr m s t j*w j)=sm m λi=>if s i<n then t i*w (s i)else 0:=by
 have e:(sm n λj=>spr m s t j*w j)=sm n λj=>sm m λi=>if s i=j then t i*w j else 0:=iM λj _=>by
  unfold spr
  rw[gR,←sm_mul]
  exact iM λi _=>by split<;>simp [gR]
 rw[e,jZu (λi j=>if s i=j then t i*w j else 0)]
 refine iM λi _=>?_
 by_cases h:s i<n
 ·rw[aJ h,oP (p:=s i) h]
  ·rw[aJ rfl]
  ·intro k _ hk
   rw[aF (λz=>hk z.symm)]
 ·rw[aF h]
  exact kN λj P=>aF #[]
theorem Ok.by_cols(o:L.Ok s)(hs:∀i,i<L.m->s i<L.n+L.m)(y:Nat->Int){r:Nat}(hr:r<L.m+1):
  (sm L.n λj=>spr L.m s (λi=>L.T s i y) j*L.a j r)+(sm L.m λi=>if s i<L.n then 0 else L.T s i y*e1 (s i-L.n) r)+(if r=L.m then L.T s L.m y else 0)=L.D s*y r:=by
 have h:=L.cr_T o.cr y hr
 have h:(sm L.m λi=>L.T s i y*L.B s i r)+L.T s L.m y*L.B s L.m r=L.D s*y r:=h
 rw[spr_sum,←h,←Ua]
 have e:(sm L.m λi=>(if s i<L.n then L.T s i y*L.a (s i) r else 0)+(if s i<L.n then 0 else L.T s i y*e1 (s i-L.n) r))=sm L.m λi=>L.T s i y*L.B s i r:=iM λi hi=>by
  have O:L.B s i=L.cv (s i):=by unfold B;rw[aJ hi]
  rw[O]
  unfold cv
  by_cases q:s i<L.n
  ·rw[aJ q,aJ q,aJ q,Int.add_zero]
  ·rw[aF q,aF q,aF q,eJ]
 rw[e]
 have O:L.B s L.m=e1 L.m:=by unfold B;rw[aF (eV _)]
 rw[O]
 unfold e1
 by_cases q:r=L.m
 ·rw[aJ q,aJ q,eA]
 ·rw[aF q,aF q,dI]
theorem Ok.bound_nonneg(o:L.Ok s)(hi:i<L.m):0<=L.T s i L.be:=o.bn i hi
theorem spr_nonneg{t:Nat->Int}(h:∀i,i<m->0<=t i)(j:Nat):0<=spr m s t j:=Hv λi hi=>by
 split
 ·exact h i hi
 ·exact Int.le_refl _
theorem Ok.allowed(o:L.Ok s)(hs:∀i,i<L.m->s i<L.n+L.m){r:Nat}(hr:r<L.m):(sm L.n λj=>spr L.m s (λi=>L.T s i L.be) j*L.a j r)<=L.D s*L.be r:=by
 have h:=o.by_cols hs L.be (r:=r) #[]
 rw[aF #[]]at h
 have:0<=sm L.m λi=>if s i<L.n then 0 else L.T s i L.be*e1 (s i-L.n) r:=Hv λi hi=>by
  split
  ·exact Int.le_refl _
  ·refine dY (o.bound_nonneg hi) ?_
   unfold e1;split<;>decide
 omega
theorem Ok.no_spare(hs:∀i,i<L.m->s i<L.n+L.m)(y:Nat->Int):(sm L.m λi=>if s i<L.n then 0 else L.T s i y*e1 (s i-L.n) L.m)=0:=kN λi hi=>by
 split
 ·rfl
 ·have:=hs i hi
  unfold e1
  rw[aF #[],dI]
theorem Ok.earned(o:L.Ok s)(hs:∀i,i<L.m->s i<L.n+L.m)(hb:L.be L.m=0):(sm L.n λj=>spr L.m s (λi=>L.T s i L.be) j*L.a j L.m)=-L.T s L.m L.be:=by
 have h:=o.by_cols hs L.be (r:=L.m) #[]
 rw[aJ rfl,Ok.no_spare hs,hb,dI]at h
 omega
theorem goal_of(y:Nat->Int):L.T s L.m y=(sm L.m λk=>y k*L.T s L.m (e1 k))+y L.m*L.D s:=by
 rw[L.T_lin #[] y]
 show sm L.m _+y L.m*L.T s L.m (e1 L.m)=_
 rw[L.last_own]
theorem Ok.ways_row(o:L.Ok s)(hs:∀i,i<L.m->s i<L.n+L.m){r:Nat}(l:∀i,i<L.m->L.T s i (L.cv c)<=0)(hr:r<L.m):(sm L.n λj=>(spr L.m s (λi=>-L.T s i (L.cv c)) j+if j=c then L.D s else 0)*L.a j r)<=0:=by
 have h:=o.by_cols hs (L.cv c) (r:=r) #[]
 rw[aF #[]]at h
 have B:(sm L.m λi=>if s i<L.n then 0 else L.T s i (L.cv c)*e1 (s i-L.n) r)<=0:=by
  have:=Hv (n:=L.m) (f:=λi=>-(if s i<L.n then 0 else L.T s i (L.cv c)*e1 (s i-L.n) r)) λi hi=>by
   split
   ·decide
   ·have h1:=l i hi
    unfold e1
    split<;>omega
  have e:(sm L.m λi=>-(if s i<L.n then 0 else L.T s i (L.cv c)*e1 (s i-L.n) r))=-sm L.m λi=>if s i<L.n then 0 else L.T s i (L.cv c)*e1 (s i-L.n) r:=by
   have:=sm_mul (-1) L.m (λi=>if s i<L.n then 0 else L.T s i (L.cv c)*e1 (s i-L.n) r)
   rw[←Int.neg_one_mul,←this]
   exact iM λi _=>by rw[Int.neg_one_mul]
  omega
 have x:(sm L.n λj=>(spr L.m s (λi=>-L.T s i (L.cv c)) j+if j=c then L.D s else 0)*L.a j r)=-(sm L.n λj=>spr L.m s (λi=>L.T s i (L.cv c)) j*L.a j r)+(if c<L.n then L.D s*L.a c r else 0):=by
  have C:(sm L.n λj=>(spr L.m s (λi=>-L.T s i (L.cv c)) j+if j=c then L.D s else 0)*L.a j r)=sm L.n λj=>(-1)*(spr L.m s (λi=>L.T s i (L.cv c)) j*L.a j r)+(if j=c then L.D s*L.a j r else 0):=iM λj _=>by
   have:spr L.m s (λi=>-L.T s i (L.cv c)) j=-spr L.m s (λi=>L.T s i (L.cv c)) j:=by
    unfold spr
    rw[←Int.neg_one_mul,←sm_mul]
    exact iM λi _=>by
     by_cases z:s i=j
     ·rw[aJ z,aJ z];exact(Int.neg_one_mul _).symm
     ·rw[aF z,aF z];rfl
   rw[this]
   split<;>grind
  rw[C,Ua,sm_mul]
  by_cases q:c<L.n
  ·rw[aJ q,oP (p:=c) q (λk _ hk=>aF hk),aJ rfl];omega
  ·rw[aF q,kN (λk hk=>aF #[])];omega
 rw[x]
 unfold cv at h
 by_cases q:c<L.n
 ·rw[aJ q]
  simp only[aJ q]at h
  unfold cv at B⊢
  simp only[aJ q]at B⊢
  omega
 ·rw[aF q]
  simp only[aF q]at h
  unfold cv at B⊢
  simp only[aF q]at B⊢
  have:0<=L.D s*e1 (c-L.n) r:=by
   refine dY (bW o.pos) ?_
   unfold e1;split<;>decide
  omega
theorem Ok.ways_goal(o:L.Ok s)(hs:∀i,i<L.m->s i<L.n+L.m)(hc:c<L.n+L.m):(sm L.n λj=>(spr L.m s (λi=>-L.T s i (L.cv c)) j+if j=c then L.D s else 0)*L.a j L.m)=L.T s L.m (L.cv c):=by
 have h:=o.by_cols hs (L.cv c) (r:=L.m) #[]
 rw[aJ rfl,Ok.no_spare hs]at h
 have C:(sm L.n λj=>(spr L.m s (λi=>-L.T s i (L.cv c)) j+if j=c then L.D s else 0)*L.a j L.m)=sm L.n λj=>(-1)*(spr L.m s (λi=>L.T s i (L.cv c)) j*L.a j L.m)+(if j=c then L.D s*L.a j L.m else 0):=iM λj _=>by
  have:spr L.m s (λi=>-L.T s i (L.cv c)) j=-spr L.m s (λi=>L.T s i (L.cv c)) j:=by
   unfold spr
   rw[←Int.neg_one_mul,←sm_mul]
   exact iM λi _=>by
    by_cases z:s i=j
    ·rw[aJ z,aJ z];exact(Int.neg_one_mul _).symm
    ·rw[aF z,aF z];rfl
  rw[this]
  split<;>grind
 rw[C,Ua,sm_mul]
 by_cases q:c<L.n
 ·rw[oP (p:=c) q (λk _ hk=>aF hk),aJ rfl]
  have e:L.cv c L.m=L.a c L.m:=by unfold cv;rw[aJ q]
  rw[e]at h
  omega
 ·rw[kN (λk hk=>aF #[])]
  have e:L.cv c L.m=0:=by unfold cv;rw[aF q];unfold e1;rw[aF #[]]
  rw[e,dI]at h
  omega
noncomputable def ins0(L:Lpd):Nat->Nat:=λi=>L.n+i
theorem B_start:∀i,L.B L.ins0 i=Im i:=λi=>by
 unfold B ins0 cv
 by_cases h:i<L.m
 ·rw[aJ h,aF #[]]
  show e1 (L.n+i-L.n)=e1 i
  rw[show L.n+i-L.n=i by omega]
 ·rw[aF h];rfl
theorem Fb:L.B L.ins0=Im:=funext B_start
theorem jXz(h:L.fl=false):L.D L.ins0=1:=by unfold D;rw[Fb,Lh];unfold sg;rw[h];rfl
theorem T_start(h:L.fl=false)(hi:i<L.m+1)(y:Nat->Int):L.T L.ins0 i y=y i:=by
 unfold T;rw[Fb,Tt_one hi];unfold sg;rw[h];exact fY _
theorem Okn.start(h:L.fl=false):L.Okn L.ins0:=#[by rw[jXz h];decide,by rw[Fb];exact Cr_one]
theorem Okx.start(hf:L.fl=false)(hb:∀i,i<L.m->0<=L.be i):L.Okx L.ins0:=by
 refine#[?_,?_,λi hi=>?_]
 ·rw[jXz hf];decide
 ·rw[Fb];exact Cr_one
 ·have e:∀y,L.T L.ins0 i y=y i:=λy=>T_start hf #[] y
  have one:∀l:List Nat,i+1∈l->(∀p∈l,p=0->0<=L.be i)->lp (λp=>L.T L.ins0 i (L.li p)) l:=λl=>by
   induction l with
   |nil=>intro h;cases h
   |cons p r ih=>
    intro h1 h2
    show 0<L.T L.ins0 i (L.li p)∨(L.T L.ins0 i (L.li p)=0/\_)
    rw[e]
    by_cases hp:p=0
    ·have O:L.li p=L.be:=by unfold li;rw[aJ hp]
     rw[O]
     have a:=hb i hi
     by_cases A:L.be i=0
     ·exact .inr #[A,ih (by rcases dW.mp h1 with q |q;omega;exact q) λp hp=>h2 p (bI _ hp)]
     ·left;omega
    ·have O:L.li p=e1 (p-1):=by unfold li;rw[aF hp]
     rw[O]
     unfold e1
     by_cases q:i=p-1
     ·rw[aJ q];left;decide
     ·rw[aF q]
      exact .inr #[rfl,ih (by rcases dW.mp h1 with q' |q';omega;exact q') λp hp=>h2 p (bI _ hp)]
  unfold ls
  exact one _ (fC.mpr #[]) λ_ _ _=>hb i hi
noncomputable def flip(L:Lpd):Lpd:={ L with fl:=!L.fl }
theorem jXc:L.flip.sg=-L.sg:=by
 unfold sg flip
 cases L.fl<;>rfl
theorem Mc{y:Nat->Int}:L.flip.T s i y=-L.T s i y:=by
 show L.flip.sg*_=_
 rw[jXc,Int.neg_mul];rfl
theorem flip_D:L.flip.D s=-L.D s:=by
 show L.flip.sg*_=_
 rw[jXc,Int.neg_mul];rfl
theorem jW8(o:L.Okn s):L.flip.Okn s:=#[by rw[flip_D];have:=o.ne;omega,o.cr]
end Lpd
noncomputable def ofF{d:Type}(n:Nat)(f:Nat->d):List d:=(List.range n).map f
theorem bH(n:Nat)(f:Nat->d):(ofF n f).length=n:=by unfold ofF;rw[aA,gQ]
theorem fK{n:Nat}(f:Nat->d)(h:k<n):(ofF n f)[k]?=some (f k):=by unfold ofF;rw[aY,List.getElem?_range h];rfl
theorem fR{n:Nat}{f:Nat->d}{x:d}(h:(ofF n f)[k]?=some x):k<n/\x=f k:=by
 have hk:k<n:=by have:=(aK.mp h).1;rwa [bH]at this
 rw[fK f hk]at h
 exact#[hk,(aV h).symm]
theorem fL(n:Nat)(f:Nat->d):ofF (n+1) f=ofF n f++[f n]:=by unfold ofF;rw[gO,aX];rfl
theorem kW{n:Nat}{f:Nat->d}{x:d}(h:x∈ofF n f):∃k,k<n/\x=f k:=by
 obtain⟨k,hk,e⟩:=dD.mp h
 exact#[k,fC.mp hk,e.symm]
theorem jB{n:Nat}{f g:Nat->d}(h:∀k,k<n->f k=g k):ofF n f=ofF n g:=hE λk hk=>h k (fC.mp hk)
theorem jZ8(n:Nat)(f:Nat->Int):(ofF n f).sum=sm n f:=by
 induction n with
 |zero=>rfl
 |succ n ih=>rw[fL,List.sum_append,ih];show sm n f+(f n+0)=sm n f+f n;rw[Int.add_zero]
theorem ofF_set{n:Nat}{f:Nat->Int}{v:Int}:(ofF n f).set i v=ofF n λk=>if k=i then v else f k:=by
 apply List.ext_getElem?
 intro k
 rw[getElem?_set]
 by_cases hk:k<n
 ·rw[fK (λk=>if k=i then v else f k) hk]
  by_cases e:i=k
  ·rw[aJ e,aJ (by rw[bH];omega),aJ e.symm]
  ·rw[aF e,aF (Ne.symm e),fK _ hk]
 ·rw[cM (l:=ofF n λk=>if k=i then v else f k) (by rw[bH];omega)]
  by_cases e:i=k
  ·rw[aJ e,aF (by rw[bH];omega)]
  ·rw[aF e,cM (by rw[bH];omega)]
theorem iF{l:List Int}{x:Int}(h:l[i]?=some x):l.getD i 0=x:=by rw[aR,h];rfl
theorem Zm:∀{l:List Int}{p:Nat},(∀x∈l,BB p x)->BB (p+l.length) l.sum
 | [],p,_=>by show(0:Int).natAbs<_;exact dR _
 |a::r,p,h=>by
  have i:=Zm (l:=r) (p:=p) λx hx=>h x (bI _ hx)
  have ha:=(h a bT).mono (show p<=p+r.length by omega)
  rw[List.sum_cons,cZ]
  exact(ha.add i).mono #[]
namespace Lpd
noncomputable def colL(L:Lpd)(j:Nat):List Int:=ofF (L.m+1) (L.a j)
noncomputable def keptL(L:Lpd)(s:Nat->Nat)(i:Nat):List Int:=ofF (L.m+1) (λk=>L.T s i (e1 k))++[L.T s i L.be]
noncomputable def numL(L:Lpd)(s:Nat->Nat)(c:Nat):List Int:=ofF (L.m+1) λi=>L.T s i (L.cv c)
noncomputable def insL(L:Lpd)(s:Nat->Nat):List Int:=ofF L.m λi=>(s i:Int)
structure Lim(L:Lpd):Prop where
 m1:L.m<=100
 n1:L.n<=100
 ba:∀j k,j<L.n->k<=L.m->BB 20000 (L.a j k)
 bc:∀s i c,L.Okn s->i<=L.m->BB 20000 (L.T s i (L.cv c))
 bk:∀s i k,L.Okn s->i<=L.m->k<=L.m->BB 20000 (L.T s i (e1 k))
 bb:∀s i,L.Okn s->i<=L.m->BB 20000 (L.T s i L.be)
 bD:∀s,L.Okn s->BB 9000 (L.D s)
theorem keptL_length(L:Lpd)(s:Nat->Nat)(i:Nat):(L.keptL s i).length=L.m+2:=by unfold keptL;rw[bC,bH];rfl
theorem keptL_get(L:Lpd)(s:Nat->Nat)(i:Nat)(h:k<=L.m):(L.keptL s i)[k]?=some (L.T s i (e1 k)):=by
 unfold keptL;rw[bV (by rw[bH];omega),fK _ #[]]
theorem keptL_last(L:Lpd)(s:Nat->Nat)(i:Nat):(L.keptL s i)[L.m+1]?=some (L.T s i L.be):=by
 unfold keptL;rw[bO (by rw[bH];omega),bH,fZ];rfl
theorem Lim.kept{L:Lpd}(h:L.Lim)(o:L.Okn s)(hi:i<=L.m):∀x∈L.keptL s i,BB 20000 x:=λx hx=>by
 unfold keptL at hx
 rcases cR.mp hx with hx |hx
 ·obtain⟨k,hk,rfl⟩:=kW hx
  exact h.bk s i k o hi #[]
 ·rw[bX.mp hx];exact h.bb s i o hi
theorem T_prod(L:Lpd)(s:Nat->Nat)(hi:i<=L.m)(P:j<L.n):(sm (L.m+1) λk=>L.a j k*L.T s i (e1 k))=L.T s i (L.cv j):=by
 have e:L.cv j=L.a j:=by unfold cv;rw[aJ P]
 rw[e]
 exact(L.T_lin #[] _).symm
theorem cv_spare(L:Lpd)(k:Nat):L.cv (L.n+k)=e1 k:=by
 unfold cv;rw[aF #[],show L.n+k-L.n=k by omega]
theorem Okn.inj{L:Lpd}{s:Nat->Nat}(o:L.Okn s){i j:Nat}(hi:i<L.m)(P:j<L.m)(h:i≠j):s i≠s j:=λe=>by
 have h1:=L.own (s:=s) hi
 have h2:L.T s i (L.cv (s j))=0:=L.other #[] P h
 rw[←e,h1]at h2
 exact o.ne h2
theorem Ok.inj{L:Lpd}{s:Nat->Nat}(o:L.Ok s){i j:Nat}(hi:i<L.m)(P:j<L.m)(h:i≠j):s i≠s j:=o.n.inj hi P h
theorem lx_lp{L:Lpd}{r:Nat}{x y:List Int}(hx:∀k,k<=L.m->x.getD k 0=L.T s r (e1 k))(b:x.getD (L.m+1) 0=L.T s r L.be)(f:x.getD (L.m+2) 0=L.T s r (L.cv c))
  (d:∀k,k<=L.m->y.getD k 0=L.T s i (e1 k)) (g:y.getD (L.m+1) 0=L.T s i L.be) (n:y.getD (L.m+2) 0=L.T s i (L.cv c))
  (h:lx x y (L.m+2) ((L.m+1)::List.range L.m)≠some false):¬lp (λp=>-(L.T s i (L.li p)*L.T s r (L.cv c)-L.T s r (L.li p)*L.T s i (L.cv c))) L.ls:=by
 have key:∀l:List Nat,(∀p∈l,p<=L.m)->∀v:List Nat,v=l.map (λp=>if p=0 then L.m+1 else p-1)->lp (λp=>-(L.T s i (L.li p)*L.T s r (L.cv c)-L.T s r (L.li p)*L.T s i (L.cv c))) l->lx x y (L.m+2) v=some false:=by
  intro l
  induction l with
  |nil=>intro _ v _ h;exact h.elim
  |cons p t ih=>
   rintro Y v rfl hp
   have N:=ih (λq J=>Y q (bI _ J)) _ rfl
   have a:=Y p bT
   have ex:x.getD (if p=0 then L.m+1 else p-1) 0=L.T s r (L.li p):=by
    unfold li
    by_cases e:p=0
    ·rw[aJ e,aJ e,b]
    ·rw[aF e,aF e,hx _ #[]]
   have B:y.getD (if p=0 then L.m+1 else p-1) 0=L.T s i (L.li p):=by
    unfold li
    by_cases e:p=0
    ·rw[aJ e,aJ e,g]
    ·rw[aF e,aF e,d _ #[]]
   rw[bR]
   unfold lx
   rw[ex,B,f,n]
   rcases hp with hp |⟨hp,j⟩
   ·have hp:0< -(L.T s i (L.li p)*L.T s r (L.cv c)-L.T s r (L.li p)*L.T s i (L.cv c)):=hp
    rw[aF #[],decide_eq_false #[]]
   ·have hp:-(L.T s i (L.li p)*L.T s r (L.cv c)-L.T s r (L.li p)*L.T s i (L.cv c))=0:=hp
    rw[aJ #[]]
    exact N j
 intro z
 refine h (key L.ls (λp hp=>?_) _ ?_ z)
 ·have:=fC.mp hp;omega
 ·unfold ls
  rw[List.range_succ_eq_map,bR,List.map_map]
  show _=(L.m+1)::_
  congr 1
  conv=>lhs;rw[←List.map_id (List.range L.m)]
  exact hE λk _=>by show k=if Nat.succ k=0 then L.m+1 else Nat.succ k-1;rw[aF #[]];rfl
end Lpd
noncomputable def Ro(row:List Int)(w:Nat):Prop:=row.length=w/\∀m∈row,BB 20000 m
noncomputable def mn(t i:Addr)(H:Hp):Hp:=λx=>if x=t∨x=i then none else H x
theorem lM{t i:Addr}:aP (mn t i H) H:=λb o e=>by
 unfold mn at e
 split at e
 ·cases e
 ·exact e
theorem iO{t i:Addr}(s:aP H H'):aP (mn t i H) (mn t i H'):=λb o e=>by
 unfold mn at e⊢
 split at e
 ·cases e
 ·rename_i h;rw[aF h];exact s b o e
theorem xU{t i x:Addr}(h:H x=some o)(h1:x≠t)(h2:x≠i):mn t i H x=some o:=by
 unfold mn;rw[aF (λz=>z.elim h1 h2)];exact h
theorem nY{t i x:Addr}(h:x=t∨x=i):mn t i (upd H x o)=mn t i H:=by
 funext b
 unfold mn
 by_cases hb:b=t∨b=i
 ·rw[aJ hb,aJ hb]
 ·rw[aF hb,aF hb,bY (λe=>hb (by rw[e];exact h))]
theorem eG.mn{t i:Addr}:∀{ps:List Addr}{X:List (List Int)},t∉ps->i∉ps->eG H ps X->eG (mn t i H) ps X
 | [],[],_,_,_=>trivial
 |p::ps,r::X,h1,h2,h=>#[xU h.1 (λe=>h1 (by rw[e];exact bT)) (λe=>h2 (by rw[e];exact bT)),eG.mn (λz=>h1 (bI _ z)) (λz=>h2 (bI _ z)) h.2]
 | [],_::_,_,_,h=>h.elim
 |_::_,[],_,_,h=>h.elim
noncomputable def cfl(b sp k i:Addr):List (Str×V):=gY "inside" (.ref i) (gY "kept" (.ref k) (gY "spans" (.ref sp) (gY "begun" (.ref b) [])))
theorem mQ(b sp k i:Addr):(cfl b sp k i).lookup ("begun":Str)=some (.ref b):=rfl
theorem Be(b sp k i:Addr):(cfl b sp k i).lookup ("spans":Str)=some (.ref sp):=rfl
theorem jT(b sp k i:Addr):(cfl b sp k i).lookup ("kept":Str)=some (.ref k):=rfl
theorem oC(b sp k i:Addr):(cfl b sp k i).lookup ("inside":Str)=some (.ref i):=rfl
theorem jXm(b sp k i d:Addr):gY "kept" (.ref d) (cfl b sp k i)=cfl b sp d i:=rfl
structure nV(K:aO)(H:Hp)(t ins:Addr)(L:Lpd)(s:Nat->Nat)(dx b sp k:Addr)(bs:List Addr)(ss:List Int)(ks:List Addr):Prop where
 ob:H t=some (.ins (eE K "Corner") dx (cfl b sp k ins))
 hb:mn t ins H b=some (.lst (List.map V.ref bs))
 hbs:eG (mn t ins H) bs (ofF L.n L.colL)
 hs:mn t ins H sp=some (.lst (List.map V.int ss))
 sl:ss.length=L.n+L.m
 sb:∀x∈ss,BB 30000 x
 hk:mn t ins H k=some (.lst (List.map V.ref ks))
 hks:eG (mn t ins H) ks (ofF (L.m+1) (L.keptL s))
 hi:H ins=some (.lst (List.map V.int (L.insL s)))
noncomputable def iR(K:aO)(H:Hp)(t ins:Addr)(L:Lpd)(s:Nat->Nat):Prop:=∃f b sp k bs v ks,nV K H t ins L s f b sp k bs v ks
section
variable{K:aO}{H H':Hp}{t ins:Addr}{L:Lpd}{s:Nat->Nat}{dx b sp k:Addr}{bs:List Addr}{ss:List Int}{ks:List Addr}
theorem nV.same(h:nV K H t ins L s dx b sp k bs ss ks)(e:aP H H'):nV K H' t ins L s dx b sp k bs ss ks:=
 #[e _ _ h.ob,iO e _ _ h.hb,h.hbs.same (iO e),iO e _ _ h.hs,h.sl,h.sb,iO e _ _ h.hk,h.hks.same (iO e),e _ _ h.hi]
theorem iR.same(h:iR K H t ins L s)(e:aP H H'):iR K H' t ins L s:=let⟨dx,b,sp,k,bs,ss,ks,c⟩:=h;#[dx,b,sp,k,bs,ss,ks,c.same e]
theorem nV.B(h:nV K H t ins L s dx b sp k bs ss ks):H b=some (.lst (List.map V.ref bs)):=lM _ _ h.hb
theorem nV.Bs(h:nV K H t ins L s dx b sp k bs ss ks):eG H bs (ofF L.n L.colL):=h.hbs.same lM
theorem nV.S(h:nV K H t ins L s dx b sp k bs ss ks):H sp=some (.lst (List.map V.int ss)):=lM _ _ h.hs
theorem nV.Kp(h:nV K H t ins L s dx b sp k bs ss ks):H k=some (.lst (List.map V.ref ks)):=lM _ _ h.hk
theorem nV.Ks(h:nV K H t ins L s dx b sp k bs ss ks):eG H ks (ofF (L.m+1) (L.keptL s)):=h.hks.same lM
theorem nV.bl(h:nV K H t ins L s dx b sp k bs ss ks):bs.length=L.n:=by rw[h.hbs.length,bH]
theorem nV.kl(h:nV K H t ins L s dx b sp k bs ss ks):ks.length=L.m+1:=by rw[h.hks.length,bH]
theorem nV.row(h:nV K H t ins L s dx b sp k bs ss ks)(hi:i<=L.m):∃p,ks[i]?=some p/\atI (List.map V.ref ks) (i:Int)=some (.ref p)/\H p=some (.lst (List.map V.int (L.keptL s i))):=by
 have Y:=h.kl
 obtain⟨p,hp⟩:∃p,ks[i]?=some p:=#[_,aD #[]]
 obtain⟨r,e1,C⟩:=h.Ks.get hp
 obtain⟨_,rfl⟩:=fR e1
 exact#[p,hp,gM (by rw[aY,hp];rfl),C]
theorem nV.last(h:nV K H t ins L s dx b sp k bs ss ks):∃p,ks[L.m]?=some p/\atI (List.map V.ref ks) (-1)=some (.ref p)/\H p=some (.lst (List.map V.int (L.keptL s L.m))):=by
 have Y:=h.kl
 obtain⟨p,hp,_,e⟩:=h.row (aM L.m)
 exact#[p,hp,qS (by rw[aA,Y,aY,show L.m+1-1=L.m by omega,hp];rfl),e]
theorem nV.col(h:nV K H t ins L s dx b sp k bs ss ks)(P:j<L.n):∃p,bs[j]?=some p/\atI (List.map V.ref bs) (j:Int)=some (.ref p)/\H p=some (.lst (List.map V.int (L.colL j))):=by
 have Y:=h.bl
 obtain⟨p,hp⟩:∃p,bs[j]?=some p:=#[_,aD #[]]
 obtain⟨r,e1,C⟩:=h.Bs.get hp
 obtain⟨_,rfl⟩:=fR e1
 exact#[p,hp,gM (by rw[aY,hp];rfl),C]
end
noncomputable def Eb(K:aO)(H:Hp)(t ins:Addr)(L:Lpd)(s:Nat->Nat)(f:Addr):Prop:=∃a b sp k bs v ks,nV K H t ins L s a b sp k bs v ks/\f≠b/\f≠sp/\f≠k/\f∉bs/\f∉ks
section
variable{K:aO}{H H':Hp}{t ins f:Addr}{L:Lpd}{s:Nat->Nat}{dx b sp k:Addr}{bs:List Addr}{ss:List Int}{ks:List Addr}
theorem Eb.at(h:Eb K H t ins L s f):iR K H t ins L s:=let⟨dx,b,sp,k,bs,ss,ks,c,_⟩:=h;#[dx,b,sp,k,bs,ss,ks,c]
theorem Eb.same(h:Eb K H t ins L s f)(e:aP H H'):Eb K H' t ins L s f:=let⟨dx,b,sp,k,bs,ss,ks,c,r⟩:=h;#[dx,b,sp,k,bs,ss,ks,c.same e,r]
theorem Jt{xs ys:List Addr}(h:List.map V.ref xs=List.map V.ref ys):xs=ys:=(List.map_inj_right (λa b h=>by injection h)).mp h
theorem Eb.of(h:Eb K H t ins L s f)(P:nV K H t ins L s dx b sp k bs ss ks):f≠b/\f≠sp/\f≠k/\f∉bs/\f∉ks:=by
 obtain⟨l,i,a,d,g,m,j,c,r⟩:=h
 have e:=aV (c.ob.symm.trans P.ob)
 injection e with _ _ e
 have e1:i=b:=by have:=congrArg (List.lookup ("begun":Str)) e;rw[mQ,mQ]at this;injection this with this;injection this
 have C:a=sp:=by have:=congrArg (List.lookup ("spans":Str)) e;rw[Be,Be]at this;injection this with this;injection this
 have T:d=k:=by have:=congrArg (List.lookup ("kept":Str)) e;rw[jT,jT]at this;injection this with this;injection this
 subst e1 C T
 have n:g=bs:=by have:=aV (c.hb.symm.trans P.hb);injection this with this;exact Jt this
 have u:j=ks:=by have:=aV (c.hk.symm.trans P.hk);injection this with this;exact Jt this
 subst n u
 exact r
theorem iR.fresh(h:iR K H t ins L s)(hf:H f=none):Eb K H t ins L s f:=by
 obtain⟨dx,b,sp,k,bs,ss,ks,P⟩:=h
 have n:∀{a:Addr}{o:HO},H a=some o->f≠a:=λe z=>by rw[←z,hf]at e;cases e
 refine#[dx,b,sp,k,bs,ss,ks,P,n P.B,n P.S,n P.Kp,λhm=>?_,λhm=>?_]
 ·obtain⟨_,_,e⟩:=P.Bs.has hm;rw[hf]at e;cases e
 ·obtain⟨_,_,e⟩:=P.Ks.has hm;rw[hf]at e;cases e
theorem Aq{x:Addr}(h1:x≠t)(h2:x≠ins):mn t ins (upd H x o)=upd (mn t ins H) x o:=by
 funext y
 unfold mn
 by_cases e:y=x
 ·rw[e,aF (λz=>z.elim h1 h2),aI,aI]
 ·rw[bY e,bY e]
theorem Eb.upd(h:Eb K H t ins L s f)(h1:f≠t)(h2:f≠ins):Eb K (L2.upd H f o) t ins L s f:=by
 obtain⟨dx,b,sp,k,bs,ss,ks,P,n1,n2,g,c,a⟩:=h
 refine#[dx,b,sp,k,bs,ss,ks,#[?_,?_,?_,?_,P.sl,P.sb,?_,?_,?_],n1,n2,g,c,a]
 ·rw[bY h1.symm];exact P.ob
 ·rw[Aq h1 h2,bY n1.symm];exact P.hb
 ·rw[Aq h1 h2];exact P.hbs.put c
 ·rw[Aq h1 h2,bY n2.symm];exact P.hs
 ·rw[Aq h1 h2,bY g.symm];exact P.hk
 ·rw[Aq h1 h2];exact P.hks.put a
 ·rw[bY h2.symm];exact P.hi
end
noncomputable def lo2(t b:Int):Int×Int:=(t.fdiv (Int.gcd t b:Nat),b.fdiv (Int.gcd t b:Nat))
theorem eK{t b:Int}(hb:0<b):Lo t b (lo2 t b).1 (lo2 t b).2:=Zq hb
theorem Lo.uniq{t b x y O o:Int}(hb:0<b)(h:Lo t b x y)(h':Lo t b O o):x=O/\y=o:=by
 have e:x*o=O*y:=by
  apply Int.eq_of_mul_eq_mul_left (show b≠0 by omega)
  have h1:=h.eq
  have h2:=h'.eq
  have:b*(x*o)=(x*b)*o:=by ac_rfl
  rw[this,h1]
  have:b*(O*y)=(O*b)*y:=by ac_rfl
  rw[this,h2];ac_rfl
 have i:y∣o:=by
  have:y∣x*o:=#[O,by rw[e,gR]]
  exact Int.natAbs_dvd_natAbs.mp (Nat.Coprime.dvd_of_dvd_mul_left (m:=x.natAbs) (Nat.Coprime.symm h.cop) (by rw[←cH];exact Int.natAbs_dvd_natAbs.mpr this))
 have c:o∣y:=by
  have:o∣O*y:=#[x,by rw[←e,gR]]
  exact Int.natAbs_dvd_natAbs.mp (Nat.Coprime.dvd_of_dvd_mul_left (m:=O.natAbs) (Nat.Coprime.symm h'.cop) (by rw[←cH];exact Int.natAbs_dvd_natAbs.mpr this))
 have w:=Int.le_of_dvd h'.pos i
 have n:=Int.le_of_dvd h.pos c
 have B:y=o:=#[]
 subst B
 exact#[eW (Int.ne_of_gt h.pos) e,rfl]
theorem Lo.is{t b x y:Int}(hb:0<b)(h:Lo t b x y):(x,y)=lo2 t b:=by
 obtain⟨e1,C⟩:=h.uniq hb (eK hb)
 rw[e1,C]
theorem Lo.bb{t b x y:Int}{n:Nat}(h:Lo t b x y)(a:BB m t)(hb:BB n b):BB m x/\BB n y:=#[a.of_le h.bx,hb.of_le h.by_]
noncomputable def mx1(g:Int):Int:=if 1>g then 1 else g
theorem Ap(g:Int):0<mx1 g:=by unfold mx1;split<;>omega
noncomputable def whF(fs:fP):Int×Int:=lo2 (lc fs) (mx1 (gl (clr fs)))
noncomputable def whL(fs:fP):List Int:=vM (clr fs)
theorem kF(fs:fP):(whL fs).length=fs.length:=by unfold whL clr;rw[Ce,aA]
theorem iY{fs:fP}(h:∀f∈fs,0<f.2):0<(whF fs).1/\0<(whF fs).2:=by
 have l:=eK (t:=lc fs) (Ap (gl (clr fs)))
 refine#[?_,l.pos]
 have e:=l.eq
 have h1:=Ma h
 have h2:0<lc fs*(lo2 (lc fs) (mx1 (gl (clr fs)))).2:=bK h1 l.pos
 rw[←e]at h2
 exact Classical.byContradiction λz=>by
  have:=Int.mul_nonpos_of_nonpos_of_nonneg (a:=(lo2 (lc fs) (mx1 (gl (clr fs)))).1) (b:=mx1 (gl (clr fs))) (by unfold whF at z;omega) (bW (Ap _))
  omega
theorem Tv{fs:fP}(h:∀f∈fs,0<f.2)(hf:fs[i]?=some f):(whL fs).getD i 0*(f.2*(whF fs).2)=f.1*(whF fs).1:=by
 obtain⟨t,e1,C⟩:=Od (jXk hf)
 have T:(whL fs).getD i 0=t:=iF e1
 rw[T]
 have C:t*mx1 (gl (clr fs))=f.1*((lc fs).fdiv f.2):=C
 have l:=(eK (t:=lc fs) (Ap (gl (clr fs)))).eq
 have c:=Zv h (aL hf)
 have s:=Ap (gl (clr fs))
 show t*(f.2*(lo2 (lc fs) (mx1 (gl (clr fs)))).2)=f.1*(lo2 (lc fs) (mx1 (gl (clr fs)))).1
 generalize (lo2 (lc fs) (mx1 (gl (clr fs)))).1=X at*
 generalize (lo2 (lc fs) (mx1 (gl (clr fs)))).2=Y at*
 generalize mx1 (gl (clr fs))=g at*
 generalize (lc fs).fdiv f.2=q at*
 apply Int.eq_of_mul_eq_mul_left (show g≠0 by omega)
 have U:g*(t*(f.2*Y))=(t*g)*f.2*Y:=by ac_rfl
 have G:g*(f.1*X)=f.1*(X*g):=by ac_rfl
 rw[U,C,c,G,l];ac_rfl
noncomputable def G9(f:Int×Int):Prop:=0<f.2/\BB 20000 f.1/\BB 9000 f.2
noncomputable def Sb(t:Addr)(H H':Hp):Prop:=∀b o,H b=some o->b≠t->H' b=some o
noncomputable def IsI(H:Hp)(t:Addr):Prop:=∃C f fs,H t=some (.ins C f fs)
theorem Sb.of{t:Addr}(s:aP H H'):Sb t H H':=λb o e _=>s b o e
theorem Sb.trans{t:Addr}{d:Hp}(a:Sb t H H')(b:Sb t H' d):Sb t H d:=λc o e hc=>b c o (a c o e hc) hc
theorem Sb.at{t:Addr}:Sb t H (upd H t o):=λb u e hb=>by rw[bY hb];exact e
theorem Sb.lst{t a:Addr}{H H':Hp}{xs:List V}(s:Sb t H H')(i:IsI H t)(h:H a=some (.lst xs)):H' a=some (.lst xs):=by
 obtain⟨C,f,fs,e⟩:=i
 exact s a _ h (kU h e (by intro z;cases z))
theorem Sb.rws{t:Addr}(s:Sb t H H')(i:IsI H t):∀{ps:List Addr}{X:List (List Int)},eG H ps X->eG H' ps X
 | [],[],_=>trivial
 |_::_,_::_,h=>#[s.lst i h.1,s.rws i h.2]
 | [],_::_,h=>h.elim
 |_::_,[],h=>h.elim
theorem Sb.free{t d:Addr}(s:Sb t H H')(h:H' d=none)(n:d≠t):H d=none:=by
 cases e:H d with
 |none=>rfl
 |some o=>have:=s d o e n;rw[h]at this;cases this
theorem eG.notI{t:Addr}(h:eG H ps X)(i:IsI H t):t∉ps:=λhm=>by
 obtain⟨C,f,fs,e⟩:=i
 obtain⟨_,_,a⟩:=h.has hm
 rw[e]at a;cases a
theorem eG.notN{t:Addr}(h:eG H ps X)(i:H t=none):t∉ps:=λhm=>by
 obtain⟨_,_,C⟩:=h.has hm
 rw[i]at C;cases C
noncomputable def xO(K:aO)(H:Hp):List Addr->jA->Prop
 | [],[]=>True
 |p::ps,r::rs=>(∃qs,H p=some (.lst (List.map V.ref qs))/\eC K H qs r)/\xO K H ps rs
 |_,_=>False
theorem xO.same(s:aP H H'):∀{ps:List Addr}{X:jA},xO K H ps X->xO K H' ps X
 | [],[],_=>trivial
 |_::_,_::_,h=>#[let⟨qs,a,b⟩:=h.1;#[qs,s _ _ a,b.same s],h.2.same s]
 | [],_::_,h=>h.elim
 |_::_,[],h=>h.elim
theorem xO.length:∀{ps:List Addr}{X:jA},xO K H ps X->ps.length=X.length
 | [],[],_=>rfl
 |_::_,_::_,h=>by rw[cZ,cZ,h.2.length]
 | [],_::_,h=>h.elim
 |_::_,[],h=>h.elim
theorem xO.get{K:aO}{H:Hp}:∀{ps:List Addr}{X:jA}{i:Nat}{p:Addr},xO K H ps X->ps[i]?=some p->∃r qs,X[i]?=some r/\H p=some (.lst (List.map V.ref qs))/\eC K H qs r
 | [],[],_,_,_,e=>by simp at e
 |_::_,r::_,0,_,h,e=>by simp at e;subst e;obtain⟨qs,a,b⟩:=h.1;exact#[r,qs,rfl,a,b]
 |_::_,_::_,i+1,_,h,e=>by
  obtain⟨f,qs,e1,C⟩:=h.2.get (i:=i) (by simpa using e)
  exact#[f,qs,by simpa using e1,C]
 | [],_::_,_,_,h,_=>h.elim
 |_::_,[],_,_,h,_=>h.elim
theorem xO.append{qs:List Addr}{p:jA}(J:xO K H qs p):∀{ps:List Addr}{X:jA},xO K H ps X->xO K H (ps++qs) (X++p)
 | [],[],_=>J
 |_::_,_::_,h=>#[h.1,xO.append J h.2]
 | [],_::_,h=>h.elim
 |_::_,[],h=>h.elim
noncomputable def xR(H:Hp):List Addr->jA->Prop
 | [],[]=>True
 |p::ps,r::rs=>(∃f l,H p=some (.tup [.ref f,.ref l])/\H f=some (.tup [.int (whF r).1,.int (whF r).2])/\H l=some (.lst (List.map V.int (whL r))))/\xR H ps rs
 |_,_=>False
theorem xR.same(s:aP H H'):∀{ps:List Addr}{X:jA},xR H ps X->xR H' ps X
 | [],[],_=>trivial
 |_::_,_::_,h=>#[let⟨f,l,a,b,c⟩:=h.1;#[f,l,s _ _ a,s _ _ b,s _ _ c],h.2.same s]
 | [],_::_,h=>h.elim
 |_::_,[],h=>h.elim
theorem xR.length:∀{ps:List Addr}{X:jA},xR H ps X->ps.length=X.length
 | [],[],_=>rfl
 |_::_,_::_,h=>by rw[cZ,cZ,h.2.length]
 | [],_::_,h=>h.elim
 |_::_,[],h=>h.elim
theorem xR.get{H:Hp}:∀{ps:List Addr}{X:jA}{i:Nat}{p:Addr},xR H ps X->ps[i]?=some p->∃r f l,X[i]?=some r/\H p=some (.tup [.ref f,.ref l])/\H f=some (.tup [.int (whF r).1,.int (whF r).2])/\H l=some (.lst (List.map V.int (whL r)))
 | [],[],_,_,_,e=>by simp at e
 |_::_,r::_,0,_,h,e=>by simp at e;subst e;obtain⟨f,l,a,b,c⟩:=h.1;exact#[r,f,l,rfl,a,b,c]
 |_::_,_::_,i+1,_,h,e=>by
  obtain⟨r,f,l,e1,C⟩:=h.2.get (i:=i) (by simpa using e)
  exact#[r,f,l,by simpa using e1,C]
 | [],_::_,_,_,h,_=>h.elim
 |_::_,[],_,_,h,_=>h.elim
theorem xR.append{qs:List Addr}{p:jA}(J:xR H qs p):∀{ps:List Addr}{X:jA},xR H ps X->xR H (ps++qs) (X++p)
 | [],[],_=>J
 |_::_,_::_,h=>#[h.1,xR.append J h.2]
 | [],_::_,h=>h.elim
 |_::_,[],h=>h.elim
noncomputable def fov(f g:Int×Int):Int×Int:=lo2 (f.1*g.2) (f.2*g.1)
noncomputable def ftm(f g:Int×Int):Int×Int:=lo2 (f.1*g.1) (f.2*g.2)
noncomputable def bnF(frs:jA)(fb:fP):fP:=List.zipWith (λb r=>ftm b (whF r)) fb frs
noncomputable def bP(e:Bool)(frs:jA)(fb fg:fP):Lpd where
 m:=frs.length
 n:=fg.length
 a:=λj i=>if i<frs.length then(whL (frs.getD i [])).getD j 0 else-(whL fg).getD j 0
 be:=λi=>(whL (bnF frs fb)).getD i 0
 fl:=e
structure Fit(m n q:Nat):Prop where
 q1:1<=q
 m1:m<=100
 n1:n<=100
 le:min m n*q+q+(m+1)+(m+1)*(m+1)+1<=9000
structure BeO(frs:jA)(fb fg:fP):Prop where
 lr:∀r∈frs,r.length=fg.length
 lb:fb.length=frs.length
 gr:∀r∈frs,∀f∈r,G9 f
 gb:∀f∈fb,G9 f
 gg:∀f∈fg,G9 f
 cr:∀r∈frs,∀x∈clr r,BB 9000 x
 cg:∀x∈clr fg,BB 9000 x
 cb:∀x∈clr (bnF frs fb),BB 9000 x
 wr:∀r∈frs,BB 20000 (whF r).1/\BB 20000 (whF r).2
 wb:BB 20000 (whF (bnF frs fb)).1/\BB 20000 (whF (bnF frs fb)).2
 wg:BB 20000 (whF fg).1/\BB 20000 (whF fg).2
 tb:∀b∈fb,∀r∈frs,BB 9000 (b.2*(whF r).2)/\BB 20000 (b.1*(whF r).1)
 lim:∀e,(bP e frs fb fg).Lim
 ox:∀e s,(bP e frs fb fg).Okn s->BB 9000 ((bP e frs fb fg).D s*(whF (bnF frs fb)).1)
 oy:∀e s,(bP e frs fb fg).Okn s->∀r∈frs,BB 9000 ((bP e frs fb fg).D s*(whF r).2*(whF fg).1)/\∀k,k<frs.length->BB 20000 ((bP e frs fb fg).T s frs.length (e1 k)*(whF r).1)
 fit:∃q q',Fit frs.length fg.length q'/\q<=9000/\(∀k,40*2^k<q->40*2^k<=q')/\(∀j k,BB q ((bP false frs fb fg).a j k))/\∀k,BB q ((bP false frs fb fg).be k)
theorem jM{frs:jA}{fb:fP}(h:fb.length=frs.length):(bnF frs fb).length=frs.length:=by unfold bnF;rw[List.length_zipWith];omega
theorem vU{frs:jA}{fb:fP}{b:Int×Int}{r:fP}(h1:fb[i]?=some b)(h2:frs[i]?=some r):(bnF frs fb)[i]?=some (ftm b (whF r)):=by
 unfold bnF;rw[List.getElem?_zipWith,h1,h2]
theorem Lpd.out{L:Lpd}(h:L.T s L.m (L.cv c)<0)(hi:i<L.m):s i≠c:=λe=>by
 have:=L.other (s:=s) (i:=L.m) (j:=i) #[] hi #[]
 rw[e]at this
 omega
theorem spr_bb{L:Lpd}(ok:L.Ok s){f:Nat->Int}{n:Nat}(hf:∀i,i<L.m->BB n (f i))(j:Nat):BB n (Lpd.spr L.m s f j):=by
 by_cases h:∃i,i<L.m/\s i=j
 ·obtain⟨i,hi,e⟩:=h
  have:Lpd.spr L.m s f j=f i:=by
   unfold Lpd.spr
   rw[oP (p:=i) hi λk hk O=>aF λz=>ok.inj hk hi O (z.trans e.symm),aJ e]
  rw[this];exact hf i hi
 ·have:Lpd.spr L.m s f j=0:=kN λi hi=>aF λz=>h #[i,hi,z]
  rw[this]
  show(0:Int).natAbs<_
  exact dR _
theorem oW{x a:Int}(ha:0<a)(h:0<=x*a):0<=x:=Classical.byContradiction λz=>by
 have:=Int.mul_neg_of_neg_of_pos (show x<0 by omega) ha
 omega
theorem Oh{t b:Int}(hb:0<b)(y:0<=t):0<=(lo2 t b).1:=by
 have l:=eK (t:=t) hb
 refine oW hb ?_
 rw[l.eq]
 exact dY y (bW l.pos)
theorem jJX{fs:fP}(h:∀f∈fs,0<f.2)(h0:∀f∈fs,0<=f.1)(i:Nat):0<=(whL fs).getD i 0:=by
 by_cases hi:i<fs.length
 ·have e:=aD hi
  have q:=Tv h e
  have hm:=cS hi
  have w:=iY h
  refine oW (bK (h _ hm) w.2) ?_
  rw[q]
  exact dY (h0 _ hm) (bW w.1)
 ·rw[aR,cM (by rw[kF];omega)]
  exact Int.le_refl _
theorem jZf{frs:jA}{fb fg:fP}(B:BeO frs fb fg)(h0:∀f∈fb,0<=f.1):∀f∈bnF frs fb,0<=f.1:=λf hf=>by
 obtain⟨i,hi⟩:=cJ hf
 have j:i<frs.length:=by have:=(aK.mp hi).1;rwa [jM B.lb]at this
 have b:i<fb.length:=by rw[B.lb];exact j
 have e1:=aD j
 have C:=aD b
 rw[vU C e1]at hi
 obtain rfl:=aV hi
 have h:=iY λf hf=>(B.gr _ (cS j) f hf).1
 exact Oh (bK (B.gb _ (cS b)).1 h.2) (dY (h0 _ (cS b)) (bW h.1))
theorem Bf{n:Nat}{x y:Int}(h:BB n (y*z))(hx:0<=x)(a:x<=y)(hz:0<=z):BB n (x*z):=h.of_le (by
 rw[cH,cH]
 exact gZ #[] (aM _))
theorem lo2_le{t b:Int}(hb:0<b):(lo2 t b).2<=b:=by
 have l:=eK (t:=t) hb
 have h1:=l.by_
 have h2:=l.pos
 omega
noncomputable def Tw(K:aO)(H:Hp)(p q:Addr)(a b c d:Int):Prop:=SqT K H p [.int a,.int b]/\SqT K H q [.int c,.int d]/\BB 20000 a/\BB 20000 b/\BB 20000 c/\BB 20000 d
theorem eC.snoc{q:Addr}{g:Int×Int}{fs:fP}(h:eC K H ps fs)(J:SqT K H q [.int g.1,.int g.2]):eC K H (ps++[q]) (fs++[g]):=eC.append (show eC K H [q] [g]from#[J,trivial]) h
noncomputable def nsm:Nat->(Nat->Nat)->Nat
 |0,_=>0
 |n+1,c=>nsm n c+c n
theorem uB:∀{n:Nat}{c d:Nat->Nat},(∀i,i<n->c i=d i)->nsm n c=nsm n d
 |0,_,_,_=>rfl
 |n+1,c,d,h=>by
  show nsm n c+c n=nsm n d+d n
  rw[uB (n:=n) λi hi=>h i #[],h n #[]]
theorem jXJ(c:Nat->Nat):∀{n k:Nat},k<=n->nsm n (λi=>c (skp k i))+c k=nsm (n+1) c
 |0,k,h=>by
  have:k=0:=#[]
  subst this;show 0+c 0=0+c 0;rfl
 |n+1,k,h=>by
  show nsm n (λi=>c (skp k i))+c (skp k n)+c k=nsm (n+1) c+c (n+1)
  by_cases e:k=n+1
  ·subst e
   have e1:nsm n (λi=>c (skp (n+1) i))=nsm n c:=uB λi hi=>by unfold skp;rw[aJ #[]]
   have C:skp (n+1) n=n:=by unfold skp;rw[aJ #[]]
   rw[e1,C];rfl
  ·have m:=jXJ c (n:=n) (k:=k) #[]
   have C:skp k n=n+1:=by unfold skp;rw[aF #[]]
   rw[C];omega
theorem Mj{n:Nat}{x y:Int}(h:BB n x)(e:y.natAbs=x.natAbs):BB n y:=by unfold BB at*;omega
theorem Md:∀{N:Nat}{M:Mx}{c:Nat->Nat},(∀i,i<N->∀r,r<N->BB (c i) (M i r))->BB (nsm N c+N*N+1) (det N M)
 |0,_,_,_=>by show(1:Int).natAbs<2^1;decide
 |n+1,M,c,h=>by
  have e:det (n+1) M=(ofF (n+1) λk=>sg k*M k 0*det n (mnr M k)).sum:=(jZ8 _ _).symm
  rw[e]
  have:=Zm (l:=ofF (n+1) λk=>sg k*M k 0*det n (mnr M k)) (p:=nsm (n+1) c+n*n+1) λx hx=>by
   obtain⟨k,hk,rfl⟩:=kW hx
   have m:=Md (N:=n) (M:=mnr M k) (c:=λi=>c (skp k i)) λi hi r hr=>h _ (skp_lt hi) _ #[]
   have a:=h k hk 0 #[]
   have hs:=jXJ c (n:=n) (k:=k) #[]
   refine Mj ((a.mul m).mono #[]) ?_
   rw[cH,cH,sg_abs,Nat.one_mul,cH]
  rw[bH]at this
  refine this.mono ?_
  have:(n+1)*(n+1)=n*n+n+n+1:=by rw[Nat.add_mul,Nat.mul_add];omega
  omega
theorem xV(h:1<=q)(k r:Nat):BB q (e1 k r):=by
 unfold e1
 have h2:1<2^q:=Nat.one_lt_two_pow #[]
 split
 ·show(1:Int).natAbs<_;exact h2
 ·show(0:Int).natAbs<_;exact dR _
theorem Hw(q:Nat):∀n,nsm n (λ_=>q)=n*q
 |0=>by rw[Nat.zero_mul];rfl
 |n+1=>by show nsm n (λ_=>q)+q=_;rw[Hw q n,Nat.add_mul,Nat.one_mul]
theorem Zo(c:Nat->Nat)(i q:Nat):∀n,nsm n (λk=>if k=i then q else c k)<=nsm n c+q
 |0=>dL _
 |n+1=>by
  show nsm n (λk=>if k=i then q else c k)+(if n=i then q else c n)<=nsm n c+c n+q
  by_cases e:n=i
  ·rw[aJ e]
   have:nsm n (λk=>if k=i then q else c k)=nsm n c:=uB λk hk=>aF #[]
   omega
  ·rw[aF e]
   have:=Zo c i q n
   omega
theorem T_bb{L:Lpd}{t:Nat}(h1:1<=q)(ha:∀j k,j<L.n->k<=L.m->BB q (L.a j k))(s:Nat->Nat)(i:Nat){y:Nat->Int}(d:∀k,k<=L.m->BB t (y k)):BB ((L.m+1)*q+t+(L.m+1)*(L.m+1)+1) (L.T s i y):=by
 have hb:∀j,j<L.m+1->∀r,r<L.m+1->BB q (L.B s j r):=λj P r hr=>by
  unfold Lpd.B
  split
  ·unfold Lpd.cv
   split
   ·exact ha _ _ (by assumption) #[]
   ·exact xV h1 _ _
  ·exact xV h1 _ _
 have:=Md (N:=L.m+1) (M:=pt (L.B s) i y) (c:=λk=>if k=i then t else q) λj P r hr=>by
  unfold pt
  by_cases e:j=i
  ·rw[aJ e,aJ e];exact d r #[]
  ·rw[aF e,aF e];exact hb j P r hr
 refine BB.mono (Mj this (L.sg_abs _)) ?_
 have h2:=Zo (λ_=>q) i t (L.m+1)
 rw[Hw]at h2
 omega
theorem D_bb{L:Lpd}(h1:1<=q)(ha:∀j k,j<L.n->k<=L.m->BB q (L.a j k))(s:Nat->Nat):BB ((L.m+1)*q+(L.m+1)*(L.m+1)+1) (L.D s):=by
 have hb:∀j,j<L.m+1->∀r,r<L.m+1->BB q (L.B s j r):=λj P r hr=>by
  unfold Lpd.B
  split
  ·unfold Lpd.cv
   split
   ·exact ha _ _ (by assumption) #[]
   ·exact xV h1 _ _
  ·exact xV h1 _ _
 have:=Md (N:=L.m+1) (M:=L.B s) (c:=λ_=>q) hb
 rw[Hw]at this
 exact Mj this (L.sg_abs _)
theorem jXX(c d:Nat->Nat):∀n,nsm n (λi=>c i+d i)=nsm n c+nsm n d
 |0=>rfl
 |n+1=>by show nsm n (λi=>c i+d i)+(c n+d n)=nsm n c+c n+(nsm n d+d n);rw[jXX c d n];omega
theorem Nj{c:Nat->Nat}:∀{n:Nat},(∀i,i<n->c i=0)->nsm n c=0
 |0,_=>rfl
 |n+1,h=>by show nsm n c+c n=0;rw[Nj (n:=n) λi hi=>h i #[],h n #[]]
theorem jXj{s:Nat->Nat}{c:Nat}:∀{m:Nat},(∀i j,i<m->j<m->i≠j->s i≠s j)->nsm m (λi=>if s i=c then 1 else 0)<=1
 |0,_=>dL _
 |m+1,h=>by
  show nsm m (λi=>if s i=c then 1 else 0)+(if s m=c then 1 else 0)<=1
  by_cases e:s m=c
  ·rw[aJ e,Nj λi hi=>aF λz=>h i m #[] #[] #[] (z.trans e.symm)];exact aM _
  ·rw[aF e];exact jXj λi j hi P=>h i j #[] #[]
theorem cnt_le{s:Nat->Nat}{m:Nat}(h:∀i j,i<m->j<m->i≠j->s i≠s j):∀n,nsm m (λi=>if s i<n then 1 else 0)<=n
 |0=>by rw[Nj λi _=>aF #[]];exact aM _
 |n+1=>by
  have h1:=cnt_le h n
  have h2:=jXj (c:=n) h
  have e:nsm m (λi=>if s i<n+1 then 1 else 0)=nsm m (λi=>(if s i<n then 1 else 0)+(if s i=n then 1 else 0)):=uB λi _=>by
   by_cases a:s i<n
   ·rw[aJ a,aJ #[],aF #[]]
   ·by_cases c:s i=n
    ·rw[aF a,aJ c,aJ #[]]
    ·rw[aF a,aF c,aF #[]]
  rw[e,jXX];omega
theorem cnt_m{s:Nat->Nat}(n:Nat):∀m,nsm m (λi=>if s i<n then 1 else 0)<=m
 |0=>aM _
 |m+1=>by
  show nsm m (λi=>if s i<n then 1 else 0)+(if s m<n then 1 else 0)<=m+1
  have:=cnt_m (s:=s) n m
  split<;>omega
theorem jXZ{s:Nat->Nat}(n q:Nat):∀m,nsm m (λi=>if s i<n then q else 1)<=nsm m (λi=>if s i<n then 1 else 0)*q+m
 |0=>dL _
 |m+1=>by
  show nsm m (λi=>if s i<n then q else 1)+(if s m<n then q else 1)<=(nsm m (λi=>if s i<n then 1 else 0)+(if s m<n then 1 else 0))*q+(m+1)
  have:=jXZ (s:=s) n q m
  rw[Nat.add_mul]
  split<;>omega
theorem nsm_in{n:Nat}(h:∀i j,i<m->j<m->i≠j->s i≠s j):nsm (m+1) (λi=>if i<m/\s i<n then q else 1)<=min m n*q+(m+1):=by
 show nsm m (λi=>if i<m/\s i<n then q else 1)+(if m<m/\s m<n then q else 1)<=_
 rw[aF #[]]
 have e:nsm m (λi=>if i<m/\s i<n then q else 1)=nsm m (λi=>if s i<n then q else 1):=uB λi hi=>by
  by_cases a:s i<n
  ·rw[aJ a,aJ #[hi,a]]
  ·rw[aF a,aF λz=>a z.2]
 rw[e]
 have h1:=jXZ (s:=s) n q m
 have h2:=cnt_le h n
 have h3:=cnt_m (s:=s) n m
 have S:nsm m (λi=>if s i<n then 1 else 0)*q<=min m n*q:=iP _ #[]
 omega
theorem B_bb{L:Lpd}(ha:∀j k,j<L.n->k<=L.m->BB q (L.a j k))(s:Nat->Nat){r:Nat}(hr:r<L.m+1):BB (if j<L.m/\s j<L.n then q else 1) (L.B s j r):=by
 unfold Lpd.B
 by_cases h1:j<L.m
 ·rw[aJ h1]
  unfold Lpd.cv
  by_cases h2:s j<L.n
  ·rw[aJ h2,aJ #[h1,h2]];exact ha _ _ h2 #[]
  ·rw[aF h2,aF λz=>h2 z.2];exact xV (aM _) _ _
 ·rw[aF h1,aF λz=>h1 z.1];exact xV (aM _) _ _
theorem T_bbk{L:Lpd}{t:Nat}(ha:∀j k,j<L.n->k<=L.m->BB q (L.a j k))(o:L.Okn s)(i:Nat){y:Nat->Int}(d:∀k,k<=L.m->BB t (y k)):BB (min L.m L.n*q+t+(L.m+1)+(L.m+1)*(L.m+1)+1) (L.T s i y):=by
 have:=Md (N:=L.m+1) (M:=pt (L.B s) i y) (c:=λk=>if k=i then t else if k<L.m/\s k<L.n then q else 1) λj P r hr=>by
  unfold pt
  by_cases e:j=i
  ·rw[aJ e,aJ e];exact d r #[]
  ·rw[aF e,aF e];exact B_bb ha s hr
 refine BB.mono (Mj this (L.sg_abs _)) ?_
 have h2:=Zo (λk=>if k<L.m/\s k<L.n then q else 1) i t (L.m+1)
 have h3:=nsm_in (n:=L.n) (q:=q) (s:=s) (m:=L.m) λi j hi P h=>o.inj hi P h
 omega
theorem D_bbk{L:Lpd}(ha:∀j k,j<L.n->k<=L.m->BB q (L.a j k))(o:L.Okn s):BB (min L.m L.n*q+(L.m+1)+(L.m+1)*(L.m+1)+1) (L.D s):=by
 have:=Md (N:=L.m+1) (M:=L.B s) (c:=λk=>if k<L.m/\s k<L.n then q else 1) λj _ r hr=>B_bb ha s hr
 refine BB.mono (Mj this (L.sg_abs _)) ?_
 have h3:=nsm_in (n:=L.n) (q:=q) (s:=s) (m:=L.m) λi j hi P h=>o.inj hi P h
 omega
theorem Fit.lim{L:Lpd}(F:Fit L.m L.n q)(ha:∀j k,j<L.n->k<=L.m->BB q (L.a j k))(hb:∀k,k<=L.m->BB q (L.be k)):L.Lim:=by
 obtain⟨q1,m1,n1,le⟩:=F
 have B:∀s i(y:Nat->Int),L.Okn s->(∀k,k<=L.m->BB q (y k))->BB 20000 (L.T s i y):=λs i y o d=>(T_bbk ha o i d).mono #[]
 refine#[m1,n1,λj k P hk=>(ha j k P hk).mono #[],λs i c o _=>B s i _ o λk hk=>?_,λs i k o _ _=>B s i _ o λr _=>xV q1 _ _,λs i o _=>B s i _ o hb,λs o=>(D_bbk ha o).mono #[]]
 unfold Lpd.cv
 split
 ·exact ha _ _ (by assumption) hk
 ·exact xV q1 _ _
noncomputable def Gp(p r:Nat)(f:Int×Int):Prop:=0<f.2/\BB p f.1/\BB r f.2
theorem lc_bbg:∀(fs:fP)(n:Int)(m r:Nat),0<n->BB m n->(∀f∈fs,0<f.2)->(∀f∈fs,BB r f.2)->BB (m+r*fs.length) (fs.foldl lcf n)
 | [],_,_,_,_,h,_,_=>h
 |a::t,n,m,r,hn,h,h1,h2=>by
  rw[List.foldl_cons]
  obtain⟨M,_,_,_,q⟩:=Zr hn (h1 a bT)
  have b:BB (m+r) (lcf n a):=h.mul ((h2 a bT).of_le q)
  have:=lc_bbg t (lcf n a) (m+r) r M b (λf hf=>h1 f (bI _ hf)) λf hf=>h2 f (bI _ hf)
  rw[cZ]
  refine this.mono ?_
  rw[Nat.mul_add,Nat.mul_one];omega
theorem Zs{fs:fP}{p r:Nat}(h:∀f∈fs,Gp p r f):BB (1+r*fs.length) (lc fs):=lc_bbg fs 1 1 r (by decide) (by show(1:Int).natAbs<2^1;decide) (λf hf=>(h f hf).1) λf hf=>(h f hf).2.2
theorem Em{fs:fP}{p r:Nat}(h:∀f∈fs,Gp p r f)(J:BB q (lc fs)):∀x∈clr fs,BB (p+q) x:=λx hx=>by
 obtain⟨f,hf,rfl⟩:=dD.mp hx
 have g:=h f hf
 obtain⟨k,hk⟩:=(Gv fs 1 (by decide) λf hf=>(h f hf).1).2.2.1 f hf
 have hk:lc fs=f.2*k:=hk
 have z:(lc fs).fdiv f.2=k:=by rw[hk];exact Int.mul_fdiv_cancel_left _ (Int.ne_of_gt g.1)
 refine g.2.1.mul (J.of_le ?_)
 rw[z,hk,cH]
 exact Nat.le_mul_of_pos_left _ (by have:=g.1;omega)
theorem mx1_bb{g:Int}(h1:1<=q)(h:BB q g):BB q (mx1 g):=by
 unfold mx1;split
 ·show(1:Int).natAbs<_;exact Nat.one_lt_two_pow #[]
 ·exact h
theorem Ty{fs:fP}{p r:Nat}(h:∀f∈fs,Gp p r f)(J:BB q (lc fs))(h1:1<=p+q):BB q (whF fs).1/\BB (p+q) (whF fs).2:=(eK (Ap _)).bb J (mx1_bb h1 (gl_bb (Em h J)))
theorem Zf{fs:fP}{p r:Nat}(h:∀f∈fs,Gp p r f)(J:BB q (lc fs))(i:Nat):BB (p+q) ((whL fs).getD i 0):=by
 by_cases hi:i<(whL fs).length
 ·exact jYb (Em h J) _ (mB hi)
 ·rw[aR,cM #[]]
  show(0:Int).natAbs<_;exact dR _
theorem bnF_gp{frs:jA}{fb:fP}(p r I u v:Nat)(hb:fb.length=frs.length)(gr:∀row∈frs,∀f∈row,Gp p r f)(gb:∀f∈fb,Gp I u f)(Y:∀row∈frs,BB v (lc row))(S:1<=p):∀f∈bnF frs fb,Gp (I+v) (u+(p+v)) f:=by
 intro f hf
 obtain⟨i,hi⟩:=cJ hf
 have j:i<frs.length:=by have:=(aK.mp hi).1;rwa [jM hb]at this
 have b:i<fb.length:=by rw[hb];exact j
 rw[vU (aD b) (aD j)]at hi
 obtain rfl:=aV hi
 have w:=iY λf hf=>(gr _ (cS j) f hf).1
 have wb:=Ty (gr _ (cS j)) (Y _ (cS j)) #[]
 have g:=gb _ (cS b)
 have F:=eK (t:=fb[i].1*(whF frs[i]).1) (bK g.1 w.2)
 have lb:=F.bb (g.2.1.mul wb.1) (g.2.2.mul wb.2)
 exact#[F.pos,lb.1,lb.2]
theorem beo_of{frs:jA}{fb fg:fP}(p r I u v n:Nat)(hr:∀row∈frs,row.length=fg.length)(hb:fb.length=frs.length)(gr:∀row∈frs,∀f∈row,Gp p r f)(gg:∀f∈fg,Gp p r f)(gb:∀f∈fb,Gp I u f)
  (Y:∀row∈frs,BB v (lc row)) (w:BB v (lc fg)) (m:BB n (lc (bnF frs fb))) (S:1<=p) (m1:frs.length<=100) (n1:fg.length<=100) (U:p+v<=9000) (z:I+v+n<=9000) (C:u+(p+v)<=9000) (G:r<=9000) (H:u<=9000)
  (N:(frs.length+1)*(p+v)+(frs.length+1)*(frs.length+1)+1+(p+v)+v+n<=9000)
  (J:(frs.length+1)*(p+I+v+n)+(p+I+v+n)+(frs.length+1)+(frs.length+1)*(frs.length+1)+1<=9000):BeO frs fb fg:=by
 have o:=bnF_gp p r I u v hb gr gb Y S
 have wr:∀row∈frs,BB v (whF row).1/\BB (p+v) (whF row).2:=λrow h=>Ty (gr row h) (Y row h) #[]
 have wg:BB v (whF fg).1/\BB (p+v) (whF fg).2:=Ty gg w #[]
 have wb:BB n (whF (bnF frs fb)).1/\BB (I+v+n) (whF (bnF frs fb)).2:=by
  by_cases A:1<=I+v+n
  ·exact Ty o m A
  ·exfalso
   have:n=0:=#[]
   subst this
   have h1:(lc (bnF frs fb)).natAbs<1:=m
   have h2:=Ma (fs:=bnF frs fb) λf hf=>(o f hf).1
   omega
 have ha:∀e j k,BB (p+v) ((bP e frs fb fg).a j k):=λe j k=>by
  show BB (p+v) (if k<frs.length then(whL (frs.getD k [])).getD j 0 else-(whL fg).getD j 0)
  by_cases h:k<frs.length
  ·rw[aJ h]
   have hm:frs.getD k []∈frs:=by rw[aR,aD h];exact cS h
   exact Zf (gr _ hm) (Y _ hm) j
  ·rw[aF h];exact(Zf gg w j).neg
 have l:∀e k,BB (I+v+n) ((bP e frs fb fg).be k):=λe k=>Zf o m k
 have K:∀e s,BB ((frs.length+1)*(p+v)+(frs.length+1)*(frs.length+1)+1) ((bP e frs fb fg).D s):=λe s=>D_bb (L:=bP e frs fb fg) (q:=p+v) #[] (λj k _ _=>ha e j k) s
 have B:∀e s i t(y:Nat->Int),(∀k,BB t (y k))->BB ((frs.length+1)*(p+v)+t+(frs.length+1)*(frs.length+1)+1) ((bP e frs fb fg).T s i y):=λe s i t y d=>T_bb (L:=bP e frs fb fg) (q:=p+v) #[] (λj k _ _=>ha e j k) s i λk _=>d k
 have fit:∃q R,Fit frs.length fg.length R/\q<=9000/\(∀k,40*2^k<q->40*2^k<=R)/\(∀j k,BB q ((bP false frs fb fg).a j k))/\∀k,BB q ((bP false frs fb fg).be k):=#[p+I+v+n,p+I+v+n,#[#[],m1,n1,by have:=iP (p+I+v+n) (show min frs.length fg.length<=frs.length+1 by omega);omega],#[],λ_ h=>jV h,λj k=>(ha _ j k).mono #[],λk=>(l _ k).mono #[]]
 clear J
 generalize X:(frs.length+1)*(p+v)=M at*
 generalize O:(frs.length+1)*(frs.length+1)=Q at*
 refine#[hr,hb,λrow h f hf=>?_,λf hf=>?_,λf hf=>?_,λrow h x hx=>?_,λx hx=>?_,λx hx=>?_,λrow h=>?_,?_,?_,λb F row h=>?_,λe=>#[m1,n1,λj k P hk=>(ha e j k).mono #[],λs i c _ _=>?_,λs i k _ _ _=>?_,λs i _ _=>?_,λs _=>(K e s).mono #[]],λe s _=>?_,λe s _ row h=>#[?_,λk hk=>?_],fit]
 ·have g:=gr row h f hf;exact#[g.1,g.2.1.mono #[],g.2.2.mono #[]]
 ·have g:=gb f hf;exact#[g.1,g.2.1.mono #[],g.2.2.mono #[]]
 ·have g:=gg f hf;exact#[g.1,g.2.1.mono #[],g.2.2.mono #[]]
 ·exact(Em (gr row h) (Y row h) x hx).mono #[]
 ·exact(Em gg w x hx).mono #[]
 ·exact(Em o m x hx).mono #[]
 ·exact#[(wr row h).1.mono #[],(wr row h).2.mono #[]]
 ·exact#[wb.1.mono #[],wb.2.mono #[]]
 ·exact#[wg.1.mono #[],wg.2.mono #[]]
 ·exact#[((gb b F).2.2.mul (wr row h).2).mono #[],((gb b F).2.1.mul (wr row h).1).mono #[]]
 ·refine(B e s i (p+v) _ λk=>?_).mono #[]
  unfold Lpd.cv
  split
  ·exact ha e _ _
  ·exact xV #[] _ _
 ·exact(B e s i 1 _ λr=>xV (aM _) _ _).mono #[]
 ·exact(B e s i _ _ (l e)).mono #[]
 ·exact((K e s).mul wb.1).mono #[]
 ·exact(((K e s).mul (wr row h).2).mul wg.1).mono #[]
 ·exact((B e s frs.length 1 _ λr=>xV (aM _) _ _).mul (wr row h).1).mono #[]
theorem beo_std{frs:jA}{fb fg:fP}(p r I u:Nat)(hr:∀row∈frs,row.length=fg.length)(hb:fb.length=frs.length)(gr:∀row∈frs,∀f∈row,Gp p r f)(gg:∀f∈fg,Gp p r f)(gb:∀f∈fb,Gp I u f)
  (m n:Nat) (hm:frs.length<=m) (R:fg.length<=n) (S:1<=p) (m1:m<=100) (n1:n<=100) (a:p+(1+r*n)<=9000) (z:I+(1+r*n)+(1+(u+(p+(1+r*n)))*m)<=9000) (C:u+(p+(1+r*n))<=9000) (G:r<=9000) (H:u<=9000)
  (N:(m+1)*(p+(1+r*n))+(m+1)*(m+1)+1+(p+(1+r*n))+(1+r*n)+(1+(u+(p+(1+r*n)))*m)<=9000)
  (J:(m+1)*(p+I+(1+r*n)+(1+(u+(p+(1+r*n)))*m))+(p+I+(1+r*n)+(1+(u+(p+(1+r*n)))*m))+(m+1)+(m+1)*(m+1)+1<=9000):BeO frs fb fg:=by
 have Y:∀row∈frs,BB (1+r*n) (lc row):=λrow h=>(Zs (gr row h)).mono (by
  rw[hr row h];exact fT (iZ _ R) _)
 have o:=bnF_gp p r I u (1+r*n) hb gr gb Y S
 refine beo_of p r I u (1+r*n) (1+(u+(p+(1+r*n)))*m) hr hb gr gg gb Y ((Zs gg).mono (fT (iZ _ R) _)) ((Zs o).mono (fT (iZ _ (by rw[jM hb];exact hm)) _)) S #[] #[] a z C G H ?_ ?_
 ·have h1:(frs.length+1)*(p+(1+r*n))<=(m+1)*(p+(1+r*n)):=iP _ #[]
  have h2:(frs.length+1)*(frs.length+1)<=(m+1)*(m+1):=gZ #[] #[]
  omega
 ·have h1:=iP (p+I+(1+r*n)+(1+(u+(p+(1+r*n)))*m)) (show frs.length+1<=m+1 by omega)
  have h2:(frs.length+1)*(frs.length+1)<=(m+1)*(m+1):=gZ #[] #[]
  omega
noncomputable def kC(L:Lpd)(s:Nat->Nat):Prop:=∀i,i<L.m->s i<L.n+L.m
noncomputable def UnO(L:Lpd)(s:Nat->Nat):Option Nat->Prop
 |none=>∀c,c<L.n+L.m->0<=L.T s L.m (L.cv c)
 |some c=>c<L.n+L.m/\L.T s L.m (L.cv c)<0/\∀i,i<L.m->L.T s i (L.cv c)<=0
noncomputable def xK(L:Lpd)(s:Nat->Nat)(f:Nat->Int)(i j:Nat):Int×Int:=lo2 (Lpd.spr i s f j) (L.D s)
noncomputable def mI(L:Lpd)(s:Nat->Nat)(c j:Nat):Int×Int:=lo2 (Lpd.spr L.m s (λi=>-L.T s i (L.cv c)) j+if j=c then L.D s else 0) (L.D s)
noncomputable def jX:Nat->(Nat->Int×Int)->(Nat->Int×Int)->Int×Int
 |0,_,_=>(0,1)
 |n+1,f,g=>((jX n f g).1*(f n).2*(g n).2+(f n).1*(g n).1*(jX n f g).2,(jX n f g).2*(f n).2*(g n).2)
theorem jS{f g:Nat->Int×Int}:∀{n:Nat},(∀k,k<n->0<(f k).2)->(∀k,k<n->0<(g k).2)->0<(jX n f g).2
 |0,_,_=>by show(0:Int)<1;decide
 |n+1,h1,h2=>bK (bK (jS (λk hk=>h1 k #[]) λk hk=>h2 k #[]) (h1 n #[])) (h2 n #[])
theorem vR{f g:Nat->Int×Int}{W:Int}{v:Nat->Int}:∀{n:Nat},(∀k,k<n->(f k).1*(g k).1*W=v k*((f k).2*(g k).2))->(jX n f g).1*W=sm n v*(jX n f g).2
 |0,_=>by show(0:Int)*W=0*1;simp
 |n+1,h=>by
  have m:=vR (n:=n) λk hk=>h k #[]
  have R:=h n #[]
  show((jX n f g).1*(f n).2*(g n).2+(f n).1*(g n).1*(jX n f g).2)*W=(sm n v+v n)*((jX n f g).2*(f n).2*(g n).2)
  generalize (jX n f g).1=t at*
  generalize (jX n f g).2=b at*
  grind
theorem jZx{P:Int×Int}{W S:Int}{c:Int×Int}(b:0<W)(Q:0<P.2)(e:P.1*W=S*P.2)(h:S*c.2<=c.1*W):P.1*c.2<=c.1*P.2:=by
 have h1:S*c.2*P.2<=c.1*W*P.2:=Int.mul_le_mul_of_nonneg_right h (bW Q)
 refine Int.le_of_mul_le_mul_right (a:=W) ?_ b
 have e1:P.1*c.2*W=S*c.2*P.2:=by grind
 have C:c.1*P.2*W=c.1*W*P.2:=by grind
 rw[e1,C];exact h1
theorem prdF_ge{P:Int×Int}{W S:Int}{c:Int×Int}(b:0<W)(Q:0<P.2)(e:P.1*W=S*P.2)(h:c.1*W<=S*c.2):c.1*P.2<=P.1*c.2:=by
 have h1:c.1*W*P.2<=S*c.2*P.2:=Int.mul_le_mul_of_nonneg_right h (bW Q)
 refine Int.le_of_mul_le_mul_right (a:=W) ?_ b
 have e1:P.1*c.2*W=S*c.2*P.2:=by grind
 have C:c.1*P.2*W=c.1*W*P.2:=by grind
 rw[e1,C];exact h1
theorem Va{f g:Nat->Int×Int}{q:Nat}:∀{n:Nat},(∀k,k<n->BB q (f k).1/\BB q (f k).2/\BB q (g k).1/\BB q (g k).2)->BB ((q+q+1)*n+1) (jX n f g).1/\BB ((q+q+1)*n+1) (jX n f g).2
 |0,_=>#[by show(0:Int).natAbs<2^(0+1);decide,by show(1:Int).natAbs<2^(0+1);decide]
 |n+1,h=>by
  obtain⟨S,Y⟩:=Va (n:=n) λk hk=>h k #[]
  obtain⟨r,u,N,g2⟩:=h n #[]
  have e:(q+q+1)*(n+1)+1=(q+q+1)*n+1+q+q+1:=by rw[Nat.mul_add];omega
  rw[e]
  refine#[BB.add ((S.mul u).mul g2) (((r.mul N).mul Y).mono #[]),((Y.mul u).mul g2).mono #[]]
theorem jXb{S D:Int}{W:Int×Int}(K:0<D)(b:0<W.1):(fov (lo2 S D) W).1*(D*W.1)=S*W.2*(fov (lo2 S D) W).2/\0<(fov (lo2 S D) W).2/\Int.gcd (fov (lo2 S D) W).1 (fov (lo2 S D) W).2=1:=by
 have w:=eK (t:=S) K
 have z:=bK w.pos b
 have n:=eK (t:=(lo2 S D).1*W.2) z
 refine#[?_,n.pos,n.cop]
 have h1:=w.eq
 have h2:=n.eq
 have M:=w.pos
 show(lo2 ((lo2 S D).1*W.2) ((lo2 S D).2*W.1)).1*(D*W.1)=S*W.2*(lo2 ((lo2 S D).1*W.2) ((lo2 S D).2*W.1)).2
 generalize (lo2 ((lo2 S D).1*W.2) ((lo2 S D).2*W.1)).1=X at*
 generalize (lo2 ((lo2 S D).1*W.2) ((lo2 S D).2*W.1)).2=Y at*
 generalize (lo2 S D).1=s at*
 generalize (lo2 S D).2=d at*
 apply Int.eq_of_mul_eq_mul_left (show d≠0 by omega)
 grind
theorem jZV{S D:Int}{W:Int×Int}(K:0<D)(b:0<W.1)(a:0<W.2)(P:0<=S):0<=(fov (lo2 S D) W).1:=by
 obtain⟨e,p,_⟩:=jXb (S:=S) K b
 refine oW (bK K b) ?_
 rw[e]
 exact dY (dY P (bW a)) (bW p)
theorem fty_val{U D:Int}{w G:Int×Int}(K:0<D)(hw:0<w.2)(o:0<G.1):(fov (ftm (lo2 U D) w) G).1*(D*w.2*G.1)=U*w.1*G.2*(fov (ftm (lo2 U D) w) G).2/\0<(fov (ftm (lo2 U D) w) G).2/\Int.gcd (fov (ftm (lo2 U D) w) G).1 (fov (ftm (lo2 U D) w) G).2=1:=by
 have a:=eK (t:=U) K
 have O:=bK a.pos hw
 have n:=eK (t:=(lo2 U D).1*w.1) O
 have l:=bK n.pos o
 have v:=eK (t:=(lo2 ((lo2 U D).1*w.1) ((lo2 U D).2*w.2)).1*G.2) l
 refine#[?_,v.pos,v.cop]
 have h1:=a.eq
 have h2:=n.eq
 have h3:=v.eq
 have M:=a.pos
 have Z:=n.pos
 show(lo2 ((lo2 ((lo2 U D).1*w.1) ((lo2 U D).2*w.2)).1*G.2) ((lo2 ((lo2 U D).1*w.1) ((lo2 U D).2*w.2)).2*G.1)).1*(D*w.2*G.1)=U*w.1*G.2*(lo2 ((lo2 ((lo2 U D).1*w.1) ((lo2 U D).2*w.2)).1*G.2) ((lo2 ((lo2 U D).1*w.1) ((lo2 U D).2*w.2)).2*G.1)).2
 generalize (lo2 ((lo2 ((lo2 U D).1*w.1) ((lo2 U D).2*w.2)).1*G.2) ((lo2 ((lo2 U D).1*w.1) ((lo2 U D).2*w.2)).2*G.1)).1=X at*
 generalize (lo2 ((lo2 ((lo2 U D).1*w.1) ((lo2 U D).2*w.2)).1*G.2) ((lo2 ((lo2 U D).1*w.1) ((lo2 U D).2*w.2)).2*G.1)).2=Y at*
 generalize (lo2 ((lo2 U D).1*w.1) ((lo2 U D).2*w.2)).1=u at*
 generalize (lo2 ((lo2 U D).1*w.1) ((lo2 U D).2*w.2)).2=c at*
 generalize (lo2 U D).1=s at*
 generalize (lo2 U D).2=d at*
 apply Int.eq_of_mul_eq_mul_left (show d*c≠0 from Int.ne_of_gt (bK M Z))
 grind
section
variable{fl:Bool}{frs:jA}{fb fg:fP}{s:Nat->Nat}
noncomputable def rwF(frs:jA)(i j:Nat):Int×Int:=(frs.getD i []).getD j (0,1)
theorem Ux(B:BeO frs fb fg)(hi:i<frs.length)(P:j<fg.length):(bP fl frs fb fg).a j i*((rwF frs i j).2*(whF (frs.getD i [])).2)=(rwF frs i j).1*(whF (frs.getD i [])).1:=by
 have hm:frs.getD i []∈frs:=by rw[aR,aD hi];exact cS hi
 have Y:=B.lr _ hm
 have e:(bP fl frs fb fg).a j i=(whL (frs.getD i [])).getD j 0:=by show(if i<frs.length then _ else _)=_;rw[aJ hi]
 rw[e]
 refine Tv (λf hf=>(B.gr _ hm f hf).1) ?_
 unfold rwF
 generalize frs.getD i []=l at*
 rw[aR,aD #[]];rfl
theorem Nr(B:BeO frs fb fg)(P:j<fg.length):-(bP fl frs fb fg).a j frs.length*((fg.getD j (0,1)).2*(whF fg).2)=(fg.getD j (0,1)).1*(whF fg).1:=by
 have e:(bP fl frs fb fg).a j frs.length=-(whL fg).getD j 0:=by show(if frs.length<frs.length then _ else _)=_;rw[aF (eV _)]
 rw[e,Int.neg_neg]
 refine Tv (λf hf=>(B.gg f hf).1) ?_
 rw[aR,aD P];rfl
theorem jXo(B:BeO frs fb fg)(hi:i<frs.length):(bP fl frs fb fg).be i*(whF (bnF frs fb)).2*((fb.getD i (0,1)).2*(whF (frs.getD i [])).2)=(fb.getD i (0,1)).1*(whF (frs.getD i [])).1*(whF (bnF frs fb)).1:=by
 have b:i<fb.length:=by rw[B.lb];exact hi
 have e1:fb[i]?=some (fb.getD i (0,1)):=by rw[aR,aD b];rfl
 have C:frs[i]?=some (frs.getD i []):=by rw[aR,aD hi];rfl
 have hm:=aL C
 have F:=aL e1
 have w:=iY λf hf=>(B.gr _ hm f hf).1
 have z:=bK (B.gb _ F).1 w.2
 have l:=eK (t:=(fb.getD i (0,1)).1*(whF (frs.getD i [])).1) z
 have o:∀f∈bnF frs fb,0<f.2:=λf hf=>by
  obtain⟨k,hk⟩:=cJ hf
  have c:k<frs.length:=by have:=(aK.mp hk).1;rwa [jM B.lb]at this
  have N:k<fb.length:=by rw[B.lb];exact c
  rw[vU (aD N) (aD c)]at hk
  obtain rfl:=aV hk
  have w:=iY λf hf=>(B.gr _ (cS c) f hf).1
  exact(eK (bK (B.gb _ (cS N)).1 w.2)).pos
 have q:=Tv o (vU e1 C)
 have O:(bP fl frs fb fg).be i=(whL (bnF frs fb)).getD i 0:=rfl
 rw[O]
 have h1:=l.eq
 have M:=l.pos
 have q:(whL (bnF frs fb)).getD i 0*((lo2 ((fb.getD i (0,1)).1*(whF (frs.getD i [])).1) ((fb.getD i (0,1)).2*(whF (frs.getD i [])).2)).2*(whF (bnF frs fb)).2)=(lo2 ((fb.getD i (0,1)).1*(whF (frs.getD i [])).1) ((fb.getD i (0,1)).2*(whF (frs.getD i [])).2)).1*(whF (bnF frs fb)).1:=q
 generalize (lo2 ((fb.getD i (0,1)).1*(whF (frs.getD i [])).1) ((fb.getD i (0,1)).2*(whF (frs.getD i [])).2)).1=X at*
 generalize (lo2 ((fb.getD i (0,1)).1*(whF (frs.getD i [])).1) ((fb.getD i (0,1)).2*(whF (frs.getD i [])).2)).2=Y at*
 generalize (fb.getD i (0,1)).1=b1 at*
 generalize (fb.getD i (0,1)).2=b2 at*
 generalize (whF (frs.getD i [])).1=x at*
 generalize (whF (frs.getD i [])).2=G at*
 generalize (whF (bnF frs fb)).1=p at*
 generalize (whF (bnF frs fb)).2=h at*
 generalize (whL (bnF frs fb)).getD i 0=be at*
 apply Int.eq_of_mul_eq_mul_left (show Y≠0 by omega)
 grind
noncomputable def xF(fl:Bool)(frs:jA)(fb fg:fP)(s:Nat->Nat)(j:Nat):Int×Int:=fov (xK (bP fl frs fb fg) s (λi=>(bP fl frs fb fg).T s i (bP fl frs fb fg).be) frs.length j) (whF (bnF frs fb))
noncomputable def yF(fl:Bool)(frs:jA)(fb fg:fP)(s:Nat->Nat)(k:Nat):Int×Int:=fov (ftm (lo2 ((bP fl frs fb fg).T s frs.length (e1 k)) ((bP fl frs fb fg).D s)) (whF (frs.getD k []))) (whF fg)
theorem Ui(B:BeO frs fb fg):0<(whF (bnF frs fb)).1/\0<(whF (bnF frs fb)).2:=iY λf hf=>by
 obtain⟨k,hk⟩:=cJ hf
 have c:k<frs.length:=by have:=(aK.mp hk).1;rwa [jM B.lb]at this
 have N:k<fb.length:=by rw[B.lb];exact c
 rw[vU (aD N) (aD c)]at hk
 obtain rfl:=aV hk
 have w:=iY λf hf=>(B.gr _ (cS c) f hf).1
 exact(eK (bK (B.gb _ (cS N)).1 w.2)).pos
theorem Gr(B:BeO frs fb fg)(hi:i<frs.length):0<(whF (frs.getD i [])).1/\0<(whF (frs.getD i [])).2:=iY λf hf=>(B.gr _ (by rw[aR,aD hi];exact cS hi) f hf).1
theorem Eg(B:BeO frs fb fg)(hi:i<frs.length)(P:j<fg.length):0<(rwF frs i j).2:=by
 have hm:frs.getD i []∈frs:=by rw[aR,aD hi];exact cS hi
 have Y:=B.lr _ hm
 have g:=B.gr _ hm
 unfold rwF
 generalize frs.getD i []=l at*
 have:l.getD j (0,1)∈l:=by rw[aR,aD #[]];exact cS _
 exact(g _ this).1
theorem Ip(B:BeO frs fb fg)(ok:(bP fl frs fb fg).Ok s)(j:Nat):0<(xF fl frs fb fg s j).2/\Int.gcd (xF fl frs fb fg s j).1 (xF fl frs fb fg s j).2=1/\0<=(xF fl frs fb fg s j).1/\(xF fl frs fb fg s j).1*((bP fl frs fb fg).D s*(whF (bnF frs fb)).1)=Lpd.spr frs.length s (λi=>(bP fl frs fb fg).T s i (bP fl frs fb fg).be) j*(whF (bnF frs fb)).2*(xF fl frs fb fg s j).2:=by
 have w:=Ui B
 obtain⟨e,p,c⟩:=jXb (S:=Lpd.spr frs.length s (λi=>(bP fl frs fb fg).T s i (bP fl frs fb fg).be) j) ok.pos w.1
 exact#[p,c,jZV ok.pos w.1 w.2 (Lpd.spr_nonneg (λi hi=>ok.bound_nonneg hi) j),e]
theorem jJZ(B:BeO frs fb fg)(ok:(bP fl frs fb fg).Ok s)(io:kC (bP fl frs fb fg) s)(hi:i<frs.length):(jX fg.length (rwF frs i) (xF fl frs fb fg s)).1*(fb.getD i (0,1)).2<=(fb.getD i (0,1)).1*(jX fg.length (rwF frs i) (xF fl frs fb fg s)).2:=by
 have w:=Ui B
 have r:=Gr B hi
 have R:=ok.pos
 have k:=ok.allowed io (r:=i) hi
 have c:=jXo (fl:=fl) B hi
 have b:i<fb.length:=by rw[B.lb];exact hi
 have U:0<(fb.getD i (0,1)).2:=(B.gb _ (by rw[aR,aD b];exact cS b)).1
 have e:=vR (n:=fg.length) (f:=rwF frs i) (g:=xF fl frs fb fg s) (W:=(whF (frs.getD i [])).1*(bP fl frs fb fg).D s*(whF (bnF frs fb)).1) (v:=λj=>((whF (frs.getD i [])).2*(whF (bnF frs fb)).2)*(Lpd.spr frs.length s (λi=>(bP fl frs fb fg).T s i (bP fl frs fb fg).be) j*(bP fl frs fb fg).a j i)) λj P=>by
  have h1:=Ux (fl:=fl) B hi P
  have h2:=(Ip B ok j).2.2.2
  generalize (xF fl frs fb fg s j).1=l at*
  generalize (xF fl frs fb fg s j).2=d at*
  generalize (rwF frs i j).1=o at*
  generalize (rwF frs i j).2=u at*
  generalize (whF (frs.getD i [])).1=x at*
  generalize (whF (frs.getD i [])).2=G at*
  generalize (whF (bnF frs fb)).1=p at*
  generalize (whF (bnF frs fb)).2=h at*
  generalize (bP fl frs fb fg).a j i=a at*
  generalize Lpd.spr frs.length s (λi=>(bP fl frs fb fg).T s i (bP fl frs fb fg).be) j=S at*
  generalize (bP fl frs fb fg).D s=D at*
  grind
 rw[Lpd.sm_mul]at e
 refine jZx (bK (bK r.1 R) w.1) (jS (λj P=>Eg B hi P) λj _=>(Ip B ok j).1) e ?_
 have k:sm fg.length (λj=>Lpd.spr frs.length s (λi=>(bP fl frs fb fg).T s i (bP fl frs fb fg).be) j*(bP fl frs fb fg).a j i)<=(bP fl frs fb fg).D s*(bP fl frs fb fg).be i:=k
 generalize sm fg.length (λj=>Lpd.spr frs.length s (λi=>(bP fl frs fb fg).T s i (bP fl frs fb fg).be) j*(bP fl frs fb fg).a j i)=N at*
 have m:=Int.mul_le_mul_of_nonneg_left k (bW (bK (bK r.2 w.2) U))
 generalize (whF (frs.getD i [])).1=x at*
 generalize (whF (frs.getD i [])).2=G at*
 generalize (whF (bnF frs fb)).1=p at*
 generalize (whF (bnF frs fb)).2=h at*
 generalize (bP fl frs fb fg).D s=D at*
 generalize (bP fl frs fb fg).be i=be at*
 generalize (fb.getD i (0,1)).1=b1 at*
 generalize (fb.getD i (0,1)).2=b2 at*
 have e1:G*h*N*b2=G*h*b2*N:=by grind
 have C:b1*(x*D*p)=G*h*b2*(D*be):=by grind
 rw[e1,C];exact m
theorem jVb(un:UnO (bP fl frs fb fg) s none)(hk:k<frs.length):0<=(bP fl frs fb fg).T s frs.length (e1 k):=by
 have:=un ((bP fl frs fb fg).n+k) (Nat.add_lt_add_left hk _)
 rwa [Lpd.cv_spare]at this
theorem Wh(B:BeO frs fb fg)(ok:(bP fl frs fb fg).Ok s)(un:UnO (bP fl frs fb fg) s none)(hk:k<frs.length):0<(yF fl frs fb fg s k).2/\Int.gcd (yF fl frs fb fg s k).1 (yF fl frs fb fg s k).2=1/\0<=(yF fl frs fb fg s k).1/\(yF fl frs fb fg s k).1*((bP fl frs fb fg).D s*(whF (frs.getD k [])).2*(whF fg).1)=(bP fl frs fb fg).T s frs.length (e1 k)*(whF (frs.getD k [])).1*(whF fg).2*(yF fl frs fb fg s k).2:=by
 have r:=Gr B hk
 have g:=iY λf hf=>(B.gg f hf).1
 obtain⟨e,p,c⟩:=fty_val (U:=(bP fl frs fb fg).T s frs.length (e1 k)) (w:=whF (frs.getD k [])) (G:=whF fg) ok.pos r.2 g.1
 refine#[p,c,oW (bK (bK ok.pos r.2) g.1) ?_,e]
 have:0<=(bP fl frs fb fg).T s frs.length (e1 k)*(whF (frs.getD k [])).1*(whF fg).2*(fov (ftm (lo2 ((bP fl frs fb fg).T s frs.length (e1 k)) ((bP fl frs fb fg).D s)) (whF (frs.getD k []))) (whF fg)).2:=dY (dY (dY (jVb un hk) (bW r.1)) (bW g.2)) (bW p)
 rw[←e]at this
 exact this
theorem ys_pay(B:BeO frs fb fg)(ok:(bP fl frs fb fg).Ok s)(un:UnO (bP fl frs fb fg) s none)(P:j<fg.length):(fg.getD j (0,1)).1*(jX frs.length (yF fl frs fb fg s) (λi=>rwF frs i j)).2<=(jX frs.length (yF fl frs fb fg s) (λi=>rwF frs i j)).1*(fg.getD j (0,1)).2:=by
 have g:=iY λf hf=>(B.gg f hf).1
 have R:=ok.pos
 have o:=Nr (fl:=fl) B P
 have c:0<(fg.getD j (0,1)).2:=(B.gg _ (by rw[aR,aD P];exact cS P)).1
 have e:=vR (n:=frs.length) (f:=yF fl frs fb fg s) (g:=λi=>rwF frs i j) (W:=(bP fl frs fb fg).D s*(whF fg).1) (v:=λi=>(whF fg).2*((bP fl frs fb fg).a j i*(bP fl frs fb fg).T s frs.length (e1 i))) λi hi=>by
  have h1:=Ux (fl:=fl) B hi P
  have h2:=(Wh B ok un hi).2.2.2
  have r:=Gr B hi
  show(yF fl frs fb fg s i).1*(rwF frs i j).1*_=_*((yF fl frs fb fg s i).2*(rwF frs i j).2)
  generalize (yF fl frs fb fg s i).1=l at*
  generalize (yF fl frs fb fg s i).2=d at*
  generalize (rwF frs i j).1=p at*
  generalize (rwF frs i j).2=u at*
  generalize (whF (frs.getD i [])).1=x at*
  generalize (whF (frs.getD i [])).2=G at*
  generalize (whF fg).1=t at*
  generalize (whF fg).2=b at*
  generalize (bP fl frs fb fg).a j i=a at*
  generalize (bP fl frs fb fg).T s frs.length (e1 i)=U at*
  generalize (bP fl frs fb fg).D s=D at*
  apply Int.eq_of_mul_eq_mul_left (show G≠0 by omega)
  grind
 rw[Lpd.sm_mul]at e
 refine prdF_ge (bK R g.1) (jS (λi hi=>(Wh B ok un hi).1) λi hi=>Eg B hi P) e ?_
 have go:=Lpd.goal_of (L:=bP fl frs fb fg) (s:=s) ((bP fl frs fb fg).cv j)
 have hc:=un j (show j<fg.length+frs.length by omega)
 have h:(bP fl frs fb fg).cv j=(bP fl frs fb fg).a j:=by unfold Lpd.cv;rw[aJ (show j<(bP fl frs fb fg).n from P)]
 rw[go,h]at hc
 have hc:0<=(sm frs.length λk=>(bP fl frs fb fg).a j k*(bP fl frs fb fg).T s frs.length (e1 k))+(bP fl frs fb fg).a j frs.length*(bP fl frs fb fg).D s:=hc
 generalize (sm frs.length λk=>(bP fl frs fb fg).a j k*(bP fl frs fb fg).T s frs.length (e1 k))=N at*
 generalize (bP fl frs fb fg).a j frs.length=y at*
 generalize (bP fl frs fb fg).D s=D at*
 generalize (whF fg).1=t at*
 generalize (whF fg).2=b at*
 generalize (fg.getD j (0,1)).1=h1 at*
 generalize (fg.getD j (0,1)).2=h2 at*
 have m:=Int.mul_le_mul_of_nonneg_left (show-y*D<=N by have:-y*D=-(y*D):=Int.neg_mul _ _;omega) (bW (bK g.2 c))
 have e1:h1*(D*t)=b*h2*(-y*D):=by grind
 have C:b*N*h2=b*h2*N:=by grind
 rw[e1,C];exact m
theorem jY3(B:BeO frs fb fg)(ok:(bP fl frs fb fg).Ok s)(io:kC (bP fl frs fb fg) s)(un:UnO (bP fl frs fb fg) s none):
  (jX fg.length (λj=>fg.getD j (0,1)) (xF fl frs fb fg s)).1*(jX frs.length (λi=>fb.getD i (0,1)) (yF fl frs fb fg s)).2=(jX frs.length (λi=>fb.getD i (0,1)) (yF fl frs fb fg s)).1*(jX fg.length (λj=>fg.getD j (0,1)) (xF fl frs fb fg s)).2:=by
 have g:=iY λf hf=>(B.gg f hf).1
 have w:=Ui B
 have R:=ok.pos
 have q1:=vR (n:=fg.length) (f:=λj=>fg.getD j (0,1)) (g:=xF fl frs fb fg s) (W:=(whF fg).1*(bP fl frs fb fg).D s*(whF (bnF frs fb)).1) (v:=λj=>(-((whF fg).2*(whF (bnF frs fb)).2))*(Lpd.spr frs.length s (λi=>(bP fl frs fb fg).T s i (bP fl frs fb fg).be) j*(bP fl frs fb fg).a j frs.length)) λj P=>by
  have h1:=Nr (fl:=fl) B P
  have h2:=(Ip B ok j).2.2.2
  show(fg.getD j (0,1)).1*(xF fl frs fb fg s j).1*_=_*((fg.getD j (0,1)).2*(xF fl frs fb fg s j).2)
  generalize (xF fl frs fb fg s j).1=l at*
  generalize (xF fl frs fb fg s j).2=d at*
  generalize (fg.getD j (0,1)).1=o at*
  generalize (fg.getD j (0,1)).2=u at*
  generalize (whF fg).1=t at*
  generalize (whF fg).2=b at*
  generalize (whF (bnF frs fb)).1=p at*
  generalize (whF (bnF frs fb)).2=h at*
  generalize (bP fl frs fb fg).a j frs.length=a at*
  generalize Lpd.spr frs.length s (λi=>(bP fl frs fb fg).T s i (bP fl frs fb fg).be) j=S at*
  generalize (bP fl frs fb fg).D s=D at*
  grind
 have J:=vR (n:=frs.length) (f:=λi=>fb.getD i (0,1)) (g:=yF fl frs fb fg s) (W:=(whF fg).1*(bP fl frs fb fg).D s*(whF (bnF frs fb)).1) (v:=λi=>((whF fg).2*(whF (bnF frs fb)).2)*((bP fl frs fb fg).be i*(bP fl frs fb fg).T s frs.length (e1 i))) λi hi=>by
  have h1:=jXo (fl:=fl) B hi
  have h2:=(Wh B ok un hi).2.2.2
  have r:=Gr B hi
  show(fb.getD i (0,1)).1*(yF fl frs fb fg s i).1*_=_*((fb.getD i (0,1)).2*(yF fl frs fb fg s i).2)
  generalize (yF fl frs fb fg s i).1=l at*
  generalize (yF fl frs fb fg s i).2=d at*
  generalize (fb.getD i (0,1)).1=b1 at*
  generalize (fb.getD i (0,1)).2=b2 at*
  generalize (whF (frs.getD i [])).1=x at*
  generalize (whF (frs.getD i [])).2=G at*
  generalize (whF fg).1=t at*
  generalize (whF fg).2=b at*
  generalize (whF (bnF frs fb)).1=p at*
  generalize (whF (bnF frs fb)).2=h at*
  generalize (bP fl frs fb fg).be i=be at*
  generalize (bP fl frs fb fg).T s frs.length (e1 i)=U at*
  generalize (bP fl frs fb fg).D s=D at*
  apply Int.eq_of_mul_eq_mul_left (show x*G≠0 from Int.ne_of_gt (bK r.1 r.2))
  grind
 rw[Lpd.sm_mul]at q1 J
 have c:(bP fl frs fb fg).be frs.length=0:=by
  show(whL (bnF frs fb)).getD frs.length 0=0
  rw[aR,cM (by rw[kF,jM B.lb];exact aM _)];rfl
 have Y:(sm fg.length λj=>Lpd.spr frs.length s (λi=>(bP fl frs fb fg).T s i (bP fl frs fb fg).be) j*(bP fl frs fb fg).a j frs.length)=-(bP fl frs fb fg).T s frs.length (bP fl frs fb fg).be:=ok.earned io c
 have go:=Lpd.goal_of (L:=bP fl frs fb fg) (s:=s) (bP fl frs fb fg).be
 have go:(bP fl frs fb fg).T s frs.length (bP fl frs fb fg).be=(sm frs.length λk=>(bP fl frs fb fg).be k*(bP fl frs fb fg).T s frs.length (e1 k))+(bP fl frs fb fg).be frs.length*(bP fl frs fb fg).D s:=go
 rw[c,fN,Int.add_zero]at go
 rw[Y]at q1
 rw[←go]at J
 have z:=bK (bK g.1 R) w.1
 generalize (jX fg.length (λj=>fg.getD j (0,1)) (xF fl frs fb fg s)).1=C at*
 generalize (jX fg.length (λj=>fg.getD j (0,1)) (xF fl frs fb fg s)).2=e at*
 generalize (jX frs.length (λi=>fb.getD i (0,1)) (yF fl frs fb fg s)).1=m at*
 generalize (jX frs.length (λi=>fb.getD i (0,1)) (yF fl frs fb fg s)).2=R2 at*
 generalize (whF fg).1*(bP fl frs fb fg).D s*(whF (bnF frs fb)).1=Z at*
 generalize (bP fl frs fb fg).T s frs.length (bP fl frs fb fg).be=tb at*
 apply Int.eq_of_mul_eq_mul_left (show Z≠0 by omega)
 grind
theorem Wi(ok:(bP fl frs fb fg).Ok s)(un:UnO (bP fl frs fb fg) s (some c))(j:Nat):0<(mI (bP fl frs fb fg) s c j).2/\Int.gcd (mI (bP fl frs fb fg) s c j).1 (mI (bP fl frs fb fg) s c j).2=1/\0<=(mI (bP fl frs fb fg) s c j).1/\(mI (bP fl frs fb fg) s c j).1*(bP fl frs fb fg).D s=(Lpd.spr frs.length s (λi=>-(bP fl frs fb fg).T s i ((bP fl frs fb fg).cv c)) j+if j=c then(bP fl frs fb fg).D s else 0)*(mI (bP fl frs fb fg) s c j).2:=by
 have R:=ok.pos
 have l:=eK (t:=Lpd.spr frs.length s (λi=>-(bP fl frs fb fg).T s i ((bP fl frs fb fg).cv c)) j+if j=c then(bP fl frs fb fg).D s else 0) R
 refine#[l.pos,l.cop,Oh R (Int.add_nonneg (Lpd.spr_nonneg (λi hi=>?_) j) ?_),l.eq]
 ·have:=un.2.2 i hi;omega
 ·split
  ·omega
  ·exact Int.le_refl _
theorem Vk(B:BeO frs fb fg)(ok:(bP fl frs fb fg).Ok s)(io:kC (bP fl frs fb fg) s)(un:UnO (bP fl frs fb fg) s (some c))(hi:i<frs.length):(jX fg.length (rwF frs i) (mI (bP fl frs fb fg) s c)).1<=0:=by
 have r:=Gr B hi
 have R:=ok.pos
 have k:=ok.ways_row io (c:=c) (r:=i) un.2.2 hi
 have k:(sm fg.length λj=>(Lpd.spr frs.length s (λi=>-(bP fl frs fb fg).T s i ((bP fl frs fb fg).cv c)) j+if j=c then(bP fl frs fb fg).D s else 0)*(bP fl frs fb fg).a j i)<=0:=k
 have e:=vR (n:=fg.length) (f:=rwF frs i) (g:=mI (bP fl frs fb fg) s c) (W:=(whF (frs.getD i [])).1*(bP fl frs fb fg).D s) (v:=λj=>(whF (frs.getD i [])).2*((Lpd.spr frs.length s (λi=>-(bP fl frs fb fg).T s i ((bP fl frs fb fg).cv c)) j+if j=c then(bP fl frs fb fg).D s else 0)*(bP fl frs fb fg).a j i)) λj P=>by
  have h1:=Ux (fl:=fl) B hi P
  have h2:=(Wi ok un j).2.2.2
  generalize (Lpd.spr frs.length s (λi=>-(bP fl frs fb fg).T s i ((bP fl frs fb fg).cv c)) j+if j=c then(bP fl frs fb fg).D s else 0)=S at*
  generalize (mI (bP fl frs fb fg) s c j).1=l at*
  generalize (mI (bP fl frs fb fg) s c j).2=d at*
  generalize (rwF frs i j).1=b at*
  generalize (rwF frs i j).2=u at*
  generalize (whF (frs.getD i [])).1=x at*
  generalize (whF (frs.getD i [])).2=G at*
  generalize (bP fl frs fb fg).a j i=a at*
  generalize (bP fl frs fb fg).D s=D at*
  grind
 rw[Lpd.sm_mul]at e
 have p:=jS (n:=fg.length) (f:=rwF frs i) (g:=mI (bP fl frs fb fg) s c) (λj P=>Eg B hi P) λj _=>(Wi ok un j).1
 have:=jZx (c:=(0,1)) (bK r.1 R) p e (by
  show _*1<=0*_
  rw[eA,fN]
  exact Int.mul_nonpos_of_nonneg_of_nonpos (bW r.2) k)
 simpa using this
theorem Qc(B:BeO frs fb fg)(ok:(bP fl frs fb fg).Ok s)(io:kC (bP fl frs fb fg) s)(un:UnO (bP fl frs fb fg) s (some c)):0<(jX fg.length (λj=>fg.getD j (0,1)) (mI (bP fl frs fb fg) s c)).1:=by
 have g:=iY λf hf=>(B.gg f hf).1
 have h:=ok.pos
 have k:=ok.ways_goal io (c:=c) un.1
 have k:(sm fg.length λj=>(Lpd.spr frs.length s (λi=>-(bP fl frs fb fg).T s i ((bP fl frs fb fg).cv c)) j+if j=c then(bP fl frs fb fg).D s else 0)*(bP fl frs fb fg).a j frs.length)=(bP fl frs fb fg).T s frs.length ((bP fl frs fb fg).cv c):=k
 have e:=vR (n:=fg.length) (f:=λj=>fg.getD j (0,1)) (g:=mI (bP fl frs fb fg) s c) (W:=(whF fg).1*(bP fl frs fb fg).D s) (v:=λj=>(-(whF fg).2)*((Lpd.spr frs.length s (λi=>-(bP fl frs fb fg).T s i ((bP fl frs fb fg).cv c)) j+if j=c then(bP fl frs fb fg).D s else 0)*(bP fl frs fb fg).a j frs.length)) λj P=>by
  have h1:=Nr (fl:=fl) B P
  have h2:=(Wi ok un j).2.2.2
  show(fg.getD j (0,1)).1*(mI (bP fl frs fb fg) s c j).1*_=_*((fg.getD j (0,1)).2*(mI (bP fl frs fb fg) s c j).2)
  generalize (Lpd.spr frs.length s (λi=>-(bP fl frs fb fg).T s i ((bP fl frs fb fg).cv c)) j+if j=c then(bP fl frs fb fg).D s else 0)=S at*
  generalize (mI (bP fl frs fb fg) s c j).1=l at*
  generalize (mI (bP fl frs fb fg) s c j).2=d at*
  generalize (fg.getD j (0,1)).1=r at*
  generalize (fg.getD j (0,1)).2=u at*
  generalize (whF fg).1=t at*
  generalize (whF fg).2=b at*
  generalize (bP fl frs fb fg).a j frs.length=a at*
  generalize (bP fl frs fb fg).D s=D at*
  grind
 rw[Lpd.sm_mul,k]at e
 have p:=jS (n:=fg.length) (f:=λj=>fg.getD j (0,1)) (g:=mI (bP fl frs fb fg) s c) (λj P=>(B.gg _ (by rw[aR,aD P];exact cS P)).1) λj _=>(Wi ok un j).1
 have R:=un.2.1
 have R:(bP fl frs fb fg).T s frs.length ((bP fl frs fb fg).cv c)<0:=R
 have z:0<(-(whF fg).2)*(bP fl frs fb fg).T s frs.length ((bP fl frs fb fg).cv c)*(jX fg.length (λj=>fg.getD j (0,1)) (mI (bP fl frs fb fg) s c)).2:=bK (Int.mul_pos_of_neg_of_neg #[] R) p
 rw[←e]at z
 have q:=bK g.1 h
 refine Classical.byContradiction λA=>?_
 have:=Int.mul_nonpos_of_nonpos_of_nonneg (a:=(jX fg.length (λj=>fg.getD j (0,1)) (mI (bP fl frs fb fg) s c)).1) #[] (bW q)
 omega
end
noncomputable def G4(f:Int×Int):Prop:=BB 40000 f.1/\BB 40000 f.2
namespace Lpd
noncomputable def rowL(L:Lpd)(i:Nat):List Int:=ofF L.n (λj=>L.a j i)++[L.be i]
theorem rowL_length(L:Lpd)(i:Nat):(L.rowL i).length=L.n+1:=by unfold rowL;rw[bC,bH];rfl
theorem rowL_get(L:Lpd)(i:Nat)(h:j<L.n):(L.rowL i)[j]?=some (L.a j i):=by
 unfold rowL;rw[bV (by rw[bH];exact h),fK _ h]
theorem rowL_last(L:Lpd)(i:Nat):(L.rowL i)[L.n]?=some (L.be i):=by
 unfold rowL;rw[bO (by rw[bH];exact aM _),bH,fZ];rfl
theorem rowL_mem{L:Lpd}{x:Int}(h:x∈L.rowL i):(∃j,j<L.n/\x=L.a j i)∨x=L.be i:=by
 unfold rowL at h
 rcases cR.mp h with h |h
 ·exact .inl (kW h)
 ·exact .inr (bX.mp h)
theorem jYw(L:Lpd):L.flip.flip=L:=by
 unfold flip
 cases L with
 |mk m n a be fl=>cases fl<;>rfl
theorem flip_kept(L:Lpd)(s:Nat->Nat)(i:Nat):L.flip.keptL s i=(L.keptL s i).map λx=>-x:=by
 unfold keptL
 rw[aX]
 have e1:(ofF (L.m+1) λk=>L.T s i (e1 k)).map (λx=>-x)=ofF (L.m+1) λk=>-L.T s i (e1 k):=by
  unfold ofF;rw[List.map_map];rfl
 rw[e1]
 show ofF (L.m+1) (λk=>L.flip.T s i (My.e1 k))++[L.flip.T s i L.be]=_
 rw[Mc,jB λk _=>Mc]
 rfl
theorem Bc{L:Lpd}(o:L.flip.Okn s):L.Okn s:=by
 have:=jW8 o
 rwa [jYw]at this
theorem Lim.flip{L:Lpd}(h:L.Lim):L.flip.Lim:=
 #[h.m1,h.n1,h.ba,λs i c o hi=>by rw[Mc];exact(h.bc s i c (Bc o) hi).neg,λs i k o hi hk=>by rw[Mc];exact(h.bk s i k (Bc o) hi hk).neg,λs i o hi=>by rw[Mc];exact(h.bb s i (Bc o) hi).neg,λs o=>by rw[flip_D];exact(h.bD s (Bc o)).neg]
end Lpd
noncomputable def ib(n:Int):Nat:=Builtin.Int.intBits n
theorem Qp{n:Int}(h:BB q n):ib n<=q:=pC h
theorem jZp(n:Int):BB (ib n) n:=by
 unfold ib BB Builtin.Int.intBits
 by_cases h:n.natAbs=0
 ·rw[h];exact dR _
 ·rw[aF (by simpa using h)]
  exact Nat.lt_log2_self
theorem ib_neg(n:Int):ib (-n)=ib n:=by
 have h1:=Qp (n:=-n) (q:=ib n) (jZp n).neg
 have h2:=Qp (n:=n) (q:=ib (-n)) (by have:=(jZp (-n)).neg;rwa [Int.neg_neg]at this)
 omega
structure Tq(n b r:Int):Prop where
 zz:n=0->r=0
 nn:0<=n->0<=r
 bb:∀q:Nat,(ib n:Int)+b<=q->BB q r
theorem str_up{n b:Int}(hb:0<=b)(R:0<=n):Tq n b (n*2^b.toNat):=by
 refine#[λz=>by rw[z,fN],λ_=>dY R (bW (Int.pow_pos (by decide))),λq J=>?_]
 refine BB.mono (m:=ib n+b.toNat) ?_ #[]
 show(n*2^b.toNat).natAbs<2^(ib n+b.toNat)
 rw[cH,Nat.pow_add,Int.natAbs_pow]
 exact Nat.mul_lt_mul_of_pos_right (jZp n) (dR _)
theorem Wy{n b:Int}(hb:0<=b)(R:0<=n):Tq n (-b) (n.fdiv (2^b.toNat)):=by
 obtain⟨m,rfl⟩:∃m:Nat,n=(m:Int):=#[n.toNat,#[]]
 have e:((m:Int)).fdiv (2^b.toNat)=((m/2^b.toNat:Nat):Int):=by
  rw[Int.fdiv_eq_ediv_of_nonneg _ (bW (Int.pow_pos (by decide)))]
  push_cast;rfl
 rw[e]
 refine#[λz=>by rw[show m=0 by omega,Nat.zero_div];rfl,λ_=>Int.natCast_nonneg _,λq J=>?_]
 show((m/2^b.toNat:Nat):Int).natAbs<2^q
 rw[Int.natAbs_natCast]
 have h:m<2^ib m:=jZp (m:Int)
 refine(Nat.div_lt_iff_lt_mul (dR _)).mpr (bQ h ?_)
 rw[←Nat.pow_add]
 exact gS (by decide) #[]
theorem str_neg{n b r:Int}(h:Tq (-n) b r)(R:n<0):Tq n b (-r):=#[λz=>by omega,λz=>by omega,λq J=>(h.bb q (by rw[ib_neg];exact J)).neg]
noncomputable def LpR(f:List (List Int))(m n:Nat):Lpd:=#[m,n,λj i=>(f.getD i []).getD j 0,λi=>(f.getD i []).getD n 0,false]
theorem jVc{f:List (List Int)}{n:Nat}(h1:f.length=m+1)(h2:∀r∈f,r.length=n+1):ofF (m+1) (LpR f m n).rowL=f:=by
 refine List.ext_getElem? λi=>?_
 by_cases hi:i<m+1
 ·have e:f[i]?=some f[i]:=aD #[]
  rw[fK _ hi,e]
  congr 1
  have Y:=h2 _ (aL e)
  have a:f.getD i []=f[i]:=by rw[aR,e];rfl
  refine List.ext_getElem? λj=>?_
  by_cases P:j<n
  ·rw[Lpd.rowL_get _ _ (show j<(LpR f m n).n from P)]
   show some ((f.getD i []).getD j 0)=_
   rw[a,Ey #[]]
  ·by_cases b:j=n
   ·subst b
    have:=(LpR f m j).rowL_last i
    rw[show(LpR f m j).n=j from rfl]at this
    rw[this]
    show some ((f.getD i []).getD j 0)=_
    rw[a,Ey #[]]
   ·rw[cM (by rw[Lpd.rowL_length];show n+1<=j;omega),cM #[]]
 ·rw[cM (by rw[bH];omega),cM #[]]
theorem Fa:qL xs none (some (-1))=xs.take (xs.length-1):=by
 unfold qL
 rw[HT.sIx_none,List.drop_zero,Nat.sub_zero]
 congr 1
 unfold HT.sIx
 simp
 omega
theorem cut_row(L:Lpd)(i:Nat):qL (List.map V.int (L.rowL i)) none (some (-1))=List.map V.int (ofF L.n λj=>L.a j i):=by
 rw[Fa,aA,Lpd.rowL_length,Nat.add_sub_cancel,←map_take]
 congr 1
 unfold Lpd.rowL
 rw[List.take_append_of_le_length (by rw[bH];exact aM _),take_of_length_le (by rw[bH];exact aM _)]
structure xN(H:Hp)(a:Addr)(rps:List Addr)(L:Lpd):Prop where
 ha:H a=some (.lst (List.map V.ref rps))
 hr:eG H rps (ofF (L.m+1) L.rowL)
theorem xN.same{L:Lpd}(h:xN H a g L)(s:aP H H'):xN H' a g L:=#[s _ _ h.ha,h.hr.same s]
theorem xN.len{L:Lpd}(h:xN H a g L):g.length=L.m+1:=by rw[h.hr.length,bH]
theorem xN.row{L:Lpd}(h:xN H a g L)(hi:i<=L.m):∃p,g[i]?=some p/\H p=some (.lst (List.map V.int (L.rowL i))):=by
 have Y:=h.len
 obtain⟨p,hp⟩:∃p,g[i]?=some p:=#[_,aD #[]]
 obtain⟨r,e1,C⟩:=h.hr.get hp
 obtain⟨_,rfl⟩:=fR e1
 exact#[p,hp,C]
theorem xN.inv{L:Lpd}(h:xN H a g L)(hp:g[i]?=some p):i<=L.m/\H p=some (.lst (List.map V.int (L.rowL i))):=by
 obtain⟨r,e1,C⟩:=h.hr.get hp
 obtain⟨h1,rfl⟩:=fR e1
 exact#[#[],C]
theorem yI{l:List d}{x y:d}(e:(l++[x])[h]?=some y):(l[h]?=some y/\h<l.length)∨(h=l.length/\y=x):=by
 by_cases f:h<l.length
 ·rw[bV f]at e
  exact .inl #[e,f]
 ·have t:h=l.length:=by have:=(aK.mp e).1;rw[bC]at this;simp at this;omega
  rw[bO #[],t,fZ]at e
  cases e
  exact .inr #[t,rfl]
noncomputable def va(f:Int×Int):Rat:=(f.1:Rat)/(f.2:Rat)
theorem mY(h:0<z):(0:Rat)<z:=by exact_mod_cast h
theorem lR(h:0<f.2):va f*f.2=f.1:=by
 unfold va
 have:=mY h
 exact Rat.div_mul_cancel (by grind)
theorem oA{a b c:Rat}(hc:0<c)(h:a*c=b):a=b/c:=by
 have:c≠0:=by grind
 rw[←h,Rat.div_def,Rat.mul_assoc,Rat.mul_inv_cancel _ this,Rat.mul_one]
theorem Dq{a b c:Rat}(hc:0<c)(h:a*c=b*c):a=b:=by
 have h1:=oA hc h
 have h2:=oA (a:=b) hc rfl
 rw[h1,←h2]
theorem va_of{t b:Int}(hf:0<f.2)(hb:0<b)(e:f.1*b=t*f.2):va f=(t:Rat)/b:=by
 have h1:=lR hf
 have h2:=mY hf
 have h3:=mY hb
 have O:(f.1:Rat)*b=t*f.2:=by exact_mod_cast congrArg (λz:Int=>(z:Rat)) e
 refine oA h3 (Dq h2 ?_)
 rw[←O,←h1];grind
theorem Wk{t b x y:Int}(hb:0<b)(l:Lo t b x y):va (x,y)=(t:Rat)/b:=va_of l.pos hb l.eq
theorem qM{g:Int×Int}(hf:0<f.2)(hg:0<g.2):va f<=va g↔f.1*g.2<=g.1*f.2:=by
 have h1:=lR hf
 have h2:=lR hg
 have M:=mY hf
 have Z:=mY hg
 have s:=Rat.mul_pos M Z
 have e1:va f*((f.2:Rat)*g.2)=((f.1*g.2:Int):Rat):=by rw[fB,←h1];grind
 have C:va g*((f.2:Rat)*g.2)=((g.1*f.2:Int):Rat):=by rw[fB,←h2];grind
 constructor
 ·intro h
  have:=Rat.mul_le_mul_of_nonneg_right h (c:=(f.2:Rat)*g.2) (by grind)
  rw[e1,C]at this
  exact Rat.intCast_le_intCast.mp this
 ·intro h
  refine gC (c:=(f.2:Rat)*g.2) ?_ s
  rw[e1,C]
  exact Rat.intCast_le_intCast.mpr h
theorem vK:va (1,1)=1:=by unfold va;decide+kernel
theorem vP:va (0,1)=0:=by unfold va;decide+kernel
theorem qH(hf:0<f.2)(h:0<=f.1):0<=va f:=by
 have:=(qM (f:=(0,1)) (g:=f) (by decide) hf).mpr (by simpa using h)
 rwa [vP]at this
noncomputable def rsm:Nat->(Nat->Rat)->Rat
 |0,_=>0
 |n+1,f=>rsm n f+f n
theorem eY{f g:Nat->Rat}:∀{n:Nat},(∀k,k<n->f k=g k)->rsm n f=rsm n g
 |0,_=>rfl
 |n+1,h=>by
  show rsm n f+f n=rsm n g+g n
  rw[eY (n:=n) λk hk=>h k #[],h n #[]]
theorem oQ{f:Nat->Rat}{c:Rat}:∀{n:Nat},rsm n (λk=>f k*c)=rsm n f*c
 |0=>by show(0:Rat)=0*c;grind
 |n+1=>by
  show rsm n (λk=>f k*c)+f n*c=(rsm n f+f n)*c
  rw[oQ];grind
theorem vQ{f g:Nat->Rat}:∀{n:Nat},rsm n (λk=>f k+g k)=rsm n f+rsm n g
 |0=>by show(0:Rat)=0+0;grind
 |n+1=>by
  show rsm n (λk=>f k+g k)+(f n+g n)=rsm n f+f n+(rsm n g+g n)
  rw[vQ];grind
theorem rsm_le{f g:Nat->Rat}:∀{n:Nat},(∀k,k<n->f k<=g k)->rsm n f<=rsm n g
 |0,_=>by show(0:Rat)<=0;grind
 |n+1,h=>by
  show rsm n f+f n<=rsm n g+g n
  have h1:=rsm_le (n:=n) λk hk=>h k #[]
  have h2:=h n #[]
  grind
theorem qU{f:Nat->Rat}:∀{n:Nat},(∀k,k<n->0<=f k)->0<=rsm n f
 |0,_=>by show(0:Rat)<=0;grind
 |n+1,h=>by
  show 0<=rsm n f+f n
  have h1:=qU (n:=n) λk hk=>h k #[]
  have h2:=h n #[]
  grind
theorem Nd{f:Nat->Rat}:∀{n:Nat},(∀k,k<n->0<=f k)->rsm n f=0->∀k,k<n->f k=0
 |0,_,_,_,hk=>absurd hk (eN _)
 |n+1,h,e,k,hk=>by
  have e:rsm n f+f n=0:=e
  have h1:=qU (n:=n) λk hk=>h k #[]
  have h2:=h n #[]
  by_cases R:k=n
  ·subst R;grind
  ·exact Nd (n:=n) (λk hk=>h k #[]) (by grind) k #[]
theorem oZ{f:Nat->Rat}:∀{n:Nat},(∀k,k<n->f k=0)->rsm n f=0
 |0,_=>rfl
 |n+1,h=>by
  show rsm n f+f n=0
  rw[oZ (n:=n) λk hk=>h k #[],h n #[]];grind
theorem xX{f g:Nat->Int×Int}:∀{n:Nat},(∀k,k<n->0<(f k).2)->(∀k,k<n->0<(g k).2)->va (jX n f g)=rsm n λk=>va (f k)*va (g k)
 |0,_,_=>vP
 |n+1,hf,hg=>by
  have m:=xX (n:=n) (λk hk=>hf k #[]) (λk hk=>hg k #[])
  have p:=jS (n:=n) (λk hk=>hf k #[]) (λk hk=>hg k #[])
  have u:=hf n #[]
  have g2:=hg n #[]
  show va (jX (n+1) f g)=rsm n (λk=>va (f k)*va (g k))+va (f n)*va (g n)
  rw[←m]
  have U:=lR p
  have G:=lR u
  have l:=lR g2
  have q:0<(jX (n+1) f g).2:=bK (bK p u) g2
  refine Dq (mY q) ?_
  rw[lR q]
  show(((jX n f g).1*(f n).2*(g n).2+(f n).1*(g n).1*(jX n f g).2:Int):Rat)=(va (jX n f g)+va (f n)*va (g n))*(((jX n f g).2*(f n).2*(g n).2:Int):Rat)
  simp only[Rat.intCast_add,fB]
  rw[←U,←G,←l];grind
theorem vN(a b:Rat):a/b=a*b⁻¹:=Rat.div_def a b
section
variable{fl:Bool}{frs:jA}{fb fg:fP}{s:Nat->Nat}
theorem va_eqv{g:Int×Int}(hf:0<f.2)(hg:0<g.2)(e:f.1*g.2=g.1*f.2):va f=va g:=by
 have h1:=(qM hf hg).mpr #[]
 have h2:=(qM hg hf).mpr #[]
 grind
end
theorem Lf{x y M:Int}(h:x*M=z*y)(g:Int.gcd x y=1):y∣M:=by
 have h1:y∣x*M:=#[z,by rw[h,gR]]
 have h2:=Int.natAbs_dvd_natAbs.mpr h1
 rw[cH]at h2
 have c:Nat.Coprime y.natAbs x.natAbs:=by show Nat.gcd _ _=1;rw[Nat.gcd_comm];exact g
 exact Int.natAbs_dvd_natAbs.mp (c.dvd_of_dvd_mul_left h2)
theorem va_le1(hf:0<f.2)(h:va f<=1):f.1<=f.2:=by
 rw[←vK]at h
 have:=(qM hf (by decide)).mp h
 simpa using this
theorem Mi{n:Nat}{x M:Int}(h:BB n M)(j:0<M)(d:x∣M):BB n x:=h.of_le (Nat.le_of_dvd #[] (Int.natAbs_dvd_natAbs.mpr d))
theorem va_add{g:Int×Int}(hf:0<f.2)(hg:0<g.2):va (lo2 (f.1*g.2+g.1*f.2) (f.2*g.2))=va f+va g:=by
 have z:=bK hf hg
 rw[show va (lo2 (f.1*g.2+g.1*f.2) (f.2*g.2))=((f.1*g.2+g.1*f.2:Int):Rat)/((f.2*g.2:Int):Rat)from Wk z (eK z)]
 symm
 refine oA (mY z) ?_
 have h1:=lR hf
 have h2:=lR hg
 simp only[Rat.intCast_add,fB]
 rw[←h1,←h2];grind
theorem va_sub{g:Int×Int}(hf:0<f.2)(hg:0<g.2):va (lo2 (f.1*g.2-g.1*f.2) (f.2*g.2))=va f-va g:=by
 have z:=bK hf hg
 rw[show va (lo2 (f.1*g.2-g.1*f.2) (f.2*g.2))=((f.1*g.2-g.1*f.2:Int):Rat)/((f.2*g.2:Int):Rat)from Wk z (eK z)]
 symm
 refine oA (mY z) ?_
 have h1:=lR hf
 have h2:=lR hg
 simp only[Rat.intCast_sub,fB]
 rw[←h1,←h2];grind
theorem va_pos{g:Int×Int}(hg:0<g.2)(z:0<g.1):0<va g:=by
 have h2:=lR hg
 have a:=mY z
 have:=qH hg (bW z)
 by_cases e:va g=0
 ·rw[e]at h2;grind
 ·grind
noncomputable def lft(z:Int)(f:Int×Int):Int×Int:=lo2 (f.1*1+(1-z)*f.2) (f.2*1)
structure Mnf(frs:jA)(z:Int):Prop where
 at_:∃r∈frs,∃f∈r,z=f.1.fdiv f.2
 le:∀r∈frs,∀f∈r,z<=f.1.fdiv f.2
theorem va_lft(hf:0<f.2):va (lft z f)=va f+(1-z:Int):=by
 have:=va_add (g:=(1-z,1)) hf (by decide:(0:Int)<1)
 unfold lft
 rw[this]
 congr 1
 unfold va
 show((1-z:Int):Rat)/((1:Int):Rat)=_
 rw[show((1:Int):Rat)=1 from rfl,Rat.div_def]
 grind
theorem fdiv_le(hf:0<f.2):((f.1.fdiv f.2:Int):Rat)<=va f:=by
 refine gC (c:=(f.2:Rat)) ?_ (mY hf)
 rw[lR hf,←fB]
 refine Rat.intCast_le_intCast.mpr ?_
 have:=Int.mul_fdiv_add_fmod f.1 f.2
 have h2:=Int.fmod_nonneg_of_pos f.1 hf
 rw[gR];omega
theorem lft_ge(hf:0<f.2)(h:z<=f.1.fdiv f.2):1<=va (lft z f):=by
 rw[va_lft hf]
 have h1:=fdiv_le hf
 have h2:(z:Rat)<=(f.1.fdiv f.2:Int):=Rat.intCast_le_intCast.mpr h
 have h3:((1-z:Int):Rat)=1-z:=by rw[Rat.intCast_sub];rfl
 rw[h3];grind
theorem jW9{a b:Int}(h:0<b):(a.fdiv b).natAbs<=a.natAbs:=by
 have e:=Int.mul_fdiv_add_fmod a b
 have h1:=Int.fmod_nonneg_of_pos a h
 have h2:=Int.fmod_lt_of_pos a h
 generalize a.fdiv b=q at e⊢
 generalize a.fmod b=r at e h1 h2
 by_cases J:0<=q
 ·have:q<=b*q:=by have:=Int.mul_le_mul_of_nonneg_right (show(1:Int)<=b by omega) J;omega
  omega
 ·have:b*(q+1)<=q+1:=by have:=Int.mul_le_mul_of_nonpos_right (show(1:Int)<=b by omega) (show q+1<=0 by omega);omega
  have C:b*(q+1)=b*q+b:=by rw[Int.mul_add,eA]
  omega
theorem Mnf.bb{frs:jA}{n:Nat}(h:Mnf frs z)(hg:∀r∈frs,∀f∈r,0<f.2/\BB n f.1/\BB n f.2):BB (n+1) (1-z):=by
 obtain⟨r,hr,f,hf,rfl⟩:=h.at_
 obtain⟨u,b1,_⟩:=hg r hr f hf
 have h1:BB n (f.1.fdiv f.2):=b1.of_le (jW9 u)
 have:(f.1.fdiv f.2).natAbs<2^n:=h1
 show(1-f.1.fdiv f.2).natAbs<2^(n+1)
 rw[jU]
 have:=dR n
 omega
theorem jZw{f:Nat->Int}:∀{n:Nat},((sm n f:Int):Rat)=rsm n λk=>((f k:Int):Rat)
 |0=>rfl
 |n+1=>by
  show((sm n f+f n:Int):Rat)=rsm n (λk=>((f k:Int):Rat))+((f n:Int):Rat)
  rw[Rat.intCast_add,jZw]
structure WoR(frs:jA)(n:Nat):Prop where
 m1:1<=frs.length
 m2:frs.length<=100
 n1:1<=n
 n2:n<=100
 hr:∀r∈frs,r.length=n
 hg:∀r∈frs,∀f∈r,0<f.2/\BB 4000 f.1/\BB 4000 f.2
theorem La{S:Int}(j:0<S):(lo2 u S).2∣S:=Lf (eK (t:=u) j).eq (eK j).cop
structure Ent(S N:Int)(f:Int×Int):Prop where
 p:0<f.2
 c:Int.gcd f.1 f.2=1
 d:f.2∣S
 e:f.1*S=N*f.2
theorem ent_lft{S:Int}(j:0<S):Ent S (u+(1-z)*S) (lft z (lo2 u S)):=by
 have l:=eK (t:=u) j
 have O:0<(lo2 u S).2*1:=by have:=l.pos;omega
 have n:=eK (t:=(lo2 u S).1*1+(1-z)*(lo2 u S).2) O
 have R:(lo2 u S).2∣S:=La j
 have e1:=l.eq
 have C:=n.eq
 have M:=l.pos
 refine#[n.pos,n.cop,?_,?_]
 ·exact jC (Lf C n.cop) (by rw[eA];exact R)
 ·show(lo2 ((lo2 u S).1*1+(1-z)*(lo2 u S).2) ((lo2 u S).2*1)).1*S=(u+(1-z)*S)*(lo2 ((lo2 u S).1*1+(1-z)*(lo2 u S).2) ((lo2 u S).2*1)).2
  generalize (lo2 ((lo2 u S).1*1+(1-z)*(lo2 u S).2) ((lo2 u S).2*1)).1=X at C⊢
  generalize (lo2 ((lo2 u S).1*1+(1-z)*(lo2 u S).2) ((lo2 u S).2*1)).2=Y at C⊢
  generalize (lo2 u S).1=A at e1 C
  generalize (lo2 u S).2=B at e1 C M
  refine eW (show B≠0 by omega) ?_
  have:X*S*B=X*(B*1)*S:=by grind
  rw[this,C]
  have:(A*1+(1-z)*B)*Y*S=(A*S+(1-z)*B*S)*Y:=by grind
  rw[this,e1];grind
theorem tQ{x S N d:Int}(j:0<S)(R:0<=d)(a:d<=S)(e:x*S=N*d):x.natAbs<=N.natAbs:=by
 have h:x.natAbs*S.natAbs=N.natAbs*d.natAbs:=by rw[←cH,e,cH]
 have h2:N.natAbs*d.natAbs<=N.natAbs*S.natAbs:=iZ _ #[]
 exact Nat.le_of_mul_le_mul_right (show x.natAbs*S.natAbs<=N.natAbs*S.natAbs by omega) #[]
theorem ent_bb{S N:Int}(h:Ent S N f)(j:0<S)(K:BB q N):BB q f.1:=K.of_le (tQ j (bW h.p) (Int.le_of_dvd j h.d) h.e)
structure RwE(S:Int)(q:Nat)(row:fP):Prop where
 h:∀f∈row,∃N,Ent S N f/\BB q N
theorem RwE.lcd{S:Int}{row:fP}(R:RwE S q row):lc row∣S:=(Gv row 1 (by decide) λf hf=>let⟨_,e,_⟩:=R.h f hf;e.p).2.2.2 S (Int.one_dvd _) λf hf=>let⟨_,e,_⟩:=R.h f hf;e.d
theorem RwE.clr{S:Int}{row:fP}(R:RwE S q row)(j:0<S):∀x∈clr row,BB q x:=λx hx=>by
 obtain⟨f,hf,rfl⟩:=dD.mp hx
 obtain⟨N,e,a⟩:=R.h f hf
 have hp:∀f∈row,0<f.2:=λf hf=>let⟨_,e,_⟩:=R.h f hf;e.p
 have b:=Zv hp hf
 have lp:0<lc row:=Ma hp
 have le:=e.e
 have D:=e.p
 refine a.of_le (tQ j (bW lp) (Int.le_of_dvd j R.lcd) ?_)
 refine eW (show f.2≠0 by omega) ?_
 have:f.1*(lc row).fdiv f.2*S*f.2=f.1*(lc row).fdiv f.2*f.2*S:=by grind
 rw[this,b]
 have:f.1*lc row*S=f.1*S*lc row:=by grind
 rw[this,le];grind
theorem RwE.lc_bb{S:Int}{row:fP}(R:RwE S q row)(j:0<S)(e:BB k S):BB k (lc row):=Mi e j R.lcd
theorem floor_b{S:Int}(j:0<S):(lo2 u S).1.fdiv (lo2 u S).2*S<=u/\u<((lo2 u S).1.fdiv (lo2 u S).2+1)*S:=by
 have l:=eK (t:=u) j
 have e:=l.eq
 have p:=l.pos
 have h:=Int.mul_fdiv_add_fmod (lo2 u S).1 (lo2 u S).2
 have h1:=Int.fmod_nonneg_of_pos (lo2 u S).1 p
 have h2:=Int.fmod_lt_of_pos (lo2 u S).1 p
 generalize (lo2 u S).1.fdiv (lo2 u S).2=z at h⊢
 generalize (lo2 u S).1.fmod (lo2 u S).2=r at h h1 h2
 generalize (lo2 u S).1=A at e h
 generalize (lo2 u S).2=B at e h p h2
 have X:u*B=z*S*B+r*S:=by rw[←e,←h];grind
 have y:0<=r*S:=dY h1 (bW j)
 have f:r*S<B*S:=Int.mul_lt_mul_of_pos_right h2 j
 constructor
 ·exact Int.le_of_mul_le_mul_right (show z*S*B<=u*B by omega) p
 ·refine Int.lt_of_mul_lt_mul_right (a:=B) ?_ (bW p)
  have:(z+1)*S*B=z*S*B+B*S:=by grind
  omega
noncomputable def tv(q:List Nat):List V:=q.map λn:Nat=>V.int (n:Int)
noncomputable def tk(q:List Nat):List Key:=q.map λn:Nat=>(Sum.inl (n:Int):Key)
theorem tS(q:List Nat):(tk q).map kV=tv q:=by
 unfold tk tv
 rw[List.map_map]
 exact hE λn _=>rfl
theorem tv_app(a b:List Nat):tv (a++b)=tv a++tv b:=aX
theorem mX(q:List Nat):(tv q).length=q.length:=aA _
theorem Gq{q:List Nat}{x:V}(h:(tv q)[i]?=some x):∃n,q[i]?=some n/\x=.int (n:Nat):=by
 unfold tv at h
 rw[aY]at h
 cases e:q[i]? with
 |none=>rw[e]at h;cases h
 |some n=>rw[e]at h;exact#[n,rfl,(aV h).symm]
theorem tv_at{q:List Nat}{n:Nat}(h:q[i]?=some n):(tv q)[i]?=some (.int (n:Nat)):=by
 unfold tv;rw[aY,h];rfl
theorem xY:∀{a b:List Nat},tk a=tk b->a=b
 | [],[],_=>rfl
 | [],_::_,h=>by simp [tk]at h
 |_::_,[],h=>by simp [tk]at h
 |x::a,y::b,h=>by
  simp only[tk,bR,List.cons.injEq,Sum.inl.injEq]at h
  have h1:x=y:=by have:=h.1;omega
  rw[h1,xY (a:=a) (b:=b) h.2]
noncomputable def dU:List Nat->fO
 | []=>[[]]
 |s::rs=>(dU rs).flatMap λb=>(List.range s).map λc=>b++[c]
noncomputable def digs:List Nat->Nat->List Nat
 | [],_=>[]
 |s::rs,n=>digs rs (n/s)++[n%s]
noncomputable def Bt:List Nat->Nat
 | []=>1
 |s::rs=>Bt rs*s
theorem Rk(s:Nat):∀m:Nat,List.range (m*s)=(List.range m).flatMap λi=>(List.range s).map λc=>i*s+c
 |0=>by simp
 |m+1=>by
  rw[Nat.succ_mul,List.range_add,gO,List.flatMap_append,Rk s m]
  simp
theorem jZ1:∀X:List Nat,(∀s∈X,1<=s)->dU X=(List.range (Bt X)).map (digs X)
 | [],_=>by simp [dU,Bt,digs]
 |s::X,h=>by
  have hs:1<=s:=h s (bT ..)
  have hr:=jZ1 X λt y=>h t (bI _ y)
  show(dU X).flatMap _=(List.range (Bt X*s)).map (digs (s::X))
  rw[hr,Rk,List.map_flatMap,List.flatMap_map]
  congr 1
  funext i
  rw[List.map_map]
  refine hE λc hc=>?_
  have F:c<s:=fC.mp hc
  show digs X i++[c]=digs X ((i*s+c)/s)++[(i*s+c)%s]
  rw[Nat.mul_comm i s,Nat.mul_add_div #[],Nat.div_eq_of_lt F,Nat.mul_add_mod,Nat.mod_eq_of_lt F,Nat.add_zero]
theorem Jq(X:List Nat)(h:∀s∈X,1<=s):(dU X).length=Bt X:=by rw[jZ1 X h,aA,gQ]
theorem Eu:∀X:List Nat,(∀s∈X,s<=6)->Bt X<=6^X.length
 | [],_=>aM _
 |s::X,h=>by
  show Bt X*s<=6^(X.length+1)
  rw[jU]
  exact gZ (Eu X λt y=>h t (bI _ y)) (h s (bT ..))
theorem iA:∀(X:List Nat)(q:List Nat),q∈dU X->q.length=X.length
 | [],q,h=>by simp [dU]at h;subst h;rfl
 |s::X,q,h=>by
  simp only[dU,hV,dD]at h
  obtain⟨b,hb,c,_,rfl⟩:=h
  simp [iA X b hb]
theorem mK:∀X:List Nat,(dU X).Nodup
 | []=>by simp [dU]
 |s::X=>by
  show List.Nodup ((dU X).flatMap _)
  unfold List.Nodup
  rw[List.pairwise_flatMap]
  refine#[λb _=>?_,(mK X).imp λ{a b} f x hx y g e=>?_]
  ·rw[List.pairwise_map]
   exact List.nodup_range.imp λ{c d} p e=>p (by simpa using e)
  ·obtain⟨c,_,rfl⟩:=dD.mp hx
   obtain⟨d,_,rfl⟩:=dD.mp g
   have:=(List.append_inj' e rfl).1
   exact f this
structure Sz(ns:List Nat):Prop where
 len:ns.length<=3
 ge:∀n∈ns,1<=n
 le:∀n∈ns,n<=6
theorem Sz.rev(h:Sz ns):Sz ns.reverse:=#[by rw[cT];exact h.len,λn R=>h.ge n (List.mem_reverse.mp R),λn R=>h.le n (List.mem_reverse.mp R)]
theorem Sz.take(h:Sz ns)(i:Nat):Sz (ns.take i):=#[by have:=h.len;rw[dM];omega,λn R=>h.ge n (mem_of_mem_take R),λn R=>h.le n (mem_of_mem_take R)]
theorem Sz.many(h:Sz ns):Bt ns<=216:=cO (Eu ns h.le) (cO (gS (by decide) h.len) (by decide))
theorem Sz.ord(h:Sz ns):(dU ns).length<=216:=by rw[Jq ns h.ge];exact h.many
noncomputable def wo{d:Type}(h:Nat)(q:List d):List d:=q.take h++q.drop (h+1)
theorem wo_tv(h:Nat)(q:List Nat):wo h (tv q)=tv (wo h q):=by
 unfold wo tv
 rw[aX,map_take,List.map_drop]
theorem jZr{q:List d}(Y:h<q.length)(x:d):(wo h q).take h++x::(wo h q).drop h=q.set h x:=by
 have h1:(q.take h).length=h:=by rw[dM];omega
 unfold wo
 rw[List.take_append,List.drop_append,h1,fZ,List.take_zero,List.drop_zero,bZ,List.drop_eq_nil_of_le #[],Lna,take_of_length_le #[],List.set_eq_take_append_cons_drop,aJ Y]
noncomputable def Ps(H:Hp)(xs:List V)(qs:fO):Prop:=xs.length=qs.length/\∀(i:Nat)(q:List Nat),qs[i]?=some q->∃a:Addr,xs[i]?=some (V.ref a)/\H a=some (.tup (tv q))
noncomputable def Ir(H H':Hp):Prop:=∀a xs,H a=some (.tup xs)->H' a=some (.tup xs)
theorem eI(s:aP H H'):Ir H H':=λa F h=>s a _ h
theorem Sc{l:Addr}(h:H l=some (.lst xs)):Ir H (upd H l o):=λa T e=>by
 rw[bY (kU e h (by intro z;cases z))];exact e
theorem Ps.keep(p:Ps H xs qs)(k:Ir H H'):Ps H' xs qs:=#[p.1,λi q e=>let⟨a,h1,h2⟩:=p.2 i q e;#[a,h1,k a _ h2]]
theorem Ps.same(p:Ps H xs qs)(s:aP H H'):Ps H' xs qs:=p.keep (eI s)
theorem Ps.nil:Ps H [] []:=#[rfl,λi q e=>by simp at e]
theorem Ps.app{X:fO}(p:Ps H xs qs)(r:Ps H ys X):Ps H (xs++ys) (qs++X):=by
 refine#[by rw[bC,bC,p.1,r.1],λi q e=>?_]
 by_cases hi:i<qs.length
 ·rw[bV hi]at e
  rw[bV (by rw[p.1];exact hi)]
  exact p.2 i q e
 ·rw[bO #[]]at e
  rw[bO (by rw[p.1];omega),p.1]
  exact r.2 _ q e
theorem Ps.one{q:List Nat}(h:H a=some (.tup (tv q))):Ps H [.ref a] [q]:=by
 refine#[rfl,λi f e=>?_]
 cases i with
 |zero=>simp at e;subst e;exact#[a,rfl,h]
 |succ i=>simp at e
theorem Ps.get{H:Hp}{xs:List V}{qs:fO}{i:Nat}{x:V}(p:Ps H xs qs)(h:xs[i]?=some x):∃q a,qs[i]?=some q/\x=.ref a/\H a=some (.tup (tv q)):=by
 have Y:i<qs.length:=by rw[←p.1];exact(aK.mp h).1
 obtain⟨a,e1,C⟩:=p.2 i qs[i] (aD Y)
 rw[h]at e1
 exact#[qs[i],a,aD Y,aV e1,C]
theorem Ps.at(p:Ps H xs qs)(h:i<qs.length):∃q a,qs[i]?=some q/\xs[i]?=some (.ref a)/\H a=some (.tup (tv q)):=by
 obtain⟨a,e1,C⟩:=p.2 i qs[i] (aD h)
 exact#[qs[i],a,aD h,e1,C]
theorem pW{n:Nat}(h:n<=216):n<=sizeLine:=by rw[sizeLine_eq];omega
theorem small'{n:Nat}(h:n<=216):n<sizeLine:=by rw[sizeLine_eq];omega
theorem Zu:qL xs none (some (h:Int))=xs.take h:=by
 unfold qL
 rw[HT.sIx_none,HT.sIx_nat,List.drop_zero,Nat.sub_zero]
 by_cases e:h<=xs.length
 ·rw[Nat.min_eq_left e]
 ·rw[Nat.min_eq_right #[],cA,take_of_length_le #[]]
theorem Nv:qL xs (some (h:Int)) none=xs.drop h:=by
 unfold qL
 rw[HT.sIx_none,HT.sIx_nat]
 by_cases e:h<=xs.length
 ·rw[Nat.min_eq_left e,take_of_length_le (by rw[List.length_drop];omega)]
 ·rw[Nat.min_eq_right #[],List.drop_eq_nil_of_le (aM _),List.drop_eq_nil_of_le #[]];simp
theorem Ar(xs:List V)(lo hi:Option Int):(qL xs lo hi).length<=xs.length:=zV xs lo hi
theorem Ds{l:List d}{x:d}(h:l.Nodup)(e:l[i]?=some x):x∉l.take i:=by
 intro hm
 have h2:(l.take (i+1)).Nodup:=(List.take_sublist (i+1) l).nodup h
 have a:l.take (i+1)=l.take i++[x]:=by rw[List.take_add_one,e];rfl
 rw[a,List.nodup_append]at h2
 exact h2.2.2 x hm x (List.mem_singleton_self x) rfl
noncomputable def sC(H:Hp)(kvs:List (List Key×V))(A:List Nat->List V)(q:List Nat):Prop:=∃l,kZ kvs (tk q)=some (.ref l)/\H l=some (.lst (A q))
theorem sC.same{q:List Nat}(c:sC H kvs A q)(s:aP H H'):sC H' kvs A q:=let⟨l,h1,h2⟩:=c;#[l,h1,s _ _ h2]
theorem Mn{k:List Key}(h:kZ kvs k=some v):∃p∈kvs,p.1=k/\p.2=v:=by
 unfold kZ at h
 obtain⟨p,hp,e⟩:=Option.map_eq_some_iff.mp h
 exact#[p,List.mem_of_find?_eq_some hp,by have:=List.find?_some hp;simpa using this,e]
theorem Vb:∀(X q:List Nat),q∈dU X->∀(i n c:Nat),X.reverse[i]?=some n->q[i]?=some c->c<n
 | [],q,h=>by intro i n c e;simp at e
 |s::X,q,h=>by
  simp only[dU,hV,dD,fC]at h
  obtain⟨b,hb,x,hx,rfl⟩:=h
  intro i n c e1 C
  have Y:=iA X b hb
  rw[List.reverse_cons]at e1
  by_cases hi:i<X.length
  ·rw[bV (by rw[cT];exact hi)]at e1
   rw[bV (by rw[Y];exact hi)]at C
   exact Vb X b hb i n c e1 C
  ·rw[bO (by rw[cT];omega),cT]at e1
   rw[bO (by rw[Y];omega),Y]at C
   cases e3:i-X.length with
   |zero=>rw[e3]at e1 C;simp at e1 C;omega
   |succ k=>rw[e3]at e1;simp at e1
noncomputable def Kc(H:Hp)(kvs:List (List Key×V))(A:List Nat->List V)(qs:fO):Prop:=kvs.length=qs.length/\∀(i:Nat)(q:List Nat),qs[i]?=some q->∃l,kvs[i]?=some (tk q,V.ref l)/\H l=some (.lst (A q))
theorem Uk:∀{kvs:List (List Key×V)},(kvs.map (·.1)).Nodup->∀(i:Nat){k:List Key}{v:V},kvs[i]?=some (k,v)->kZ kvs k=some v
 | [],_,i,k,v,h=>by simp at h
 |p::kvs,nd,i,k,v,h=>by
  rw[bR,List.nodup_cons]at nd
  cases i with
  |zero=>
   simp at h;subst h
   exact kL rfl
  |succ i=>
   simp at h
   have hm:k∈kvs.map (·.1):=dD.mpr #[_,aL h,rfl]
   rw[kM (λe=>nd.1 (by rw[e];exact hm))]
   exact Uk nd.2 i h
theorem Kc.keys(h:Kc H kvs A qs):kvs.map (·.1)=qs.map tk:=by
 refine List.ext_getElem? λi=>?_
 rw[aY,aY]
 cases e:qs[i]? with
 |none=>
  have:kvs[i]?=none:=by
   rw[List.getElem?_eq_none_iff]at e⊢
   rw[h.1];exact e
  rw[this];rfl
 |some q=>
  obtain⟨l,e1,_⟩:=h.2 i q e
  rw[e1];rfl
theorem Kc.cells(h:Kc H kvs A qs)(nd:qs.Nodup):∀q∈qs,sC H kvs A q:=by
 intro q J
 obtain⟨i,hi,e⟩:=List.getElem_of_mem J
 obtain⟨l,e1,C⟩:=h.2 i q (by rw[aD hi,e])
 refine#[l,Uk ?_ i e1,C]
 rw[h.keys]
 unfold List.Nodup
 rw[List.pairwise_map]
 exact nd.imp λf e=>f (xY e)
theorem Kc.same(h:Kc H kvs A qs)(s:aP H H'):Kc H' kvs A qs:=#[h.1,λi q e=>let⟨l,e1,e2⟩:=h.2 i q e;#[l,e1,s _ _ e2]]
theorem Kc.snoc{b:List Nat}{l:Addr}(h:Kc H kvs A (qs.take i))(hb:qs[i]?=some b)(Y:H l=some (.lst (A b))):Kc H (kvs++[(tk b,.ref l)]) A (qs.take (i+1)):=by
 rw[dH hb]
 refine#[by rw[bC,bC,h.1];rfl,λj q e=>?_]
 by_cases P:j<(qs.take i).length
 ·rw[bV P]at e
  rw[bV (by rw[h.1];exact P)]
  exact h.2 j q e
 ·rw[bO #[]]at e
  rw[bO (by rw[h.1];omega),h.1]
  cases z:j-(qs.take i).length with
  |zero=>rw[z]at e;simp at e;subst e;exact#[l,rfl,Y]
  |succ n=>rw[z]at e;simp at e
theorem Kc.new{b:List Nat}(h:Kc H kvs A (qs.take i))(nd:qs.Nodup)(hb:qs[i]?=some b):kZ kvs (tk b)=none:=by
 cases e:kZ kvs (tk b)with
 |none=>rfl
 |some v=>
  obtain⟨p,hp,e1,_⟩:=Mn e
  have hm:tk b∈kvs.map (·.1):=dD.mpr #[p,hp,e1]
  rw[h.keys]at hm
  obtain⟨q,J,eq⟩:=dD.mp hm
  rw[xY eq]at J
  exact absurd J (Ds nd hb)
theorem Kc.off(h:Kc H kvs A qs)(k:∀b F,H b=some (.lst F)->H' b=some (.lst F)):Kc H' kvs A qs:=#[h.1,λi q e=>let⟨l,e1,e2⟩:=h.2 i q e;#[l,e1,k _ _ e2]]
theorem Kc.cong{a:List Nat->List V}(h:Kc H kvs A qs)(k:∀q∈qs,a q=A q):Kc H kvs a qs:=#[h.1,λi q e=>let⟨l,e1,e2⟩:=h.2 i q e;#[l,e1,by rw[k q (aL e)];exact e2]]
theorem Nk:∀(X q:List Nat),q.length=X.length->(∀(i n c:Nat),X.reverse[i]?=some n->q[i]?=some c->c<n)->q∈dU X
 | [],q,hl,_=>by
  have:q=[]:=List.eq_nil_of_length_eq_zero hl
  subst this;simp [dU]
 |s::X,q,hl,h=>by
  rw[cZ]at hl
  have f:X.length<q.length:=#[]
  have J:q[X.length]?=some q[X.length]:=aD f
  have e:q=q.take X.length++[q[X.length]]:=by
   have:=dH J
   rw[take_of_length_le #[]]at this
   exact this
  have hb:q.take X.length∈dU X:=by
   refine Nk X _ (by rw[dM];omega) λi n c e1 C=>?_
   have hi:i<X.length:=by have:=(aK.mp e1).1;rwa [cT]at this
   refine h i n c ?_ ?_
   ·rw[List.reverse_cons,bV (by rw[cT];exact hi)];exact e1
   ·rw[List.getElem?_take_of_lt hi]at C;exact C
  have hc:q[X.length]<s:=by
   refine h X.length s _ ?_ J
   rw[List.reverse_cons,bO (by rw[cT];omega),cT,fZ];rfl
  simp only[dU,hV,dD,fC]
  exact#[_,hb,_,hc,e.symm]
theorem Nh{q:List Nat}{n:Nat}(J:q∈dU ns.reverse)(R:ns[i]?=some n)(hc:c<n):q.set i c∈dU ns.reverse:=by
 refine Nk _ _ (by rw[length_set];exact iA _ q J) λj k S e1 C=>?_
 rw[List.reverse_reverse]at e1
 by_cases P:j=i
 ·subst P
  rw[R]at e1
  obtain rfl:=aV e1
  have Y:j<q.length:=by
   have:=(aK.mp C).1
   rwa [length_set]at this
  rw[List.getElem?_set_self Y]at C
  obtain rfl:=aV C
  exact hc
 ·rw[List.getElem?_set_ne #[]]at C
  exact Vb _ q J j k S (by rw[List.reverse_reverse];exact e1) C
noncomputable def Bh:fO->fO
 | []=>[[]]
 |c::rs=>(Bh rs).flatMap λb=>c.map λx=>b++[x]
theorem Xb:∀X:List Nat,dU X=Bh (X.map List.range)
 | []=>rfl
 |s::X=>by show(dU X).flatMap _=(Bh (X.map List.range)).flatMap _;rw[Xb X]
theorem Jp:∀T:fO,(Bh T).length=Bt (T.map List.length)
 | []=>rfl
 |c::rs=>by
  show((Bh rs).flatMap _).length=Bt (rs.map List.length)*c.length
  rw[←Jp rs]
  generalize Bh rs=l
  induction l with
  |nil=>simp
  |cons b l ih=>rw[List.flatMap_cons,bC,aA,ih,cZ,Nat.succ_mul];omega
theorem Rl:∀(cs:fO)(q:List Nat),q∈Bh cs->q.length=cs.length
 | [],q,h=>by simp [Bh]at h;subst h;rfl
 |c::rs,q,h=>by
  simp only[Bh,hV,dD]at h
  obtain⟨b,hb,x,_,rfl⟩:=h
  simp [Rl rs b hb]
structure Ch(cs:fO):Prop where
 len:cs.length<=3
 le:∀c∈cs,c.length<=6
theorem Ch.rev(h:Ch cs):Ch cs.reverse:=#[by rw[cT];exact h.len,λn R=>h.le n (List.mem_reverse.mp R)]
theorem Ch.many(h:Ch cs):(Bh cs).length<=6^cs.length:=by
 rw[Jp]
 have:=Eu (cs.map List.length) λs hs=>by obtain⟨c,hc,rfl⟩:=dD.mp hs;exact h.le c hc
 rwa [aA]at this
noncomputable def Lg(H:Hp)(xs:List V)(cs:fO):Prop:=xs.length=cs.length/\∀(i:Nat) c,cs[i]?=some c->∃a:Addr,xs[i]?=some (.ref a)/\H a=some (.lst (tv c))
theorem Lg.same(h:Lg H xs cs)(s:aP H H'):Lg H' xs cs:=#[h.1,λi n e=>let⟨c,e1,e2⟩:=h.2 i n e;#[c,e1,s _ _ e2]]
theorem Lg.nil:Lg H [] []:=#[rfl,λi q e=>by simp at e]
theorem Lg.app{X:fO}(p:Lg H xs qs)(r:Lg H ys X):Lg H (xs++ys) (qs++X):=by
 refine#[by rw[bC,bC,p.1,r.1],λi q e=>?_]
 by_cases hi:i<qs.length
 ·rw[bV hi]at e
  rw[bV (by rw[p.1];exact hi)]
  exact p.2 i q e
 ·rw[bO #[]]at e
  rw[bO (by rw[p.1];omega),p.1]
  exact r.2 _ q e
theorem Lg.one{q:List Nat}(h:H a=some (.lst (tv q))):Lg H [.ref a] [q]:=by
 refine#[rfl,λi f e=>?_]
 cases i with
 |zero=>simp at e;subst e;exact#[a,rfl,h]
 |succ i=>simp at e
theorem Lg.snoc{c:List Nat}(h:Lg H xs cs)(hc:H a=some (.lst (tv c))):Lg H (xs++[.ref a]) (cs++[c]):=h.app (.one hc)
theorem Lg.get{H:Hp}{xs:List V}{cs:fO}{i:Nat}{x:V}(h:Lg H xs cs)(e:xs[i]?=some x):∃c a,cs[i]?=some c/\x=.ref a/\H a=some (.lst (tv c)):=by
 have Y:i<cs.length:=by rw[←h.1];exact(aK.mp e).1
 obtain⟨c,e1,C⟩:=h.2 i cs[i] (aD Y)
 rw[e]at e1
 exact#[cs[i],c,aD Y,aV e1,C]
theorem wB(h:qs.Nodup):(qs.map tk).Nodup:=by
 unfold List.Nodup
 rw[List.pairwise_map]
 exact h.imp λ{a b} f e=>f (xY e)
noncomputable def Cu(m d:Addr):List (Str×V):=gY "cells" (.ref d) (gY "many" (.ref m) [])
structure xB(K:aO)(H:Hp)(t:Addr)(ns:List Nat)(cont:List Nat->List V):Prop where
 ob:∃dx m d kv,H t=some (.ins (eE K "Table") dx (Cu m d))/\H m=some (.lst (tv ns))/\H d=some (.dT kv)/\∀q∈dU ns.reverse,sC H kv cont q
theorem cm:¬("many":Str)="cells":=by decide+kernel
theorem Ib(m d:Addr):(Cu m d).lookup ("many":Str)=some (.ref m):=by
 unfold Cu
 rw[lE,aF cm,lE,aJ rfl]
theorem On(m d:Addr):(Cu m d).lookup ("cells":Str)=some (.ref d):=by
 unfold Cu
 rw[lE,aJ rfl]
theorem Le(m d:Addr){x:Str}(h1:¬x="cells")(h2:¬x="many"):(Cu m d).lookup x=none:=by
 unfold Cu
 rw[lE,aF h1,lE,aF h2]
 all_goals rfl
theorem xB.same{t:Addr}(h:xB K H t ns A)(s:aP H H'):xB K H' t ns A:=let⟨dx,m,d,kv,h1,h2,h3,h4⟩:=h.ob;#[dx,m,d,kv,s _ _ h1,s _ _ h2,s _ _ h3,λq J=>(h4 q J).same s]
theorem xB.ins{K:aO}{H:Hp}{t:Addr}{ns:List Nat}{A:List Nat->List V}(h:xB K H t ns A):∃f m d,H t=some (.ins (eE K "Table") f (Cu m d)):=let⟨f,m,d,_,h1,_⟩:=h.ob;#[f,m,d,h1]
theorem lo_mk{T B x y:Int}(t:0<B)(d:0<y)(hc:Int.gcd x y=1)(e:x*B=T*y):Lo T B x y:=by
 have cop:Nat.Coprime x.natAbs y.natAbs:=hc
 have en:x.natAbs*B.natAbs=T.natAbs*y.natAbs:=by rw[←cH,←cH,e]
 refine#[d,hc,e,?_,?_]
 ·by_cases h:T=0
  ·rw[h,fN]at e
   rcases Int.mul_eq_zero.mp e with z |z
   ·rw[z];exact dL _
   ·omega
  ·exact Nat.le_of_dvd #[] (cop.dvd_of_dvd_mul_right #[_,en.symm])
 ·exact Nat.le_of_dvd #[] (cop.symm.dvd_of_dvd_mul_left #[T.natAbs,by rw[en,Nat.mul_comm]])
noncomputable def ins(h c:Nat)(b:List Nat):List Nat:=b.take h++c::b.drop h
theorem lo_by{X Y B T x y:Int}(h:Lo X Y x y)(r:0<Y)(t:0<B)(e:X*B=T*Y):Lo T B x y:=by
 refine lo_mk t h.pos h.cop ?_
 have C:=h.eq
 refine eW (a:=Y) #[] ?_
 calc x*B*Y=x*Y*B:=by ac_rfl
  _=X*B*y:=by rw[C];ac_rfl
  _=T*y*Y:=by rw[e];ac_rfl
theorem lo_plus{a b c d B S T x y:Int}(h1:a*B=S*b)(h2:c*B=T*d)(hb:0<b)(hd:0<d)(t:0<B)(h:Lo (a*d+c*b) (b*d) x y):Lo (S+T) B x y:=by
 refine lo_by h (bK hb hd) t ?_
 calc (a*d+c*b)*B=a*B*d+c*B*b:=by rw[Int.add_mul];congr 1<;>ac_rfl
  _=(S+T)*(b*d):=by rw[h1,h2,Int.add_mul];congr 1<;>ac_rfl
theorem lo_less{a b c d B S T x y:Int}(h1:a*B=S*b)(h2:c*B=T*d)(hb:0<b)(hd:0<d)(t:0<B)(h:Lo (a*d-c*b) (b*d) x y):Lo (S-T) B x y:=by
 refine lo_by h (bK hb hd) t ?_
 calc (a*d-c*b)*B=a*B*d-c*B*b:=by rw[Int.sub_mul];congr 1<;>ac_rfl
  _=(S-T)*(b*d):=by rw[h1,h2,Int.sub_mul];congr 1<;>ac_rfl
noncomputable def EnV(m:Nat)(H:Hp)(v:V):Prop:=∃a x y,v=.ref a/\H a=some (.tup [.int x,.int y])/\0<y/\y<=9/\BB m x
noncomputable def enU(H:Hp)(v:V):Int:=match v with
 | .ref a=>match H a with
  |some (.tup [.int x,.int y])=>x*(2520/y)
  |_=>0
 |_=>0
noncomputable def En(H:Hp)(v:V)(u:Int):Prop:=∃a x y,v=.ref a/\H a=some (.tup [.int x,.int y])/\0<y/\y<=9/\x*2520=u*y/\BB 40 x
theorem EnV.keep(h:EnV m H v)(k:Ir H H'):EnV m H' v:=let⟨a,x,y,e,h1,r⟩:=h;#[a,x,y,e,k _ _ h1,r]
theorem En.keep(h:En H v u)(k:Ir H H'):En H' v u:=let⟨a,x,y,e,h1,r⟩:=h;#[a,x,y,e,k _ _ h1,r]
theorem EnV.mono{n:Nat}(h:EnV m H v)(k:m<=n):EnV n H v:=let⟨a,x,y,e,h1,h2,h3,b⟩:=h;#[a,x,y,e,h1,h2,h3,b.mono k]
theorem EnV.en(h:EnV 40 H v):En H v (enU H v):=by
 obtain⟨a,x,y,rfl,h1,y0,c,b⟩:=h
 refine#[a,x,y,rfl,h1,y0,c,?_,b]
 have:enU H (.ref a)=x*(2520/y):=by unfold enU;simp only[h1]
 rw[this,gU]
 congr 1
 have:y=1∨y=2∨y=3∨y=4∨y=5∨y=6∨y=7∨y=8∨y=9:=#[]
 rcases this with e |e |e |e |e |e |e |e |e<;>rw[e]<;>rfl
theorem En.bb(h:En H v u):BB 52 u:=by
 obtain⟨a,x,y,_,_,y0,c,e,b⟩:=h
 have C:u.natAbs*y.natAbs=x.natAbs*2520:=by rw[←cH,←e,cH];rfl
 have h1:u.natAbs<=u.natAbs*y.natAbs:=Nat.le_mul_of_pos_right _ #[]
 unfold BB at*
 omega
noncomputable def vJ(h n c:Nat):fO:=((List.range n).filter λo=>decide (o≠c)).map λo=>[h,c,o]
noncomputable def Ln(h n:Nat):fO:=(List.range n).flatMap (vJ h n)
noncomputable def gB(ns:List Nat)(i:Nat):fO:=(List.range i).flatMap λh=>Ln h (ns.getD h 0)
noncomputable def Nm(h:Int):Prop:=0<=h/\BB 210 h
theorem jW1{zs:List Int}(h:i<zs.length):atI (List.map V.int zs) (i:Int)=some (.int (zs.getD i 0)):=by
 refine gM ?_
 rw[aY,aR,aD h];rfl
section
variable{H:Hp}{p l:Addr}{kvs:List (List Key×V)}{xs:List V}{ns:List Nat}{ws:List Int}{c r:Nat}
include g
end
theorem Nf{f:Nat->Nat->Rat}{m:Nat}:∀{n:Nat},rsm n (λi=>rsm m λj=>f i j)=rsm m λj=>rsm n λi=>f i j
 |0=>(oZ λ_ _=>rfl).symm
 |n+1=>by
  show rsm n _+rsm m _=_
  rw[Nf,←vQ]
  exact eY λ_ _=>rfl
noncomputable def wS(n:Nat)(p f:Nat->Rat):Rat:=rsm n λi=>p i*f i
theorem tW{n:Nat}{p f g:Nat->Rat}(h:∀i,i<n->f i=g i):wS n p f=wS n p g:=eY λi hi=>by rw[h i hi]
theorem wS_add{n:Nat}{p f g:Nat->Rat}:wS n p (λi=>f i+g i)=wS n p f+wS n p g:=by
 unfold wS;rw[←vQ];exact eY λi _=>by grind
theorem wS_le{n:Nat}{p f g:Nat->Rat}(p0:∀i,0<=p i)(h:∀i,i<n->f i<=g i):wS n p f<=wS n p g:=rsm_le λi hi=>fM (h i hi) (p0 i)
theorem Za{n:Nat}{p:Nat->Rat}{c:Rat}:wS n p (λ_=>c)=rsm n p*c:=oQ
theorem Uj{n:Nat}{p q:Nat->Rat}{f:Nat->Nat->Rat}:wS n p (λi=>wS m q λj=>f i j)=wS m q λj=>wS n p λi=>f i j:=by
 have e:∀(n m:Nat)(p q:Nat->Rat)(f:Nat->Nat->Rat),wS n p (λi=>wS m q λj=>f i j)=rsm n λi=>rsm m λj=>p i*q j*f i j:=λn m p q f=>eY λi _=>by
  show p i*rsm m _=_
  rw[Rat.mul_comm,←oQ];exact eY λj _=>by grind
 rw[e,e,Nf];exact eY λj _=>eY λi _=>by grind
theorem Wf:∀(n:Nat)(y:Nat->Nat->Rat),(∀i j,0<=y i j)->∃p:Nat->Rat,(∀i,0<=p i)/\0<rsm (n+1) p/\∀j,j<n+1->rsm (n+1) (λi=>p i*y i j)=p j*rsm (n+1) λi=>y j i
 |0,y,_=>#[λ_=>1,λ_=>(by decide+kernel:(0:Rat)<=1),by show(0:Rat)<0+1;decide+kernel,λj P=>by
   have e:j=0:=#[]
   subst e;show(0:Rat)+1*y 0 0=1*(0+y 0 0);grind]
 |n+1,y,y0=>by
  have k:0<=rsm (n+1) λi=>y (n+1) i:=qU λi _=>y0 _ i
  by_cases hr:(rsm (n+1) λi=>y (n+1) i)=0
  ·have z:=Nd (λi _=>y0 (n+1) i) hr
   have M:∀f:Nat->Rat,rsm (n+1) (λi=>(if i=n+1 then(1:Rat)else 0)*f i)=0:=λf=>oZ λi hi=>by rw[aF #[]];grind
   refine#[λi=>if i=n+1 then 1 else 0,λi=>by dsimp only;split<;>decide+kernel,?_,λj P=>?_]
   ·show 0<rsm (n+1) _+(if n+1=n+1 then(1:Rat)else 0)
    rw[aJ rfl,oZ λi hi=>aF #[]];decide+kernel
   ·show rsm (n+1) _+(if n+1=n+1 then(1:Rat)else 0)*y (n+1) j=(if j=n+1 then(1:Rat)else 0)*(rsm (n+1) _+y j (n+1))
    rw[M,aJ rfl]
    by_cases e:j=n+1
    ·subst e;rw[aJ rfl,hr];grind
    ·rw[aF e,z j #[]];grind
  ·have b:0<rsm (n+1) λi=>y (n+1) i:=by grind
   generalize H:(rsm (n+1) λi=>y (n+1) i)=r at*
   have d:r*r⁻¹=1:=Rat.mul_inv_cancel r (by grind)
   have Q:0<=r⁻¹:=Rat.le_of_lt (Rat.inv_pos.mpr b)
   obtain⟨p,p0,S,c⟩:=Wf n (λi j=>y i j+y i (n+1)*y (n+1) j*r⁻¹) λi j=>Rat.add_nonneg (y0 i j) (gG (gG (y0 _ _) (y0 _ _)) Q)
   have a:0<=rsm (n+1) λi=>p i*y i (n+1):=qU λi _=>gG (p0 i) (y0 _ _)
   generalize B:(rsm (n+1) λi=>p i*y i (n+1))=t at*
   have F:∀f:Nat->Rat,rsm (n+1) (λi=>(if i=n+1 then t*r⁻¹ else p i)*f i)=rsm (n+1) λi=>p i*f i:=λf=>eY λi hi=>by rw[aF #[]]
   refine#[λi=>if i=n+1 then t*r⁻¹ else p i,λi=>by dsimp only;split;exact gG a Q;exact p0 i,?_,λj P=>?_]
   ·show 0<rsm (n+1) _+(if n+1=n+1 then t*r⁻¹ else p (n+1))
    rw[aJ rfl,eY (g:=p) λi hi=>aF #[]]
    have:=gG a Q;grind
   ·show rsm (n+1) _+(if n+1=n+1 then t*r⁻¹ else p (n+1))*y (n+1) j=(if j=n+1 then t*r⁻¹ else p j)*(rsm (n+1) _+y j (n+1))
    rw[F λi=>y i j,aJ rfl]
    by_cases e:j=n+1
    ·subst e;rw[aJ rfl,B,H];grind
    ·rw[aF e]
     have h:=c j #[]
     have U:rsm (n+1) (λi=>p i*(y i j+y i (n+1)*y (n+1) j*r⁻¹))=rsm (n+1) (λi=>p i*y i j)+t*(y (n+1) j*r⁻¹):=by
      rw[←B,←oQ,←vQ];exact eY λi _=>by grind
     have G:rsm (n+1) (λi=>y j i+y j (n+1)*y (n+1) i*r⁻¹)=rsm (n+1) (λi=>y j i)+r*(y j (n+1)*r⁻¹):=by
      rw[←H,←oQ,←vQ];exact eY λi _=>by grind
     rw[U,G]at h
     grind
theorem Ho{n:Nat}{y:Nat->Nat->Rat}{p:Nat->Rat}(h:∀j,j<n->rsm n (λi=>p i*y i j)=p j*rsm n λi=>y j i)(v:Nat->Rat):wS n p (λi=>rsm n λc=>y i c*(v c-v i))=0:=by
 have a:wS n p (λi=>rsm n λc=>y i c*(v c-v i))=rsm n (λc=>rsm n (λi=>p i*y i c)*v c)-rsm n λi=>p i*rsm n (λc=>y i c)*v i:=by
  have e1:rsm n (λc=>rsm n (λi=>p i*y i c)*v c)=rsm n λi=>rsm n λc=>p i*y i c*v c:=by
   rw[Nf (f:=λi c=>p i*y i c*v c)];exact eY λc _=>oQ.symm
  have C:wS n p (λi=>rsm n λc=>y i c*(v c-v i))+rsm n (λi=>p i*rsm n (λc=>y i c)*v i)=rsm n λi=>rsm n λc=>p i*y i c*v c:=by
   unfold wS;rw[←vQ]
   refine eY λi _=>?_
   have b1:p i*rsm n (λc=>y i c*(v c-v i))=rsm n λc=>p i*y i c*(v c-v i):=by rw[Rat.mul_comm,←oQ];exact eY λc _=>by grind
   have b2:p i*rsm n (λc=>y i c)*v i=rsm n λc=>p i*y i c*v i:=by rw[Rat.mul_comm (p i),←oQ,←oQ];exact eY λc _=>by grind
   rw[b1,b2,←vQ];exact eY λc _=>by grind
  grind
 rw[a,eY (g:=λi=>p i*rsm n (λc=>y i c)*v i) λc hc=>by rw[h c hc]]
 grind
theorem jWr{n0 n1 n2:Nat}{y0 I X:Nat->Nat->Rat}{u0 u1 u2:Nat->Nat->Nat->Rat}(h0:∀i j,0<=y0 i j)(h1:∀i j,0<=I i j)(h2:∀i j,0<=X i j)(p0:0<n0)(M:0<n1)(Z:0<n2)
  (h:∀i j k,i<n0->j<n1->k<n2->1<=(rsm n0 λc=>y0 i c*(u0 c j k-u0 i j k))+(rsm n1 λc=>I j c*(u1 i c k-u1 i j k))+rsm n2 λc=>X k c*(u2 i j c-u2 i j k)):False:=by
 obtain⟨n0,rfl⟩:∃n,n0=n+1:=#[n0-1,#[]]
 obtain⟨n1,rfl⟩:∃n,n1=n+1:=#[n1-1,#[]]
 obtain⟨n2,rfl⟩:∃n,n2=n+1:=#[n2-1,#[]]
 obtain⟨a,d,m,e⟩:=Wf n0 y0 h0
 obtain⟨b,U,bs,be⟩:=Wf n1 I h1
 obtain⟨c,c0,T,D⟩:=Wf n2 X h2
 have l:=wS_le (n:=n0+1) d λi hi=>wS_le (n:=n1+1) U λj P=>wS_le (n:=n2+1) c0 λk hk=>h i j k hi P hk
 have f:wS (n0+1) a (λi=>wS (n1+1) b λj=>wS (n2+1) c λk=>rsm (n0+1) λq=>y0 i q*(u0 q j k-u0 i j k))=0:=by
  rw[Uj,tW (g:=λ_=>0) λj _=>?_,Za,gP]
  rw[Uj,tW (g:=λ_=>0) λk _=>Ho e λq=>u0 q j k,Za,gP]
 have O:wS (n0+1) a (λi=>wS (n1+1) b λj=>wS (n2+1) c λk=>rsm (n1+1) λq=>I j q*(u1 i q k-u1 i j k))=0:=by
  rw[tW (g:=λ_=>0) λi _=>?_,Za,gP]
  rw[Uj,tW (g:=λ_=>0) λk _=>Ho be λq=>u1 i q k,Za,gP]
 have o:wS (n0+1) a (λi=>wS (n1+1) b λj=>wS (n2+1) c λk=>rsm (n2+1) λq=>X k q*(u2 i j q-u2 i j k))=0:=by
  rw[tW (g:=λ_=>0) λi _=>?_,Za,gP]
  rw[tW (g:=λ_=>0) λj _=>Ho D λq=>u2 i j q,Za,gP]
 simp only[wS_add,f,O,o,Za]at l
 have:=Rat.mul_pos m (Rat.mul_pos bs (Rat.mul_pos T (show(0:Rat)<1 by decide+kernel)))
 grind
theorem Eo{b:List Nat}(hb:b∈gB ns ns.length):∃h c o n,b=[h,c,o]/\ns[h]?=some n/\c<n/\o<n/\o≠c:=by
 unfold gB at hb
 obtain⟨h,t,hb⟩:=hV.mp hb
 unfold Ln at hb
 obtain⟨c,hc,hb⟩:=hV.mp hb
 unfold vJ at hb
 obtain⟨o,D,rfl⟩:=dD.mp hb
 have h1:=fC.mp t
 obtain⟨h2,h3⟩:=List.mem_filter.mp D
 have e:ns.getD h 0=ns[h]:=by rw[aR,aD h1];rfl
 rw[e]at hc h2
 exact#[h,c,o,_,rfl,aD h1,fC.mp hc,fC.mp h2,by simpa using h3]
structure TbE(K:aO)(H:Hp)(t:Addr)(ns:List Nat)(cont:List Nat->List V)(un:List Nat->Nat->Int):Prop where
 tab:xB K H t ns cont
 sz:Sz ns
 en:∀q∈dU ns.reverse,∀h,h<ns.length->∃v,(cont q)[h]?=some v/\En H v (un q h)
theorem TbE.same{t:Addr}{un:List Nat->Nat->Int}(h:TbE K H t ns A un)(s:aP H H'):TbE K H' t ns A un:=#[h.tab.same s,h.sz,λq J i hi=>let⟨v,e,n⟩:=h.en q J i hi;#[v,e,n.keep (eI s)]]
noncomputable def mo(un:List Nat->Nat->Int)(q b:List Nat):Int×Int:=if q[b.getD 0 0]?=some (b.getD 1 0)then lo2 (un (q.set (b.getD 0 0) (b.getD 2 0)) (b.getD 0 0)-un q (b.getD 0 0)) 2520 else(0,1)
theorem bb_sm3{f:Nat->Int}{b n:Nat}(h:∀k,k<n->BB b (f k))(R:n<=3):BB (b+n) (sm n f):=by
 induction n with
 |zero=>show(0:Int).natAbs<2^b;exact dR _
 |succ n ih=>
  have h1:=ih (λk hk=>h k #[]) #[]
  have h2:=(h n #[]).mono (show b<=b+n by omega)
  unfold BB at*
  show(sm n f+f n).natAbs<2^(b+n+1)
  rw[jU];omega
noncomputable def lsm:fO->(List Nat->Rat)->Rat
 | [],_=>0
 |x::t,f=>f x+lsm t f
theorem nD{f:List Nat->Rat}{b:fO}:∀{a:fO},lsm (a++b) f=lsm a f+lsm b f
 | []=>by show lsm b f=0+lsm b f;grind
 |x::t=>by show f x+lsm (t++b) f=f x+lsm t f+lsm b f;rw[nD];grind
theorem iG{f g:List Nat->Rat}:∀{l:fO},(∀x∈l,f x=g x)->lsm l f=lsm l g
 | [],_=>rfl
 |x::t,h=>by show f x+lsm t f=g x+lsm t g;rw[h x (bT ..),iG λy d=>h y (bI _ d)]
theorem Ly{f g:List Nat->Rat}:∀{l:fO},(∀x∈l,f x<=g x)->lsm l f<=lsm l g
 | [],_=>Rat.le_refl
 |x::t,h=>by
  have h1:=h x (bT ..)
  have h2:=Ly (l:=t) λy d=>h y (bI _ d)
  show f x+lsm t f<=g x+lsm t g
  grind
theorem nB{f:List Nat->Rat}{c:Rat}:∀{l:fO},lsm l (λx=>f x*c)=lsm l f*c
 | []=>by show(0:Rat)=0*c;grind
 |x::t=>by show f x*c+lsm t (λx=>f x*c)=(f x+lsm t f)*c;rw[nB];grind
theorem Ej{f g:List Nat->Rat}:∀{l:fO},lsm l (λx=>f x+g x)=lsm l f+lsm l g
 | []=>by show(0:Rat)=0+0;grind
 |x::t=>by show f x+g x+lsm t (λx=>f x+g x)=f x+lsm t f+(g x+lsm t g);rw[Ej];grind
theorem jZl:∀{l:fO},lsm l (λ_=>0)=0
 | []=>rfl
 |x::t=>by show 0+lsm t (λ_=>0)=0;rw[jZl];grind
theorem Xl{f:List Nat->List Nat->Rat}{m:fO}:∀{l:fO},lsm l (λx=>lsm m λy=>f x y)=lsm m λy=>lsm l λx=>f x y
 | []=>jZl.symm
 |x::t=>by show lsm m (f x)+lsm t _=lsm m λy=>f x y+lsm t λx=>f x y;rw[Xl,Ej]
theorem Dt{f:List Nat->Rat}{p:List Nat->Bool}:∀{l:fO},lsm (l.filter p) f=lsm l λx=>if p x=true then f x else 0
 | []=>rfl
 |x::t=>by
  show _=(if p x=true then f x else 0)+lsm t λx=>if p x=true then f x else 0
  rw[←Dt]
  by_cases h:p x=true
  ·rw[gH h,aJ h];rfl
  ·rw[gI h,aF h];grind
theorem Kw{g:Nat->Rat}{f:List Nat->Rat}{l:fO}(h:∀j q,l[j]?=some q->g j=f q):rsm l.length g=lsm l f:=by
 have k:∀i,i<=l.length->rsm i g=lsm (l.take i) f:=by
  intro i
  induction i with
  |zero=>intro _;rfl
  |succ i ih=>
   intro hi
   have e:l[i]?=some l[i]:=aD #[]
   rw[dH e,nD,←ih #[]]
   show rsm i g+g i=rsm i g+(f l[i]+0)
   rw[h i _ e];grind
 rw[k _ (aM _),cA]
theorem Xn{g:Nat->fO}{f:List Nat->Rat}:∀{n:Nat},lsm ((List.range n).flatMap g) f=rsm n λc=>lsm (g c) f
 |0=>rfl
 |n+1=>by rw[gO,List.flatMap_append,nD,Xn,List.flatMap_singleton];rfl
theorem Nn{p:Nat->Bool}{g:Nat->List Nat}{f:List Nat->Rat}:∀{n:Nat},lsm (((List.range n).filter p).map g) f=rsm n λo=>if p o=true then f (g o)else 0
 |0=>rfl
 |n+1=>by
  rw[gO,List.filter_append,aX,nD,Nn]
  show rsm n _+_=rsm n _+(if p n=true then f (g n)else 0)
  by_cases h:p n=true
  ·rw[gH h,aJ h];show _+(f (g n)+0)=_;grind
  ·rw[gI h,aF h];rfl
theorem jZv{f:Nat->Rat}{c:Nat}:∀{n:Nat},c<n->(∀k,k<n->k≠c->f k=0)->rsm n f=f c
 |0,h,_=>absurd h (eN _)
 |n+1,h,z=>by
  show rsm n f+f n=f c
  by_cases e:c=n
  ·rw[e,oZ λk hk=>z k #[] #[]];grind
  ·rw[jZv (n:=n) #[] λk hk=>z k #[],z n #[] #[]];grind
structure AdvR(qs bs:fO)(mv:List Nat->List Nat->Rat)(gv P Y:List Nat->Rat)(W:Rat):Prop where
 p0:∀q∈qs,0<=P q
 y0:∀b∈bs,0<=Y b
 one:lsm qs P=1
 gl:∀b∈bs,lsm qs (λq=>P q*mv q b)<=0
 wo:lsm qs (λq=>P q*gv q)=W
 nb:∀q∈qs,gv q<=lsm bs (λb=>Y b*mv q b)+W
theorem adv_of{bs:fO}{mv:List Nat->List Nat->Rat}{o X L:List Nat->Rat}{ym l:Rat}(m:∀q∈qs,0<=X q)(r:∀b∈bs,0<=Y b)(hm:0<=ym)
  (f:∀b∈bs,lsm qs (λq=>mv q b*L q*X q)<=0) (d:lsm qs (λq=>L q*X q)<=1) (n:∀q∈qs,(o q+l)*L q<=lsm bs (λb=>Y b*(mv q b*L q))+ym*L q)
  (h:lsm qs (λq=>(o q+l)*L q*X q)=ym) (i:∀q∈qs,0<L q) (U:∀q∈qs,1<=o q+l) (A:¬∀q∈qs,1<=lsm bs λb=>Y b*mv q b):AdvR qs bs mv o (λq=>X q*L q) Y (ym-l):=by
 have a:∀q∈qs,o q+l<=lsm bs (λb=>Y b*mv q b)+ym:=λq J=>by
  refine gC (c:=L q) ?_ (i q J)
  have e:lsm bs (λb=>Y b*(mv q b*L q))=lsm bs (λb=>Y b*mv q b)*L q:=by rw[←nB];exact iG λb _=>by grind
  have:=n q J
  rw[e]at this;grind
 have j:0<ym:=by
  by_cases z:ym=0
  ·refine absurd (λq J=>?_) A
   have h1:=a q J
   have h2:=U q J
   grind
  ·grind
 have p:lsm qs (λq=>X q*L q)=lsm qs λq=>L q*X q:=iG λq _=>by grind
 have k:ym<=ym*lsm qs λq=>L q*X q:=by
  have h1:ym<=lsm qs λq=>(lsm bs (λb=>Y b*mv q b)+ym)*(L q*X q):=by
   conv=>lhs;rw[←h]
   exact Ly λq J=>by
    have:=Rat.mul_le_mul_of_nonneg_right (a q J) (gG (Rat.le_of_lt (i q J)) (m q J))
    grind
  have h2:lsm qs (λq=>(lsm bs (λb=>Y b*mv q b)+ym)*(L q*X q))=lsm bs (λb=>Y b*lsm qs λq=>mv q b*L q*X q)+ym*lsm qs λq=>L q*X q:=by
   have e1:lsm bs (λb=>Y b*lsm qs λq=>mv q b*L q*X q)=lsm qs λq=>lsm bs (λb=>Y b*mv q b)*(L q*X q):=by
    symm
    rw[iG (l:=qs) (g:=λq=>lsm bs λb=>Y b*(mv q b*L q*X q)) λq _=>by rw[←nB];exact iG λb _=>by grind,Xl]
    exact iG λb _=>by rw[Rat.mul_comm,←nB];exact iG λq _=>by grind
   have C:ym*lsm qs (λq=>L q*X q)=lsm qs λq=>ym*(L q*X q):=by rw[Rat.mul_comm,←nB];exact iG λq _=>by grind
   rw[e1,C,←Ej];exact iG λq _=>by grind
  have h3:lsm bs (λb=>Y b*lsm qs λq=>mv q b*L q*X q)<=0:=by
   rw[←jZl (l:=bs)]
   exact Ly λb hb=>by
    have:=fM (f b hb) (r b hb)
    rwa [gP]at this
  grind
 have one:lsm qs (λq=>L q*X q)=1:=by
  generalize lsm qs (λq=>L q*X q)=S at d k
  have:1<=S:=gC (c:=ym) (by grind) j
  grind
 refine#[λq J=>gG (m q J) (Rat.le_of_lt (i q J)),r,by rw[p,one],λb hb=>?_,?_,λq J=>by have:=a q J;grind]
 ·rw[iG (g:=λq=>mv q b*L q*X q) λq _=>by grind];exact f b hb
 ·have e:lsm qs (λq=>(o q+l)*L q*X q)=lsm qs (λq=>X q*L q*o q)+lsm qs (λq=>L q*X q)*l:=by
   rw[←nB,←Ej];exact iG λq _=>by grind
  rw[h,one]at e;grind
noncomputable def uR(un:List Nat->Nat->Int)(q:List Nat)(h:Nat):Rat:=((un q h:Int):Rat)/((2520:Int):Rat)
theorem Wj{un:List Nat->Nat->Int}{q:List Nat}{o:Nat}:va (mo un q [h,c,o])=if q[h]?=some c then uR un (q.set h o) h-uR un q h else 0:=by
 show va (if q[h]?=some c then lo2 (un (q.set h o) h-un q h) 2520 else(0,1))=_
 split
 ·rw[show va (lo2 (un (q.set h o) h-un q h) 2520)=_ from Wk (by decide) (eK (by decide))]
  unfold uR;rw[Rat.intCast_sub,vN,vN,vN];grind
 ·exact vP
theorem Nq{un:List Nat->Nat->Int}{q:List Nat}{n:Nat}(hc:c<n)(J:q[h]?=some c)(r:∀o,o<n->o≠c->0<=Y [h,c,o]):lsm (Ln h n) (λb=>Y b*va (mo un q b))=rsm n λo=>(if 0<=Y [h,c,o]then Y [h,c,o]else 0)*(uR un (q.set h o) h-uR un q h):=by
 unfold Ln
 rw[Xn,jZv hc λk hk O=>?_]
 ·unfold vJ
  rw[Nn]
  refine eY λo D=>?_
  rw[Wj,aJ J]
  by_cases e:o=c
  ·have:q.set h c=q:=by
    obtain⟨a,C⟩:=aK.mp J
    rw[←C];exact List.set_getElem_self a
   rw[e,this,aF (by simp)];grind
  ·rw[aJ (by simpa using e),aJ (r o D e)]
 ·unfold vJ
  rw[Nn]
  exact oZ λo _=>by rw[Wj,aF (c:=q[h]?=some k) (by rw[J];simp;omega),gP,ite_self]
theorem nl_of{n0 n1 n2:Nat}{un:List Nat->Nat->Int}(r:∀b∈gB [n0,n1,n2] 3,0<=Y b)(p0:0<n0)(M:0<n1)(Z:0<n2)(h:∀q∈dU [n0,n1,n2].reverse,1<=lsm (gB [n0,n1,n2] 3) λb=>Y b*va (mo un q b)):False:=by
 have z:∀h i j,(0:Rat)<=if 0<=Y [h,i,j]then Y [h,i,j]else 0:=λh i j=>by split;assumption;exact Rat.le_refl
 have A:∀h n c o,h<3->[n0,n1,n2].getD h 0=n->c<n->o<n->o≠c->[h,c,o]∈gB [n0,n1,n2] 3:=λh n c o d R hc D ne=>by
  refine hV.mpr #[h,fC.mpr d,hV.mpr #[c,fC.mpr (by rw[R];exact hc),dD.mpr #[o,List.mem_filter.mpr #[fC.mpr (by rw[R];exact D),by simpa using ne],rfl]]]
 refine jWr (n0:=n0) (n1:=n1) (n2:=n2) (u0:=λi j k=>uR un [i,j,k] 0) (u1:=λi j k=>uR un [i,j,k] 1) (u2:=λi j k=>uR un [i,j,k] 2) (z 0) (z 1) (z 2) p0 M Z λi j k hi P hk=>?_
 have hm:[i,j,k]∈dU [n0,n1,n2].reverse:=Nk _ _ rfl λa n c e1 C=>by
  rw[List.reverse_reverse]at e1
  match a,e1,C with
  |0,e1,C=>simp at e1 C;omega
  |1,e1,C=>simp at e1 C;omega
  |2,e1,C=>simp at e1 C;omega
  |a+3,e1,_=>simp at e1
 have t:=h _ hm
 have e:gB [n0,n1,n2] 3=Ln 0 n0++(Ln 1 n1++(Ln 2 n2++[])):=rfl
 rw[e,nD,nD,nD,Nq (q:=[i,j,k]) hi rfl λo D ne=>r _ (A 0 n0 i o (by decide) rfl hi D ne),Nq (q:=[i,j,k]) P rfl λo D ne=>r _ (A 1 n1 j o (by decide) rfl P D ne),Nq (q:=[i,j,k]) hk rfl λo D ne=>r _ (A 2 n2 k o (by decide) rfl hk D ne)]at t
 have F:lsm [] (λb=>Y b*va (mo un [i,j,k] b))=0:=rfl
 rw[F]at t
 simp only[Ls0,Ls1]at t
 grind
theorem va_int(n:Int):va (n,1)=(n:Rat):=by
 have:=lR (f:=(n,1)) (by decide:(0:Int)<1)
 rw[←this];show _=_*((1:Int):Rat);rw[show((1:Int):Rat)=1 from rfl];grind
theorem Cw{fs:fP}(hp:∀f∈fs,0<f.2)(h:fs[i]?=some f):va ((clr fs).getD i 0,1)=va f*((lc fs:Int):Rat):=by
 have hm:=aL h
 have p:=hp f hm
 have e:(clr fs).getD i 0=f.1*((lc fs).fdiv f.2):=iF (by unfold clr;rw[aY,h];rfl)
 rw[e]
 have c:=Zv hp hm
 have a:=lR p
 refine Dq (mY p) ?_
 rw[va_int,←fB,c,fB,←a];grind
structure AdQ where
 qs:fO
 bs:fO
 mv:List Nat->List Nat->Int×Int
 af:List Nat->Int×Int
namespace AdQ
noncomputable def col(A:AdQ)(q:List Nat):fP:=A.bs.map (A.mv q)++[(1,1),A.af q]
noncomputable def frs(A:AdQ):jA:=ofF (A.bs.length+1) λi=>A.qs.map λq=>((clr (A.col q)).getD i 0,1)
noncomputable def fb(A:AdQ):fP:=A.bs.map (λ_=>(0,1))++[(1,1)]
noncomputable def fg(A:AdQ):fP:=A.qs.map λq=>((clr (A.col q)).getD (A.bs.length+1) 0,1)
structure Ok(A:AdQ):Prop where
 mp:∀q∈A.qs,∀b∈A.bs,0<(A.mv q b).2
 ap:∀q∈A.qs,0<(A.af q).2
 nq:A.qs.Nodup
 nb:A.bs.Nodup
variable{A:AdQ}
theorem Ok.pos(h:A.Ok){q:List Nat}(J:q∈A.qs):∀f∈A.col q,0<f.2:=λf hf=>by
 rcases cR.mp hf with hf |hf
 ·obtain⟨b,hb,rfl⟩:=dD.mp hf;exact h.mp q J b hb
 ·simp only[dW,List.not_mem_nil,or_false]at hf
  rcases hf with rfl |rfl
  ·decide
  ·exact h.ap q J
theorem Ok.lp(h:A.Ok){q:List Nat}(J:q∈A.qs):0<lc (A.col q):=Ma (h.pos J)
theorem frs_length:A.frs.length=A.bs.length+1:=bH _ _
theorem fg_length:A.fg.length=A.qs.length:=aA ..
theorem jYx:A.fb.length=A.bs.length+1:=by unfold fb;rw[bC,aA];rfl
theorem Wn{q:List Nat}(hi:i<A.bs.length+1)(J:A.qs[j]?=some q):rwF A.frs i j=((clr (A.col q)).getD i 0,1):=by
 unfold rwF frs
 rw[aR (l:=ofF _ _),fK _ hi]
 show(List.map _ _).getD j (0,1)=_
 rw[aR,aY,J];rfl
theorem col_b{b q:List Nat}(h:A.bs[i]?=some b):(A.col q)[i]?=some (A.mv q b):=by
 unfold col
 rw[bV (by rw[aA];exact(aK.mp h).1),aY,h];rfl
theorem col_1{q:List Nat}:(A.col q)[A.bs.length]?=some (1,1):=by
 unfold col;rw[bO (by rw[aA];exact aM _),aA,fZ];rfl
theorem col_g{q:List Nat}:(A.col q)[A.bs.length+1]?=some (A.af q):=by
 unfold col;rw[bO (by rw[aA];omega),aA,show A.bs.length+1-A.bs.length=1 by omega];rfl
theorem fb_b(h:i<A.bs.length):A.fb.getD i (0,1)=(0,1):=by
 unfold fb;rw[aR,bV (by rw[aA];exact h),aY,aD h];rfl
theorem fb_1:A.fb.getD A.bs.length (0,1)=(1,1):=by
 unfold fb;rw[aR,bO (by rw[aA];exact aM _),aA,fZ];rfl
theorem Wr{q:List Nat}(J:A.qs[j]?=some q):A.fg.getD j (0,1)=((clr (A.col q)).getD (A.bs.length+1) 0,1):=by
 unfold fg;rw[aR,aY,J];rfl
theorem idx{l:fO}{q:List Nat}(nd:l.Nodup)(h:l[j]?=some q):l.idxOf q=j:=by
 obtain⟨Y,rfl⟩:=aK.mp h
 exact nd.idxOf_getElem j Y
section
variable{fl:Bool}{s:Nat->Nat}
noncomputable def x(A:AdQ)(fl:Bool)(s:Nat->Nat)(q:List Nat):Int×Int:=xF fl A.frs A.fb A.fg s (A.qs.idxOf q)
noncomputable def y(A:AdQ)(fl:Bool)(s:Nat->Nat)(b:List Nat):Int×Int:=yF fl A.frs A.fb A.fg s (A.bs.idxOf b)
noncomputable def L(A:AdQ)(q:List Nat):Rat:=((lc (A.col q):Int):Rat)
theorem va_le0(p:0<f.2)(h:f.1<=0):va f<=0:=by
 rw[←vP];exact(qM p (by decide)).mpr (by simpa using h)
theorem no_way_(B:BeO A.frs A.fb A.fg)(h:A.Ok)(ok:(bP fl A.frs A.fb A.fg).Ok s)(io:kC (bP fl A.frs A.fb A.fg) s)(un:UnO (bP fl A.frs A.fb A.fg) s (some c)):False:=by
 have Q:∀j,0<(mI (bP fl A.frs A.fb A.fg) s c j).2/\0<=va (mI (bP fl A.frs A.fb A.fg) s c j):=λj=>let h:=Wi ok un j;#[h.1,qH h.1 h.2.2.1]
 have hm:A.bs.length<A.frs.length:=by rw[frs_length];omega
 have d:∀j,j<A.fg.length->0<(rwF A.frs A.bs.length j).2:=λj P=>Eg B hm P
 have U:=Vk B ok io un hm
 have M:=jS (n:=A.fg.length) d λj _=>(Q j).1
 have b:=va_le0 M U
 rw[xX d λj _=>(Q j).1]at b
 have e:∀j,j<A.fg.length->∃l:Rat,0<l/\va (rwF A.frs A.bs.length j)=l:=λj P=>by
  rw[fg_length]at P
  have eq:A.qs[j]?=some A.qs[j]:=aD P
  have J:=aL eq
  refine#[A.L A.qs[j],mY (h.lp J),?_]
  rw[Wn #[] eq,Cw (h.pos J) col_1,vK,Rat.one_mul];rfl
 have nn:∀j,j<A.fg.length->0<=va (rwF A.frs A.bs.length j)*va (mI (bP fl A.frs A.fb A.fg) s c j):=λj P=>by
  obtain⟨l,a,f⟩:=e j P
  rw[f];exact gG (Rat.le_of_lt a) (Q j).2
 have z:=Nd nn (by have:=qU nn;grind)
 have w:∀j,j<A.fg.length->va (mI (bP fl A.frs A.fb A.fg) s c j)=0:=λj P=>by
  obtain⟨l,a,f⟩:=e j P
  have:=z j P
  rw[f]at this
  exact(Rat.mul_eq_zero.mp this).resolve_left (by grind)
 have g2:∀j,j<A.fg.length->0<(A.fg.getD j (0,1)).2:=λj P=>by
  rw[Wr (aD (by rwa [fg_length]at P))];exact Int.zero_lt_one
 have G:=Qc B ok io un
 have Z:=jS (n:=A.fg.length) g2 λj _=>(Q j).1
 have g:=va_pos Z G
 rw[xX g2 λj _=>(Q j).1,oZ λj P=>by rw[w j P,gP]]at g
 exact Rat.lt_irrefl g
theorem adv(B:BeO A.frs A.fb A.fg)(h:A.Ok)(ok:(bP fl A.frs A.fb A.fg).Ok s)(io:kC (bP fl A.frs A.fb A.fg) s)(un:UnO (bP fl A.frs A.fb A.fg) s none){o:List Nat->Rat}{l:Rat}(hg:∀q∈A.qs,va (A.af q)=o q+l)(U:∀q∈A.qs,1<=o q+l)
  (u:¬∀q∈A.qs,1<=lsm A.bs λb=>va (A.y fl s b)*va (A.mv q b)):AdvR A.qs A.bs (λq b=>va (A.mv q b)) o (λq=>va (A.x fl s q)*A.L q) (λb=>va (A.y fl s b)) (va (yF fl A.frs A.fb A.fg s A.bs.length)-l):=by
 have m:∀j,0<(xF fl A.frs A.fb A.fg s j).2/\0<=va (xF fl A.frs A.fb A.fg s j):=λj=>let h:=Ip B ok j;#[h.1,qH h.1 h.2.2.1]
 have y0:∀i,i<A.frs.length->0<(yF fl A.frs A.fb A.fg s i).2/\0<=va (yF fl A.frs A.fb A.fg s i):=λi hi=>let h:=Wh B ok un hi;#[h.1,qH h.1 h.2.2.1]
 have g:=frs_length (A:=A)
 have c:=fg_length (A:=A)
 have ex:∀{j:Nat}{q:List Nat},A.qs[j]?=some q->A.x fl s q=xF fl A.frs A.fb A.fg s j:=λ{j q} e=>by unfold x;rw[idx h.nq e]
 have r:∀{i:Nat}{b:List Nat},A.bs[i]?=some b->A.y fl s b=yF fl A.frs A.fb A.fg s i:=λ{j q} e=>by unfold y;rw[idx h.nb e]
 have row:∀i,i<A.frs.length->(∀j,j<A.fg.length->0<(rwF A.frs i j).2):=λi hi j P=>Eg B hi P
 have all:∀i,i<A.frs.length->(rsm A.fg.length λj=>va (rwF A.frs i j)*va (xF fl A.frs A.fb A.fg s j))<=va (A.fb.getD i (0,1)):=λi hi=>by
  rw[←xX (row i hi) λj _=>(m j).1]
  refine(qM (jS (row i hi) λj _=>(m j).1) ?_).mpr (jJZ B ok io hi)
  by_cases e:i<A.bs.length
  ·rw[fb_b e];decide
  ·rw[show i=A.bs.length by omega,fb_1];decide
 refine adv_of (X:=λq=>va (A.x fl s q)) (L:=A.L) (l:=l) (λq J=>(m _).2) (λb hb=>?_) (y0 _ #[]).2 (λb hb=>?_) ?_ (λq J=>?_) ?_ (λq J=>mY (h.lp J)) U u
 ·obtain⟨i,e⟩:=cJ hb
  show 0<=va (A.y fl s b)
  rw[r e];exact(y0 i (by have:=(aK.mp e).1;omega)).2
 ·obtain⟨i,e⟩:=cJ hb
  have T:=(aK.mp e).1
  have a:=all i #[]
  rw[fb_b T,vP,c]at a
  rwa [Kw (f:=λq=>va (A.mv q b)*A.L q*va (A.x fl s q)) λj q eq=>by rw[Wn #[] eq,Cw (h.pos (aL eq)) (col_b e),ex eq];rfl]at a
 ·have a:=all A.bs.length #[]
  rw[fb_1,vK,c]at a
  rwa [Kw (f:=λq=>A.L q*va (A.x fl s q)) λj q eq=>by rw[Wn #[] eq,Cw (h.pos (aL eq)) col_1,ex eq,vK,Rat.one_mul];rfl]at a
 ·obtain⟨j,eq⟩:=cJ J
  have k:=(aK.mp eq).1
  have a:=ys_pay B ok un (j:=j) #[]
  have d:∀i,i<A.frs.length->0<(rwF A.frs i j).2:=λi hi=>row i hi j #[]
  have p:=jS (n:=A.frs.length) (λi hi=>(y0 i hi).1) d
  have a:=(qM (by rw[Wr eq];exact Int.zero_lt_one) p).mpr a
  rw[xX (λi hi=>(y0 i hi).1) d,Wr eq,Cw (h.pos J) col_g,hg q J,g]at a
  have t:rsm (A.bs.length+1) (λi=>va (yF fl A.frs A.fb A.fg s i)*va (rwF A.frs i j))=lsm A.bs (λb=>va (A.y fl s b)*(va (A.mv q b)*A.L q))+va (yF fl A.frs A.fb A.fg s A.bs.length)*A.L q:=by
   show rsm A.bs.length _+va (yF fl A.frs A.fb A.fg s A.bs.length)*va (rwF A.frs A.bs.length j)=_
   rw[Kw (f:=λb=>va (A.y fl s b)*(va (A.mv q b)*A.L q)) λi b e=>by rw[Wn (by have:=(aK.mp e).1;omega) eq,Cw (h.pos J) (col_b e),r e];rfl,Wn #[] eq,Cw (h.pos J) col_1,vK,Rat.one_mul];rfl
  rw[t]at a;exact a
 ·have b:=jY3 B ok io un
  have g2:∀j,j<A.fg.length->0<(A.fg.getD j (0,1)).2:=λj P=>by rw[Wr (aD (by rwa [c]at P))];exact Int.zero_lt_one
  have b2:∀i,i<A.frs.length->0<(A.fb.getD i (0,1)).2:=λi hi=>by
   by_cases e:i<A.bs.length
   ·rw[fb_b e];decide
   ·rw[show i=A.bs.length by omega,fb_1];decide
  have e:=va_eqv (jS g2 λj _=>(m j).1) (jS b2 λi hi=>(y0 i hi).1) b
  rw[xX g2 λj _=>(m j).1,xX b2 λi hi=>(y0 i hi).1,c,g]at e
  have t:rsm (A.bs.length+1) (λi=>va (A.fb.getD i (0,1))*va (yF fl A.frs A.fb A.fg s i))=va (yF fl A.frs A.fb A.fg s A.bs.length):=by
   show rsm A.bs.length _+va (A.fb.getD A.bs.length (0,1))*va (yF fl A.frs A.fb A.fg s A.bs.length)=_
   rw[oZ λi hi=>by rw[fb_b hi,vP,Rat.zero_mul],fb_1,vK];grind
  rw[t,Kw (f:=λq=>(o q+l)*A.L q*va (A.x fl s q)) λj q eq=>by rw[Wr eq,Cw (h.pos (aL eq)) col_g,hg q (aL eq),ex eq];rfl]at e
  exact e
end
end AdQ
theorem Xm{f:List Nat->Rat}{x:List Nat}:∀{l:fO},x∈l->(∀y∈l,0<=f y)->f x<=lsm l f
 |z::t,h,p=>by
  have n:0<=lsm t f:=by rw[←jZl (l:=t)];exact Ly λy d=>p y (bI _ d)
  have p0:=p z (bT ..)
  show f x<=f z+lsm t f
  rcases dW.mp h with rfl |h
  ·grind
  ·have:=Xm h λy d=>p y (bI _ d);grind
structure Ts(f:Int×Int):Prop where
 p:0<f.2
 c:Int.gcd f.1 f.2=1
 n:0<=f.1
 b1:BB 40000 f.1
 b2:BB 40000 f.2
namespace AdQ
section
variable{A:AdQ}{fl:Bool}{s:Nat->Nat}
noncomputable def P(A:AdQ)(fl:Bool)(s:Nat->Nat)(q:List Nat):Int×Int:=lo2 ((A.x fl s q).1*lc (A.col q)) ((A.x fl s q).2*1)
theorem beo(h:A.Ok)(hc:∀q∈A.qs,∀x∈clr (A.col q),BB 110 x)(hb:A.bs.length<=6)(J:A.qs.length<=8):BeO A.frs A.fb A.fg:=by
 have M:BB 1 (1:Int):=by show(1:Int).natAbs<2^1;decide
 have O:BB 1 (0:Int):=by show(0:Int).natAbs<2^1;decide
 have cb:∀q∈A.qs,∀i,Gp 110 1 ((clr (A.col q)).getD i 0,1):=λq J i=>#[Int.zero_lt_one,by
  show BB 110 ((clr (A.col q)).getD i 0)
  by_cases e:i<(clr (A.col q)).length
  ·exact hc q J _ (mB e)
  ·rw[aR,cM #[]];show(0:Int).natAbs<2^110;exact dR _,M]
 refine beo_std 110 1 1 1 (λrow hr=>?_) (by rw[jYx,frs_length]) (λrow hr f hf=>?_) (λf hf=>?_) (λf hf=>?_) 7 8 (by rw[frs_length];omega) (by rw[fg_length];exact J) (by decide) (by decide) (by decide) (by decide) (by decide) (by decide) (by decide) (by decide) (by decide) (by decide)
 ·obtain⟨i,_,rfl⟩:=kW hr;rw[fg_length,aA]
 ·obtain⟨i,_,rfl⟩:=kW hr
  obtain⟨q,J,rfl⟩:=dD.mp hf
  exact cb q J i
 ·obtain⟨q,J,rfl⟩:=dD.mp hf
  exact cb q J _
 ·rcases cR.mp hf with hf |hf
  ·obtain⟨_,_,rfl⟩:=dD.mp hf;exact#[Int.zero_lt_one,O,M]
  ·rw[bX.mp hf];exact#[Int.zero_lt_one,M,M]
theorem x_ok(B:BeO A.frs A.fb A.fg)(ok:(bP fl A.frs A.fb A.fg).Ok s)(q:List Nat):0<(A.x fl s q).2/\BB 9000 (A.x fl s q).2:=by
 obtain⟨d,a,_,xe⟩:=Ip B ok (A.qs.idxOf q)
 refine#[d,Mi (B.ox fl s ok.n) (bK ok.pos (Ui B).1) (Lf xe a)]
theorem y_ok(B:BeO A.frs A.fb A.fg)(ok:(bP fl A.frs A.fb A.fg).Ok s)(un:UnO (bP fl A.frs A.fb A.fg) s none)(hk:k<A.frs.length):Ts (yF fl A.frs A.fb A.fg s k)/\BB 9000 (yF fl A.frs A.fb A.fg s k).2:=by
 obtain⟨X,a,c,b⟩:=Wh B ok un hk
 have hm:A.frs.getD k []∈A.frs:=by rw[aR,aD hk];exact cS hk
 have w:=Gr B hk
 have x:=iY λf hf=>(B.gg f hf).1
 have j:=bK (bK ok.pos w.2) x.1
 have d:=Lf b a
 have b2:=Mi (B.oy fl s ok.n _ hm).1 j d
 refine#[#[X,a,c,?_,b2.mono (by decide)],b2]
 exact(((B.oy fl s ok.n _ hm).2 k hk).mul B.wg.2).of_le (tQ j (bW X) (Int.le_of_dvd j d) b)
theorem va_P(B:BeO A.frs A.fb A.fg)(ok:(bP fl A.frs A.fb A.fg).Ok s)(q:List Nat):va (A.P fl s q)=va (A.x fl s q)*A.L q:=by
 have d:=(x_ok B ok q).1
 have z:0<(A.x fl s q).2*1:=#[]
 have e:va (A.P fl s q)=_:=Wk z (eK (t:=(A.x fl s q).1*lc (A.col q)) z)
 rw[e]
 symm
 refine oA (mY z) ?_
 have:=lR d
 rw[eA,fB,←this]
 show _*A.L q*_=_*_*A.L q
 grind
structure Told(A:AdQ)(fl:Bool)(s:Nat->Nat)(gv:List Nat->Rat)(z:Int):Prop where
 adv:AdvR A.qs A.bs (λq b=>va (A.mv q b)) gv (λq=>va (A.P fl s q)) (λb=>va (A.y fl s b)) (va (yF fl A.frs A.fb A.fg s A.bs.length)-((1-z:Int):Rat))
 xb:∀q∈A.qs,0<(A.x fl s q).2/\BB 9000 (A.x fl s q).1/\BB 9000 (A.x fl s q).2
 P:∀q∈A.qs,Ts (A.P fl s q)
 Y:∀b∈A.bs,Ts (A.y fl s b)
 ym:0<(yF fl A.frs A.fb A.fg s A.bs.length).2/\BB 9200 (yF fl A.frs A.fb A.fg s A.bs.length).1/\BB 9000 (yF fl A.frs A.fb A.fg s A.bs.length).2
theorem told(B:BeO A.frs A.fb A.fg)(h:A.Ok)(ok:(bP fl A.frs A.fb A.fg).Ok s)(io:kC (bP fl A.frs A.fb A.fg) s)(un:UnO (bP fl A.frs A.fb A.fg) s none){o:List Nat->Rat}(hg:∀q∈A.qs,va (A.af q)=o q+((1-z:Int):Rat))(U:∀q∈A.qs,1<=va (A.af q))(D:∀q∈A.qs,BB 110 (A.af q).1)
  (F:¬∀q∈A.qs,1<=lsm A.bs λb=>va (A.y fl s b)*va (A.mv q b)):A.Told fl s o z:=by
 have a:=AdQ.adv B h ok io un hg (λq J=>by rw[←hg q J];exact U q J) F
 have j:AdvR A.qs A.bs (λq b=>va (A.mv q b)) o (λq=>va (A.P fl s q)) (λb=>va (A.y fl s b)) (va (yF fl A.frs A.fb A.fg s A.bs.length)-((1-z:Int):Rat)):=by
  rwa [show(λq=>va (A.P fl s q))=λq=>va (A.x fl s q)*A.L q from funext λq=>va_P B ok q]
 have C:∀q∈A.qs,va (A.P fl s q)<=1:=λq J=>by have:=Xm J j.p0;rwa [j.one]at this
 have w:∀q∈A.qs,1<=A.L q:=λq J=>by
  have:=h.lp J
  have:((1:Int):Rat)<=A.L q:=Rat.intCast_le_intCast.mpr #[]
  exact this
 have m:∀q,0<=va (A.x fl s q):=λq=>let h:=Ip B ok (A.qs.idxOf q);qH h.1 h.2.2.1
 have u:∀{f:Int×Int}{n:Nat},0<f.2->0<=f.1->va f<=1->BB n f.2->BB n f.1:=λ{f n} p N l b=>b.of_le (by have:=va_le1 p l;omega)
 have r:=y_ok B ok un (k:=A.bs.length) (by rw[frs_length];omega)
 refine#[j,λq J=>#[(x_ok B ok q).1,u (x_ok B ok q).1 (Ip B ok _).2.2.1 ?_ (x_ok B ok q).2,(x_ok B ok q).2],λq J=>?_,λb hb=>?_,r.1.p,?_,r.2]
 ·have h1:=C q J
  rw[va_P B ok]at h1
  have:=fM (w q J) (m q)
  grind
 ·have d:=x_ok B ok q
  have z:0<(A.x fl s q).2*1:=#[]
  have l:=eK (t:=(A.x fl s q).1*lc (A.col q)) z
  have N:0<=(A.P fl s q).1:=by
   have h1:=(Ip B ok (A.qs.idxOf q)).2.2.1
   have h2:=dY h1 (bW (h.lp J))
   have e:=l.eq
   have p:=l.pos
   show 0<=(lo2 ((A.x fl s q).1*lc (A.col q)) ((A.x fl s q).2*1)).1
   refine Int.not_lt.mp λc=>?_
   have:=Int.mul_lt_mul_of_pos_right c z
   have h3:0<=(A.x fl s q).1*lc (A.col q)*(lo2 ((A.x fl s q).1*lc (A.col q)) ((A.x fl s q).2*1)).2:=dY h2 (bW p)
   omega
  have b2:BB 9000 (A.P fl s q).2:=Mi (by rw[eA];exact d.2) z (La z)
  exact#[l.pos,l.cop,N,(u l.pos N (C q J) b2).mono (by decide),b2.mono (by decide)]
 ·obtain⟨i,e⟩:=cJ hb
  unfold y
  exact(y_ok B ok un (by rw[frs_length,idx h.nb e];have:=(aK.mp e).1;omega)).1
 ·have le:va (yF fl A.frs A.fb A.fg s A.bs.length)<=va (2^110,1):=by
   have e:va (yF fl A.frs A.fb A.fg s A.bs.length)=lsm A.qs λq=>va (A.P fl s q)*va (A.af q):=by
    rw[iG (g:=λq=>va (A.P fl s q)*o q+va (A.P fl s q)*((1-z:Int):Rat)) λq J=>by rw[hg q J];grind,Ej,nB,j.one,j.wo];grind
   have t:lsm A.qs (λq=>va (A.P fl s q)*va (2^110,1))=va (2^110,1):=by rw[nB,j.one,Rat.one_mul]
   rw[e,←t]
   refine Ly λq J=>fM ((qM (h.ap q J) Int.zero_lt_one).mpr ?_) (j.p0 q J)
   have b:(A.af q).1.natAbs<2^110:=D q J
   have p:=h.ap q J
   have:(2:Int)^110*1<=2^110*(A.af q).2:=Int.mul_le_mul_of_nonneg_left #[] (by decide)
   omega
  have G:=(qM r.1.p Int.zero_lt_one).mp le
  have b:BB (111+9000) ((2:Int)^110*(yF fl A.frs A.fb A.fg s A.bs.length).2):=BB.mul (by show((2:Int)^110).natAbs<2^111;decide) r.2
  have n:=r.1.n
  refine(b.of_le ?_).mono (by decide)
  have v:(yF fl A.frs A.fb A.fg s A.bs.length).1*1<=2^110*(yF fl A.frs A.fb A.fg s A.bs.length).2:=G
  omega
end
end AdQ
noncomputable def S3(ns:List Nat):Prop:=∃a b c,ns=[a,b,c]/\(a=1∨a=2)/\(b=1∨b=2)/\(c=1∨c=2)
theorem S3.all(h:S3 ns):(gB ns ns.length).Nodup/\(gB ns ns.length).length<=6/\(dU ns.reverse).length<=8/\1<=(dU ns.reverse).length/\ns.length=3:=by
 obtain⟨a,b,c,rfl,h1,h2,h3⟩:=h
 rcases h1 with rfl |rfl<;>rcases h2 with rfl |rfl<;>rcases h3 with rfl |rfl<;>decide+kernel
noncomputable def gF(un:List Nat->Nat->Int)(G:Nat->Int)(ns q:List Nat):Int×Int:=lo2 (sm ns.length λh=>G h*un q h) (2520*2520)
noncomputable def adq(un:List Nat->Nat->Int)(G:Nat->Int)(ns:List Nat)(z:Int):AdQ:=#[dU ns.reverse,gB ns ns.length,mo un,λq=>lft z (gF un G ns q)]
structure AdI(ns:List Nat)(un:List Nat->Nat->Int)(G:Nat->Int):Prop where
 s3:S3 ns
 bu:∀q∈dU ns.reverse,∀h,h<ns.length->BB 52 (un q h)
 bg:∀h,h<ns.length->BB 52 (G h)
section
variable{ns:List Nat}{un:List Nat->Nat->Int}{G:Nat->Int}{z:Int}
theorem AdI.gb(I:AdI ns un G){q:List Nat}(J:q∈dU ns.reverse):BB 107 (sm ns.length λh=>G h*un q h):=by
 have g:=I.s3.all.2.2.2.2
 exact(bb_sm3 (λh t=>(I.bg h t).mul (I.bu q J h t)) #[]).mono #[]
theorem AdI.gl(I:AdI ns un G){q:List Nat}:0<(gF un G ns q).2/\(gF un G ns q).2∣2520*2520:=#[(eK (by decide)).pos,La (by decide)]
theorem AdI.ent(I:AdI ns un G)(m:Mnf [(dU ns.reverse).map (gF un G ns)] z){q:List Nat}(J:q∈dU ns.reverse):∃N,Ent (2520*2520) N (lft z (gF un G ns q))/\BB 110 N:=by
 obtain⟨r,hr,f,hf,j⟩:=m.at_
 rw[bX.mp hr]at hf
 obtain⟨a,y,rfl⟩:=dD.mp hf
 have fb:=floor_b (S:=2520*2520) (u:=sm ns.length λh=>G h*un a h) (by decide)
 rw[show(lo2 (sm ns.length λh=>G h*un a h) (2520*2520)).1.fdiv (lo2 (sm ns.length λh=>G h*un a h) (2520*2520)).2=z from j.symm]at fb
 have b1:=I.gb J
 have b2:=I.gb y
 refine#[_,ent_lft (by decide),?_]
 unfold BB at*
 have k:(2:Nat)^107*4<2^110:=by decide
 have b:100000000<(2:Nat)^107:=by decide
 generalize (2:Nat)^110=W at k⊢
 generalize (2:Nat)^107=V at*
 omega
theorem Ent.mo(I:AdI ns un G){q b:List Nat}(J:q∈dU ns.reverse)(hb:b∈gB ns ns.length):∃N,Ent (2520*2520) N (mo un q b)/\BB 110 N:=by
 obtain⟨h,c,o,n,rfl,R,hc,D,_⟩:=Eo hb
 have Y:=(aK.mp R).1
 show ∃N,Ent _ N (if q[h]?=some c then lo2 (un (q.set h o) h-un q h) 2520 else(0,1))/\_
 split
 ·have l:=eK (t:=un (q.set h o) h-un q h) (b:=2520) (by decide)
  refine#[(un (q.set h o) h-un q h)*2520,#[l.pos,l.cop,jC (La (by decide)) #[2520,rfl],by have:=l.eq;grind],?_]
  have b1:=I.bu _ (Nh J R D) h Y
  have b2:=I.bu _ J h Y
  unfold BB at*
  have k:(2:Nat)^52*6000<2^110:=by decide
  generalize (2:Nat)^110=W at k⊢
  omega
 ·exact#[0,#[by decide,by decide,#[_,(fY _).symm],by decide],by show(0:Int).natAbs<2^110;exact dR _]
theorem AdI.ok(I:AdI ns un G)(m:Mnf [(dU ns.reverse).map (gF un G ns)] z):(adq un G ns z).Ok:=#[λq J b hb=>let⟨_,e,_⟩:=Ent.mo I J hb;e.p,λq J=>let⟨_,e,_⟩:=I.ent m J;e.p,mK _,I.s3.all.1]
theorem AdI.bb(I:AdI ns un G)(m:Mnf [(dU ns.reverse).map (gF un G ns)] z){q:List Nat}(J:q∈dU ns.reverse):RwE (2520*2520) 110 ((adq un G ns z).col q):=#[λf hf=>by
 rcases cR.mp hf with hf |hf
 ·obtain⟨b,hb,rfl⟩:=dD.mp hf;exact Ent.mo I J hb
 ·simp only[dW,List.not_mem_nil,or_false]at hf
  rcases hf with rfl |rfl
  ·exact#[2520*2520,#[by decide,by decide,#[_,(fY _).symm],by decide],by unfold BB;decide]
  ·exact I.ent m J]
theorem AdI.g9(I:AdI ns un G)(m:Mnf [(dU ns.reverse).map (gF un G ns)] z){q:List Nat}(J:q∈dU ns.reverse):∀f∈(adq un G ns z).col q,G9 f:=λf hf=>by
 obtain⟨N,e,b⟩:=(I.bb m J).h f hf
 exact#[e.p,(ent_bb e (by decide) b).mono (by decide),(Mi (n:=23) (by unfold BB;decide) (by decide) e.d).mono (by decide)]
theorem AdI.beo(I:AdI ns un G)(m:Mnf [(dU ns.reverse).map (gF un G ns)] z):BeO (adq un G ns z).frs (adq un G ns z).fb (adq un G ns z).fg:=
 AdQ.beo (I.ok m) (λ_ J=>(I.bb m J).clr (by decide)) I.s3.all.2.1 I.s3.all.2.2.1
theorem AdI.told(I:AdI ns un G)(m:Mnf [(dU ns.reverse).map (gF un G ns)] z){fl:Bool}(ok:(bP fl (adq un G ns z).frs (adq un G ns z).fb (adq un G ns z).fg).Ok s)(io:kC (bP fl (adq un G ns z).frs (adq un G ns z).fb (adq un G ns z).fg) s)(u:UnO (bP fl (adq un G ns z).frs (adq un G ns z).fb (adq un G ns z).fg) s none):(adq un G ns z).Told fl s (λq=>va (gF un G ns q)) z:=by
 have x:=I.ok m
 have B:=I.beo m
 refine AdQ.told B x ok io u (λq _=>va_lft I.gl.1) (λq J=>lft_ge I.gl.1 (m.le _ (bX.mpr rfl) _ (dD.mpr #[q,J,rfl]))) (λq J=>let⟨_,e,b⟩:=I.ent m J;ent_bb e (by decide) b) λA=>?_
 have j:∀b∈gB ns ns.length,0<=va ((adq un G ns z).y fl s b):=λb hb=>by
  obtain⟨i,e⟩:=cJ hb
  have k:=(AdQ.y_ok B ok u (k:=(gB ns ns.length).idxOf b) (by rw[AdQ.frs_length];show _<(gB ns ns.length).length+1;rw[AdQ.idx I.s3.all.1 e];have:=(aK.mp e).1;omega)).1
  exact qH k.p k.n
 obtain⟨a,b,c,rfl,h1,h2,h3⟩:=I.s3
 exact nl_of (n0:=a) (n1:=b) (n2:=c) j #[] #[] #[] A
end
noncomputable def Ka:List PySem.Str:=["_law_script","_law_many","_law_found","_law_k","_law_cell","_law_at"]
noncomputable def wW(K:aO):Sp:=λvs H Q _=>∃a ns,∃many:Nat,vs=[.ref a,.int many]/\SqL K H a (List.map V.int ns)/\ns.length<=63/\1<=many/\many<=1000/\∀l hs H',aP H H'->H' l=some (.lst (List.map V.int hs))->hs.length=many->(∀h∈hs,Nm h)->Q (.ref l) H'
noncomputable def Du(a l:Addr)(many:Nat)(u:Hp):Nat->St->Hp->Prop:=λ_ Z U=>∃(M J v:Option V)(hs:List Int),Z=[some (.ref a),some (.int many),some (.ref l),M,J,v]/\aP u U/\U l=some (.lst (List.map V.int hs))/\hs.length=many/\∀h∈hs,Nm h
noncomputable def qZ(K:aO):TS:=(cD (cU (tOp iV (aE 3) (aE 1)) (aZ 5)) (cU (tOp iV (tOp iQ (tOp iQ (tOp eU (tOp (gJ K) (aE 2) (aE 5)) (tC (.int 48271))) (aE 4)) (tOp eU (aE 3) (aE 3))) (tOp iQ (tOp tT (tC (.int 10)) (tC (.int 60))) (tC (.int 7)))) (Qb (aE 2) (aE 5) Br)))
noncomputable def Ow(K:aO):TS:=(cD (cU (tC (.int 0)) (aZ 4)) (cD (fU (cY (tOp vI (tCB (jD K) (aH (aE 0) bE)) (tC (.int 0)))) (cU (tOp iV (tOp (gJ K) (aE 0) (tOp iV (aE 3) (tCB cMin (aH (tCB (jD K) (aH (aE 0) bE)) (aH (tC (.int 63)) bE))))) (tOp iQ (tOp tT (tC (.int 10)) (tC (.int 60))) (tC (.int 7)))) (aZ 4)) eO) (qZ K)))
noncomputable def zY(K:aO):TE:=(tC (.int 0))
noncomputable def yT(K:aO):TS:=(cD (cU (dN (gT (aH (aE 1) bE)) [] (zY K)) (aZ 2)) (cD (gA (gT (aH (tCB cMax (aH (aE 1) (aH (tCB cMin (aH (tCB (jD K) (aH (aE 0) bE)) (aH (tC (.int 63)) bE))) bE))) bE)) (aZ 3) (Ow K)) (cP (aE 2))))
theorem nm_mod(c:Int):Nm (c%(10^Int.toNat 60+7)):=by
 have x:=Int.emod_nonneg c (show(10^Int.toNat 60+7:Int)≠0 by decide)
 have G:=Int.emod_lt_of_pos c (show(0:Int)<10^Int.toNat 60+7 by decide)
 refine#[x,?_]
 generalize c%(10^Int.toNat 60+7)=w at x G⊢
 have a:(10^Int.toNat 60:Int)=1000000000000000000000000000000000000000000000000000000000000:=by decide
 rw[a]at G
 unfold BB
 have:(2:Nat)^210=1645504557321206042154969182557350504982735865633579863348609024:=by decide
 rw[this]
 omega
theorem Vq{K}:RdS K wW yT Ka:=by
 intro w H Q E h
 obtain⟨a,ns,many,rfl,k,R,m1,m2,q⟩:=h
 rw[show start Ka [V.ref a,V.int many]=[some (.ref a),some (.int many),none,none,none,none]from rfl]
 (dsimp![yT,dN,gA,gT,cMax,cMin,cD,cU,aZ,aE,tC,cP,aH,bE,tCB,jD])
 refine#[#[],#[],jL (lo:=0) (W:=WEq H λi N=>N=List.map V.int (List.replicate i 0)) (by rw[sizeLine_eq];omega) #[rfl,rfl] ?_ ?_]
 ·rintro i T U _ _ ⟨rfl,rfl⟩
  dsimp only[zY,tC,fG,fH,fF]
  exact#[rfl,by show _=List.map V.int (List.replicate (i+1) 0);rw[List.replicate_succ',aX];rfl]
 ·rintro T U _ ⟨rfl,rfl⟩ l Y
  rw[dA]
  have O:=aP.upd (o:=HO.lst (List.map V.int (List.replicate many 0))) Y
  refine#[_,.inl (O.seq k),?_]
  rw[aA]
  have P:∃j:Nat,(if(if 63<(ns.length:Int)then 63 else(ns.length:Int))>many then(if 63<(ns.length:Int)then 63 else(ns.length:Int))else(many:Int))=j/\j<=1063:=by
   refine#[(if(if 63<(ns.length:Int)then 63 else(ns.length:Int))>many then(if 63<(ns.length:Int)then 63 else(ns.length:Int))else(many:Int)).toNat,?_,?_]
   ·split<;>(try split)<;>omega
   ·split<;>(try split)<;>omega
  obtain⟨j,f,P⟩:=P
  rw[f,dA]
  refine#[#[],#[],uC (lo:=0) (n:=j) (g:=aZ 3) (D:={ nx:=cP (aE 2) (eQ Q),rt:=Q }) (Du a l many U) ?_ ?_ ?_]
  ·exact#[none,none,none,List.replicate many 0,rfl,O,aI,by rw[List.length_replicate],λh t=>by rw[List.eq_of_mem_replicate t];exact#[by decide,by unfold BB;decide]]
  ·rintro i Z G p ⟨M,J,v,hs,rfl,I,d,C,hb⟩
   have last:∀c:Int,qZ K { nx:=Du a l many U (i+1),ct:=Du a l many U (i+1),bk:=cP (aE 2) (eQ Q),rt:=Q } [some (.ref a),some (.int many),some (.ref l),some (.int (0+i)),some (.int c),v] G:=by
    intro c
    have b:((0+(i:Int))%(many:Int))=((i%many:Nat):Int):=by rw[eJ];push_cast;rfl
    have e:i%many<many:=Nat.mod_lt _ #[]
    (dsimp![qZ,Qb,Br,cD,cU,aZ,aE,tC,tOp,rI0,rI,iQ,eU,iV,tT,gJ])
    refine#[#[],_,SqL.of d,_,Vh (by rw[b];omega) (by rw[b,C];omega),_,rfl,.r (by unfold BB;decide),.r (by unfold BB;omega),#[by decide,by decide,by decide],by decide,_,d,_,(by rw[aA,C];exact Ek (by rw[b];omega) (by rw[b];omega)),?_]
    rw[←List.map_set]
    refine#[_,_,_,_,rfl,I.put Y,aI,by rw[length_set,C],λh t=>?_]
    rcases mem_or_eq_of_mem_set t with t |rfl
    ·exact hb h t
    ·exact nm_mod _
   (dsimp![cMin,cD,cU,aZ,aE,tC,tOp,rI0,rI,iQ,iV,tT,vI,fU,cY,eO,aH,bE,tCB,jD,gJ,cN])
   refine#[_,.inl (I.seq k),mT (λs=>?_) (λ_=>last 0)]
   rw[aA]at s
   refine#[_,.inl (I.seq k),?_]
   rw[aA]
   have hm:0<(if 63<(ns.length:Int)then 63 else(ns.length:Int))/\(if 63<(ns.length:Int)then 63 else(ns.length:Int))<=ns.length:=by split<;>omega
   generalize (if 63<(ns.length:Int)then 63 else(ns.length:Int))=m at hm
   have u:=Int.emod_nonneg (0+(i:Int)) (show m≠0 by omega)
   have x:=Int.emod_lt_of_pos (0+(i:Int)) hm.1
   exact#[hm.1,_,I.seq k,_,Vh u #[],#[by decide,by decide,by decide],_,rfl,by decide,last _]
  ·rintro Z G ⟨M,J,v,hs,rfl,I,d,C,hb⟩
   (dsimp![aE,cP])
   exact q l hs G I d C hb
noncomputable def Th:List PySem.Str:=["_law_sizes","_law_plays_here","_law_many","_law_longer","_law_play"]
noncomputable def Dm(K:aO):Sp:=λvs H Q _=>∃l ns,vs=[.ref l]/\H l=some (.lst (tv ns))/\Sz ns/\∀p xs H',aP H H'->H p=none->H' p=some (.lst xs)->Ps H' xs (dU ns.reverse)->Q (.ref p) H'
noncomputable def jZk(s:Nat)(b:List Nat):fO:=(List.range s).map λc=>b++[c]
noncomputable def jJ8(l:Addr)(H:Hp)(ns:List Nat):Nat->St->Hp->Prop:=λi Z U=>∃t xs M J v,Z=[some (.ref l),some (.ref t),M,J,v]/\aP H U/\H t=none/\U t=some (.lst xs)/\Ps U xs (dU (ns.take i).reverse)
noncomputable def Yv(l t:Addr)(n:Nat)(H:Hp)(qs:fO):Nat->St->Hp->Prop:=λj Z U=>∃g ys v,Z=[some (.ref l),some (.ref t),some (.int n),some (.ref g),v]/\aP H U/\H g=none/\U g=some (.lst ys)/\Ps U ys ((qs.take j).flatMap (jZk n))
noncomputable def wG(K:aO):TS:=(cU (aE 3) (aZ 1))
noncomputable def wH(K:aO):TE:=(tOp sB (aE 1) (hJ (aH (aE 0) bE)))
noncomputable def Ft(K:aO):TS:=(cU (tOp qK (aE 3) (dN (gT (aH (aE 2) bE)) [4] (wH K))) (aZ 3))
noncomputable def Fs(K:aO):TS:=(cD (cU (mS bE) (aZ 3)) (cD (gA (dC K (aE 1)) (aZ 4) (Ft K)) (wG K)))
noncomputable def Hg(K:aO):TS:=(cD (cU (mS (aH (hJ bE) bE)) (aZ 1)) (cD (gA (dC K (aE 0)) (aZ 2) (Fs K)) (cP (aE 1))))
theorem jYl(s:Nat)(b:List Nat):(jZk s b).length=s:=by simp [jZk]
theorem Og(s:Nat):∀qs:fO,(qs.flatMap (jZk s)).length=qs.length*s
 | []=>by simp
 |b::qs=>by rw[List.flatMap_cons,bC,jYl,Og s qs,cZ,Nat.succ_mul];omega
theorem jJj{K}:RdS K Dm Hg Th:=by
 intro m H Q E h
 obtain⟨l,ns,rfl,hS,sz,q⟩:=h
 rw[show start Th [V.ref l]=[some (.ref l),none,none,none,none]from rfl]
 (dsimp?[Hg,gA,dC])
 refine#[sz0,λa ha=>#[sz1,λt y=>?_]]
 have O:aP H (upd H a (.tup [])):=aP.upd ha
 have s2:aP (upd H a (.tup [])) (upd (upd H a (.tup [])) t (.lst [.ref a])):=aP.upd y
 have s3:=O.trans s2
 refine#[#[_,SqL.of (s3 _ _ hS)],iN (K:=K) (a:=l) (xs:=tv ns) (g:=aZ 2) (D:={ nx:=cP (aE 1) (eQ Q),rt:=Q }) (jJ8 l H ns) ?_ ?_ ?_ ?_]
 ·exact#[t,_,none,none,none,rfl,s3,O.free y,aI,Ps.one (s2 _ _ aI)]
 ·rintro i Z U _ ⟨_,_,_,_,_,_,I,_⟩
  exact SqL.of (I _ _ hS)
 ·rintro i x Z U hi ⟨t,F,M,J,v,rfl,I,y,B,S⟩
  obtain⟨n,R,rfl⟩:=Gq hi
  have a1:i<ns.length:=(aK.mp R).1
  have Y:=sz.le n (aL R)
  have C:=sz.len
  have a0:(dU (ns.take i).reverse).length<=36:=by
   rw[Jq _ (sz.take i).rev.ge]
   have h2:(ns.take i).reverse.length<=2:=?_
   ·exact cO (Eu _ (sz.take i).rev.le) (cO (gS (by decide) h2) (by decide))
   rw[cT,dM];omega
  have f:F.length=(dU (ns.take i).reverse).length:=S.1
  (dsimp?[Fs,gA,dC])
  refine#[sz0,λg hg=>?_]
  have X:aP U (upd U g (.lst [])):=aP.upd hg
  refine#[#[_,SqL.of (X _ _ B)],iN (K:=K) (a:=t) (xs:=F) (g:=aZ 4) (D:={ nx:=wG K _,rt:=Q }) (Yv l t n U (dU (ns.take i).reverse)) ?_ ?_ ?_ ?_]
  ·exact#[g,[],_,rfl,X,hg,aI,Ps.nil]
  ·rintro j Z G _ ⟨_,_,_,_,s,_⟩
   exact SqL.of (s _ _ B)
  ·rintro j x Z G P ⟨g,T,o4,rfl,s,hg,o,py⟩
   obtain⟨b,a,hb,rfl,ha⟩:=(S.same s).get P
   have a2:j<(dU (ns.take i).reverse).length:=(aK.mp hb).1
   have d:T.length=j*n:=by rw[py.1,Og,dM];congr 1;omega
   (dsimp?[Ft,dN,gT,qK])
   refine#[#[],#[],jL (lo:=0) (n:=n) (λk N w=>aP G w/\Ps w N ((List.range k).map λc=>b++[c])) (pW #[]) #[aP.refl _,Ps.nil] ?_ ?_]
   ·rintro k N w hk _ ⟨u,pz⟩
    (dsimp?[cL,bR,cK,wH,sB];try simp_arith[cL,bR,cK,wH,sB,eJ])
    refine#[sz1,λz A=>?_]
    have s8:aP w (upd w z (.tup [.int k])):=aP.upd A
    refine#[_,rfl,_,s8 _ _ (u _ _ ha),_,aI,?_,λp H6 e hp=>#[u.trans (s8.trans e),?_]]
    ·rw[mX]
     have:=iA _ b (aL hb)
     rw[cT,dM]at this
     exact pW (by show _+1<=216;omega)
    ·rw[gO,aX]
     exact(pz.same (s8.trans e)).app (Ps.one (by rw[hp,tv_app];rfl))
   ·rintro N w A ⟨u,pz⟩ p hp
    have s8:aP w (upd w p (.lst N)):=aP.upd hp
    refine#[T,s8 _ _ (u _ _ o),N,aI,?_,λr hr=>?_]
    ·rw[d,A]
     have:j*n+n<=216:=by
      have h1:(j+1)*n<=36*6:=gZ #[] Y
      rw[Nat.succ_mul]at h1
      exact h1
     exact pW this
    ·have e:aP (upd w p (.lst N)) (upd (upd w p (.lst N)) r (.lst (T++N))):=aP.upd hr
     refine#[r,_,_,rfl,((s.trans u).trans s8).trans e,((s.trans u).trans s8).free hr,aI,?_]
     rw[dH hb,List.flatMap_append]
     refine Ps.app (((py.same u).same s8).same e) ?_
     rw[List.flatMap_cons,List.flatMap_nil,bZ]
     exact(pz.same s8).same e
  ·rintro Z G ⟨g,T,o4,rfl,s,hg,o,py⟩
   (dsimp?[wG])
   refine#[g,T,_,_,_,rfl,I.trans s,I.free hg,o,?_]
   rw[f,cA]at py
   rw[dH R,List.reverse_append]
   exact py
 ·rintro Z U ⟨t,F,M,J,v,rfl,I,y,B,S⟩
  (dsimp![aE,tC,tOp,rI0,rNe,gL,cP,cY])
  rw[mX,cA]at S
  exact q t F U I y B S
noncomputable def Kd:List PySem.Str:=["_law_one","_law_other"]
noncomputable def jG(_:aO):Sp:=λvs H Q _=>∃a b,vs=[.int a,.int b]/\Q (.int (Int.gcd a b:Nat)) H
noncomputable def Ab(K:aO):TS:=(Pz 0 1 (aH (aE 1) (aH (tOp iV (aE 0) (aE 1)) bE)))
noncomputable def zB(K:aO):TS:=(cD (cU (tCB Cv (aH (aE 0) bE)) (aZ 0)) (cD (cU (tCB Cv (aH (aE 1) bE)) (aZ 1)) (cD (xZ (cY (tOp vI (aE 1) (tC (.int 0)))) (Ab K)) (cP (aE 0)))))
theorem Vs{K}:RdS K jG zB Kd:=by
 intro m H Q E h
 obtain⟨a,b,rfl,k⟩:=h
 rw[show start Kd [V.int a,V.int b]=[some (.int a),some (.int b)]from rfl]
 (dsimp![zB,cD,cU,aZ,aE,vI,aH,bE,tCB,Cv,Zw])
 refine Mm (λZ d=>d=H/\∃g s,Z=[some (.int g),some (.int s)]/\0<=g/\0<=s/\Int.gcd g s=Int.gcd a b) (λZ _=>(intO (Z.getD 1 none)).toNat) ?_ ?_ ?_
 ·exact#[rfl,_,_,rfl,#[],#[],by simp [Int.gcd]]
 ·rintro Z d ⟨rfl,g,s,rfl,hg,hs,e⟩
  (dsimp![Ab,aE,tC,tOp,rI0,rI,iV,cP,cY,aH,bE,Pz,cN])
  refine mT (λhp=>?_) (λhp=>?_)
  ·have h1:=Int.emod_nonneg g (b:=s) #[]
   have h2:=Int.emod_lt_of_pos g hp
   simp [hp,h1,hs]
   refine#[?_,?_]
   ·rw[←e,Int.gcd_comm g s,Int.emod_def,Int.gcd_sub_mul_left_right]
   ·show max (g%s) 0<s
    omega
  ·have c:s=0:=#[]
   subst c
   rw[←e,Int.gcd_zero_right]at k
   have:((g.natAbs:Nat):Int)=g:=#[]
   rw[this]at k
   exact k
 ·intro Z d f n y h
  dsimp only[cY,tOp,tC,rI0]at h⊢
  first
  | (obtain⟨v,hv,q⟩:=Aj h
     exact Ai hv (jVJ q λi q=>y _ _ q))
  | (obtain⟨v,hv,i,j,hi,P,b,hb,q⟩:=Aj h
     exact Ai hv #[i,j,hi,P,b,hb,y _ _ q])
noncomputable def Kb:List PySem.Str:=["_law_number","_law_way_here","_law_top","_law_bottom","_law_most"]
noncomputable def qG(_:aO):Sp:=λvs H Q _=>∃n a,vs=[.int n,.int a]/\Nm n/\∀p H',aP H H'->EnV 31 H' (.ref p)->Q (.ref p) H'
noncomputable def nN(K:aO):TS:=(cD (cU (tOp iQ (tC (.int 1)) (tOp iV (tOp iV (tOp eU (aE 0) (tC (.int 16807))) (tC (.int 1000037))) (tC (.int 9)))) (aZ 3)) (cD (cU (cB (jG K) [] E0 (aH (aE 2) (aH (aE 3) bE))) (aZ 4)) (cP (hJ (aH (tOp kT (aE 2) (aE 4)) (aH (tOp kT (aE 3) (aE 4)) bE))))))
noncomputable def Aa(K:aO):TS:=(cD (cU (tOp lA (tOp iV (aE 0) (tOp iQ (tOp eU (tC (.int 2)) (tOp tT (tC (.int 10)) (tC (.int 9)))) (tC (.int 1)))) (tOp tT (tC (.int 10)) (tC (.int 9)))) (aZ 2)) (cD (fU (cY (tOp rEq (aE 1) (tC (.int 3)))) (cU (tOp lA (tOp iV (tOp iV (tOp eU (aE 0) (tC (.int 69621))) (tC (.int 1000033))) (tC (.int 1999))) (tC (.int 999))) (aZ 2)) eO) (nN K)))
noncomputable def zZ(K:aO):TS:=(cD (fU (cY (tOp rEq (aE 1) (tC (.int 1)))) (cP (hJ (aH (tOp lA (tOp iV (tOp iV (tOp eU (aE 0) (tC (.int 69621))) (tC (.int 1000033))) (tC (.int 19))) (tC (.int 9))) (aH (tC (.int 1)) bE)))) eO) (Aa K))
noncomputable def zA(K:aO):TS:=(cD (fU (cY (tOp rEq (aE 1) (tC (.int 0)))) (cP (hJ (aH (tOp lA (tOp iV (tOp iV (tOp eU (aE 0) (tC (.int 48271))) (tC (.int 1000003))) (tC (.int 3))) (tC (.int 1))) (aH (tC (.int 1)) bE)))) eO) (zZ K))
theorem bb_t9(c:Int):BB 30 (c%(2*10^Int.toNat 9+1)-10^Int.toNat 9):=by
 have e:(10^Int.toNat 9:Int)=1000000000:=by decide
 rw[e]
 unfold BB
 omega
theorem Vr{K}:RdS K qG zA Kb:=by
 intro f H Q E h
 obtain⟨n,a,rfl,y,q⟩:=h
 rw[show start Kb [V.int n,V.int a]=[some (.int n),some (.int a),none,none,none]from rfl]
 have bn:=y.2
 have b1:∀k:Int,0<=k->k<1000000->BB 20 k:=λk c h1=>by unfold BB;omega
 have d:∀t:Int,BB 30 t->nN K (eQ Q) [some (.int n),some (.int a),some (.int t),none,none] H:=by
  intro t u
  (dsimp?[nN];try simp_arith[nN,jG])
  refine#[.b bn (b1 _ (by decide) (by decide)),by decide,by decide,?_]
  generalize n*16807%1000037=m
  have m1:0<1+m%9:=#[]
  have e:1+m%9<=9:=#[]
  generalize 1+m%9=b at m1 e
  have s:0<Int.gcd t b:=Int.gcd_pos_of_ne_zero_right _ #[]
  have bb:BB 20 b:=b1 b #[] #[]
  have bg:=bb.gcd (i:=t) #[]
  refine#[#[#[],bg.mono (by decide)],#[#[],bg.mono (by decide)],sz2,λp hp=>q p _ (aP.upd hp) ?_]
  have F:=Zq (t:=t) (b:=b) #[]
  have g:=F.by_
  exact#[p,_,_,rfl,aI,F.pos,by have:=F.pos;omega,(u.of_le F.bx).mono (by decide)]
 (dsimp?[zA,zZ,Aa])
 refine mT (λ_=>?_) (λ_=>mT (λ_=>?_) (λ_=>?_))
 ·refine#[.b bn (b1 _ (by decide) (by decide)),by decide,by decide,sz2,λp hp=>q p _ (aP.upd hp) #[p,_,_,rfl,aI,by decide,by decide,?_]]
  generalize n*48271%1000003=m
  unfold BB;omega
 ·refine#[.b bn (b1 _ (by decide) (by decide)),by decide,by decide,sz2,λp hp=>q p _ (aP.upd hp) #[p,_,_,rfl,aI,by decide,by decide,?_]]
  generalize n*69621%1000033=m
  unfold BB;omega
 ·refine#[#[by decide,by decide,by decide],.b (m:=2) (n:=40) (by unfold BB;decide) (by unfold BB;decide),by decide,#[by decide,by decide,by decide],mT (λ_=>?_) (λ_=>d _ (bb_t9 n))]
  refine#[.b bn (b1 _ (by decide) (by decide)),by decide,by decide,d _ ?_]
  generalize n*69621%1000033=m
  unfold BB;omega
noncomputable def jXw:List PySem.Str:=["_law_number","_law_many"]
noncomputable def Na(_:aO):Sp:=λvs H Q _=>∃n m:Int,vs=[.int n,.int m]/\∀w:Int,0<=w->w<=3->Q (.int w) H
noncomputable def Oa(K:aO):TS:=(cP (tOp iV (aE 0) (tC (.int 3))))
noncomputable def Uq(K:aO):TS:=(cD (fU (Ea (cY (tOp rEq (tOp iV (aE 0) (tC (.int 3))) (tC (.int 2)))) (cY (tOp vI (aE 1) (tC (.int 4))))) (cP (tC (.int 3))) eO) (Oa K))
theorem jWa{K}:RdS K Na Uq jXw:=by
 intro a H Q E h
 obtain⟨n,m,rfl,q⟩:=h
 rw[show start jXw [V.int n,V.int m]=[some (.int n),some (.int m)]from rfl]
 (dsimp?[Uq,Oa])
 have z:Q (V.int (n%3)) H:=q _ #[] #[]
 refine#[by decide,?_]
 split
 ·split
  ·exact q 3 (by decide) (by decide)
  ·exact#[by decide,z]
 ·rw[aF bU];exact#[by decide,z]
noncomputable def Ti:List PySem.Str:=["_law_script","_law_head","_law_sizes","_law_plays_here","_law_cells","_law_k","_law_goal"]
structure DrO(H:Hp)(r s c g:Addr)(ms:List Nat)(kv:List (List Key×V))(cont:List Nat->List V)(xs:List V):Prop where
 hr:H r=some (.tup [.ref s,.ref c,.ref g])
 hs:H s=some (.lst (tv ms))
 s3:S3 ms
 sz:Sz ms
 hc:H c=some (.dT kv)
 kc:Kc H kv cont (dU ms.reverse)
 cl:∀q,(cont q).length=3
 en:∀q∈dU ms.reverse,∀v∈cont q,EnV 31 H v
 hg:H g=some (.lst xs)
 xl:xs.length=3
 xe:∀v∈xs,EnV 31 H v
noncomputable def Dn(K:aO):Sp:=λvs H Q _=>∃a ns,vs=[.ref a]/\SqL K H a (List.map V.int ns)/\ns.length<=63/\∀r s c g T B A xs H',aP H H'->DrO H' r s c g T B A xs->Q (.ref r) H'
noncomputable def jJ9(u:Hp)(c:Addr)(pre:St)(qs:fO):Nat->St->Hp->Prop:=λi Z U=>∃B A o,Z=pre++[some (.ref c),o,none]/\aP u U/\U c=some (.dT B)/\Kc U B A (qs.take i)/\(∀q,(A q).length=3)/\∀q∈qs.take i,∀v∈A q,EnV 31 U v
noncomputable def Fy(K:aO):TS:=(cP (hJ (aH (aE 2) (aH (aE 4) (aH (aE 6) bE)))))
noncomputable def wL(K:aO):TE:=(cB (qG K) [] E0 (aH (tOp (gJ K) (aE 1) (tOp iQ (tC (.int 4)) (aE 0))) (aH (tOp (gJ K) (mS (aH (tC (.int 0)) (aH (tC (.int 1)) (aH (tC (.int 3)) bE)))) (tOp iV (tOp (gJ K) (aE 1) (tC (.int 7))) (tC (.int 3)))) bE)))
noncomputable def wI(K:aO):TS:=(cD (cU (dN (gT (aH (tC (.int 3)) bE)) [1] (wL K)) (aZ 6)) (Fy K))
noncomputable def wK(K:aO):TE:=(cB (qG K) [] E0 (aH (tOp (gJ K) (aE 1) (tOp iQ (tOp iQ (tC (.int 8)) (tOp eU (tC (.int 3)) (aE 3))) (aE 0))) (aH (cB (Na K) [] E0 (aH (tOp (gJ K) (aE 1) (tC (.int 3))) (aH (tCB (jD K) (aH (aE 2) bE)) bE))) bE)))
noncomputable def Fz(K:aO):TS:=(Bq (aE 4) (tOp (gJ K) (aE 3) (aE 5)) (dN (gT (aH (tC (.int 3)) bE)) [1,3,5] (wK K)))
noncomputable def Fx(K:aO):TS:=(cD (gA (gT (aH (tCB (jD K) (aH (aE 3) bE)) bE)) (aZ 5) (Fz K)) (wI K))
noncomputable def Fw(K:aO):TS:=(cD (cU vL (aZ 4)) (Fx K))
noncomputable def Fv(K:aO):TS:=(cD (cU (cB (Dm K) [] E0 (aH (aE 2) bE)) (aZ 3)) (Fw K))
noncomputable def wJ(K:aO):TE:=(tOp iQ (tC (.int 1)) (tOp iV (tOp (gJ K) (aE 1) (aE 0)) (tC (.int 2))))
noncomputable def Fu(K:aO):TS:=(cD (cU (dN (gT (aH (tC (.int 3)) bE)) [1] (wJ K)) (aZ 2)) (Fv K))
noncomputable def Hh(K:aO):TS:=(cD (cU (cB (wW K) [] E0 (aH (aE 0) (aH (tC (.int 34)) bE))) (aZ 1)) (Fu K))
theorem tv3{T:List Nat}(h:T.length=3)(h2:∀n∈T,n=1∨n=2):S3 T/\Sz T:=by
 match T,h with
 | [a,b,c],_=>exact#[#[a,b,c,rfl,h2 a (by simp),h2 b (by simp),h2 c (by simp)],#[aM _,λn R=>by have:=h2 n R;omega,λn R=>by have:=h2 n R;omega]]
theorem jJk{K}:RdS K Dn Hh Ti:=by
 intro vs H Q E h
 obtain⟨a,ns,rfl,hS,R,k⟩:=h
 rw[show start Ti [V.ref a]=[some (.ref a),none,none,none,none,none,none]from rfl]
 (dsimp![Hh,cD,cU,aZ,aE,tC,tOp,rI0,rI,iQ,iV,rEq,gL,fU,cY,eO,cB,aH,bE,hJ,mS,gJ,jN,eF,jO,bZ,cN])
 refine#[a,ns,34,rfl,hS,R,by decide,by decide,λhd hs S O t Y nm=>?_]
 have a1:∀{i:Nat},i<34->atI (List.map V.int hs) (i:Int)=some (.int (hs.getD i 0)):=λh=>jW1 #[]
 have a5:∀{i:Nat},i<34->Nm (hs.getD i 0):=λh=>nm _ (mB #[])
 (dsimp?[Fu,dN,gT])
 refine#[by decide,by decide,jL (lo:=0) (W:=WEq S λi N=>∃ms:List Nat,N=tv ms/\ms.length=i/\∀n∈ms,n=1∨n=2) (by rw[sizeLine_eq];decide) #[rfl,[],rfl,rfl,by simp] ?_ ?_]
 ·rintro i T U hi _ ⟨rfl,ms,rfl,ml,m2⟩
  (dsimp?[wJ,cL,bR,cK,bF];try simp_arith[wJ,cL,bR,cK,bF,eJ])
  have i3:i<3:=hi
  refine#[_,SqL.of t,_,a1 #[],_,rfl,by decide,rfl,ms++[(1+hs.getD i 0%2).toNat],?_,by rw[bC,ml];rfl,λn R=>?_]
  ·unfold tv;rw[aX,bR,cK,Int.toNat_of_nonneg #[]]
  ·rcases cR.mp R with R |R
   ·exact m2 n R
   ·rw[bX.mp R];omega
 rintro T U _ ⟨rfl,ms,rfl,ml,m2⟩ sl a9
 have ml:ms.length=3:=ml
 obtain⟨s3,sz⟩:=tv3 ml m2
 have s2:=aP.upd (o:=HO.lst (tv ms)) a9
 have x:(upd U sl (.lst (tv ms))) sl=some (.lst (tv ms)):=aI
 have a6:=s2 _ _ t
 generalize upd U sl (.lst (tv ms))=M at s2 x a6
 (dsimp?[Fv])
 refine#[sl,ms,rfl,x,sz,λl ps G I _ d pp=>?_]
 have q8:=s3.all.2.2.1
 have pn:=pp.1
 have a7:=I _ _ a6
 (dsimp?[Fw,vL])
 intro c hc
 have su:=aP.upd (o:=HO.dT []) hc
 (dsimp?[Fx,gA,gT])
 refine#[_,.inl (SqL.of (su _ _ d)),#[],#[],?_]
 rw[show((ps.length:Nat):Int).toNat=(dU ms.reverse).length by omega]
 refine uC (lo:=0) (g:=aZ 5) (D:={ nx:=wI K (eQ Q),rt:=Q }) (jJ9 G c [some (.ref a),some (.ref hd),some (.ref sl),some (.ref l)] (dU ms.reverse)) #[[],λ_=>[.non,.non,.non],none,rfl,su,aI,#[rfl,λi q e=>by simp at e],λ_=>rfl,λq J=>by simp at J] ?_ ?_
 ·rintro i Z H5 hi ⟨B,A,o,rfl,X,a3,kc,cl,en⟩
  (dsimp?[Fz,Bq,dN,gT,Lca,Lna])
  refine#[by decide,by decide,jL (lo:=0) (λj N C=>aP H5 C/\N.length=j/\∀v∈N,EnV 31 C v) (by rw[sizeLine_eq];decide) #[aP.refl _,rfl,by simp] ?_ ?_]
  ·rintro j N C P _ ⟨s,zl,ze⟩
   have j3:j<3:=P
   have a2:=s _ _ (X _ _ a7)
   (dsimp?[wK,cL,bR,cK,bF];try simp_arith[wK,cL,bR,cK,bF,eJ])
   refine#[.b (m:=10) (n:=10) (by unfold BB;decide) (by unfold BB;omega),_,SqL.of a2,_,by rw[show(8+3*(i:Int)+j)=((8+3*i+j:Nat):Int) by push_cast;rfl];exact a1 #[],_,SqL.of a2,_,a1 (i:=3) #[],_,.inl (SqL.of (s _ _ (X _ _ d))),_,_,rfl,λw _ _=>?_]
   refine#[_,_,rfl,a5 #[],λr H7 u er=>#[s.trans u,by rw[bC,zl];rfl,λv hv=>?_]]
   rcases cR.mp hv with hv |hv
   ·exact(ze v hv).keep (eI u)
   ·rw[bX.mp hv];exact er
  rintro N C _ ⟨s,zl,ze⟩ p hp
  have zl:N.length=3:=zl
  have u:=aP.upd (o:=HO.lst N) hp
  have a0:=s.trans u
  have p7:(upd C p (.lst N)) p=some (.lst N):=aI
  have a8:∀v∈N,EnV 31 (upd C p (.lst N)) v:=λv hv=>(ze v hv).keep (eI u)
  generalize upd C p (.lst N)=H7 at a0 p7 a8
  have a4:=X.trans a0
  obtain⟨q,b,eq,eb,hb⟩:=(pp.same a4).at hi
  have n0:=kc.new (mK _) eq
  have c7:=a0 _ _ a3
  have J:=aL eq
  have nt:=Ds (mK ms.reverse) eq
  have kl:=kc.1
  rw[dM]at kl
  have up:∀b o,b≠c->H7 b=some o->(upd H7 c (.dT (B++[(tk q,.ref p)]))) b=some o:=λb o hb e=>by rw[bY hb];exact e
  have nc:∀b F,H7 b=some (.lst F)->b≠c:=λb F e z=>by rw[z,c7]at e;cases e
  have b0:∀b F,H7 b=some (.tup F)->b≠c:=λb F e z=>by rw[z,c7]at e;cases e
  have ci:∀f∈(dU ms.reverse).take i,(if f=q then N else A f)=A f:=λf h'=>aF λ(z:f=q)=>nt (by rw[←z];exact h')
  refine#[_,SqL.of (a4 _ _ d),_,by rw[eJ];exact gM eb,_,.inr #[B,tk q,b,c7,rfl,by rw[tS];exact hb,by rw[sizeLine_eq];omega,rfl],B++[(tk q,.ref p)],λf=>if f=q then N else A f,_,rfl,a4.put hc,by rw[aI,nI _ n0],?_,λf=>by dsimp only;split;exact zl;exact cl f,λf y v hv=>?_]
  ·rw[nI _ n0]
   refine Kc.snoc (((kc.same a0).off λb F e=>up b _ (nc b F e) e).cong ci) eq (up _ _ (nc _ _ p7) ?_)
   rw[aJ rfl];exact p7
  ·rw[nI _ n0]
   have kt:Ir H7 (upd H7 c (.dT (B++[(tk q,.ref p)]))):=λb F e=>up b _ (b0 b F e) e
   rw[dH eq]at y
   by_cases e:f=q
   ·dsimp only at hv;rw[aJ e]at hv;exact(a8 v hv).keep kt
   ·dsimp only at hv;rw[aF e]at hv
    rcases cR.mp y with y |y
    ·exact((en f y v hv).keep (eI a0)).keep kt
    ·exact absurd (bX.mp y) e
 ·rintro Z H5 ⟨B,A,o,rfl,X,a3,kc,cl,en⟩
  rw[cA]at kc en
  (dsimp?[wI,dN,gT,Lca,Lna])
  refine#[by decide,by decide,jL (lo:=0) (λj N C=>aP H5 C/\N.length=j/\∀v∈N,EnV 31 C v) (by rw[sizeLine_eq];decide) #[aP.refl _,rfl,by simp] ?_ ?_]
  ·rintro j N C P _ ⟨s,zl,ze⟩
   have j3:j<3:=P
   have a2:=s _ _ (X _ _ a7)
   (dsimp?[wL,cL,bR,cK,bF];try simp_arith[wL,cL,bR,cK,bF,eJ])
   refine#[_,SqL.of a2,_,by rw[show(4+(j:Int))=((4+j:Nat):Int) by push_cast;rfl];exact a1 #[],sz3,λp hp=>?_]
   have sp:=aP.upd (o:=HO.lst [V.int 0,V.int 1,V.int 3]) hp
   have ew:∃w:Int,atI [V.int 0,V.int 1,V.int 3] (hs.getD 7 0%3)=some (.int w):=by
    have h1:hs.getD 7 0%3=0∨hs.getD 7 0%3=1∨hs.getD 7 0%3=2:=#[]
    rcases h1 with h |h |h<;>rw[h]
    ·exact#[_,iU]
    ·exact#[_,iJ]
    ·exact#[_,atI2]
   obtain⟨w,ew⟩:=ew
   refine#[_,SqL.of (sp _ _ a2),_,a1 (i:=7) #[],_,rfl,by decide,_,SqL.of aI,_,ew,_,_,rfl,a5 #[],λr H7 u er=>#[(s.trans sp).trans u,by rw[bC,zl];rfl,λv hv=>?_]]
   rcases cR.mp hv with hv |hv
   ·exact(ze v hv).keep (eI (sp.trans u))
   ·rw[bX.mp hv];exact er
  rintro N C _ ⟨s,zl,ze⟩ p hp
  (dsimp?[Fy])
  refine#[sz3,λr hr=>?_]
  have u:=(aP.upd (o:=HO.lst N) hp).trans (aP.upd (o:=HO.tup [V.ref sl,V.ref c,V.ref p]) hr)
  have a0:=s.trans u
  exact k r sl c p ms B A N _ (O.trans (s2.trans (I.trans (X.trans a0)))) #[aI,(I.trans (X.trans a0)) _ _ x,s3,sz,a0 _ _ a3,kc.same a0,cl,λq J v hv=>(en q J v hv).keep (eI a0),aP.upd hr _ _ aI,zl,λv hv=>(ze v hv).keep (eI u)]
noncomputable def Ci:List PySem.Str:=["lists","told","choices","longer","begun"]
noncomputable def rB(_:aO):Sp:=λvs H Q _=>∃l ls cs,vs=[.ref l]/\H l=some (.lst ls)/\Lg H ls cs/\Ch cs/\∀p xs H',aP H H'->H p=none->H' p=some (.lst xs)->Ps H' xs (Bh cs.reverse)->Q (.ref p) H'
noncomputable def Ll(c:List Nat)(b:List Nat):fO:=c.map λx=>b++[x]
noncomputable def Pu(l:Addr)(H:Hp)(cs:fO):Nat->St->Hp->Prop:=λi Z U=>∃t xs M J v,Z=[some (.ref l),some (.ref t),M,J,v]/\aP H U/\H t=none/\U t=some (.lst xs)/\Ps U xs (Bh (cs.take i).reverse)
noncomputable def Km(l t a:Addr)(c:List Nat)(H:Hp)(qs:fO):Nat->St->Hp->Prop:=λj Z U=>∃g ys v,Z=[some (.ref l),some (.ref t),some (.ref a),some (.ref g),v]/\aP H U/\H g=none/\U g=some (.lst ys)/\Ps U ys ((qs.take j).flatMap (Ll c))
noncomputable def oE(K:aO):TS:=(cU (aE 3) (aZ 1))
noncomputable def oF(K:aO):TE:=(tOp sB (aE 1) (hJ (aH (aE 0) bE)))
noncomputable def uE(K:aO):TS:=(oX (tBM K "list" Uy (aE 3) (aH (dN (dC K (aE 2)) [4] (oF K)) bE)))
noncomputable def uD(K:aO):TS:=(cD (cU (mS bE) (aZ 3)) (cD (gA (dC K (aE 1)) (aZ 4) (uE K)) (oE K)))
noncomputable def sS(K:aO):TS:=(cD (cU (mS (aH (hJ bE) bE)) (aZ 1)) (cD (gA (dC K (aE 0)) (aZ 2) (uD K)) (cP (aE 1))))
theorem Ru(c:List Nat):∀qs:fO,(qs.flatMap (Ll c)).length=qs.length*c.length
 | []=>by simp
 |b::qs=>by rw[List.flatMap_cons,bC,Ru c qs,cZ,Nat.succ_mul,Ll,aA];omega
theorem Ox{K}:RdS K rB sS Ci:=by
 intro vs H Q E h
 obtain⟨l,ls,cs,rfl,hS,rg,ch,q⟩:=h
 rw[show start Ci [V.ref l]=[some (.ref l),none,none,none,none]from rfl]
 (dsimp?[sS,gA,dC])
 refine#[sz0,λa ha=>#[sz1,λt y=>?_]]
 have O:aP H (upd H a (.tup [])):=aP.upd ha
 have s2:aP (upd H a (.tup [])) (upd (upd H a (.tup [])) t (.lst [.ref a])):=aP.upd y
 have s3:=O.trans s2
 refine#[#[_,SqL.of (s3 _ _ hS)],iN (K:=K) (a:=l) (xs:=ls) (g:=aZ 2) (D:={ nx:=cP (aE 1) (eQ Q),rt:=Q }) (Pu l H cs) ?_ ?_ ?_ ?_]
 ·exact#[t,_,none,none,none,rfl,s3,O.free y,aI,Ps.one (s2 _ _ aI)]
 ·rintro i Z U _ ⟨_,_,_,_,_,_,I,_⟩
  exact SqL.of (I _ _ hS)
 ·rintro i x Z U hi ⟨t,F,M,J,v,rfl,I,y,B,S⟩
  obtain⟨n,c,R,rfl,hc⟩:=(rg.same I).get hi
  have a3:i<cs.length:=(aK.mp R).1
  have Y:=ch.le n (aL R)
  have C:=ch.len
  have a1:Ch (cs.take i).reverse:=Ch.rev #[by rw[dM];omega,λd hd=>ch.le d (mem_of_mem_take hd)]
  have a2:(Bh (cs.take i).reverse).length<=36:=cO a1.many (cO (gS (j:=2) (by decide) (by rw[cT,dM];omega)) (by decide))
  have f:F.length=(Bh (cs.take i).reverse).length:=S.1
  (dsimp?[uD,gA,dC])
  refine#[sz0,λg hg=>?_]
  have X:aP U (upd U g (.lst [])):=aP.upd hg
  refine#[#[_,SqL.of (X _ _ B)],iN (K:=K) (a:=t) (xs:=F) (g:=aZ 4) (D:={ nx:=oE K _,rt:=Q }) (Km l t c n U (Bh (cs.take i).reverse)) ?_ ?_ ?_ ?_]
  ·exact#[g,[],_,rfl,X,hg,aI,Ps.nil]
  ·rintro j Z G _ ⟨_,_,_,_,s,_⟩
   exact SqL.of (s _ _ B)
  ·rintro j x Z G P ⟨g,T,r,rfl,s,hg,o,py⟩
   obtain⟨b,a,hb,rfl,ha⟩:=(S.same s).get P
   have a4:j<(Bh (cs.take i).reverse).length:=(aK.mp hb).1
   have hy:T.length=j*n.length:=by rw[py.1,Ru,dM];congr 1;omega
   have a0:=s _ _ hc
   (dsimp?[uE,oX,tBM,dN,dC])
   refine#[.inl #[rfl,_,SqL.of o],#[_,SqL.of a0],eP (K:=K) (a:=c) (xs:=tv n) (λk N w=>aP G w/\Ps w N (Ll (n.take k) b)) ?_ #[aP.refl _,Ps.nil] ?_ ?_ ?_]
   ·rw[mX];exact pW #[]
   ·rintro k N w _ ⟨u,_⟩
    exact SqL.of (u _ _ a0)
   ·rintro k x N w hk _ ⟨u,pz⟩
    obtain⟨m,hm,rfl⟩:=Gq hk
    show oF K [some (.int m),some (.ref a)] w _
    (dsimp?[oF,sB])
    refine#[sz1,λz A=>?_]
    have s8:aP w (upd w z (.tup [.int m])):=aP.upd A
    refine#[_,s8 _ _ (u _ _ ha),_,aI,?_,λp H6 e hp=>#[u.trans (s8.trans e),?_]]
    ·rw[mX]
     have:=Rl _ b (aL hb)
     rw[cT,dM]at this
     exact pW (by show _+1<=216;omega)
    ·unfold Ll
     rw[dH hm,aX]
     exact(pz.same (s8.trans e)).app (Ps.one (by rw[hp,tv_app];rfl))
   ·rintro N w A ⟨u,pz⟩ p hp
    rw[mX,cA]at pz
    rw[mX]at A
    have s8:aP w (upd w p (.lst N)):=aP.upd hp
    refine#[g,p,T,N,rfl,rfl,s8 _ _ (u _ _ o),aI,?_,?_]
    ·rw[hy,A]
     have:j*n.length+n.length<=216:=by
      have h1:(j+1)*n.length<=36*6:=gZ #[] Y
      rw[Nat.succ_mul]at h1
      exact h1
     exact pW this
    ·refine#[g,_,_,rfl,((s.trans u).trans s8).put hg,hg,aI,?_]
     rw[dH hb,List.flatMap_append]
     refine Ps.keep (Ps.app ((py.same u).same s8) ?_) (Sc (s8 _ _ (u _ _ o)))
     rw[List.flatMap_cons,List.flatMap_nil,bZ]
     exact pz.same s8
  ·rintro Z G ⟨g,T,r,rfl,s,hg,o,py⟩
   (dsimp?[oE])
   refine#[g,T,_,_,_,rfl,I.trans s,I.free hg,o,?_]
   rw[f,cA]at py
   rw[dH R,List.reverse_append]
   exact py
 ·rintro Z U ⟨t,F,M,J,v,rfl,I,y,B,S⟩
  (dsimp![aE,tC,tOp,rI0,rNe,gL,cP,cY])
  rw[rg.1,cA]at S
  exact q t F U I y B S
noncomputable def Ou:List PySem.Str:=["sizes"]
noncomputable def sI(K:aO):Sp:=λvs H Q _=>∃l ns,vs=[.ref l]/\SqL K H l (tv ns)/\Sz ns/\∀p xs H',aP H H'->H p=none->H' p=some (.lst xs)->Ps H' xs (dU ns.reverse)->Q (.ref p) H'
noncomputable def Cb(K:aO):TE:=(Wm (aE 0))
noncomputable def Dd(K:aO):TS:=(cP (cB (rB K) [] E0 (aH (dN (dC K (aE 0)) [] (Cb K)) bE)))
theorem rng_tv(n:Nat):List.map V.int (vH n)=tv (List.range n):=by unfold vH tv;rw[List.map_map];rfl
theorem Sz.ch(sz:Sz ns):Ch (ns.map List.range):=#[by rw[aA];exact sz.len,λc hc=>by obtain⟨n,R,rfl⟩:=dD.mp hc;rw[gQ];exact sz.le n R]
theorem lg_step{U:Hp}{n:Nat}(b:Lg U ys ((ns.take i).map List.range))(R:ns[i]?=some n)(hp:U p=none):Lg (upd U p (.lst (List.map V.int (vH n)))) (ys++[.ref p]) ((ns.take (i+1)).map List.range):=by
 rw[dH R,aX]
 exact(b.same (aP.upd hp)).snoc (by rw[aI,rng_tv])
theorem Yk{K}:RdS K sI Dd Ou:=by
 intro m H Q E h
 obtain⟨l,ns,rfl,P,sz,q⟩:=h
 rw[show start Ou [V.ref l]=[some (.ref l)]from rfl]
 have g:=sz.len
 (dsimp?[Dd,dN,dC])
 refine#[#[_,P],eP (K:=K) (a:=l) (xs:=tv ns) (λi N U=>aP H U/\Lg U N ((ns.take i).map List.range)) ?_ #[aP.refl _,Lg.nil] ?_ ?_ ?_]
 ·rw[mX];exact pW #[]
 ·rintro i T U _ ⟨s3,_⟩
  exact s3.seq P
 ·rintro i x T U hi _ ⟨s3,b⟩
  obtain⟨n,R,rfl⟩:=Gq hi
  have Y:=sz.le n (aL R)
  (dsimp?[Cb,cL,cK,Wm])
  exact#[n,rfl,#[],λp hp=>#[s3.trans (aP.upd hp),lg_step b R hp]]
 ·rintro T U _ ⟨s3,b⟩ p hp
  rw[mX,cA]at b
  have I:aP U (upd U p (.lst T)):=aP.upd hp
  refine#[p,T,ns.map List.range,rfl,aI,b.same I,sz.ch,λk F d X w c S=>q k F d ((s3.trans I).trans X) ((s3.trans I).free w) c ?_]
  rw[Xb,List.map_reverse];exact S
noncomputable def Cq:List PySem.Str:=["self"]
noncomputable def rK(K:aO):Sp:=λvs H Q _=>∃t ns A,vs=[.ref t]/\xB K H t ns A/\Sz ns/\∀p xs H',aP H H'->H p=none->H' p=some (.lst xs)->Ps H' xs (dU ns.reverse)->Q (.ref p) H'
noncomputable def tI(K:aO):TS:=(cP (cB (sI K) [] E0 (aH (gK K (aE 0) "many") bE)))
theorem Pg{K vs H Q E}(T:TabK K)(h:rK K vs H Q E):tI K (eQ Q) (start Cq vs) H:=by
 obtain⟨t,ns,A,rfl,⟨f,m,d,B,y,hm,_⟩,sz,q⟩:=h
 rw[show start Cq [V.ref t]=[some (.ref t)]from rfl]
 (dsimp?[tI,gK])
 exact#[_,_,_,y,T.cl,T.nM,_,Ib _ _,m,ns,rfl,SqL.of hm,sz,q]
noncomputable def Cp:List PySem.Str:=["self"]
noncomputable def rJ(K:aO):Sp:=λvs H Q _=>∃t ns A,vs=[.ref t]/\xB K H t ns A/\∀l,H l=none->Q (.ref l) (upd H l (.lst (tv ns)))
noncomputable def tH(K:aO):TS:=(cP (tCB (pX K) (aH (gK K (aE 0) "many") bE)))
theorem Pf{K vs H Q E}(T:TabK K)(h:rJ K vs H Q E):tH K (eQ Q) (start Cp vs) H:=by
 obtain⟨t,ns,A,rfl,⟨f,m,d,B,y,hm,_⟩,q⟩:=h
 rw[show start Cp [V.ref t]=[some (.ref t)]from rfl]
 (dsimp?[tH,gK,pX])
 exact#[_,_,_,y,T.cl,T.nM,_,Ib _ _,m,rfl,_,.inl (SqL.of hm),q]
noncomputable def Ov:List PySem.Str:=["table","told","hand","size","choice"]
noncomputable def zP(K:aO):Sp:=λvs H Q _=>∃t ns A,vs=[.ref t]/\xB K H t ns A/\Sz ns/\∀p xs H',aP H H'->H' p=some (.lst xs)->Ps H' xs (gB ns ns.length)->Q (.ref p) H'
noncomputable def zU(t l z:Addr)(u:Hp)(ns:List Nat):Nat->St->Hp->Prop:=λi Z U=>∃ys M J v,Z=[some (.ref t),some (.ref l),M,J,v]/\aP u U/\U z=some (.lst (tv ns))/\U l=some (.lst ys)/\Ps U ys (gB ns i)
noncomputable def Wc(t l z:Addr)(u:Hp)(ns:List Nat)(h n:Nat):Nat->St->Hp->Prop:=λc Z U=>∃ys v,Z=[some (.ref t),some (.ref l),some (.int h),some (.int n),v]/\aP u U/\U z=some (.lst (tv ns))/\U l=some (.lst ys)/\Ps U ys (gB ns h++(List.range c).flatMap (vJ h n))
noncomputable def tE(K:aO):TE:=(hJ (aH (aE 1) (aH (aE 2) (aH (aE 0) bE))))
noncomputable def Cd(K:aO):TS:=(oX (tBM K "list" Uy (aE 1) (aH (jZ (gT (aH (aE 3) bE)) [2,4] (cY (tOp rNe (aE 0) (aE 2))) (tE K)) bE)))
noncomputable def Cc(K:aO):TS:=(gA (gT (aH (aE 3) bE)) (aZ 4) (Cd K))
noncomputable def tD(K:aO):TG:=(jN K 2 (eF (aZ 2) (eF (aZ 3) jO)))
noncomputable def vV(K:aO):TS:=(cD (cU (mS bE) (aZ 1)) (cD (gA (xA K (eX (eE K "Table") "sizes" (rJ K) [] E0 (aE 0) bE)) (tD K) (Cc K)) (cP (aE 1))))
theorem yO{h n c:Nat}:(vJ h n c).length<=n:=by unfold vJ;rw[aA];exact cO (List.length_filter_le _ _) (by rw[gQ];exact aM _)
theorem yL{d c:Type}{f:d->List c}{m:Nat}:∀{l:List d},(∀a∈l,(f a).length<=m)->(l.flatMap f).length<=l.length*m
 | [],_=>by simp
 |a::l,h=>by
  rw[List.flatMap_cons,bC,cZ,Nat.succ_mul]
  have:=yL (l:=l) λb hb=>h b (bI _ hb)
  have:=h a bT
  omega
theorem jVQ{n:Nat}(R:n<=6):(Ln h n).length<=36:=by
 have:=yL (f:=vJ h n) (m:=6) (l:=List.range n) λc _=>cO yO R
 rw[gQ]at this
 have e:(List.flatMap (vJ h n) (List.range n)).length=(Ln h n).length:=rfl
 omega
theorem Xt(sz:Sz ns)(hi:i<=3):(gB ns i).length<=108:=by
 have:=yL (f:=λh=>Ln h (ns.getD h 0)) (m:=36) (l:=List.range i) λh _=>jVQ (by
  rw[aR]
  cases e:ns[h]? with
  |none=>exact dL _
  |some n=>exact sz.le n (aL e))
 rw[gQ]at this
 have e:(gB ns i).length=(List.flatMap (λh=>Ln h (ns.getD h 0)) (List.range i)).length:=rfl
 omega
theorem Yn{K}:RdS K zP vV Ov:=by
 intro vs H Q E h
 obtain⟨t,ns,A,rfl,tb,sz,q⟩:=h
 rw[show start Ov [V.ref t]=[some (.ref t),none,none,none,none]from rfl]
 have n3:=sz.len
 obtain⟨dx,m,d,y⟩:=tb.ins
 (dsimp?[vV,eX,gA,xA];try simp_arith[vV,eX,gA,xA,if_true])
 refine#[sz0,λl Y=>?_]
 have O:aP H (upd H l (.lst [])):=aP.upd Y
 have l1:(upd H l (.lst [])) l=some (.lst []):=aI
 generalize upd H l (.lst [])=S at O l1
 refine#[dx,_,O _ _ y,Le _ _ (by decide+kernel) (by decide+kernel),t,ns,A,rfl,tb.same O,λz hz=>?_]
 have F:aP S (upd S z (.lst (tv ns))):=aP.upd hz
 have zl:z≠l:=λe=>by rw[e,l1]at hz;cases hz
 refine#[z,rfl,#[_,SqL.of aI],Ez (K:=K) (a:=z) (xs:=tv ns) (g:=tD K) (D:={ nx:=cP (aE 1) (eQ Q),rt:=Q }) (zU t l z H ns) ?_ ?_ ?_ ?_]
 ·exact#[[],none,none,none,rfl,O.trans F,aI,F _ _ l1,Ps.nil]
 ·rintro i Z U _ ⟨_,_,_,_,_,_,a0,_⟩
  exact SqL.of a0
 ·rintro i x p Z U hi ⟨T,M,J,v,rfl,s3,a0,j,b⟩ hp
  obtain⟨n,R,rfl⟩:=Gq hi
  have n6:=sz.le n (aL R)
  have il:i<ns.length:=(aK.mp R).1
  have I:aP U (upd U p (.tup [.int i,.int n])):=aP.upd hp
  (dsimp?[tD,Cc,gA,gT])
  refine#[_,SqT.of aI,rfl,_,_,rfl,_,_,rfl,rfl,_,rfl,#[],#[],uC (lo:=0) (n:=n) (g:=aZ 4) (D:={ nx:=zU t l z H ns (i+1),rt:=Q,ct:=zU t l z H ns (i+1),bk:=cP (aE 1) (eQ Q) }) (Wc t l z H ns i n) ?_ ?_ ?_]
  ·exact#[T,_,rfl,s3.trans I,I _ _ a0,I _ _ j,by rw[List.range_zero,List.flatMap_nil,bZ];exact b.same I]
  ·rintro c Z G hc ⟨T,v,rfl,X,a1,s,b⟩
   (dsimp?[Cd,oX,tBM,jZ,gT])
   refine#[.inl #[rfl,_,SqL.of s],#[],#[],Jv (lo:=0) (n:=n) (λk N w=>aP G w/\Ps w N (((List.range k).filter λo=>decide (o≠c)).map λo=>[i,c,o])) (pW #[]) #[aP.refl _,Ps.nil] ?_ ?_]
   ·rintro k N w hk _ ⟨u,B⟩
    (dsimp?[cL,bR,cK,tE];try simp_arith[cL,bR,cK,eJ,tE])
    rw[gO,List.filter_append]
    refine#[rfl,?_]
    by_cases e:k=c
    ·subst e
     rw[aF (by simp),gI (by simp),List.filter_nil,bZ]
     exact#[u,B]
    ·rw[aJ (by simp;omega),gH (by simpa using e),List.filter_nil]
     refine And.intro (sz3) (λr hr=>⟨u.trans (aP.upd hr),?_⟩)
     rw[aX]
     exact(B.same (aP.upd hr)).app (Ps.one (by rw[aI];rfl))
   ·rintro N w ⟨u,B⟩ r hr
    have P:aP w (upd w r (.lst N)):=aP.upd hr
    have pb:Ps w N (vJ i n c):=B
    have e1:=Xt sz (i:=i) #[]
    have C:=yL (f:=vJ i n) (m:=6) (l:=List.range c) λc _=>cO yO n6
    have e3:=@yO i n c
    have e4:T.length=(gB ns i++(List.range c).flatMap (vJ i n)).length:=b.1
    rw[bC]at e4
    rw[gQ]at C
    have e5:N.length=(vJ i n c).length:=pb.1
    refine#[l,r,T,N,rfl,rfl,P _ _ (u _ _ s),aI,pW #[],?_]
    have a2:=P _ _ (u _ _ s)
    have k8:=Sc (o:=.lst (T++N)) a2
    refine#[_,_,rfl,((X.trans u).trans P).put Y,?_,aI,?_]
    ·rw[bY zl];exact P _ _ (u _ _ a1)
    ·rw[gO,List.flatMap_append,List.flatMap_cons,List.flatMap_nil,bZ,←List.append_assoc]
     exact((b.same (u.trans P)).app (pb.same P)).keep k8
  ·rintro Z G ⟨T,v,rfl,X,a1,s,b⟩
   refine#[T,_,_,_,rfl,X,a1,s,?_]
   have e:ns.getD i 0=n:=by rw[aR,R];rfl
   unfold gB
   rw[gO,List.flatMap_append,List.flatMap_cons,List.flatMap_nil,bZ,e]
   exact b
 ·rintro Z U ⟨T,M,J,v,rfl,s3,_,j,b⟩
  (dsimp![aE,tC,tOp,rI0,rNe,gL,cP,cY])
  rw[mX]at b
  exact q l T U s3 j b
noncomputable def Tl:List PySem.Str:=["one","other","great","small","left"]
noncomputable def lD(_:aO):Sp:=λvs H Q _=>∃a b,vs=[.int a,.int b]/\Q (.int (Int.gcd a b:Nat)) H
noncomputable def Ge(K:aO):TS:=(cD (cU (tOp iV (aE 2) (aE 3)) (aZ 4)) (cD (cU (aE 3) (aZ 2)) (cU (aE 4) (aZ 3))))
noncomputable def Hj(K:aO):TS:=(cD (cU (tCB Cv (aH (aE 0) bE)) (aZ 2)) (cD (cU (tCB Cv (aH (aE 1) bE)) (aZ 3)) (cD (xZ (cY (tOp rNe (aE 3) (tC (.int 0)))) (Ge K)) (cP (aE 2)))))
theorem jJn{K}:RdS K lD Hj Tl:=by
 intro m H Q E h
 obtain⟨a,b,rfl,k⟩:=h
 rw[show start Tl [V.int a,V.int b]=[some (.int a),some (.int b),none,none,none]from rfl]
 (dsimp![Hj,cD,cU,aZ,aE,aH,bE,tCB,Cv,Zw])
 refine Mm (λZ d=>d=H/\∃g s l,Z=[some (.int a),some (.int b),some (.int g),some (.int s),l]/\0<=g/\0<=s/\Int.gcd g s=Int.gcd a b) (λZ _=>(intO (Z.getD 3 none)).toNat) ?_ ?_ ?_
 ·exact#[rfl,_,_,_,rfl,#[],#[],by simp [Int.gcd]]
 ·rintro Z d ⟨rfl,g,s,l,rfl,hg,hs,e⟩
  (dsimp![Ge,cD,cU,aZ,aE,tC,tOp,rI,iV,rNe,gL,cP,cY])
  by_cases c:s=0
  ·subst c
   simp only[decide_true,Bool.not_true,Option.some.injEq,exists_eq_left',exists_eq_left,V.int.injEq,V.ref.injEq,V.bl.injEq,List.cons.injEq,and_true,true_and,exists_and_left,and_assoc,fG,fH,fF,gX,kD,iK]
   rw[←e,Int.gcd_zero_right]at k
   have:((g.natAbs:Nat):Int)=g:=#[]
   rw[this]at k
   simpa using k
  ·have hp:0<s:=#[]
   have h1:=Int.emod_nonneg g c
   have h2:=Int.emod_lt_of_pos g hp
   simp [c,hp,h1,hs]
   refine#[?_,?_]
   ·rw[←e,Int.gcd_comm g s,Int.emod_def,Int.gcd_sub_mul_left_right]
   ·show max (g%s) 0<s
    omega
 ·intro Z d f n y h
  dsimp only[cY,tOp,tC,rNe]at h⊢
  first
  | (obtain⟨v,hv,hs,q⟩:=Aj h
     exact Ai hv #[hs,y _ _ q])
  | (obtain⟨v,hv,hs,b,hb,q⟩:=Aj h
     exact Ai hv #[hs,b,hb,y _ _ q])
noncomputable def jXt:List PySem.Str:=["top","bottom","shared"]
noncomputable def nH(_:aO):Sp:=λvs H Q _=>∃t b,vs=[.int t,.int b]/\b≠0/\BB 9000 b/\∀x y p H',aP H H'->H' p=some (.tup [.int x,.int y])->Lo t b x y->Q (.ref p) H'
noncomputable def Kq(K:aO):TS:=(cD (fU (cY (tOp rEq (aE 1) (tC (.int 0)))) jK eO) (cD (cU (cB (lD K) [] E0 (aH (aE 0) (aH (aE 1) bE))) (aZ 2)) (cD (fU (cY (tOp kK (aE 1) (tC (.int 0)))) (cU (tUn iE (aE 2)) (aZ 2)) eO) (cP (hJ (aH (tOp kT (aE 0) (aE 2)) (aH (tOp kT (aE 1) (aE 2)) bE)))))))
theorem jWV{K}:RdS K nH Kq jXt:=by
 intro m H Q E h
 obtain⟨t,b,rfl,hb,bb,q⟩:=h
 rw[show start jXt [V.int t,V.int b]=[some (.int t),some (.int b),none]from rfl]
 (try dsimp only[Kq,cD,cU,aZ,aE,tC,tOp,tUn,rI0,rI,rU,kT,iE,kK,rEq,gL,cP,fU,cY,eO,cB,aH,bE,hJ,jK,Lq0,Lq1,Ls0,Ls1,fG,fH,fF];try simp only[Kq,cD,cU,aZ,aE,tC,tOp,tUn,rI0,rI,rU,kT,iE,kK,rEq,gL,cP,fU,cY,eO,cB,aH,bE,hJ,jK,Lq0,Lq1,Ls0,Ls1,Option.some.injEq,exists_eq_left',V.int.injEq,V.bl.injEq,List.cons.injEq,and_true,true_and,bZ,exists_and_left,cN,and_assoc,lD,exists_eq_left,V.ref.injEq,fG,fH,fF,gX,kD,iK])
 rw[aF hb]
 have bg:=bb.gcd (i:=t) hb
 have s:0<Int.gcd t b:=Int.gcd_pos_of_ne_zero_right _ hb
 refine mT (λR=>?_) (λR=>?_)
 ·refine#[#[#[],bg.neg],#[#[],bg.neg],sz2,λp hp=>q _ _ p _ (aP.upd hp) aI (lo_neg R)]
 ·refine#[#[#[],bg],#[#[],bg],sz2,λp hp=>q _ _ p _ (aP.upd hp) aI (Zq #[])]
noncomputable def N_plus:List PySem.Str:=["one","other"]
noncomputable def Kt(K:aO):Sp:=λvs H Q _=>∃p q a b c d,vs=[.ref p,.ref q]/\Tw K H p q a b c d/\0<b/\0<d/\BB 9000 (b*d)/\∀r H',aP H H'->H' r=some (.tup [.int (lo2 (a*d+c*b) (b*d)).1,.int (lo2 (a*d+c*b) (b*d)).2])->Q (.ref r) H'
noncomputable def Zj(K:aO):TS:=(cP (cB (nH K) [] E0 (aH (tOp iQ (tOp eU (tOp (dO K) (aE 0) (tC (.int 0))) (tOp (dO K) (aE 1) (tC (.int 1)))) (tOp eU (tOp (dO K) (aE 1) (tC (.int 0))) (tOp (dO K) (aE 0) (tC (.int 1))))) (aH (tOp eU (tOp (dO K) (aE 0) (tC (.int 1))) (tOp (dO K) (aE 1) (tC (.int 1)))) bE))))
theorem rd_plus{K}:RdS K Kt Zj N_plus:=by
 intro m H Q E h
 obtain⟨p,q,a,b,c,d,rfl,⟨hp,J,ba,bb,bc,e⟩,U,R,D,k⟩:=h
 rw[show start N_plus [V.ref p,V.ref q]=[some (.ref p),some (.ref q)]from rfl]
 (dsimp?[Zj])
 refine#[_,hp,_,iU,_,J,_,iJ,_,rfl,_,rfl,.b ba e,_,J,_,iU,_,hp,_,iJ,_,rfl,_,rfl,.b bc bb,_,hp,_,iJ,_,J,_,iJ,_,rfl,_,rfl,.b bb e,?_]
 have z:0<b*d:=bK U R
 refine#[_,_,rfl,#[],D,λx y r f s h l=>k r f s ?_]
 obtain⟨e1,C⟩:=l.uniq z (eK z)
 rw[←e1,←C];exact h
noncomputable def Xu:List PySem.Str:=["fractions","total","fraction"]
noncomputable def Hq(K:aO):Sp:=λvs H Q _=>∃l ps S n,∃m:Nat->Int,vs=[.ref l]/\SqL K H l (List.map V.ref ps)/\eC K H ps (ofF n λk=>lo2 (m k) S)/\0<S/\BB 100 S/\(∀k,k<=n->BB 200 (sm k m))/\(∀k,k<n->BB 200 (m k))/\∀p H',aP H H'->H' p=some (.tup [.int (lo2 (sm n m) S).1,.int (lo2 (sm n m) S).2])->Q (.ref p) H'
noncomputable def jYp(l:Addr)(u:Hp)(S:Int)(m:Nat->Int):Nat->St->Hp->Prop:=λi Z U=>∃t o,Z=[some (.ref l),some (.ref t),o]/\aP u U/\U t=some (.tup [.int (lo2 (sm i m) S).1,.int (lo2 (sm i m) S).2])
noncomputable def Iu(K:aO):TS:=(cU (cB (Kt K) [] E0 (aH (aE 1) (aH (aE 2) bE))) (aZ 1))
noncomputable def Mo(K:aO):TS:=(cD (cU (hJ (aH (tC (.int 0)) (aH (tC (.int 1)) bE))) (aZ 1)) (cD (gA (dC K (aE 0)) (aZ 2) (Iu K)) (cP (aE 1))))
theorem jWw{v S:Int}(P:0<S):lo2 ((lo2 u S).1*(lo2 v S).2+(lo2 v S).1*(lo2 u S).2) ((lo2 u S).2*(lo2 v S).2)=lo2 (u+v) S:=
 Lo.is P (lo_plus (eK P).eq (eK P).eq (eK P).pos (eK P).pos P (eK (bK (eK P).pos (eK P).pos)))
theorem jX9{K}:RdS K Hq Mo Xu:=by
 intro v H Q E h
 obtain⟨l,s,S,n,m,rfl,Y,hf,j,e,bs,b,q⟩:=h
 have d:s.length=n:=by rw[hf.length,bH]
 rw[show start Xu [V.ref l]=[some (.ref l),none,none]from rfl]
 (dsimp?[Mo,gA,dC])
 refine#[sz2,λt y=>#[#[_,(aP.upd y).seq Y],iN (K:=K) (a:=l) (xs:=List.map V.ref s) (g:=aZ 2) (D:={ nx:=cP (aE 1) (eQ Q),rt:=Q }) (jYp l H S m) ?_ ?_ ?_ ?_]]
 ·refine#[t,none,rfl,aP.upd y,?_]
  rw[show lo2 (sm 0 m) S=(0,1)from(Lo.is j (lo_mk j (by decide) (by decide) (by simp [sm]))).symm]
  exact aI
 ·rintro i Z U _ ⟨_,_,_,s3,_⟩
  exact s3.seq Y
 ·rintro i x Z U hi ⟨t,o,rfl,s3,B⟩
  obtain⟨p,rfl,hp⟩:=eR hi
  obtain⟨f,O,c⟩:=(hf.same s3).get hp
  obtain⟨k,rfl⟩:=fR O
  have w:=eK (t:=sm i m) j
  have u:=eK (t:=m i) j
  have b1:=w.bb (bs i #[]) e
  have b2:=u.bb (b i k) e
  (dsimp?[Iu])
  refine#[_,_,_,_,_,_,rfl,#[SqT.of B,c,b1.1.mono (by decide),b1.2.mono (by decide),b2.1.mono (by decide),b2.2.mono (by decide)],w.pos,u.pos,(b1.2.mul b2.2).mono (by decide),λr G I hr=>?_]
  rw[jWw j]at hr
  exact#[r,_,rfl,s3.trans I,hr]
 ·rintro Z U ⟨t,o,rfl,s3,B⟩
  (dsimp![aE,tC,tOp,rI0,rNe,gL,cP,cY])
  rw[aA,d]at B
  exact q t U s3 B
noncomputable def jXs:List PySem.Str:=["one","other"]
noncomputable def tX(K:aO):Sp:=λvs H Q _=>∃p q a b c d,vs=[.ref p,.ref q]/\Tw K H p q a b c d/\0<b/\0<d/\BB 9000 (b*d)/\∀r H',aP H H'->H' r=some (.tup [.int (lo2 (a*c) (b*d)).1,.int (lo2 (a*c) (b*d)).2])->Q (.ref r) H'
noncomputable def Um(K:aO):TS:=(cP (cB (nH K) [] E0 (aH (tOp eU (tOp (dO K) (aE 0) (tC (.int 0))) (tOp (dO K) (aE 1) (tC (.int 0)))) (aH (tOp eU (tOp (dO K) (aE 0) (tC (.int 1))) (tOp (dO K) (aE 1) (tC (.int 1)))) bE))))
theorem jWW{K}:RdS K tX Um jXs:=by
 intro m H Q E h
 obtain⟨p,q,a,b,c,d,rfl,⟨hp,J,ba,bb,bc,e⟩,U,R,D,k⟩:=h
 rw[show start jXs [V.ref p,V.ref q]=[some (.ref p),some (.ref q)]from rfl]
 (dsimp![Um,aE,tC,tOp,rI,eU,cP,cB,aH,bE,dO,bZ])
 refine#[_,hp,_,iU,_,J,_,iU,_,rfl,_,rfl,.b ba bc,_,hp,_,iJ,_,J,_,iJ,_,rfl,_,rfl,.b bb e,?_]
 have z:0<b*d:=bK U R
 refine#[_,_,rfl,#[],D,λx y r f s h l=>k r f s ?_]
 obtain⟨e1,C⟩:=l.uniq z (eK z)
 rw[←e1,←C];exact h
noncomputable def Ag:List PySem.Str:=["self","play","hand","size"]
noncomputable def mH(K:aO):Sp:=λvs H Q _=>∃t a ns A q,vs=[.ref t,.ref a]/\xB K H t ns A/\H a=some (.tup (tv q))/\q∈dU ns.reverse/\∀l H',aP H H'->H l=none->H' l=some (.lst (A q))->Q (.ref l) H'
noncomputable def Kn(t a:Addr)(H:Hp):Nat->St->Hp->Prop:=λ_ Z U=>∃M J,Z=[some (.ref t),some (.ref a),M,J]/\aP H U
noncomputable def nP(K:aO):TS:=(cP (tCB (pX K) (aH (jY (gK K (aE 0) "cells") (aE 1)) bE)))
noncomputable def sM(K:aO):TS:=(fU (tOr (cY (tOp kK (tOp (dO K) (aE 1) (aE 2)) (tC (.int 0)))) (cY (tOp Tn (tOp (dO K) (aE 1) (aE 2)) (aE 3)))) jK eO)
noncomputable def nQ(K:aO):TG:=(jN K 2 (eF (aZ 2) (eF (aZ 3) jO)))
noncomputable def rA(K:aO):TS:=(cD (gA (xA K (gK K (aE 0) "many")) (nQ K) (sM K)) (nP K))
theorem Kl{K vs H Q E}(T:TabK K)(h:mH K vs H Q E):rA K (eQ Q) (start Ag vs) H:=by
 obtain⟨t,a,ns,A,q,rfl,⟨f,m,d,B,y,hm,hd,ok⟩,ha,J,k⟩:=h
 have b:q.length=ns.length:=by rw[iA _ q J,cT]
 rw[show start Ag [V.ref t,V.ref a]=[some (.ref t),some (.ref a),none,none]from rfl]
 (dsimp?[rA,gA,xA,gK])
 refine#[_,_,_,y,T.cl,T.nM,_,Ib _ _,m,rfl,#[_,SqL.of hm],Ez (K:=K) (a:=m) (xs:=tv ns) (g:=nQ K) (D:={ nx:=nP K (eQ Q),rt:=Q }) (Kn t a H) ?_ ?_ ?_ ?_]
 ·exact#[_,_,rfl,aP.refl _]
 ·rintro i Z U _ ⟨_,_,_,s3⟩
  exact SqL.of (s3 _ _ hm)
 ·rintro i x p Z U hi ⟨M,e,rfl,s3⟩ hp
  obtain⟨n,R,rfl⟩:=Gq hi
  have j:i<q.length:=by rw[b];exact(aK.mp R).1
  have c:q[i]?=some q[i]:=aD j
  have lt:=Vb _ q J i n q[i] (by rw[List.reverse_reverse];exact R) c
  have I:aP U (upd U p (.tup [.int i,.int n])):=aP.upd hp
  (dsimp?[nQ,sM])
  refine#[_,SqT.of aI,rfl,_,_,rfl,_,_,rfl,rfl,_,rfl,_,SqT.of (I _ _ (s3 _ _ ha)),_,gM (tv_at c),_,rfl,?_]
  rw[aF #[]]
  refine#[_,rfl,_,SqT.of (I _ _ (s3 _ _ ha)),_,gM (tv_at c),_,rfl,_,rfl,?_]
  rw[aF #[]]
  exact#[_,_,rfl,s3.trans I]
 ·rintro Z U ⟨M,e,rfl,s3⟩
  (dsimp?[nP,jY,gK,pX])
  obtain⟨l,hv,C⟩:=ok q J
  exact#[_,_,_,s3 _ _ y,T.cl,T.nC,_,On _ _,d,rfl,_,(by rw[←hv];exact Lp.t (s3 _ _ hd) (by rw[tS];exact s3 _ _ ha)),l,rfl,_,.inl (SqL.of (s3 _ _ C)),λv u=>k v _ (s3.trans (aP.upd u)) (s3.free u) aI]
noncomputable def Tk:List PySem.Str:=["table","play","goal"]
noncomputable def Dp(K:aO):Sp:=λvs H Q _=>∃t pl g ns A un q xs,∃G:Nat->Int,vs=[.ref t,.ref pl,.ref g]/\TbE K H t ns A un/\H pl=some (.tup (tv q))/\q∈dU ns.reverse/\SqL K H g xs/\xs.length=ns.length/\(A q).length=ns.length/\(∀h v,xs[h]?=some v->En H v (G h))/\
 ∀p H',aP H H'->H' p=some (.tup [.int (lo2 (sm ns.length λh=>G h*un q h) (2520*2520)).1,.int (lo2 (sm ns.length λh=>G h*un q h) (2520*2520)).2])->Q (.ref p) H'
noncomputable def Gd(K:aO):TE:=(cB (tX K) [] E0 (aH (aE 0) (aH (aE 1) bE)))
noncomputable def Gc(K:aO):TG:=(jN K 2 (eF (aZ 0) (eF (aZ 1) jO)))
noncomputable def Aw(K:aO):TS:=(cP (cB (Hq K) [] E0 (aH (gW (mU K (aH (aE 2) (aH (eX (eE K "Table") "earned" (mH K) [] E0 (aE 0) (aH (aE 1) bE)) bE))) 2 [] (Gc K) (Gd K)) bE)))
theorem jWu{a b c d v x y:Int}(h1:a*2520=u*b)(h2:c*2520=v*d)(hb:0<b)(hd:0<d)(h:Lo (a*c) (b*d) x y):(x,y)=lo2 (u*v) (2520*2520):=by
 have z:=bK hb hd
 refine Lo.is (by decide) (lo_mk (by decide) h.pos h.cop (eW (Int.ne_of_gt z) ?_))
 have e:=h.eq
 grind
theorem jJm{K}:RdS K Dp Aw Tk:=by
 intro m H Q E h
 obtain⟨t,pl,g,ns,A,un,q,F,G,rfl,tb,hp,J,hg,xl,cl,hG,k⟩:=h
 have n3:=tb.sz.len
 rw[show start Tk [V.ref t,V.ref pl,V.ref g]=[some (.ref t),some (.ref pl),some (.ref g)]from rfl]
 have c:∀h,h<ns.length->BB 104 (G h*un q h):=λh hh=>by
  obtain⟨v,_,e⟩:=tb.en _ J h hh
  exact(hG h _ (aD #[])).bb.mul e.bb
 obtain⟨f,m0,R,ht⟩:=tb.tab.ins
 (dsimp?[Aw,gW,mU,eX];try simp_arith[Aw,gW,mU,eX,if_true])
 refine#[f,_,ht,Le _ _ (by decide+kernel) (by decide+kernel),t,pl,ns,A,q,rfl,tb.tab,hp,J,λl S O _ Y=>#[l,rfl,#[_,O.seq hg],#[_,SqL.of Y],?_]]
 refine lN (K:=K) (a:=g) (b:=l) (xs:=F) (ys:=A q) (λi N U=>aP S U/\∃X,N=List.map V.ref X/\eC K U X (ofF i λh=>lo2 (G h*un q h) (2520*2520))) ?_ ?_ #[aP.refl _,[],rfl,trivial] ?_ ?_ ?_
 ·rw[sizeLine_eq];omega
 ·omega
 ·rintro i N U _ ⟨s3,_⟩
  exact#[(O.trans s3).seq hg,SqL.of (s3 _ _ Y)]
 ·rintro i x y p N U hx d _ ⟨s3,X,rfl,hr⟩ w os D
  have hi:i<ns.length:=by rw[←xl];exact(aK.mp hx).1
  obtain⟨o2,o3,rfl⟩:∃M o2,os=[M,o2]:=by
   match os,D with
   | [M,o2],_=>exact#[M,o2,rfl]
  have I:=s3.trans (aP.upd (o:=HO.tup [x,y]) w)
  obtain⟨a1,x1,y1,rfl,h1,p1,z,f1,b1⟩:=(hG i x hx).keep (eI (O.trans I))
  obtain⟨v2,C,a0⟩:=tb.en _ J i hi
  rw[d]at C;cases C
  obtain⟨a2,x2,y2,rfl,h2,Z,B,u,b2⟩:=a0.keep (eI (O.trans I))
  have s:BB 4 y1:=by unfold BB;omega
  have n:BB 4 y2:=by unfold BB;omega
  (dsimp?[Gc,Gd,cL,bR,cK,bF])
  refine#[_,SqT.of aI,rfl,_,_,rfl,_,_,rfl,rfl,#[[some (.ref a1),some (.ref a2)],rfl,rfl],_,_,_,_,_,_,rfl,#[SqT.of h1,SqT.of h2,b1.mono (by decide),s.mono (by decide),b2.mono (by decide),n.mono (by decide)],p1,Z,(s.mul n).mono (by decide),λr H4 s5 T=>#[I.trans s5,X++[r],by rw[aX];rfl,?_]]
  rw[fL]
  refine eC.snoc ((hr.same (aP.upd w)).same s5) ?_
  rw[←jWu f1 u p1 Z (eK (bK p1 Z))]
  exact SqT.of T
 ·rintro N U _ ⟨s3,X,rfl,hr⟩ p w
  rw[xl]at hr
  refine#[p,X,2520*2520,ns.length,λh=>G h*un q h,rfl,SqL.of aI,hr.same (aP.upd w),by decide,by unfold BB;decide,?_,?_,λZ H4 I h4=>k Z H4 ((O.trans (s3.trans (aP.upd w))).trans I) h4]
  ·exact λj P=>(bb_sm3 (λh hh=>c h #[]) #[]).mono #[]
  ·exact λh hh=>(c h hh).mono (by decide)
noncomputable def Cj:List PySem.Str:=["row"]
noncomputable def rC(K:aO):Sp:=λvs H Q _=>∃a ps fs,vs=[.ref a]/\SqL K H a (List.map V.ref ps)/\eC K H ps fs/\(∀f∈fs,0<f.2/\BB 4000 f.2)/\fs≠[]/\fs.length<=100/\∀z H',aP H H'->(∃f∈fs,z=f.1.fdiv f.2)->(∀f∈fs,z<=f.1.fdiv f.2)->Q (.int z) H'
noncomputable def uF(K:aO):TE:=(tOp kT (tOp (dO K) (aE 0) (tC (.int 0))) (tOp (dO K) (aE 0) (tC (.int 1))))
noncomputable def sT(K:aO):TS:=(cP (tCB (Lr K) (aH (dN (dC K (aE 0)) [] (uF K)) bE)))
theorem Oy{K}:RdS K rC sT Cj:=by
 intro m H Q E h
 obtain⟨a,S,fs,rfl,P,hf,hg,ne,R,q⟩:=h
 have d:=hf.length
 rw[show start Cj [V.ref a]=[some (.ref a)]from rfl]
 (dsimp?[sT,dN,dC,Lr])
 refine#[#[_,P],eP (K:=K) (a:=a) (xs:=List.map V.ref S) (λi N U=>aP H U/\N=List.map V.int ((fs.take i).map λf=>f.1.fdiv f.2)) (by rw[aA,sizeLine_eq];omega) #[aP.refl _,rfl] ?_ ?_ ?_]
 ·rintro i N U _ ⟨s3,_⟩
  exact s3.seq P
 ·rintro i x N U hi _ ⟨s3,rfl⟩
  obtain⟨p,rfl,hp⟩:=eR hi
  obtain⟨f,O,c⟩:=(hf.same s3).get hp
  have g:=hg f (aL O)
  (dsimp?[uF])
  refine#[_,c,_,iU,_,c,_,iJ,_,rfl,_,rfl,#[#[],g.2.mono (by decide)],s3,?_]
  rw[dH O,aX,aX];rfl
 ·rintro N U _ ⟨s3,rfl⟩ p hp
  rw[aA,d,cA]
  refine#[_,SqL.of aI,λe=>ne (map_eq_nil_iff.mp e),λz A G=>?_]
  obtain⟨f,b,rfl⟩:=dD.mp A
  exact q _ _ (s3.trans (aP.upd hp)) #[f,b,rfl] λg j=>G _ (dD.mpr #[g,j,rfl])
noncomputable def Td:List PySem.Str:=["rows"]
noncomputable def Dj(K:aO):Sp:=λvs H Q _=>∃a g frs n,vs=[.ref a]/\SqL K H a (List.map V.ref g)/\xO K H g frs/\WoR frs n/\∀z p H',aP H H'->H' p=some (.tup [.int (1-z),.int 1])->Mnf frs z->Q (.ref p) H'
noncomputable def Fi(K:aO):TE:=(cB (rC K) [] E0 (aH (aE 0) bE))
noncomputable def Hd(K:aO):TS:=(cP (hJ (aH (tOp lA (tC (.int 1)) (tCB (Lr K) (aH (dN (dC K (aE 0)) [] (Fi K)) bE))) (aH (tC (.int 1)) bE))))
theorem jJd{K}:RdS K Dj Hd Td:=by
 intro m H Q E h
 obtain⟨a,g,frs,n,rfl,P,hf,W,q⟩:=h
 have d:=hf.length
 have m2:=W.m2
 rw[show start Td [V.ref a]=[some (.ref a)]from rfl]
 (dsimp?[Hd,dN,dC,Lr])
 refine#[#[_,P],eP (K:=K) (a:=a) (xs:=List.map V.ref g) (λi N U=>aP H U/\∃zz:List Int,N=List.map V.int zz/\zz.length=i/\(∀z∈zz,∃r∈frs,∃f∈r,z=f.1.fdiv f.2)/\∀(k:Nat) z r,zz[k]?=some z->frs[k]?=some r->∀f∈r,z<=f.1.fdiv f.2) (by rw[aA,sizeLine_eq];omega) #[aP.refl _,[],rfl,rfl,(λ_ h=>nomatch h),λk z r e=>by simp at e] ?_ ?_ ?_]
 ·rintro i N U _ ⟨s3,_⟩
  exact s3.seq P
 ·rintro i x N U hi _ ⟨s3,zz,rfl,Z,O,l⟩
  obtain⟨p,rfl,hp⟩:=eR hi
  obtain⟨r,qs,F,B,v⟩:=hf.get hp
  have j:=aL F
  have s:=W.hr r j
  have n1:=W.n1
  have n2:=W.n2
  (dsimp?[Fi])
  refine#[p,qs,r,rfl,s3.seq (SqL.of B),v.same s3,λf b=>#[(W.hg r j f b).1,(W.hg r j f b).2.2],λe=>by rw[e]at s;simp at s;omega,#[],λz G I#[f,o,e] le=>#[s3.trans I,zz++[z],by rw[aX];rfl,by rw[bC,Z];rfl,λJ M=>?_,λk J w e1 C u b=>?_]]
  ·rcases cR.mp M with h |h
   ·exact O J h
   ·rw[bX.mp h];exact#[r,j,f,o,e]
  ·rcases yI e1 with⟨e1,_⟩|⟨D,rfl⟩
   ·exact l k J w e1 C u b
   ·rw[D,Z,F]at C
    obtain rfl:=aV C
    exact le u b
 ·rintro N U _ ⟨s3,zz,rfl,Z,O,l⟩ p hp
  rw[aA,d]at Z
  have m1:=W.m1
  refine#[_,SqL.of aI,λe=>by rw[e]at Z;simp at Z;omega,λz A R=>#[sz2,λt y=>q z t _ ((s3.trans (aP.upd hp)).trans (aP.upd y)) aI #[O z A,λr hr f b=>?_]]]
  obtain⟨k,hk⟩:=cJ hr
  have c:k<zz.length:=by have:=(aK.mp hk).1;omega
  have h1:=R _ (cS c)
  have h2:=l k _ r (aD c) hk f b
  omega
noncomputable def Tm:List PySem.Str:=["row","number","fraction"]
noncomputable def vX(K:aO):Sp:=λvs H Q _=>∃a ps fs,vs=[.ref a]/\SqL K H a (List.map V.ref ps)/\eC K H ps fs/\(∀f∈fs,G9 f)/\fs.length<=100/\∀l p H',aP H H'->H' l=some (.lst (List.map V.int (clr fs)))->H' p=some (.tup [.int (lc fs),.ref l])->Q (.ref p) H'
noncomputable def jZX(a:Addr)(u:Hp)(fs:fP):Nat->St->Hp->Prop:=λi Z U=>U=u/\∃o,Z=[some (.ref a),some (.int (lc (fs.take i))),o]/\BB (9000*i+1) (lc (fs.take i))
noncomputable def jZU(u:Hp)(fs:fP):Nat->List V->Hp->Prop:=WEq u λi ys=>ys=List.map V.int ((clr fs).take i)
noncomputable def Gf(K:aO):TE:=(tOp eU (tOp (dO K) (aE 0) (tC (.int 0))) (tOp kT (aE 1) (tOp (dO K) (aE 0) (tC (.int 1)))))
noncomputable def wR(K:aO):TS:=(cP (hJ (aH (aE 1) (aH (dN (dC K (aE 0)) [1] (Gf K)) bE))))
noncomputable def Vl(K:aO):TS:=(cU (tOp eU (aE 1) (tOp kT (tOp (dO K) (aE 2) (tC (.int 1))) (cB (lD K) [] E0 (aH (aE 1) (aH (tOp (dO K) (aE 2) (tC (.int 1))) bE))))) (aZ 1))
noncomputable def Hk(K:aO):TS:=(cD (cU (tC (.int 1)) (aZ 1)) (cD (gA (dC K (aE 0)) (aZ 2) (Vl K)) (wR K)))
theorem jJo{K}:RdS K vX Hk Tm:=by
 intro y H Q E h
 obtain⟨a,S,fs,rfl,P,hf,hg,R,q⟩:=h
 have d:=hf.length
 have t:∀f∈fs,0<f.2:=λf hf=>(hg f hf).1
 rw[show start Tm [V.ref a]=[some (.ref a),none,none]from rfl]
 (dsimp![Hk,gA,dC,cD,cU,aZ,aE,tC])
 refine#[#[_,P],iN (K:=K) (a:=a) (xs:=List.map V.ref S) (g:=aZ 2) (D:={ nx:=wR K (eQ Q),rt:=Q }) (jZX a H fs) ?_ ?_ ?_ ?_]
 ·exact#[rfl,none,rfl,by show BB 1 1;unfold BB;decide]
 ·rintro i Z U _ ⟨rfl,_⟩
  exact P
 ·rintro i x Z U hi ⟨rfl,o,rfl,bl⟩
  obtain⟨p,rfl,hp⟩:=eR hi
  obtain⟨f,O,c⟩:=hf.get hp
  have j:=hg f (aL O)
  have lp:0<lc (fs.take i):=Ma λf hf=>t f (mem_of_mem_take hf)
  obtain⟨M,_,_,_,v⟩:=Zr lp j.1
  have e:=lc_snoc O
  have w:i<fs.length:=(aK.mp O).1
  have u:=j.2.2.of_le v
  have r:f.2≠0:=Int.ne_of_gt j.1
  have s:0<Int.gcd (lc (fs.take i)) f.2:=Int.gcd_pos_of_ne_zero_right _ r
  unfold lcf at e
  (try dsimp only[cU,aZ,aE,tC,tOp,rI,eU,kT,cB,aH,bE,dO,Lq0,Lq1,Ls0,Ls1,fG,fH,fF];try simp only[lD,cU,aZ,aE,tC,tOp,rI,eU,kT,cB,aH,bE,dO,Lq0,Lq1,Ls0,Ls1,Option.some.injEq,exists_eq_left',V.int.injEq,V.ref.injEq,List.cons.injEq,and_true,bZ,exists_and_left,and_assoc,exists_eq_left,V.bl.injEq,true_and,fG,fH,fF,gX,kD,iK])
  refine#[_,c,_,iJ,_,c,_,iJ,_,rfl,_,rfl,#[#[],j.2.2.gcd r],.b (m:=900001) (n:=9000) (bl.mono #[]) u,?_]
  rw[←e]
  refine#[rfl,_,rfl,?_]
  rw[e]
  exact(bl.mul u).mono #[]
 ·rintro Z U ⟨rfl,o,rfl,bl⟩
  rw[aA,d,cA]at bl⊢
  (dsimp![wR,dN,dC,aE,cP,aH,bE,hJ])
  refine#[#[_,P],eP (K:=K) (a:=a) (xs:=List.map V.ref S) (jZU U fs) ?_ ?_ ?_ ?_ ?_]
  ·rw[aA,d,sizeLine_eq];omega
  ·exact#[rfl,by simp]
  ·rintro i T G _ ⟨rfl,_⟩
   exact P
  ·rintro i x T G hi _ ⟨rfl,rfl⟩
   obtain⟨p,rfl,hp⟩:=eR hi
   obtain⟨f,O,c⟩:=hf.get hp
   have j:=hg f (aL O)
   obtain⟨k,hk⟩:=(Gv fs 1 (by decide) t).2.2.1 f (aL O)
   have hk:lc fs=f.2*k:=hk
   have r:f.2≠0:=Int.ne_of_gt j.1
   have z:(lc fs).fdiv f.2=k:=by rw[hk];exact Int.mul_fdiv_cancel_left _ r
   have bk:BB (9000*fs.length+1) ((lc fs).fdiv f.2):=by
    refine bl.of_le ?_
    rw[z,hk,cH]
    exact Nat.le_mul_of_pos_left _ #[]
   (dsimp![Gf,cL,bR,cK,bF,aE,tC,tOp,rI,eU,kT,dO])
   refine#[_,c,_,iU,_,c,_,iJ,_,rfl,#[r,j.2.2],_,rfl,.b (m:=20000) (n:=900001) j.2.1 (bk.mono #[]),rfl,?_]
   show _=List.map V.int (List.take (i+1) (clr fs))
   rw[dH (jXk O),aX];rfl
  ·rintro T G _ ⟨rfl,rfl⟩ l Y
   have J:(clr fs).length=fs.length:=by unfold clr;rw[aA]
   rw[aA,d,←J,cA]
   refine#[sz2,λp hp=>q l p _ ((aP.upd Y).trans (aP.upd hp)) (aP.upd hp _ _ aI) aI]
noncomputable def jXv:List PySem.Str:=["one","other"]
noncomputable def Et(K:aO):Sp:=λvs H Q _=>∃p q a b c d,vs=[.ref p,.ref q]/\Tw K H p q a b c d/\0<b/\0<d/\BB 9000 (b*d)/\∀r H',aP H H'->H' r=some (.tup [.int (lo2 (a*d-c*b) (b*d)).1,.int (lo2 (a*d-c*b) (b*d)).2])->Q (.ref r) H'
noncomputable def Up(K:aO):TS:=(cP (cB (nH K) [] E0 (aH (tOp lA (tOp eU (tOp (dO K) (aE 0) (tC (.int 0))) (tOp (dO K) (aE 1) (tC (.int 1)))) (tOp eU (tOp (dO K) (aE 1) (tC (.int 0))) (tOp (dO K) (aE 0) (tC (.int 1))))) (aH (tOp eU (tOp (dO K) (aE 0) (tC (.int 1))) (tOp (dO K) (aE 1) (tC (.int 1)))) bE))))
theorem jWQ{K}:RdS K Et Up jXv:=by
 intro m H Q E h
 obtain⟨p,q,a,b,c,d,rfl,⟨hp,J,ba,bb,bc,e⟩,U,R,D,k⟩:=h
 rw[show start jXv [V.ref p,V.ref q]=[some (.ref p),some (.ref q)]from rfl]
 (dsimp?[Up])
 refine#[_,hp,_,iU,_,J,_,iJ,_,rfl,_,rfl,.b ba e,_,J,_,iU,_,hp,_,iJ,_,rfl,_,rfl,.b bc bb,_,hp,_,iJ,_,J,_,iJ,_,rfl,_,rfl,.b bb e,?_]
 have z:0<b*d:=bK U R
 refine#[_,_,rfl,#[],D,λx y r f s h l=>k r f s ?_]
 obtain⟨e1,C⟩:=l.uniq z (eK z)
 rw[←e1,←C];exact h
noncomputable def Yb:List PySem.Str:=["rest","hand","choice"]
noncomputable def Ht(_:aO):Sp:=λvs H Q _=>∃a q h c,vs=[.ref a,.int (h:Nat),.int (c:Nat)]/\H a=some (.tup (tv q))/\q.length<=100/\∀p H',aP H H'->H' p=some (.tup (tv (q.take h++c::q.drop h)))->Q (.ref p) H'
noncomputable def Mw(K:aO):TS:=(cP (tOp sB (tOp sB (tSl Qa (aE 0) hU (lY (aE 1))) (hJ (aH (aE 2) bE))) (tSl Qa (aE 0) (lY (aE 1)) hU)))
theorem jYU{K}:RdS K Ht Mw Yb:=by
 intro m H Q E h
 obtain⟨a,q,h,c,rfl,ha,Y,k⟩:=h
 rw[show start Yb [V.ref a,V.int h,V.int c]=[some (.ref a),some (.int h),some (.int c)]from rfl]
 (dsimp?[Mw,sB,Qa])
 have e1:=Ar (tv q) none (some (h:Int))
 have C:=Ar (tv q) (some (h:Int)) none
 rw[mX]at e1 C
 refine#[_,ha,λM S O h1=>#[sz1,λz A=>?_]]
 have F:aP S (upd S z (.tup [.int c])):=aP.upd A
 refine#[_,F _ _ h1,_,aI,pW (by show _+1<=216;omega),λg U s3 h3=>#[_,s3 _ _ (F _ _ (O _ _ ha)),λe G I b=>#[_,I _ _ h3,_,b,?_,λr w X T=>?_]]]
 ·rw[bC]
  exact pW (by show _+1+_<=216;omega)
 ·refine k r w ((((O.trans F).trans s3).trans I).trans X) ?_
  rw[T,Zu,Nv]
  simp only[tv,aX,bR,map_take,List.map_drop,List.append_assoc,Lca,Lna]
noncomputable def Cm:List PySem.Str:=["table","rest","hand","choice"]
noncomputable def nO(K:aO):Sp:=λvs H Q _=>∃t r ns A b i c v,vs=[.ref t,.ref r,.int (i:Nat),.int (c:Nat)]/\xB K H t ns A/\H r=some (.tup (tv b))/\b.length<=100/\b.take i++c::b.drop i∈dU ns.reverse/\(A (b.take i++c::b.drop i))[i]?=some v/\∀H',aP H H'->Q v H'
noncomputable def oT(K:aO):TS:=(cP (tOp (gJ K) (eX (eE K "Table") "earned" (mH K) [] E0 (aE 0) (aH (cB (Ht K) [] E0 (aH (aE 1) (aH (aE 2) (aH (aE 3) bE)))) bE)) (aE 2)))
theorem Pb{K}:RdS K nO oT Cm:=by
 intro m H Q E h
 obtain⟨t,r,ns,A,b,i,c,v,rfl,T,hr,hb,J,hv,k⟩:=h
 rw[show start Cm [V.ref t,V.ref r,V.int i,V.int c]=[some (.ref t),some (.ref r),some (.int i),some (.int c)]from rfl]
 obtain⟨f,m0,R,y⟩:=T.ins
 (dsimp?[oT,eX];try simp_arith[oT,eX,if_true])
 refine#[f,_,y,Le _ _ (by decide+kernel) (by decide+kernel),r,b,i,c,rfl,hr,hb,λZ S O j=>#[t,Z,ns,A,_,rfl,T.same O,j,J,λl M F _ a=>?_]]
 exact#[_,rfl,_,SqL.of a,_,gM hv,k _ (O.trans F)]
noncomputable def Tb:List PySem.Str:=["table","rest","breach","hand"]
noncomputable def Di(K:aO):Sp:=λvs H Q _=>∃t r a ns A un b h c o n,vs=[.ref t,.ref r,.ref a]/\TbE K H t ns A un/\H r=some (.tup (tv b))/\b.length<=100/\ins h o b∈dU ns.reverse/\ins h c b∈dU ns.reverse/\H a=some (.tup (tv [h,c,o]))/\ns[h]?=some n/\c<n/\o<n/\∀p H',aP H H'->H' p=some (.tup [.int (lo2 (un (ins h o b) h-un (ins h c b) h) 2520).1,.int (lo2 (un (ins h o b) h-un (ins h c b) h) 2520).2])->Q (.ref p) H'
noncomputable def Hb(K:aO):TS:=(cD (cU (tOp (dO K) (aE 2) (tC (.int 0))) (aZ 3)) (cP (cB (Et K) [] E0 (aH (cB (nO K) [] E0 (aH (aE 0) (aH (aE 1) (aH (aE 3) (aH (tOp (dO K) (aE 2) (tC (.int 2))) bE))))) (aH (cB (nO K) [] E0 (aH (aE 0) (aH (aE 1) (aH (aE 3) (aH (tOp (dO K) (aE 2) (tC (.int 1))) bE))))) bE)))))
theorem jWx{a b c d v S:Int}(h1:a*S=u*b)(h2:c*S=v*d)(hb:0<b)(hd:0<d)(P:0<S):lo2 (a*d-c*b) (b*d)=lo2 (u-v) S:=by
 obtain⟨e1,C⟩:=Lo.uniq P (lo_less h1 h2 hb hd P (eK (bK hb hd))) (eK P)
 exact Prod.ext e1 C
theorem jJb{K}:RdS K Di Hb Tb:=by
 intro m H Q E h
 obtain⟨t,r,a,ns,A,un,b,h,c,o,n,rfl,tb,hr,bl,q1,J,ha,R,hc,D,q⟩:=h
 have Y:h<ns.length:=(aK.mp R).1
 rw[show start Tb [V.ref t,V.ref r,V.ref a]=[some (.ref t),some (.ref r),some (.ref a),none]from rfl]
 obtain⟨e,e1,P⟩:=tb.en _ q1 h Y
 obtain⟨g,C,x⟩:=tb.en _ J h Y
 (dsimp?[Hb])
 refine#[_,SqT.of ha,_,iU,_,SqT.of ha,_,atI2,t,r,ns,A,b,h,o,e,rfl,tb.tab,hr,bl,q1,e1,λS O=>?_]
 refine#[_,SqT.of (O _ _ ha),_,iJ,t,r,ns,A,b,h,c,g,rfl,tb.tab.same O,O _ _ hr,bl,J,C,λM F=>?_]
 obtain⟨j,l,I,rfl,h1,f,z,k,b1⟩:=P.keep (eI (O.trans F))
 obtain⟨G,d,X,rfl,h2,Z,B,u,b2⟩:=x.keep (eI (O.trans F))
 have s:BB 4 I:=by unfold BB;omega
 have i:BB 4 X:=by unfold BB;omega
 refine#[j,G,l,I,d,X,rfl,#[SqT.of h1,SqT.of h2,b1.mono (by decide),s.mono (by decide),b2.mono (by decide),i.mono (by decide)],f,Z,(s.mul i).mono (by decide),λp U s3 hp=>q p U ((O.trans F).trans s3) ?_]
 rw[←jWx k u f Z (by decide)]
 exact hp
noncomputable def Sy:List PySem.Str:=["play","hand"]
noncomputable def Dg(_:aO):Sp:=λvs H Q _=>∃a q h,vs=[.ref a,.int (h:Nat)]/\H a=some (.tup (tv q))/\q.length<=100/\∀p H',aP H H'->H' p=some (.tup (tv (wo h q)))->Q (.ref p) H'
noncomputable def Gz(K:aO):TS:=(cP (tOp sB (tSl Qa (aE 0) hU (lY (aE 1))) (tSl Qa (aE 0) (lY (tOp iQ (aE 1) (tC (.int 1)))) hU)))
theorem jJQ{K}:RdS K Dg Gz Sy:=by
 intro m H Q E h
 obtain⟨a,q,h,rfl,ha,Y,k⟩:=h
 rw[show start Sy [V.ref a,V.int h]=[some (.ref a),some (.int h)]from rfl]
 (dsimp?[Gz,sB,Qa])
 refine#[_,ha,λb S O h1=>#[_,O _ _ ha,λZ M F h2=>#[_,F _ _ h1,_,h2,?_,λg U s3 h3=>?_]]]
 ·have e1:=Ar (tv q) none (some (h:Int))
  have C:=Ar (tv q) (some ((h:Int)+1)) none
  rw[mX]at e1 C
  exact pW #[]
 ·refine k g U ((O.trans F).trans s3) ?_
  rw[h3,Zu,show((h:Int)+1)=((h+1:Nat):Int) by omega,Nv,←wo_tv]
  rfl
noncomputable def Ta:List PySem.Str:=["table","play","breach"]
noncomputable def Dh(K:aO):Sp:=λvs H Q _=>∃t pl a ns A un q h c o n,vs=[.ref t,.ref pl,.ref a]/\TbE K H t ns A un/\H pl=some (.tup (tv q))/\q∈dU ns.reverse/\H a=some (.tup (tv [h,c,o]))/\ns[h]?=some n/\c<n/\o<n/\∀p H',aP H H'->H' p=some (.tup [.int (mo un q [h,c,o]).1,.int (mo un q [h,c,o]).2])->Q (.ref p) H'
noncomputable def Ha(K:aO):TS:=(cD (fU (cY (tOp rNe (tOp (dO K) (aE 1) (tOp (dO K) (aE 2) (tC (.int 0)))) (tOp (dO K) (aE 2) (tC (.int 1))))) (cP (hJ (aH (tC (.int 0)) (aH (tC (.int 1)) bE)))) eO) (cP (cB (Di K) [] E0 (aH (aE 0) (aH (cB (Dg K) [] E0 (aH (aE 1) (aH (tOp (dO K) (aE 2) (tC (.int 0))) bE))) (aH (aE 2) bE))))))
theorem jJa{K}:RdS K Dh Ha Ta:=by
 intro m H Q E h
 obtain⟨t,l,a,ns,A,un,q,h,c,o,n,rfl,tb,hp,J,ha,R,hc,D,k⟩:=h
 have Y:h<ns.length:=(aK.mp R).1
 have v:q.length=ns.length:=by rw[iA _ q J,cT]
 have hd:q[h]?=some q[h]:=aD #[]
 rw[show start Ta [V.ref t,V.ref l,V.ref a]=[some (.ref t),some (.ref l),some (.ref a)]from rfl]
 (dsimp?[Ha])
 refine#[_,SqT.of ha,_,iU,_,rfl,_,SqT.of hp,.int q[h],gM (by unfold tv;rw[aY,hd];rfl),_,SqT.of ha,.int c,iJ,rfl,?_]
 by_cases e:q[h]=c
 ·have b:q.set h c=q:=by rw[←e];exact List.set_getElem_self _
  have d:=jZr (h:=h) (q:=q) #[] o
  have bc:=jZr (h:=h) (q:=q) #[] c
  rw[aF (by simp [e])]
  refine#[_,SqT.of ha,_,iU,l,q,h,rfl,hp,by have:=tb.sz.len;omega,λp S O h1=>?_]
  refine#[t,p,a,ns,A,un,wo h q,h,c,o,n,rfl,tb.same O,h1,by unfold wo;rw[bC,dM,List.length_drop];have:=tb.sz.len;omega,by rw[show ins h o (wo h q)=q.set h o from d];exact Nh J R D,by rw[show ins h c (wo h q)=q.set h c from bc,b];exact J,O _ _ ha,R,hc,D,λZ M F h2=>k Z M (O.trans F) ?_]
  have g:mo un q [h,c,o]=lo2 (un (ins h o (wo h q)) h-un (ins h c (wo h q)) h) 2520:=by
   show(if q[h]?=some c then lo2 (un (q.set h o) h-un q h) 2520 else(0,1))=_
   rw[aJ (by rw[hd,e]),show ins h o (wo h q)=q.set h o from d,show ins h c (wo h q)=q.set h c from bc,b]
  rw[g];exact h2
 ·rw[aJ (by simp;omega)]
  refine#[sz2,λp hp=>k p _ (aP.upd hp) ?_]
  have g:mo un q [h,c,o]=(0,1):=by
   show(if q[h]?=some c then lo2 (un (q.set h o) h-un q h) 2520 else(0,1))=_
   rw[aF (by rw[hd];simp;exact e)]
  rw[g];exact aI
noncomputable def Gk:List PySem.Str:=["table","play","told","aim"]
noncomputable def cF(un:List Nat->Nat->Int)(bs:fO)(q:List Nat)(f:Int×Int):fP:=bs.map (mo un q)++[(1,1),f]
noncomputable def tM(K:aO):Sp:=λvs H Q _=>∃t pl l y ns A un q xs f,vs=[.ref t,.ref pl,.ref l,.ref y]/\TbE K H t ns A un/\H pl=some (.tup (tv q))/\q∈dU ns.reverse/\SqL K H l xs/\Ps H xs (gB ns ns.length)/\SqT K H y [.int f.1,.int f.2]/\(∀g∈cF un (gB ns ns.length) q f,G9 g)/\(gB ns ns.length).length<=61/\
 ∀v p H',aP H H'->H' v=some (.lst (List.map V.int (clr (cF un (gB ns ns.length) q f))))->H' p=some (.tup [.int (lc (cF un (gB ns ns.length) q f)),.ref v])->Q (.ref p) H'
noncomputable def xC(K:aO):TE:=(cB (Dh K) [] E0 (aH (aE 1) (aH (aE 2) (aH (aE 0) bE))))
noncomputable def wQ(K:aO):TS:=(cP (cB (vX K) [] E0 (aH (tOp qK (dN (dC K (aE 2)) [0,1] (xC K)) (mS (aH (hJ (aH (tC (.int 1)) (aH (tC (.int 1)) bE))) (aH (aE 3) bE)))) bE)))
theorem Qg{K}:RdS K tM wQ Gk:=by
 intro m H Q E h
 obtain⟨t,B,l,y,ns,A,un,q,F,f,rfl,tb,hp,J,Y,S,ha,hg,R,k⟩:=h
 rw[show start Gk [V.ref t,V.ref B,V.ref l,V.ref y]=[some (.ref t),some (.ref B),some (.ref l),some (.ref y)]from rfl]
 (dsimp?[wQ,dN,dC])
 have pn:=S.1
 refine#[#[_,Y],eP (K:=K) (a:=l) (xs:=F) (λi N U=>aP H U/\∃qs,N=List.map V.ref qs/\eC K U qs (((gB ns ns.length).take i).map (mo un q))) (by rw[sizeLine_eq];omega) #[aP.refl _,[],rfl,trivial] ?_ ?_ ?_]
 ·rintro i N U _ ⟨s3,_⟩
  exact s3.seq Y
 ·rintro i x N U hi _ ⟨s3,qs,rfl,hf⟩
  obtain⟨b,a,O,rfl,hb⟩:=(S.same s3).get hi
  obtain⟨h,c,o,n,rfl,h1,h2,h3,_⟩:=Eo (aL O)
  (dsimp?[xC,cL,bR,cK,bF])
  refine#[t,B,a,ns,A,un,q,h,c,o,n,rfl,tb.same s3,s3 _ _ hp,J,hb,h1,h2,h3,λr G I hr=>#[s3.trans I,qs++[r],by rw[aX];rfl,?_]]
  rw[dH O,aX]
  exact eC.snoc (hf.same I) (SqT.of hr)
 ·rintro N U _ ⟨s3,qs,rfl,hf⟩
  rw[pn,cA]at hf
  intro p z
  refine#[sz2,λM j=>#[sz2,λZ w=>?_]]
  have I:aP U (upd U p (.lst (List.map V.ref qs))):=aP.upd z
  have X:=I.trans (aP.upd (o:=.tup [.int 1,.int 1]) j)
  have s:=X.trans (aP.upd (o:=.lst [.ref M,.ref y]) w)
  have v:=hf.length
  rw[aA]at v
  refine#[p,Z,List.map V.ref qs,[.ref M,.ref y],rfl,rfl,?_,aI,by rw[aA,sizeLine_eq];show qs.length+2<=_;omega,λg d=>?_]
  ·exact(aP.upd w) _ _ ((aP.upd j) _ _ aI)
  have u:=s.trans (aP.upd (o:=.lst (List.map V.ref qs++[.ref M,.ref y])) d)
  refine#[g,qs++[M,y],_,rfl,by rw[aX];exact SqL.of aI,?_,hg,by unfold cF;rw[bC,aA];show _+2<=100;omega,λC e D P h1 h2=>k C e D ((s3.trans u).trans P) h1 h2]
  refine eC.append ?_ (hf.same u)
  exact#[SqT.of (((aP.upd w).trans (aP.upd d)) _ _ aI),(s3.trans u).tup ha,trivial]
noncomputable def Xx:List PySem.Str:=["row","lift"]
noncomputable def Hr(K:aO):Sp:=λvs H Q _=>∃a t ps fs,∃z:Int,vs=[.ref a,.ref t]/\SqL K H a (List.map V.ref ps)/\eC K H ps fs/\SqT K H t [.int (1-z),.int 1]/\BB 9000 (1-z)/\(∀f∈fs,0<f.2/\BB 4000 f.1/\BB 4000 f.2)/\fs.length<=100/\∀l qs H',aP H H'->H' l=some (.lst (List.map V.ref qs))->eC K H' qs (fs.map (lft z))->Q (.ref l) H'
noncomputable def Iw(K:aO):TE:=(cB (Kt K) [] E0 (aH (aE 0) (aH (aE 1) bE)))
noncomputable def Ms(K:aO):TS:=(cP (dN (dC K (aE 0)) [1] (Iw K)))
theorem jYX{K}:RdS K Hr Ms Xx:=by
 intro m H Q E h
 obtain⟨a,t,S,fs,z,rfl,P,hf,y,b,hg,R,q⟩:=h
 have d:=hf.length
 rw[show start Xx [V.ref a,V.ref t]=[some (.ref a),some (.ref t)]from rfl]
 (dsimp?[Ms,dN,dC])
 refine#[#[_,P],eP (K:=K) (a:=a) (xs:=List.map V.ref S) (λi N U=>aP H U/\∃qs,N=List.map V.ref qs/\eC K U qs ((fs.take i).map (lft z))) (by rw[aA,sizeLine_eq];omega) #[aP.refl _,[],rfl,trivial] ?_ ?_ ?_]
 ·rintro i N U _ ⟨s3,_⟩
  exact s3.seq P
 ·rintro i x N U hi _ ⟨s3,qs,rfl,J⟩
  obtain⟨p,rfl,hp⟩:=eR hi
  obtain⟨f,O,c⟩:=(hf.same s3).get hp
  have g:=hg f (aL O)
  have one:BB 20000 (1:Int):=by show(1:Int).natAbs<2^20000;exact Nat.one_lt_two_pow (by decide)
  (dsimp?[Iw,cL,bR,cK,bF])
  refine#[_,_,_,_,_,_,rfl,#[c,s3.tup y,g.2.1.mono (by decide),g.2.2.mono (by decide),b.mono (by decide),one],g.1,by decide,by rw[eA];exact g.2.2.mono (by decide),λr G I hr=>#[s3.trans I,qs++[r],by rw[aX];rfl,?_]]
  rw[dH O,aX]
  exact eC.snoc (J.same I) (SqT.of hr)
 ·rintro N U _ ⟨s3,qs,rfl,J⟩ l Y
  rw[aA,d,cA]at J
  exact q l qs _ (s3.trans (aP.upd Y)) aI (J.same (aP.upd Y))
noncomputable def Xw:List PySem.Str:=["columns","place"]
noncomputable def ClAt(H:Hp)(ps:List Addr)(c:jA):Prop:=ps.length=c.length/\∀(i:Nat) p fs,ps[i]?=some p->c[i]?=some fs->∃l,H p=some (.tup [.int (lc fs),.ref l])/\H l=some (.lst (List.map V.int (clr fs)))
noncomputable def Ay(K:aO):Sp:=λvs H Q _=>∃l ps c,∃j:Int,∃m:Nat,vs=[.ref l,.int j]/\SqL K H l (List.map V.ref ps)/\ClAt H ps c/\ps.length<=100/\(∀fs∈c,atI (List.map V.int (clr fs)) j=some (.int ((clr fs).getD m 0)))/\
 ∀p X H',aP H H'->H' p=some (.lst (List.map V.ref X))->eC K H' X (c.map λfs=>((clr fs).getD m 0,1))->Q (.ref p) H'
noncomputable def Iv(K:aO):TE:=(hJ (aH (tOp (gJ K) (tOp (dO K) (aE 0) (tC (.int 1))) (aE 1)) (aH (tC (.int 1)) bE)))
noncomputable def Mr(K:aO):TS:=(cP (dN (dC K (aE 0)) [1] (Iv K)))
theorem ClAt.same{c:jA}(h:ClAt H ps c)(s:aP H H'):ClAt H' ps c:=#[h.1,λi p fs e1 C=>let⟨l,a,b⟩:=h.2 i p fs e1 C;#[l,s _ _ a,s _ _ b]]
theorem jYZ{K}:RdS K Ay Mr Xw:=by
 intro b H Q E h
 obtain⟨l,S,c,j,m,rfl,Y,hc,R,ha,k⟩:=h
 rw[show start Xw [V.ref l,V.int j]=[some (.ref l),some (.int j)]from rfl]
 (dsimp?[Mr,dN,dC])
 have pn:=hc.1
 refine#[#[_,Y],eP (K:=K) (a:=l) (xs:=List.map V.ref S) (λi N U=>aP H U/\∃qs,N=List.map V.ref qs/\eC K U qs ((c.take i).map λfs=>((clr fs).getD m 0,1))) (by rw[aA,sizeLine_eq];omega) #[aP.refl _,[],rfl,trivial] ?_ ?_ ?_]
 ·rintro i N U _ ⟨s3,_⟩
  exact s3.seq Y
 ·rintro i x N U hi _ ⟨s3,qs,rfl,hf⟩
  obtain⟨p,rfl,hp⟩:=eR hi
  have f:i<c.length:=by rw[←pn];exact(aK.mp hp).1
  have O:c[i]?=some c[i]:=aD f
  obtain⟨v,h1,h2⟩:=(hc.same s3).2 i p _ hp O
  (dsimp?[Iv,cL,bR,cK,bF])
  refine#[_,SqT.of h1,_,iJ,_,rfl,_,SqL.of h2,_,ha _ (aL O),sz2,λr hr=>#[s3.trans (aP.upd hr),qs++[r],by rw[aX];rfl,?_]]
  rw[dH O,aX]
  exact eC.snoc (hf.same (aP.upd hr)) (SqT.of aI)
 ·rintro N U _ ⟨s3,qs,rfl,hf⟩ p hp
  rw[aA,pn,cA]at hf
  exact k p qs _ (s3.trans (aP.upd hp)) aI (hf.same (aP.upd hp))
noncomputable def jXy:List PySem.Str:=["one","other"]
noncomputable def Nc(K:aO):Sp:=λvs H Q _=>∃p q a b c d,vs=[.ref p,.ref q]/\Tw K H p q a b c d/\Q (.bl (decide (a*d<c*b))) H
noncomputable def Ut(K:aO):TS:=(cP (tOp kK (tOp eU (tOp (dO K) (aE 0) (tC (.int 0))) (tOp (dO K) (aE 1) (tC (.int 1)))) (tOp eU (tOp (dO K) (aE 1) (tC (.int 0))) (tOp (dO K) (aE 0) (tC (.int 1))))))
theorem jWc{K}:RdS K Nc Ut jXy:=by
 intro m H Q E h
 obtain⟨p,q,a,b,c,d,rfl,⟨hp,J,ba,bb,bc,e⟩,k⟩:=h
 rw[show start jXy [V.ref p,V.ref q]=[some (.ref p),some (.ref q)]from rfl]
 (dsimp![Ut,aE,tC,tOp,rI0,rI,eU,kK,cP,dO])
 exact#[_,hp,_,iU,_,J,_,iJ,_,rfl,_,rfl,.b ba e,_,J,_,iU,_,hp,_,iJ,_,rfl,_,rfl,.b bc bb,k]
noncomputable def Xv:List PySem.Str:=["row","told","number"]
noncomputable def Ax(K:aO):Sp:=λvs H Q _=>∃a ns,vs=[.ref a]/\SqL K H a (List.map V.int ns)/\Q (.int (gl ns)) H
noncomputable def jYr(a:Addr)(u:Hp)(ns:List Int):Nat->St->Hp->Prop:=λi Z U=>U=u/\∃o,Z=[some (.ref a),some (.int (gl (ns.take i))),o]
noncomputable def Ye(K:aO):TS:=(cD (cU (cB (lD K) [] E0 (aH (aE 1) (aH (aE 2) bE))) (aZ 1)) (fU (cY (tOp rEq (aE 1) (tC (.int 1)))) (cP (aE 1)) eO))
noncomputable def Mp(K:aO):TS:=(cD (cU (tC (.int 0)) (aZ 1)) (cD (gA (dC K (aE 0)) (aZ 2) (Ye K)) (cP (aE 1))))
theorem jYJ{K}:RdS K Ax Mp Xv:=by
 intro m H Q E h
 obtain⟨a,ns,rfl,P,q⟩:=h
 rw[show start Xv [V.ref a]=[some (.ref a),none,none]from rfl]
 (dsimp![Mp,gA,dC,cD,cU,aZ,aE,tC,cP])
 refine#[#[_,P],iN (K:=K) (a:=a) (xs:=List.map V.int ns) (g:=aZ 2) (D:={ nx:=cP (aE 1) (eQ Q),rt:=Q }) (jYr a H ns) ?_ ?_ ?_ ?_]
 ·exact#[rfl,none,rfl]
 ·rintro i Z U _ ⟨rfl,_⟩
  exact P
 ·rintro i x Z U hi ⟨rfl,o,rfl⟩
  obtain⟨c,rfl,hc⟩:=fQ hi
  have e:=gl_snoc hc
  unfold glf at e
  (try dsimp only[cD,cU,aZ,aE,tC,tOp,rEq,gL,cP,fU,cY,eO,cB,aH,bE,Lq0,Lq1,Ls0,Ls1,fG,fH,fF];try simp only[lD,cD,cU,aZ,aE,tC,tOp,rEq,gL,cP,fU,cY,eO,cB,aH,bE,Lq0,Lq1,Ls0,Ls1,Option.some.injEq,exists_eq_left',V.int.injEq,V.bl.injEq,List.cons.injEq,and_true,true_and,bZ,exists_and_left,cN,and_assoc,exists_eq_left,V.ref.injEq,fG,fH,fF,gX,kD,iK])
  rw[←e]
  refine mT (λh1=>?_) (λh1=>?_)
  ·have e1:=gl_one h1
   rw[h1]
   rwa [e1]at q
  ·exact#[rfl,_,rfl]
 ·rintro Z U ⟨rfl,o,rfl⟩
  (dsimp![aE,tC,tOp,rI0,rNe,gL,cP,cY])
  rwa [aA,cA]
noncomputable def jXu:List PySem.Str:=["row","common"]
noncomputable def Mz(K:aO):Sp:=λvs H Q _=>∃a ns,vs=[.ref a]/\SqL K H a (List.map V.int ns)/\ns.length<=1000/\(∀n∈ns,BB 9000 n)/\∀l H',aP H H'->H l=none->H' l=some (.lst (List.map V.int (vM ns)))->Q (.ref l) H'
noncomputable def jVY(u:Hp)(ns:List Int):Nat->List V->Hp->Prop:=λi ys U=>U=u/\ys=List.map V.int ((ns.take i).map λn=>n.fdiv (gl ns))
noncomputable def Nz(K:aO):TE:=(tOp kT (aE 0) (aE 1))
noncomputable def Uo(K:aO):TS:=(cD (cU (cB (Ax K) [] E0 (aH (aE 0) bE)) (aZ 1)) (cD (fU (cY (tOp kK (aE 1) (tC (.int 2)))) (cP (tCB (pX K) (aH (aE 0) bE))) eO) (cP (dN (dC K (aE 0)) [1] (Nz K)))))
theorem jWU{K}:RdS K Mz Uo jXu:=by
 intro m H Q E h
 obtain⟨a,ns,rfl,P,R,hb,q⟩:=h
 rw[show start jXu [V.ref a]=[some (.ref a),none]from rfl]
 (dsimp![Uo,dN,dC,pX,cD,cU,aZ,aE,tC,tOp,rI0,kK,cP,fU,cY,eO,cB,aH,bE,tCB,bZ,cN])
 refine#[_,_,rfl,P,_,rfl,mT (λh2=>?_) (λh2=>?_)]
 ·refine#[_,.inl P,λl Y=>q l _ (aP.upd Y) Y ?_]
  unfold vM
  rw[aJ h2];exact aI
 ·refine#[#[_,P],eP (K:=K) (a:=a) (xs:=List.map V.int ns) (jVY H ns) ?_ ?_ ?_ ?_ ?_]
  ·rw[aA,sizeLine_eq];omega
  ·exact#[rfl,rfl]
  ·rintro i T U _ ⟨rfl,_⟩
   exact P
  ·rintro i x T U hi _ ⟨rfl,rfl⟩
   obtain⟨c,rfl,hc⟩:=fQ hi
   (dsimp![Nz,cL,bR,cK,bF,aE,tOp,rI,kT])
   refine#[#[#[],gl_bb hb],rfl,?_]
   rw[dH hc];simp
  ·rintro T U _ ⟨rfl,rfl⟩ p hp
   refine q p _ (aP.upd hp) hp ?_
   rw[aA,cA]
   unfold vM
   rw[aF h2];exact aI
noncomputable def jXr:List PySem.Str:=["row","made"]
noncomputable def yH(K:aO):Sp:=λvs H Q _=>∃a ps fs,vs=[.ref a]/\SqL K H a (List.map V.ref ps)/\eC K H ps fs/\(∀f∈fs,G9 f)/\fs.length<=100/\(∀x∈clr fs,BB 9000 x)/\
 ∀r f l H',aP H H'->H' r=some (.tup [.ref f,.ref l])->H' f=some (.tup [.int (whF fs).1,.int (whF fs).2])->H' l=some (.lst (List.map V.int (whL fs)))->Q (.ref r) H'
noncomputable def Ul(K:aO):TS:=(cD (cU (cB (vX K) [] E0 (aH (aE 0) bE)) (aZ 1)) (cP (hJ (aH (cB (nH K) [] E0 (aH (tOp (dO K) (aE 1) (tC (.int 0))) (aH (tCB cMax (aH (cB (Ax K) [] E0 (aH (tOp (dO K) (aE 1) (tC (.int 1))) bE)) (aH (tC (.int 1)) bE))) bE))) (aH (cB (Mz K) [] E0 (aH (tOp (dO K) (aE 1) (tC (.int 1))) bE)) bE)))))
theorem jWY{K}:RdS K yH Ul jXr:=by
 intro m H Q E h
 obtain⟨a,e,fs,rfl,P,hf,hg,R,hb,q⟩:=h
 rw[show start jXr [V.ref a]=[some (.ref a),none]from rfl]
 (dsimp![Ul,cMax,cD,cU,aZ,aE,tC,tOp,cP,cB,aH,bE,hJ,tCB,dO,bZ])
 refine#[_,_,_,rfl,P,hf,hg,R,λl p S O Y hp=>#[_,rfl,_,SqT.of hp,_,iU,_,rfl,_,SqT.of hp,_,iJ,_,_,rfl,SqL.of Y,_,rfl,?_]]
 have J:(clr fs).length=fs.length:=by unfold clr;rw[aA]
 have z:=Ap (gl (clr fs))
 have D:BB 9000 (mx1 (gl (clr fs))):=by
  unfold mx1;split
  ·show(1:Int).natAbs<2^9000;exact Nat.one_lt_two_pow (by decide)
  ·exact gl_bb hb
 refine#[_,_,rfl,show mx1 (gl (clr fs))≠0 by omega,D,λx y f M F b d=>?_]
 obtain⟨e1,C⟩:=d.uniq z (eK z)
 have c:M f=some (.tup [.int (whF fs).1,.int (whF fs).2]):=by unfold whF;rw[←e1,←C];exact b
 refine#[_,rfl,_,SqT.of (F _ _ hp),_,iJ,_,_,rfl,SqL.of (F _ _ Y),#[],hb,λn U s3 _ j=>?_]
 refine#[sz2,λr hr=>q r f n _ (((O.trans F).trans s3).trans (aP.upd hr)) aI (aP.upd hr _ _ (s3 _ _ c)) (aP.upd hr _ _ j)]
noncomputable def Tc:List PySem.Str:=["row"]
noncomputable def vW(K:aO):Sp:=λvs H Q _=>∃a ns,vs=[.ref a]/\SqL K H a (List.map V.int ns)/\ns≠[]/\ns.length<=200/\∀(M:Nat) H',aP H H'->(∀n∈ns,ib n<=M)->(∃n∈ns,ib n=M)->Q (.int M) H'
noncomputable def Fh(K:aO):TE:=(tBM0 K "int" Wp (aE 0))
noncomputable def Hc(K:aO):TS:=(cP (tCB (Ws K) (aH (dN (dC K (aE 0)) [] (Fh K)) bE)))
theorem jJc{K}:RdS K vW Hc Tc:=by
 intro b H Q E h
 obtain⟨a,ns,rfl,ha,ne,A,q⟩:=h
 rw[show start Tc [V.ref a]=[some (.ref a)]from rfl]
 (dsimp?[Hc,dN,dC,Ws])
 refine#[#[_,ha],eP (K:=K) (a:=a) (xs:=List.map V.int ns) (λi N U=>U=H/\N=List.map V.int ((ns.take i).map λn=>(ib n:Int))) (by rw[aA,sizeLine_eq];omega) #[rfl,rfl] ?_ ?_ ?_]
 ·rintro i N U _ ⟨rfl,_⟩
  exact ha
 ·rintro i x N U hi _ ⟨rfl,rfl⟩
  obtain⟨n,rfl,R⟩:=fQ hi
  (dsimp?[Fh,tBM0,Wp])
  refine#[rfl,?_]
  rw[dH R,aX,aX];rfl
 ·rintro N U _ ⟨rfl,rfl⟩ p hp
  rw[aA,cA]
  refine#[_,SqL.of aI,λz=>ne (map_eq_nil_iff.mp z),λM j G=>?_]
  obtain⟨n,R,rfl⟩:=dD.mp j
  refine q (ib n) _ (aP.upd hp) (λm hm=>?_) #[n,R,rfl]
  have:=G _ (dD.mpr #[m,hm,rfl])
  omega
noncomputable def Ke:List PySem.Str:=["rows","place"]
noncomputable def kH(K:aO):Sp:=λvs H Q _=>∃a ps X,∃k:Int,∃c:Nat,vs=[.ref a,.int k]/\SqL K H a (List.map V.ref ps)/\eG H ps X/\X.length<=200/\(∀r∈X,atI (List.map V.int r) k=some (.int (r.getD c 0)))/\∀l H',aP H H'->H l=none->H' l=some (.lst (List.map V.int (X.map λr=>r.getD c 0)))->Q (.ref l) H'
noncomputable def Ac(K:aO):TE:=(tOp (gJ K) (aE 0) (aE 1))
noncomputable def zG(K:aO):TS:=(cP (dN (dC K (aE 0)) [1] (Ac K)))
theorem Vt{K}:RdS K kH zG Ke:=by
 intro m H Q E h
 obtain⟨a,S,X,k,c,rfl,P,hr,R,hc,q⟩:=h
 have d:=hr.length
 rw[show start Ke [V.ref a,V.int k]=[some (.ref a),some (.int k)]from rfl]
 (dsimp![zG,dN,dC,aE,cP])
 refine#[#[_,P],eP (K:=K) (a:=a) (xs:=List.map V.ref S) (WEq H λi N=>N=List.map V.int ((X.take i).map λr=>r.getD c 0)) ?_ #[rfl,rfl] ?_ ?_ ?_]
 ·rw[aA,sizeLine_eq];omega
 ·rintro i T U _ ⟨rfl,_⟩
  exact P
 ·rintro i x T U hi _ ⟨rfl,rfl⟩
  obtain⟨p,rfl,hp⟩:=eR hi
  obtain⟨r,F,B⟩:=hr.get hp
  (dsimp![Ac,cL,bR,cK,bF,aE,tOp,gJ])
  refine#[_,SqL.of B,_,hc r (aL F),rfl,?_]
  show _=List.map V.int ((X.take (i+1)).map λr=>r.getD c 0)
  rw[dH F,aX,aX];rfl
 ·rintro T U _ ⟨rfl,rfl⟩ l Y
  rw[aA,d,cA]
  exact q l _ (aP.upd Y) Y aI
noncomputable def N_span:List PySem.Str:=["column"]
noncomputable def Kr(K:aO):Sp:=λvs H Q _=>∃a ns,vs=[.ref a]/\SqL K H a (List.map V.int ns)/\ns.length<=200/\(∀n∈ns,BB 20000 n)/\∀n H',aP H H'->BB 30000 n->Q (.int n) H'
noncomputable def Qx(K:aO):TE:=(tCB Cv (aH (aE 0) bE))
noncomputable def Zi(K:aO):TS:=(cP (tOp iQ (tC (.int 1)) (tCB (cSum K) (aH (dN (dC K (aE 0)) [] (Qx K)) bE))))
theorem rd_span{K}:RdS K Kr Zi N_span:=by
 intro m H Q E h
 obtain⟨a,ns,rfl,P,R,hb,q⟩:=h
 rw[show start N_span [V.ref a]=[some (.ref a)]from rfl]
 (dsimp![Zi,dN,dC,cSum,aE,tC,tOp,rI0,iQ,cP,aH,bE,tCB])
 refine#[#[_,P],eP (K:=K) (a:=a) (xs:=List.map V.int ns) (WEq H λi N=>N=List.map V.int ((ns.take i).map λn=>(n.natAbs:Int))) ?_ #[rfl,rfl] ?_ ?_ ?_]
 ·rw[aA,sizeLine_eq];omega
 ·rintro i T U _ ⟨rfl,_⟩
  exact P
 ·rintro i x T U hi _ ⟨rfl,rfl⟩
  obtain⟨c,rfl,hc⟩:=fQ hi
  (dsimp![Qx,Zw,aE,aH,bE,tCB,Cv])
  refine#[rfl,?_]
  show _=List.map V.int ((ns.take (i+1)).map λn=>(n.natAbs:Int))
  rw[dH hc,aX,aX];rfl
 ·rintro T U _ ⟨rfl,rfl⟩ l Y
  rw[aA,cA]
  refine#[_,SqL.of aI,q _ _ (aP.upd Y) ?_]
  have h1:=Zm (l:=ns.map λn=>(n.natAbs:Int)) (p:=20000) λx hx=>by
   obtain⟨n,hm,rfl⟩:=dD.mp hx
   have:=hb n hm
   unfold BB at this⊢
   rwa [Int.natAbs_natCast]
  rw[aA]at h1
  have one:BB (20000+ns.length) 1:=by show(1:Int).natAbs<2^_;exact Nat.one_lt_two_pow #[]
  exact(one.add h1).mono #[]
noncomputable def N_unit:List PySem.Str:=["many","place"]
noncomputable def Uv(K:aO):Sp:=λvs H Q _=>∃n k:Nat,vs=[.int n,.int k]/\n<=200/\∀l H',aP H H'->H l=none->H' l=some (.lst (List.map V.int (ofF n λr=>if r=k then 1 else 0)))->Q (.ref l) H'
noncomputable def Qw(K:aO):TE:=(tIf (cY (tOp rEq (aE 0) (aE 1))) (tC (.int 1)) (tC (.int 0)))
noncomputable def Zh(K:aO):TS:=(cP (dN (gT (aH (aE 0) bE)) [1] (Qw K)))
theorem rd_unit{K}:RdS K Uv Zh N_unit:=by
 intro m H Q E h
 obtain⟨n,k,rfl,R,q⟩:=h
 rw[show start N_unit [V.int n,V.int k]=[some (.int n),some (.int k)]from rfl]
 (dsimp![Zh,dN,gT,aE,cP,aH,bE])
 refine#[#[],#[],jL (lo:=0) (W:=WEq H λi N=>N=List.map V.int (ofF i λr=>if r=k then 1 else 0)) (by rw[sizeLine_eq];omega) #[rfl,rfl] ?_ ?_]
 ·rintro i T U _ _ ⟨rfl,rfl⟩
  (dsimp![Qw,tIf,cL,bR,cK,bF,aE,tC,tOp,rEq,gL,cY,cN])
  refine mT (λh=>#[rfl,?_]) (λh=>#[rfl,?_])
  ·show _=List.map V.int (ofF (i+1) λr=>if r=k then 1 else 0)
   have:i=k:=#[]
   rw[fL,aX,aJ this];rfl
  ·show _=List.map V.int (ofF (i+1) λr=>if r=k then 1 else 0)
   have:¬i=k:=#[]
   rw[fL,aX,aF this];rfl
 ·rintro T U _ ⟨rfl,rfl⟩ l Y
  rw[dA]
  exact q l _ (aP.upd Y) Y aI
noncomputable def Ct:List PySem.Str:=["self","lists"]
noncomputable def jW(K:aO):Sp:=λvs H Q _=>∃t f r g L,vs=[.ref t,.ref r]/\H t=some (.ins (eE K "Corner") f [])/\xN H r g L/\L.Lim/\L.fl=false/\
 ∀ins H',H ins=none->Sb t H H'->iR K H' t ins L L.ins0->Q .non H'
noncomputable def vB(K:aO):TE:=(tOp iQ (tCB (jD K) (aH (gK K (aE 1) "begun") bE)) (aE 0))
noncomputable def uV(K:aO):TS:=(xQ K (aE 0) (dN (gT (aH (tOp lA (tCB (jD K) (aH (aE 1) bE)) (tC (.int 1))) bE)) [0] (vB K)) "inside")
noncomputable def vA(K:aO):TE:=(tOp qK (cB (Uv K) [] E0 (aH (tCB (jD K) (aH (aE 2) bE)) (aH (aE 0) bE))) (mS (aH (tOp (gJ K) (aE 1) (tUn iE (tC (.int 1)))) bE)))
noncomputable def uW(K:aO):TG:=(jN K 2 (eF (aZ 0) (eF (aZ 1) jO)))
noncomputable def uU(K:aO):TS:=(cD (xQ K (aE 0) (gW (xA K (aE 1)) 2 [1] (uW K) (vA K)) "kept") (uV K))
noncomputable def uZ(K:aO):TE:=(cB (Kr K) [] E0 (aH (tSl (xL K) (aE 0) hU (lY (tUn iE (tC (.int 1))))) bE))
noncomputable def uY(K:aO):TE:=(cB (Kr K) [] E0 (aH (mS (aH (tC (.int 1)) bE)) bE))
noncomputable def uT(K:aO):TS:=(cD (xQ K (aE 0) (tOp qK (dN (dC K (gK K (aE 0) "begun")) [] (uZ K)) (dN (dC K (tSl (xL K) (aE 1) hU (lY (tUn iE (tC (.int 1)))))) [] (uY K))) "spans") (uU K))
noncomputable def uX(K:aO):TE:=(cB (kH K) [] E0 (aH (aE 1) (aH (aE 0) bE)))
noncomputable def tK(K:aO):TS:=(cD (xQ K (aE 0) (dN (gT (aH (tOp lA (tCB (jD K) (aH (tOp (gJ K) (aE 1) (tC (.int 0))) bE)) (tC (.int 1))) bE)) [1] (uX K)) "begun") (uT K))
theorem jVW(L:Lpd)(P:j<L.n):(ofF (L.m+1) L.rowL).map (λr=>r.getD j 0)=L.colL j:=by
 unfold Lpd.colL
 have e:(ofF (L.m+1) L.rowL).map (λr=>r.getD j 0)=ofF (L.m+1) λi=>(L.rowL i).getD j 0:=by unfold ofF;rw[List.map_map];rfl
 rw[e]
 exact jB λi _=>iF (L.rowL_get i P)
theorem xN.sb{t:Addr}{L:Lpd}(h:xN H a g L)(s:Sb t H H')(i:IsI H t):xN H' a g L:=#[s.lst i h.ha,s.rws i h.hr]
theorem Qm(xs:List V)(m:Nat)(h:xs.length=m+1):(qL xs none (some (-1))).length=m:=by rw[Fa,dM];omega
theorem oc2(h:m<=100):m+1<=16777216:=#[]
theorem oc3(h:m<=100):m+1+1<=16777216:=#[]
theorem oc7(h:m<=100):-(2^62)<=(m:Int)/\(m:Int)<2^62:=#[]
theorem oc8{a b n:Nat}(h1:a=n)(h2:b=m)(T:m<=100)(i:n<=100):a+b<=16777216:=#[]
theorem oc9(h:m<=100):m<=16777216:=#[]
theorem oc10:((m+1:Nat):Int)-1=(m:Int):=#[]
theorem oc12(h:m<=100):m+1<=200:=#[]
theorem Pi{K vs H Q E}(C:xP K)(h:jW K vs H Q E):tK K (eQ Q) (start Ct vs) H:=by
 obtain⟨t,f,r,g,L,rfl,y,R,lim,fl,q⟩:=h
 have rl:=R.len
 have m1:=lim.m1
 have n1:=lim.n1
 have hI:IsI H t:=#[_,_,_,y]
 rw[show start Ct [V.ref t,V.ref r]=[some (.ref t),some (.ref r)]from rfl]
 obtain⟨p0,f7,e7⟩:=R.row (dL L.m)
 (dsimp?[tK,xQ,dN,gT])
 refine#[_,SqL.of R.ha,V.ref p0,gM (j:=0) (by rw[aY,f7];rfl),p0,rfl,_,.inl (SqL.of e7),?_]
 rw[aA,Lpd.rowL_length,oc10,dA]
 refine#[(oc7 n1).1,(oc7 n1).2,jL (lo:=0) (W:=λi N U=>aP H U/\∃c,N=List.map V.ref c/\eG U c (ofF i L.colL)) (by rw[sizeLine_eq];exact oc9 n1) #[aP.refl _,[],rfl,trivial] ?_ ?_]
 ·rintro i T U hi _ ⟨s3,f8,rfl,hc⟩
  (dsimp?[uX,cL,bR,cK,bF])
  refine#[r,g,_,0+(i:Int),i,rfl,SqL.of (s3 _ _ R.ha),(R.same s3).hr,by rw[bH];exact oc12 m1,λrow B=>?_,λl G I Y d=>#[s3.trans I,f8++[l],by rw[aX];rfl,?_]]
  ·obtain⟨k,hk,rfl⟩:=kW B
   rw[eJ]
   exact kQ (by rw[Lpd.rowL_length];omega)
  ·rw[fL]
   exact eG.snoc (hc.same I) (by rw[d,jVW L hi])
 ·rintro T U _ ⟨s3,c,rfl,e8⟩ bl d4
  have I:=s3.trans (aP.upd (o:=HO.lst (List.map V.ref c)) d4)
  have b0:=e8.same (aP.upd (o:=HO.lst (List.map V.ref c)) d4)
  have c2:(upd U bl (.lst (List.map V.ref c))) bl=some (.lst (List.map V.ref c)):=aI
  generalize upd U bl (.lst (List.map V.ref c))=G at I b0 c2
  clear s3 e8 d4
  have d5:c.length=L.n:=by rw[b0.length,bH]
  have t4:G t=some (.ins (eE K "Corner") f []):=I _ _ y
  have I4:IsI G t:=#[_,_,_,t4]
  refine#[_,_,_,t4,C.cl,C.nb,by show 0<1000;decide,?_]
  have b5:Sb t G (upd G t (.ins (eE K "Corner") f (gY "begun" (.ref bl) []))):=Sb.at
  have t5:(upd G t (.ins (eE K "Corner") f (gY "begun" (.ref bl) []))) t=some (.ins (eE K "Corner") f (gY "begun" (.ref bl) [])):=aI
  generalize upd G t (.ins (eE K "Corner") f (gY "begun" (.ref bl) []))=w at b5 t5
  have d6:Sb t H w:=(Sb.of I).trans b5
  have I5:IsI w t:=#[_,_,_,t5]
  have c3:=b5.rws I4 b0
  have b3:=b5.lst I4 c2
  have R5:=R.sb d6 hI
  clear b5 I t4 I4 b0 c2 e7
  (dsimp?[uT,xQ,dN,dC,qK,gK])
  refine#[_,_,_,t5,C.cl,C.nb,_,rfl,bl,rfl,#[_,SqL.of b3],eP (K:=K) (a:=bl) (xs:=List.map V.ref c) (λi N U=>aP w U/\∃v:List Int,N=List.map V.int v/\v.length=i/\∀x∈v,BB 30000 x) ?_ #[aP.refl _,[],rfl,rfl,(λ_ h=>nomatch h)] ?_ ?_ ?_]
  ·rw[aA,d5,sizeLine_eq];exact oc9 n1
  ·rintro i N U _ ⟨s3,_⟩
   exact s3.seq (SqL.of b3)
  ·rintro i x N U hi _ ⟨s3,v,rfl,sl,sb⟩
   obtain⟨z,rfl,A⟩:=eR hi
   obtain⟨row,er,B⟩:=c3.get A
   obtain⟨f9,rfl⟩:=fR er
   (dsimp?[uZ,xL])
   refine#[_,s3.seq (SqL.of B),λzc g0=>?_]
   have ec:qL (List.map V.int (L.colL i)) none (some (-1))=List.map V.int ((L.colL i).take ((L.colL i).length-1)):=by rw[Fa,aA,map_take]
   rw[ec]
   refine#[zc,_,rfl,SqL.of aI,?_,λx hx=>?_,λn H6 s bn=>#[(s3.trans (aP.upd g0)).trans s,v++[n],by rw[aX];rfl,by rw[bC,sl];rfl,λx hx=>?_]]
   ·unfold Lpd.colL;rw[dM,bH];exact cO (Nat.min_le_right _ _) (oc12 m1)
   ·obtain⟨k,hk,rfl⟩:=kW (mem_of_mem_take hx)
    exact lim.ba _ _ f9 (Nat.le_of_lt_succ hk)
   ·rcases cR.mp hx with hx |hx
    ·exact sb x hx
    ·rw[bX.mp hx];exact bn
  ·rintro N U _ ⟨s3,v,rfl,sl,sb⟩ l1 O
   rw[aA,d5]at sl
   have s:=s3.trans (aP.upd (o:=HO.lst (List.map V.int v)) O)
   have d7:(upd U l1 (.lst (List.map V.int v))) l1=some (.lst (List.map V.int v)):=aI
   generalize upd U l1 (.lst (List.map V.int v))=H6 at s d7
   refine#[_,SqL.of (s _ _ R5.ha),λlc d8=>?_]
   have d9:=Qm (List.map V.ref g) L.m (by rw[aA];exact rl)
   generalize qL (List.map V.ref g) none (some (-1))=cs at d9
   have e0:=s.trans (aP.upd (o:=HO.lst cs) d8)
   have c9:(upd H6 lc (HO.lst cs)) lc=some (HO.lst cs):=aI
   have c4:=aP.upd (o:=HO.lst cs) d8 _ _ d7
   generalize upd H6 lc (HO.lst cs)=g1 at e0 c9 c4
   refine#[#[_,SqL.of c9],eP (K:=K) (a:=lc) (xs:=cs) (λi N U=>aP g1 U/\∃v:List Int,N=List.map V.int v/\v.length=i/\∀x∈v,BB 30000 x) ?_ #[aP.refl _,[],rfl,rfl,(λ_ h=>nomatch h)] ?_ ?_ ?_]
   ·rw[d9,sizeLine_eq];exact oc9 m1
   ·rintro i N H7 _ ⟨u,_⟩
    exact u.seq (SqL.of c9)
   ·rintro i x N H7 hi _ ⟨u,F,rfl,b7,d0⟩
    (dsimp?[uY])
    refine#[sz1,λl2 S=>#[_,[1],rfl,SqL.of aI,by decide,λn hn=>by rw[bX.mp hn];show(1:Int).natAbs<2^20000;exact Nat.one_lt_two_pow (by decide),λn H8 P bn=>#[(u.trans (aP.upd S)).trans P,F++[n],by rw[aX];rfl,by rw[bC,b7];rfl,λx hx=>?_]]]
    rcases cR.mp hx with hx |hx
    ·exact d0 x hx
    ·rw[bX.mp hx];exact bn
   ·rintro N H7 _ ⟨u,F,rfl,b7,d0⟩ l2 S
    rw[d9]at b7
    refine#[_,aP.upd S _ _ (u _ _ c4),_,aI,by rw[aA,aA,sizeLine_eq];exact oc8 sl b7 m1 n1,λZ e9=>?_]
    have P:=(e0.trans (u.trans (aP.upd (o:=HO.lst (List.map V.int F)) S))).trans (aP.upd (o:=HO.lst (List.map V.int v++List.map V.int F)) e9)
    have b4:(upd (upd H7 l2 (.lst (List.map V.int F))) Z (.lst (List.map V.int v++List.map V.int F))) Z=some (.lst (List.map V.int (v++F))):=by rw[aI,aX]
    generalize upd (upd H7 l2 (.lst (List.map V.int F))) Z (.lst (List.map V.int v++List.map V.int F))=H8 at P b4
    clear s d7 u S e9 s3 O e0 c9 c4 d8
    have f1:∀x∈v++F,BB 30000 x:=λx hx=>by
     rcases cR.mp hx with hx |hx
     ·exact sb x hx
     ·exact d0 x hx
    have f2:(v++F).length=L.n+L.m:=by rw[bC,sl,b7]
    generalize v++F=g3 at f1 f2 b4
    clear sb d0 sl b7
    have t8:=P _ _ t5
    have I8:IsI H8 t:=#[_,_,_,t8]
    refine#[_,_,_,t8,C.cl,C.ns,by show 1<1000;decide,?_]
    have b9:Sb t H8 (upd H8 t (.ins (eE K "Corner") f (gY "spans" (.ref Z) (gY "begun" (.ref bl) [])))):=Sb.at
    have t9:(upd H8 t (.ins (eE K "Corner") f (gY "spans" (.ref Z) (gY "begun" (.ref bl) [])))) t=some (.ins (eE K "Corner") f (gY "spans" (.ref Z) (gY "begun" (.ref bl) []))):=aI
    generalize upd H8 t (.ins (eE K "Corner") f (gY "spans" (.ref Z) (gY "begun" (.ref bl) [])))=H9 at b9 t9
    have e2:Sb t H H9:=d6.trans ((Sb.of P).trans b9)
    have I9:IsI H9 t:=#[_,_,_,t9]
    have d1:=b9.rws I8 (c3.same P)
    have d2:=b9.lst I8 (P _ _ b3)
    have d3:=b9.lst I8 b4
    have R9:=R.sb e2 hI
    clear b9 P I8 t8 c3 b3 d6 I5 t5 b4 R5
    (dsimp?[uU,xQ,gW,xA,qK])
    refine#[#[_,SqL.of R9.ha],jZc (K:=K) (a:=r) (xs:=List.map V.ref g) (λi N U=>aP H9 U/\∃a0,N=List.map V.ref a0/\eG U a0 (ofF i (L.keptL L.ins0))) ?_ #[aP.refl _,[],rfl,trivial] ?_ ?_ ?_]
    ·rw[aA,rl,sizeLine_eq];exact oc2 m1
    ·rintro i N U _ ⟨s3,_⟩
     exact s3.seq (SqL.of R9.ha)
    ·rintro i x p N U hi _ ⟨s3,a0,rfl,c5⟩ hp os D
     obtain⟨z,rfl,A⟩:=eR hi
     obtain⟨im,B⟩:=(R9.same s3).inv A
     obtain⟨M,J,rfl⟩:∃M J,os=[M,J]:=by
      match os,D with
      | [M,J],_=>exact#[M,J,rfl]
     have I:=aP.upd (o:=HO.tup [.int i,.ref z]) hp
     (dsimp?[uW,vA,qK,cL,bR,cK,bF])
     refine#[_,SqT.of aI,rfl,_,_,rfl,_,_,rfl,rfl,#[[some (.int i),some (.ref z)],rfl,rfl],_,.inl ((s3.trans I).seq (SqL.of R9.ha)),?_]
     rw[aA,rl]
     refine#[L.m+1,i,rfl,oc12 m1,λl1 G X _ O=>?_]
     have la:atI (List.map V.int (L.rowL i)) (-1)=some (.int (L.be i)):=qS (by rw[aA,Lpd.rowL_length,aY,Nat.add_sub_cancel,L.rowL_last];rfl)
     refine#[z,rfl,_,SqL.of ((I.trans X) _ _ B),_,la,sz1,λl2 S=>#[l1,rfl,_,aP.upd S _ _ O,_,aI,by rw[aA,bH,sizeLine_eq];exact oc3 m1,λl3 f3=>?_]]
     refine#[(((s3.trans I).trans X).trans (aP.upd S)).trans (aP.upd f3),a0++[l3],by rw[aX];rfl,?_]
     rw[fL i (L.keptL L.ins0)]
     refine eG.snoc ((((c5.same I).same X).same (aP.upd S)).same (aP.upd f3)) ?_
     rw[aI]
     unfold Lpd.keptL
     rw[Lpd.T_start fl (Nat.lt_succ_of_le im),aX]
     congr 3
     show _=_
     congr 1
     refine jB λk hk=>?_
     rw[Lpd.T_start fl (Nat.lt_succ_of_le im)]
     unfold e1
     by_cases e:i=k
     ·rw[aJ e.symm,aJ e]
     ·rw[aF (Ne.symm e),aF e]
    ·rintro N U _ ⟨s3,a0,rfl,c5⟩ kl e3
     rw[aA,rl]at c5
     have b:=s3.trans (aP.upd (o:=HO.lst (List.map V.ref a0)) e3)
     have a4:=c5.same (aP.upd (o:=HO.lst (List.map V.ref a0)) e3)
     have a5:(upd U kl (.lst (List.map V.ref a0))) kl=some (.lst (List.map V.ref a0)):=aI
     generalize upd U kl (.lst (List.map V.ref a0))=c6 at b a4 a5
     have e4:=b _ _ t9
     have b8:IsI c6 t:=#[_,_,_,e4]
     refine#[_,_,_,e4,C.cl,C.nk,by show 2<1000;decide,?_]
     have a3:Sb t c6 (upd c6 t (.ins (eE K "Corner") f (gY "kept" (.ref kl) (gY "spans" (.ref Z) (gY "begun" (.ref bl) []))))):=Sb.at
     have c1:(upd c6 t (.ins (eE K "Corner") f (gY "kept" (.ref kl) (gY "spans" (.ref Z) (gY "begun" (.ref bl) []))))) t=some (.ins (eE K "Corner") f (gY "kept" (.ref kl) (gY "spans" (.ref Z) (gY "begun" (.ref bl) [])))):=aI
     generalize upd c6 t (.ins (eE K "Corner") f (gY "kept" (.ref kl) (gY "spans" (.ref Z) (gY "begun" (.ref bl) []))))=e5 at a3 c1
     have c7:Sb t H e5:=e2.trans ((Sb.of b).trans a3)
     have f4:IsI e5 t:=#[_,_,_,c1]
     have a6:=a3.rws b8 (d1.same b)
     have a2:=a3.lst b8 (b _ _ d2)
     have a7:=a3.lst b8 (b _ _ d3)
     have a8:=a3.rws b8 a4
     have a9:=a3.lst b8 a5
     have g4:=R.sb c7 hI
     clear a3 b b8 e4 d1 d2 d3 c5 a4 a5 s3 e2 t9 I9 R9 e3
     (dsimp?[uV,xQ,dN,gT])
     refine#[_,.inl (SqL.of g4.ha),?_]
     rw[aA,rl,oc10,dA]
     refine#[(oc7 m1).1,(oc7 m1).2,jL (lo:=0) (W:=WEq e5 λi N=>N=List.map V.int (ofF i λi=>((L.ins0 i:Nat):Int))) (by rw[sizeLine_eq];exact oc9 m1) #[rfl,rfl] ?_ ?_]
     ·rintro i N c8 hi _ ⟨rfl,rfl⟩
      (dsimp?[vB,gK,cL,bR,cK,bF])
      refine#[_,_,_,c1,C.cl,C.nb,_,rfl,bl,rfl,_,.inl (SqL.of a2),rfl,?_]
      show _=List.map V.int (ofF (i+1) λi=>((L.ins0 i:Nat):Int))
      rw[fL,aX,aA,d5]
      congr 3
      unfold Lpd.ins0
      show(L.n:Int)+(0+(i:Int))=((L.n+i:Nat):Int)
      omega
     ·rintro N c8 _ ⟨rfl,rfl⟩ ins a1
      have f5:=aP.upd (o:=HO.lst (List.map V.int (L.insL L.ins0))) a1
      have g5:(upd c8 ins (.lst (List.map V.int (L.insL L.ins0)))) ins=some (.lst (List.map V.int (L.insL L.ins0))):=aI
      have f6:ins≠t:=λe=>by rw[e,c1]at a1;cases a1
      have e6:H ins=none:=c7.free a1 f6
      show ∃x g6 g7,upd c8 ins (.lst (List.map V.int (L.insL L.ins0))) t=some (HO.ins x g6 g7)/\_
      have g8:=f5 _ _ c1
      have nb:∀{a:Addr}{o:HO},c8 a=some o->a≠ins:=λe z=>by rw[z,a1]at e;cases e
      have nt:∀{a:Addr}{xs:List V},c8 a=some (.lst xs)->a≠t:=λe=>kU e c1 (by intro z;cases z)
      refine#[_,_,_,g8,C.cl,C.ni,by show 3<1000;decide,q ins _ e6 ((c7.trans (Sb.of f5)).trans Sb.at) #[f,bl,Z,kl,c,g3,a0,?_,?_,?_,?_,f2,f1,?_,?_,?_]]
      ·rw[aI];rfl
      ·rw[nY (.inl rfl),nY (.inr rfl)];exact xU a2 (nt a2) (nb a2)
      ·rw[nY (.inl rfl),nY (.inr rfl)];exact a6.mn (a6.notI f4) (a6.notN a1)
      ·rw[nY (.inl rfl),nY (.inr rfl)];exact xU a7 (nt a7) (nb a7)
      ·rw[nY (.inl rfl),nY (.inr rfl)];exact xU a9 (nt a9) (nb a9)
      ·rw[nY (.inl rfl),nY (.inr rfl)];exact a8.mn (a8.notI f4) (a8.notN a1)
      ·rw[bY f6];exact g5
noncomputable def tR:List PySem.Str:=["column","longs"]
noncomputable def rH(K:aO):Sp:=λvs H Q _=>∃a b xs ls,vs=[.ref a,.ref b]/\SqL K H a (List.map V.int xs)/\SqL K H b (List.map V.int ls)/\xs.length=ls.length/\xs.length<=200/\∀(w:Int) H',aP H H'->(∀(i:Nat) x l,xs[i]?=some x->ls[i]?=some l->x≠0->(ib x:Int)-l<=w)->(w=0∨∃(i:Nat)(x l:Int),xs[i]?=some x/\ls[i]?=some l/\w=(ib x:Int)-l)->Q (.int w) H'
noncomputable def uQ(K:aO):TE:=(tOp lA (tBM0 K "int" Wp (aE 0)) (aE 1))
noncomputable def uP(K:aO):TG:=(jN K 2 (eF (aZ 0) (eF (aZ 1) jO)))
noncomputable def tF(K:aO):TS:=(cP (tMaxD K (aH (Uu (mU K (aH (aE 0) (aH (aE 1) bE))) 2 [] (uP K) (cY (tOp rNe (aE 0) (tC (.int 0)))) (uQ K)) bE) (tC (.int 0))))
theorem Pe{K}:RdS K rH tF tR:=by
 intro m H Q E h
 obtain⟨a,b,F,ls,rfl,ha,hb,f,A,q⟩:=h
 rw[show start tR [V.ref a,V.ref b]=[some (.ref a),some (.ref b)]from rfl]
 (dsimp?[tF,Uu,mU,tMaxD])
 refine#[#[_,ha],#[_,hb],jZd (K:=K) (a:=a) (b:=b) (xs:=List.map V.int F) (ys:=List.map V.int ls) (λi N U=>aP H U/\∃ns:List Int,N=List.map V.int ns/\(∀n∈ns,∃(k:Nat)(x l:Int),F[k]?=some x/\ls[k]?=some l/\n=(ib x:Int)-l)/\∀(k:Nat) x l,k<i->F[k]?=some x->ls[k]?=some l->x≠0->(ib x:Int)-l∈ns) (by rw[aA,sizeLine_eq];omega) (by rw[aA,aA];exact f) #[aP.refl _,[],rfl,(λ_ h=>nomatch h),λk x l h=>absurd h (eN _)] ?_ ?_ ?_]
 ·rintro i N U _ ⟨s3,_⟩
  exact#[s3.seq ha,s3.seq hb]
 ·rintro i x y p N U hx d _ ⟨s3,ns,rfl,n1,n2⟩ hp os D
  obtain⟨u,rfl,t⟩:=fQ hx
  obtain⟨l,rfl,Y⟩:=fQ d
  obtain⟨s,J,rfl⟩:∃s J,os=[s,J]:=by
   match os,D with
   | [s,J],_=>exact#[s,J,rfl]
  have I:=s3.trans (aP.upd (o:=HO.tup [.int u,.int l]) hp)
  (dsimp?[uP,uQ,tBM0,Wp,cL,bR,cK,bF])
  refine#[_,SqT.of aI,rfl,_,_,rfl,_,_,rfl,rfl,#[[some (.int u),some (.int l)],rfl,rfl],rfl,?_]
  have r:∀n∈ns,∃(k:Nat)(x:Int),F[k]?=some x/\∃l:Int,ls[k]?=some l/\n=(ib x:Int)-l:=λn R=>let⟨k,x,l,e1,C,T⟩:=n1 n R;#[k,x,e1,l,C,T]
  by_cases g:u=0
  ·rw[decide_eq_true (by rw[g]:V.int u=V.int 0)]
   refine sQ #[I,ns,rfl,r,λk x v hk e1 C c=>?_]
   by_cases e:k=i
   ·subst e
    rw[t]at e1
    exact absurd ((aV e1).symm.trans g) c
   ·exact n2 k x v #[] e1 C c
  ·rw[decide_eq_false (λz=>g (by injection z):¬V.int u=V.int 0)]
   refine iteT #[rfl,u,rfl,l,rfl,I,ns++[(ib u:Int)-l],by rw[aX];rfl,λn R=>?_,λk x v hk e1 C hx=>?_]
   ·rcases cR.mp R with h |h
    ·exact r n h
    ·exact#[i,u,t,l,Y,bX.mp h]
   ·by_cases e:k=i
    ·subst e
     rw[t]at e1
     rw[Y]at C
     obtain rfl:=aV e1
     obtain rfl:=aV C
     exact cX _ (bX.mpr rfl)
    ·exact iH _ (n2 k x v #[] e1 C hx)
 ·rintro N U ⟨s3,ns,rfl,n1,n2⟩ p hp
  rw[aA]at n2
  have I:=s3.trans (aP.upd (o:=HO.lst (List.map V.int ns)) hp)
  have lt:∀{k:Nat}{x:Int},F[k]?=some x->k<F.length:=λe=>(aK.mp e).1
  refine#[ns,SqL.of aI,λz=>q 0 _ I (λk x l e1 C hx=>?_) (.inl rfl),λ_ M j G=>q M _ I (λk x l e1 C hx=>G _ (n2 k x l (lt e1) e1 C hx)) ?_]
  ·have:=n2 k x l (lt e1) e1 C hx
   rw[z]at this
   exact nomatch this
  ·obtain⟨k,x,l,e1,C,T⟩:=n1 M j
   exact .inr #[k,x,l,e1,C,T]
noncomputable def Gj:List PySem.Str:=["number","bits"]
noncomputable def tL(K:aO):Sp:=λvs H Q _=>∃n b,vs=[.int n,.int b]/\0<=n/\ib n<=20000/\-1000000<=b/\b<=1000000/\∀r,Tq n b r->Q (.int r) H
noncomputable def wC(K:aO):TS:=(cD (fU (cY (tOp kK (aE 0) (tC (.int 0)))) jK eO) (cP (tIf (cY (tOp vI (aE 1) (tC (.int 0)))) (tOp rShl (aE 0) (aE 1)) (tOp rShr (aE 0) (tUn iE (aE 1))))))
theorem Qf{K}:RdS K tL wC Gj:=by
 intro m H Q E h
 obtain⟨n,b,rfl,N,hi,b1,b2,q⟩:=h
 rw[show start Gj [V.int n,V.int b]=[some (.int n),some (.int b)]from rfl]
 (dsimp?[wC,tIf,rShl,rShr])
 rw[aF #[]]
 refine mT (λh=>#[#[#[],by show(ib n:Int)+b<=_;omega],q _ (str_up #[] N)]) (λh=>#[#[],q _ ?_])
 have:=Wy (n:=n) (b:=-b) #[] N
 rwa [Int.neg_neg]at this
noncomputable def Jy:List PySem.Str:=["number","bits"]
noncomputable def wU(K:aO):Sp:=λvs H Q _=>∃n b,vs=[.int n,.int b]/\ib n<=20000/\-1000000<=b/\b<=1000000/\∀r,Tq n b r->Q (.int r) H
noncomputable def yR(K:aO):TS:=(cD (fU (cY (tOp kK (aE 0) (tC (.int 0)))) (cP (tUn iE (cB (tL K) [] E0 (aH (tUn iE (aE 0)) (aH (aE 1) bE))))) eO) (cP (tIf (cY (tOp vI (aE 1) (tC (.int 0)))) (tOp rShl (aE 0) (aE 1)) (tOp rShr (aE 0) (tUn iE (aE 1))))))
theorem Vo{K}:RdS K wU yR Jy:=by
 intro m H Q E h
 obtain⟨n,b,rfl,hi,b1,b2,q⟩:=h
 rw[show start Jy [V.int n,V.int b]=[some (.int n),some (.int b)]from rfl]
 (dsimp?[yR,tIf,rShl,rShr])
 refine mT (λh=>#[-n,b,rfl,#[],by rw[ib_neg];exact hi,b1,b2,λr hr=>#[r,rfl,q _ (str_neg hr h)]]) (λh=>?_)
 refine mT (λh=>#[#[#[],by show(ib n:Int)+b<=_;omega],q _ (str_up #[] #[])]) (λh=>#[#[],q _ ?_])
 have:=Wy (n:=n) (b:=-b) #[] #[]
 rwa [Int.neg_neg]at this
noncomputable def Jz:List PySem.Str:=["row","bits","wides"]
noncomputable def wV(K:aO):Sp:=λvs H Q _=>∃a w xs Z,∃b:Int,vs=[.ref a,.int b,.ref w]/\SqL K H a (List.map V.int xs)/\SqL K H w (List.map V.int Z)/\xs.length=Z.length/\xs.length<=200/\(∀x∈xs,ib x<=20000)/\(-500000<=b/\b<=500000)/\(∀v∈Z,-500000<=v/\v<=500000)/\
 ∀l X H',aP H H'->H l=none->H' l=some (.lst (List.map V.int X))->X.length=xs.length->(∀(i:Nat) x v r,xs[i]?=some x->Z[i]?=some v->X[i]?=some r->Tq x (b-v) r)->Q (.ref l) H'
noncomputable def zX(K:aO):TE:=(cB (wU K) [] E0 (aH (aE 0) (aH (tOp lA (aE 2) (aE 1)) bE)))
noncomputable def zW(K:aO):TG:=(jN K 2 (eF (aZ 0) (eF (aZ 1) jO)))
noncomputable def yS(K:aO):TS:=(cP (gW (mU K (aH (aE 0) (aH (aE 2) bE))) 2 [1] (zW K) (zX K)))
theorem Vp{K}:RdS K wV yS Jz:=by
 intro m H Q E h
 obtain⟨a,w,F,Z,b,rfl,ha,hw,f,A,bx,⟨b1,b2⟩,G,q⟩:=h
 rw[show start Jz [V.ref a,V.int b,V.ref w]=[some (.ref a),some (.int b),some (.ref w)]from rfl]
 (dsimp?[yS,gW,mU])
 refine#[#[_,ha],#[_,hw],lN (K:=K) (a:=a) (b:=w) (xs:=List.map V.int F) (ys:=List.map V.int Z) (λi N U=>aP H U/\∃X:List Int,N=List.map V.int X/\X.length=i/\∀(k:Nat) x v r,F[k]?=some x->Z[k]?=some v->X[k]?=some r->Tq x (b-v) r) (by rw[aA,sizeLine_eq];omega) (by rw[aA,aA];exact f) #[aP.refl _,[],rfl,rfl,λk x v r _ _ e=>by simp at e] ?_ ?_ ?_]
 ·rintro i N U _ ⟨s3,_⟩
  exact#[s3.seq ha,s3.seq hw]
 ·rintro i x y p N U hx d _ ⟨s3,X,rfl,s,ok⟩ hp os D
  obtain⟨u,rfl,R⟩:=fQ hx
  obtain⟨v,rfl,hv⟩:=fQ d
  obtain⟨M,J,rfl⟩:∃M J,os=[M,J]:=by
   match os,D with
   | [M,J],_=>exact#[M,J,rfl]
  have I:=s3.trans (aP.upd (o:=HO.tup [.int u,.int v]) hp)
  have c:=G v (aL hv)
  (dsimp?[zW,zX,cL,bR,cK,bF])
  refine#[_,SqT.of aI,rfl,_,_,rfl,_,_,rfl,rfl,#[[some (.int u),some (.int v)],rfl,rfl],?_]
  refine#[_,rfl,u,b-v,rfl,bx u (aL R),#[],#[],λr hr=>#[I,X++[r],by rw[aX];rfl,by rw[bC,s];rfl,λk O S t e1 C T=>?_]]
  rcases yI T with⟨T,_⟩|⟨z,rfl⟩
  ·exact ok k O S t e1 C T
  ·rw[z,s,R]at e1
   rw[z,s,hv]at C
   obtain rfl:=aV e1
   obtain rfl:=aV C
   exact hr
 ·rintro N U _ ⟨s3,X,rfl,s,ok⟩ l Y
  rw[aA]at s
  exact q l X _ (s3.trans (aP.upd Y)) (s3.free Y) aI s ok
noncomputable def Sx:List PySem.Str:=["lists","bits","longs","wides"]
structure Rnd(L L2:Lpd)(b:Nat):Prop where
 m:L2.m=L.m
 n:L2.n=L.n
 fl:L2.fl=false
 ba:∀j k,j<L.n->k<=L.m->BB b (L2.a j k)
 bb:∀k,k<=L.m->BB b (L2.be k)
 nn:∀k,k<=L.m->0<=L.be k->0<=L2.be k
noncomputable def De(K:aO):Sp:=λvs H Q _=>∃a g L,∃b:Nat,vs=[.ref a,.int b]/\xN H a g L/\1<=L.n/\L.n<=100/\L.m<=100/\b<=9000/\(∀i,i<=L.m->∀x∈L.rowL i,BB 20000 x)/\
 ∀l qs e H',aP H H'->xN H' l qs e->Rnd L e b->Q (.ref l) H'
noncomputable def Fg(K:aO):TE:=(cB (wV K) [] E0 (aH (aE 0) (aH (tOp lA (aE 3) (aE 1)) (aH (aE 2) bE))))
noncomputable def Fe(K:aO):TG:=(jN K 2 (eF (aZ 0) (eF (aZ 1) jO)))
noncomputable def Fd(K:aO):TS:=(cP (gW (mU K (aH (aE 0) (aH (aE 2) bE))) 2 [3,1] (Fe K) (Fg K)))
noncomputable def wD(K:aO):TE:=(cB (rH K) [] E0 (aH (cB (kH K) [] E0 (aH (aE 2) (aH (aE 0) bE))) (aH (aE 1) bE)))
noncomputable def Fc(K:aO):TS:=(cD (cU (dN (gT (aH (tCB (jD K) (aH (tOp (gJ K) (aE 0) (tC (.int 0))) bE)) bE)) [2,0] (wD K)) (aZ 3)) (Fd K))
noncomputable def Ff(K:aO):TE:=(cB (vW K) [] E0 (aH (tSl (xL K) (aE 0) hU (lY (tUn iE (tC (.int 1))))) bE))
noncomputable def Gy(K:aO):TS:=(cD (cU (dN (dC K (aE 0)) [] (Ff K)) (aZ 2)) (Fc K))
theorem jJU{K}:RdS K De Gy Sx:=by
 intro vs H Q E h
 obtain⟨a,g,L,b,rfl,R,n1,n2,m2,b2,bx,q⟩:=h
 have rl:=R.len
 rw[show start Sx [V.ref a,V.int b]=[some (.ref a),some (.int b),none,none]from rfl]
 (dsimp?[Gy,dN,dC])
 refine#[#[_,SqL.of R.ha],eP (K:=K) (a:=a) (xs:=List.map V.ref g) (λi N U=>aP H U/\∃ls:List Int,N=List.map V.int ls/\ls.length=i/\∀(k:Nat) l,ls[k]?=some l->(0<=l/\l<=20000)/\∀j,j<L.n->(ib (L.a j k):Int)<=l) (by rw[aA,sizeLine_eq];omega) #[aP.refl _,[],rfl,rfl,λk l e=>by simp at e] ?_ ?_ ?_]
 ·rintro i N U _ ⟨s3,_⟩
  exact SqL.of (s3 _ _ R.ha)
 ·rintro i x N U hi _ ⟨s3,ls,rfl,ll,F⟩
  obtain⟨p,rfl,hp⟩:=eR hi
  obtain⟨im,B⟩:=(R.same s3).inv hp
  (dsimp?[Ff,xL])
  refine#[_,SqL.of B,λz A=>?_]
  rw[cut_row]
  refine#[z,_,rfl,SqL.of aI,λe=>?_,by rw[bH];omega,λM G I hM#[n,hn,eM]=>#[(s3.trans (aP.upd A)).trans I,ls++[(M:Int)],by rw[aX];rfl,by rw[bC,ll];rfl,λk l e=>?_]]
  ·have:=congrArg List.length e
   rw[bH]at this
   simp at this;omega
  ·rcases yI e with⟨e,_⟩|⟨ek,rfl⟩
   ·exact and_assoc.mp (F k l e)
   ·rw[ek,ll]
    obtain⟨j,P,rfl⟩:=kW hn
    have:ib (L.a j i)<=20000:=Qp (bx i im _ (iH _ (aL (fK (λj=>L.a j i) P))))
    refine and_assoc.mp #[#[],λj P=>?_]
    have:=hM _ (aL (fK (λj=>L.a j i) P))
    omega
 ·rintro N U _ ⟨s3,ls,rfl,ll,F⟩ lz a1
  rw[aA,rl]at ll
  have I:=s3.trans (aP.upd (o:=HO.lst (List.map V.int ls)) a1)
  have a0:(upd U lz (HO.lst (List.map V.int ls))) lz=some (HO.lst (List.map V.int ls)):=aI
  generalize upd U lz (HO.lst (List.map V.int ls))=G at I a0
  clear s3 a1
  have R4:=R.same I
  obtain⟨p0,a2,a3⟩:=R4.row (dL L.m)
  (dsimp?[Fc,dN,gT])
  refine#[_,SqL.of R4.ha,V.ref p0,gM (j:=0) (by rw[aY,a2];rfl),p0,rfl,_,.inl (SqL.of a3),?_]
  rw[aA,Lpd.rowL_length,dA]
  refine#[#[],#[],jL (lo:=0) (W:=λj N H5=>aP G H5/\∃Z:List Int,N=List.map V.int Z/\Z.length=j/\∀(k:Nat) w,Z[k]?=some w->(-20000<=w/\w<=20000)/\∀(i:Nat) x l,i<=L.m->(L.rowL i)[k]?=some x->ls[i]?=some l->x≠0->(ib x:Int)-l<=w) (by rw[sizeLine_eq];omega) #[aP.refl _,[],rfl,rfl,λk l e=>by simp at e] ?_ ?_]
  ·rintro j N H5 P _ ⟨s5,Z,rfl,wl,wo⟩
   (dsimp?[wD,cL,bR,cK,bF];try simp_arith[wD,cL,bR,cK,bF,eJ])
   refine#[a,g,_,(j:Int),j,rfl,SqL.of (s5 _ _ R4.ha),(R4.same s5).hr,by rw[bH];omega,λr hr=>?_,λc H6 s b5 a4=>?_]
   ·obtain⟨i,hi,rfl⟩:=kW hr
    exact kQ (by rw[Lpd.rowL_length];omega)
   ·have e:(ofF (L.m+1) L.rowL).map (λr=>r.getD j 0)=ofF (L.m+1) λi=>(L.rowL i).getD j 0:=by unfold ofF;rw[List.map_map];rfl
    rw[e]at a4
    have a5:=s5.trans s
    refine#[c,lz,_,ls,rfl,SqL.of a4,SqL.of (a5 _ _ a0),by rw[bH,ll],by rw[bH];omega,λw t u w1 w2=>#[a5.trans u,Z++[w],by rw[aX];rfl,by rw[bC,wl];rfl,λk w' O=>?_]]
    rcases yI O with⟨O,_⟩|⟨ek,rfl⟩
    ·exact and_assoc.mp (wo k w' O)
    ·rw[ek,wl]
     refine and_assoc.mp #[?_,λi x l hi ex el hx=>?_]
     ·rcases w2 with w0 |⟨i,x,l,ex,el,ew⟩
      ·omega
      ·obtain⟨b7,rfl⟩:=fR ex
       have hb:ib ((L.rowL i).getD j 0)<=20000:=Qp (bx i #[] _ (mB (by rw[Lpd.rowL_length];omega)))
       have:=(F i l el).1
       omega
     ·have:=w1 i x l (by rw[fK _ (show i<L.m+1 by omega),iF ex]) el hx
      exact this
  ·rintro N H5 _ ⟨s5,Z,rfl,wl,wo⟩ wz a6
   have s:=s5.trans (aP.upd (o:=HO.lst (List.map V.int Z)) a6)
   have a7:(upd H5 wz (HO.lst (List.map V.int Z))) wz=some (HO.lst (List.map V.int Z)):=aI
   generalize upd H5 wz (HO.lst (List.map V.int Z))=H6 at s a7
   have a8:=I.trans s
   have R6:=R.same a8
   have a9:=s _ _ a0
   clear s5 a6 s a0 R4 a3 a2
   (dsimp?[Fd,gW,mU])
   refine#[#[_,SqL.of R6.ha],#[_,SqL.of a9],lN (K:=K) (a:=a) (b:=lz) (xs:=List.map V.ref g) (ys:=List.map V.int ls) (λi N t=>aP H6 t/\∃qs f,N=List.map V.ref qs/\eG t qs f/\f.length=i/\∀(k:Nat) row,f[k]?=some row->row.length=L.n+1/\∀(j:Nat) x v r l,(L.rowL k)[j]?=some x->Z[j]?=some v->row[j]?=some r->ls[k]?=some l->Tq x ((b:Int)-l-v) r) (by rw[aA,sizeLine_eq];omega) (by rw[aA,aA];omega) #[aP.refl _,[],[],rfl,trivial,rfl,λk row e=>by simp at e] ?_ ?_ ?_]
   ·rintro i N t _ ⟨u,_⟩
    exact#[SqL.of (u _ _ R6.ha),SqL.of (u _ _ a9)]
   ·rintro i x y p N t hx d _ ⟨u,qs,f,rfl,J,ql,ok⟩ hp os D
    obtain⟨z,rfl,A⟩:=eR hx
    obtain⟨l,rfl,Y⟩:=fQ d
    obtain⟨o1,o2,rfl⟩:∃o1 o2,os=[o1,o2]:=by
     match os,D with
     | [o1,o2],_=>exact#[o1,o2,rfl]
    obtain⟨im,B⟩:=(R6.same u).inv A
    have s8:=aP.upd (o:=HO.tup [.ref z,.int l]) hp
    have bl:=(F i l Y).1
    (dsimp?[Fe,Fg,cL,bR,cK,bF])
    refine#[_,SqT.of aI,rfl,_,_,rfl,_,_,rfl,rfl,#[[some (.ref z),some (.int l)],rfl,rfl],?_]
    generalize upd t p (HO.tup [.ref z,.int l])=H8 at s8
    refine#[_,rfl,z,wz,L.rowL i,Z,(b:Int)-l,rfl,SqL.of (s8 _ _ B),SqL.of ((u.trans s8) _ _ a7),by rw[Lpd.rowL_length,wl],by rw[Lpd.rowL_length];omega,λx hx=>Qp (bx i im x hx),#[#[],#[]],λv hv=>?_,λlr X H9 s9 b8 b3 b4 st=>#[(u.trans s8).trans s9,qs++[lr],by rw[aX];rfl,f++[X],eG.snoc ((J.same s8).same s9) b3,by rw[bC,ql];rfl,λk row e=>?_]]
    ·obtain⟨j,P⟩:=cJ hv
     have:=(wo j v P).1
     omega
    ·rcases yI e with⟨e,_⟩|⟨ek,rfl⟩
     ·exact ok k row e
     ·rw[ek,ql]
      refine#[by rw[b4,Lpd.rowL_length],λj x v r l' e1 C T e4=>?_]
      rw[Y]at e4
      obtain rfl:=aV e4
      exact st j x v r e1 C T
   ·rintro N t _ ⟨u,qs,f,rfl,J,ql,ok⟩ l Y
    rw[aA,rl]at ql
    have s8:=aP.upd (o:=HO.lst (List.map V.ref qs)) Y
    have b0:∀r∈f,r.length=L.n+1:=λr hr=>by
     obtain⟨k,hk⟩:=cJ hr
     exact(ok k r hk).1
    have er:=jVc ql b0
    refine q l qs (LpR f L.m L.n) _ ((a8.trans u).trans s8) #[aI,by show eG _ qs (ofF (L.m+1) (LpR f L.m L.n).rowL);rw[er];exact J.same s8] ?_
    have cell:∀(k j:Nat),k<=L.m->j<L.n+1->∀x,(L.rowL k)[j]?=some x->BB b ((f.getD k []).getD j 0)/\(0<=x->0<=(f.getD k []).getD j 0):=λk j hk P x hx=>by
     have ek:f[k]?=some f[k]:=aD #[]
     obtain⟨len,st⟩:=ok k _ ek
     have eg:f.getD k []=f[k]:=by rw[aR,ek];rfl
     have el:ls[k]?=some ls[k]:=aD #[]
     have ew:Z[j]?=some Z[j]:=aD #[]
     have S:=st j x _ _ _ hx ew (Ey (show j<(f[k]).length by omega)) el
     rw[eg]
     refine#[?_,S.nn]
     by_cases x0:x=0
     ·rw[S.zz x0];show(0:Int).natAbs<_;exact dR _
     ·exact S.bb b (by have:=(wo j _ ew).2 k x _ hk hx el x0;omega)
    exact#[rfl,rfl,rfl,λj k P hk=>(cell k j hk #[] _ (L.rowL_get k P)).1,λk hk=>(cell k L.n hk #[] _ (L.rowL_last k)).1,λk hk h0=>(cell k L.n hk #[] _ (L.rowL_last k)).2 h0]
noncomputable def Oq:List PySem.Str:=["one","other"]
noncomputable def sH(K:aO):Sp:=λvs H Q _=>∃a b,∃n:Nat,∃xs ys,∃f g:Nat->Int,vs=[.ref a,.ref b]/\SqL K H a (List.map V.int xs)/\SqL K H b (List.map V.int ys)/\n<=200/\n<=xs.length/\n<=ys.length/\(xs.length<=n∨ys.length<=n)/\(∀k,k<n->xs[k]?=some (f k)/\ys[k]?=some (g k)/\BB 20000 (f k)/\BB 20000 (g k))/\∀H',aP H H'->Q (.int (sm n λk=>f k*g k)) H'
noncomputable def Bw(K:aO):TE:=(tOp eU (aE 0) (aE 1))
noncomputable def Bv(K:aO):TG:=(jN K 2 (eF (aZ 0) (eF (aZ 1) jO)))
noncomputable def Da(K:aO):TS:=(cP (tCB (cSum K) (aH (gW (mU K (aH (aE 0) (aH (aE 1) bE))) 2 [] (Bv K) (Bw K)) bE)))
theorem Yh{K}:RdS K sH Da Oq:=by
 intro m H Q E h
 obtain⟨a,b,n,F,T,f,g,rfl,G,t,R,h1,h2,h3,S,q⟩:=h
 rw[show start Oq [V.ref a,V.ref b]=[some (.ref a),some (.ref b)]from rfl]
 (dsimp![Da,gW,mU,cSum,aE,cP,aH,bE,tCB])
 refine#[#[_,G],#[_,t],jZb (K:=K) (a:=a) (b:=b) (xs:=List.map V.int F) (ys:=List.map V.int T) n (λi N U=>aP H U/\N=List.map V.int (ofF i λk=>f k*g k)) (by rw[sizeLine_eq];omega) (by rw[aA];omega) (by rw[aA];omega) (by rw[aA,aA];exact h3) #[aP.refl _,rfl] ?_ ?_ ?_]
 ·rintro i N U _ ⟨s3,_⟩
  exact#[s3.seq G,s3.seq t]
 ·rintro i x y p N U hx j hi _ ⟨s3,rfl⟩ hp os D
  obtain⟨e1,C,b1,b2⟩:=S i hi
  obtain⟨c,rfl,hc⟩:=fQ hx
  obtain⟨d,rfl,hd⟩:=fQ j
  rw[hc]at e1
  rw[hd]at C
  obtain rfl:=aV e1
  obtain rfl:=aV C
  obtain⟨M,J,rfl⟩:∃M J,os=[M,J]:=by
   match os,D with
   | [M,J],_=>exact#[M,J,rfl]
  (dsimp![Bv,Bw,aZ,aE,tOp,rI,eU,jN,eF,jO,Lca,Lna])
  refine#[_,SqT.of aI,rfl,_,_,rfl,_,_,rfl,rfl,#[[some (.int (f i)),some (.int (g i))],rfl,rfl],_,rfl,_,rfl,.b b1 b2,s3.trans (aP.upd hp),?_]
  rw[fL,aX];rfl
 ·rintro e U _ ⟨s3,rfl⟩ l Y
  refine#[_,SqL.of aI,?_]
  rw[jZ8]
  exact q _ (s3.trans (aP.upd Y))
noncomputable def sO:List PySem.Str:=["self","last","lacks","found","place","lack"]
noncomputable def oV:Option Nat->V
 |none=>.non
 |some f=>.int f
noncomputable def EntO(L:Lpd)(s:Nat->Nat)(i:Nat):Option Nat->Prop
 |none=>∀c,c<i->0<=L.T s L.m (L.cv c)
 |some c=>c<i/\L.T s L.m (L.cv c)<0
noncomputable def iX(K:aO):Sp:=λvs H Q _=>∃t ins L s,vs=[.ref t]/\iR K H t ins L s/\L.Lim/\L.Okn s/\∀o H',aP H H'->EntO L s (L.n+L.m) o->Q (oV o) H'
noncomputable def Yx(t p l:Addr)(L:Lpd)(s:Nat->Nat)(u:Hp):Nat->St->Hp->Prop:=λi Z U=>∃o M J,Z=[some (.ref t),some (.ref p),some (.ref l),some (oV o),M,J]/\aP u U/\EntO L s i o
noncomputable def pH(K:aO):TS:=(fU (Ea (cY (tOp kK (aE 5) (tC (.int 0)))) (tOr (cY (tOp Kh (aE 3) (tC .non))) (cY (tOp kK (tOp eU (aE 5) (tOp (gJ K) (gK K (aE 0) "spans") (aE 3))) (tOp eU (tOp (gJ K) (aE 2) (aE 3)) (tOp (gJ K) (gK K (aE 0) "spans") (aE 4))))))) (cU (aE 4) (aZ 3)) eO)
noncomputable def lF(K:aO):TG:=(jN K 2 (eF (aZ 4) (eF (aZ 5) jO)))
noncomputable def pE(K:aO):TS:=(cD (cU (tC .non) (aZ 3)) (cD (gA (xA K (aE 2)) (lF K) (pH K)) (cP (aE 3))))
noncomputable def pF(K:aO):TE:=(cB (sH K) [] E0 (aH (aE 0) (aH (aE 1) bE)))
noncomputable def pD(K:aO):TS:=(cD (cU (tOp qK (dN (dC K (gK K (aE 0) "begun")) [1] (pF K)) (tSl (xL K) (aE 1) hU (lY (tCB (jD K) (aH (gK K (aE 0) "inside") bE))))) (aZ 2)) (pE K))
noncomputable def nR(K:aO):TS:=(cD (cU (tOp (gJ K) (gK K (aE 0) "kept") (tUn iE (tC (.int 1)))) (aZ 1)) (pD K))
theorem jXi{ns:List Int}{n:Nat}(h:n<=ns.length):qL (List.map V.int ns) none (some (n:Int))=List.map V.int (ns.take n):=by
 unfold qL
 have e:HT.sIx (List.map V.int ns).length (List.map V.int ns).length (some (n:Int))=n:=by
  show(if(n:Int)<0 then((n:Int)+((List.map V.int ns).length:Int)).toNat else min (n:Int).toNat (List.map V.int ns).length)=n
  rw[aF #[],aA,dA]
  exact Nat.min_eq_left h
 rw[HT.sIx_none,e,List.drop_zero,Nat.sub_zero,map_take]
theorem ofF_add(n m:Nat)(f:Nat->d):ofF n f++ofF m (λk=>f (n+k))=ofF (n+m) f:=by
 induction m with
 |zero=>exact bZ _
 |succ m ih=>rw[fL,←List.append_assoc,ih,←Nat.add_assoc,fL]
theorem Oi(L:Lpd)(s:Nat->Nat)(i:Nat):(L.keptL s i).take L.m=ofF L.m λk=>L.T s i (e1 k):=by
 apply List.ext_getElem?
 intro k
 by_cases hk:k<L.m
 ·rw[List.getElem?_take_of_lt hk,L.keptL_get s i #[],fK _ hk]
 ·rw[cM (by rw[dM];omega),cM (by rw[bH];omega)]
theorem Dx{K vs H Q E}(C:xP K)(h:iX K vs H Q E):nR K (eQ Q) (start sO vs) H:=by
 obtain⟨t,ins,L,s,rfl,⟨dx,b,sp,k,bs,ss,ks,P⟩,lim,ok,q⟩:=h
 have bl:=P.bl
 have kl:=P.kl
 have m1:=lim.m1
 have n1:=lim.n1
 obtain⟨p,_,a3,a0⟩:=P.last
 rw[show start sO [V.ref t]=[some (.ref t),none,none,none,none,none]from rfl]
 (dsimp?[nR,gK])
 refine#[_,_,_,P.ob,C.cl,C.nk,_,jT _ _ _ _,_,rfl,_,SqL.of P.Kp,_,a3,?_]
 (dsimp?[pD,gK,dN,dC,qK])
 refine#[_,_,_,P.ob,C.cl,C.nb,_,mQ _ _ _ _,_,rfl,#[_,SqL.of P.B],eP (K:=K) (a:=b) (xs:=List.map V.ref bs) (λi N U=>aP H U/\N=List.map V.int (ofF i λj=>L.T s L.m (L.cv j))) ?_ #[aP.refl _,rfl] ?_ ?_ ?_]
 ·rw[aA,sizeLine_eq];omega
 ·rintro i ys U _ ⟨s3,_⟩
  exact s3.seq (SqL.of P.B)
 ·rintro i x ys U hi _ ⟨s3,rfl⟩
  obtain⟨pc,rfl,hp⟩:=eR hi
  have y:i<L.n:=by have:=(aK.mp hp).1;omega
  obtain⟨r,F,a1⟩:=P.Bs.get hp
  obtain⟨_,rfl⟩:=fR F
  (dsimp![pF,cL,bR,cK,bF,aE,cB,aH,bE,bZ])
  refine#[_,_,L.m+1,_,_,L.a i,λk=>L.T s L.m (e1 k),rfl,s3.seq (SqL.of a1),s3.seq (SqL.of a0),#[],?_,?_,.inl ?_,λj hj=>#[fK _ hj,L.keptL_get s L.m #[],lim.ba _ _ y #[],lim.bk _ _ _ ok (aM _) #[]],λG I=>#[s3.trans I,?_]]
  ·unfold Lpd.colL;rw[bH];exact aM _
  ·rw[Lpd.keptL_length];omega
  ·unfold Lpd.colL;rw[bH];exact aM _
  ·rw[L.T_prod s (aM _) y,fL,aX];rfl
 ·rintro ys U _ ⟨s3,rfl⟩ w O
  rw[aA,bl]
  have I:=s3.trans (aP.upd (o:=HO.lst (List.map V.int (ofF L.n λj=>L.T s L.m (L.cv j)))) O)
  have d:(upd U w (.lst (List.map V.int (ofF L.n λj=>L.T s L.m (L.cv j))))) w=_:=aI
  generalize upd U w (.lst (List.map V.int (ofF L.n λj=>L.T s L.m (L.cv j))))=G at I d
  refine#[_,_,_,I _ _ P.ob,C.cl,C.ni,_,oC _ _ _ _,_,rfl,_,.inl (I.seq (SqL.of P.hi)),?_]
  have il:(L.insL s).length=L.m:=by unfold Lpd.insL;rw[bH]
  rw[aA,il]
  refine#[_,I.seq (SqL.of a0),λl2 a2=>?_]
  rw[jXi (by rw[Lpd.keptL_length];omega),Oi]
  have X:=I.trans (aP.upd (o:=HO.lst (List.map V.int (ofF L.m λk=>L.T s L.m (e1 k)))) a2)
  refine#[_,aP.upd a2 _ _ d,_,aI,by rw[aA,aA,bH,bH,sizeLine_eq];omega,λl3 a4=>?_]
  have s6:=X.trans (aP.upd (o:=HO.lst (List.map V.int (ofF L.n λj=>L.T s L.m (L.cv j))++List.map V.int (ofF L.m λk=>L.T s L.m (e1 k)))) a4)
  have e:List.map V.int (ofF L.n λj=>L.T s L.m (L.cv j))++List.map V.int (ofF L.m λk=>L.T s L.m (e1 k))=List.map V.int (ofF (L.n+L.m) λc=>L.T s L.m (L.cv c)):=by
   rw[←aX,←ofF_add]
   congr 2
   exact jB λk _=>by rw[L.cv_spare]
  rw[e]at s6⊢
  have h3:(upd (upd G l2 (.lst (List.map V.int (ofF L.m λk=>L.T s L.m (e1 k))))) l3 (.lst (List.map V.int (ofF (L.n+L.m) λc=>L.T s L.m (L.cv c))))) l3=_:=aI
  generalize upd (upd G l2 (.lst (List.map V.int (ofF L.m λk=>L.T s L.m (e1 k))))) l3 (.lst (List.map V.int (ofF (L.n+L.m) λc=>L.T s L.m (L.cv c))))=H6 at s6 h3
  (dsimp?[pE,gA,xA])
  refine#[#[_,SqL.of h3],Ez (K:=K) (a:=l3) (xs:=List.map V.int (ofF (L.n+L.m) λc=>L.T s L.m (L.cv c))) (g:=lF K) (D:={ nx:=cP (aE 3) (eQ Q),rt:=Q }) (Yx t p l3 L s H6) ?_ ?_ ?_ ?_]
  ·exact#[none,none,none,rfl,aP.refl _,λc hc=>absurd hc (eN _)]
  ·rintro i Z H7 _ ⟨_,_,_,_,u,_⟩
   exact u.seq (SqL.of h3)
  ·rintro i x pp Z H7 hi ⟨o,M,J,rfl,u,en⟩ Y
   obtain⟨v,rfl,hv⟩:=fQ hi
   obtain⟨y,rfl⟩:=fR hv
   have s8:=u.trans (aP.upd (o:=HO.tup [.int i,.int (L.T s L.m (L.cv i))]) Y)
   have stay:0<=L.T s L.m (L.cv i)∨o≠none->EntO L s (i+1) o:=λA=>by
    cases o with
    |none=>
     intro c hc
     by_cases a5:c=i
     ·rw[a5];exact A.resolve_right (λz=>z rfl)
     ·exact en c #[]
    |some f=>exact#[by have:=en.1;omega,en.2]
   (dsimp![lF,pH,Kh,gK,cU,aZ,aE,tC,tOp,rI0,rI,eU,kK,fU,cY,eO,gJ,Ea,tOr,jN,eF,jO,cN])
   refine#[_,SqT.of aI,rfl,_,_,rfl,_,_,rfl,rfl,_,rfl,mT (λl=>?_) (λR=>#[o,_,_,rfl,s8,stay (.inl #[])])]
   cases o with
   |none=>
    simp only[oV,if_true,exists_eq_left',V.int.injEq,Option.some.injEq,exists_eq_left,V.ref.injEq,V.bl.injEq,List.cons.injEq,and_true,true_and,exists_and_left,and_assoc,fG,fH,fF,gX,kD,iK]
    exact#[some i,_,_,rfl,s8,#[],l]
   |some f=>
    have hf:=en.1
    have a6:=P.sl
    simp only[oV,reduceCtorEq,if_false,exists_eq_left',V.int.injEq,Option.some.injEq,exists_eq_left,V.ref.injEq,V.bl.injEq,List.cons.injEq,and_true,true_and,exists_and_left,and_assoc,fG,fH,fF,gX,kD,iK]
    have b1:=lim.bc s L.m i ok (aM _)
    have b2:=lim.bc s L.m f ok (aM _)
    refine#[_,_,_,(s6.trans s8) _ _ P.ob,C.cl,C.ns,_,Be _ _ _ _,_,rfl,_,(s6.trans s8).seq (SqL.of P.S),_,kQ (i:=f) #[],_,rfl,.b b1 (P.sb _ (mB #[])),?_]
    refine#[_,s8.seq (SqL.of h3),_,kQ (i:=f) (by rw[bH];omega),_,_,_,(s6.trans s8) _ _ P.ob,C.cl,C.ns,_,Be _ _ _ _,_,rfl,_,(s6.trans s8).seq (SqL.of P.S),_,kQ (i:=i) #[],_,rfl,_,rfl,.b (m:=20000) (by rw[iF (fK (λc=>L.T s L.m (L.cv c)) (show f<L.n+L.m by omega))];exact b2) (P.sb _ (mB #[])),?_]
    exact mT (λ_=>#[some i,_,_,rfl,s8,#[],l]) (λ_=>#[some f,_,_,rfl,s8,stay (.inr (by simp))])
  ·rintro Z H7 ⟨o,M,J,rfl,u,en⟩
   (dsimp![aE,cP])
   refine q o H7 (s6.trans u) ?_
   rw[aA,bH]at en
   exact en
noncomputable def vF:List PySem.Str:=["self","column"]
noncomputable def iI(K:aO):Sp:=λvs H Q _=>∃t ins L s,∃c:Nat,vs=[.ref t,.int c]/\iR K H t ins L s/\L.Lim/\L.Okn s/\c<L.n+L.m/\∀l H',aP H H'->H l=none->H' l=some (.lst (List.map V.int (L.numL s c)))->Q (.ref l) H'
noncomputable def qD(K:aO):TE:=(cB (sH K) [] E0 (aH (tOp (gJ K) (gK K (aE 2) "begun") (aE 1)) (aH (aE 0) bE)))
noncomputable def oN(K:aO):TS:=(cD (fU (cY (tOp kK (aE 1) (tCB (jD K) (aH (gK K (aE 0) "begun") bE)))) (cP (dN (dC K (gK K (aE 0) "kept")) [1,0] (qD K))) eO) (cP (cB (kH K) [] E0 (aH (gK K (aE 0) "kept") (aH (tOp lA (aE 1) (tCB (jD K) (aH (gK K (aE 0) "begun") bE))) bE)))))
theorem Go{K vs H Q E}(C:xP K)(h:iI K vs H Q E):oN K (eQ Q) (start vF vs) H:=by
 obtain⟨t,ins,L,s,c,rfl,⟨M,b,Z,k,bs,v,ks,P⟩,lim,ok,hc,q⟩:=h
 have bl:=P.bl
 have kl:=P.kl
 have m1:=lim.m1
 rw[show start vF [V.ref t,V.int c]=[some (.ref t),some (.int c)]from rfl]
 (dsimp![oN,gK,dN,dC,cD,aE,tOp,rI0,lA,kK,cP,fU,cY,eO,cB,aH,bE,tCB,jD,bZ,cN])
 refine#[_,_,_,P.ob,C.cl,C.nb,_,mQ _ _ _ _,_,rfl,_,.inl (SqL.of P.B),?_]
 rw[aA,bl]
 refine mT (λf=>?_) (λf=>?_)
 ·have w:c<L.n:=#[]
  refine#[_,_,_,P.ob,C.cl,C.nk,_,jT _ _ _ _,_,rfl,#[_,SqL.of P.Kp],eP (K:=K) (a:=k) (xs:=List.map V.ref ks) (λi N U=>aP H U/\N=List.map V.int (ofF i λi=>L.T s i (L.cv c))) ?_ #[aP.refl _,rfl] ?_ ?_ ?_]
  ·rw[aA,sizeLine_eq];omega
  ·rintro i D U _ ⟨s3,_⟩
   exact s3.seq (SqL.of P.Kp)
  ·rintro i x D U hi _ ⟨s3,rfl⟩
   obtain⟨p,rfl,hp⟩:=eR hi
   have g:i<=L.m:=by have:=(aK.mp hp).1;omega
   obtain⟨r,F,A⟩:=P.Ks.get hp
   obtain⟨_,rfl⟩:=fR F
   obtain⟨z,_,y,o⟩:=P.col w
   (dsimp![qD,gK,cL,bR,cK,bF,aE,tOp,cB,aH,bE,gJ,bZ])
   refine#[_,_,_,s3 _ _ P.ob,C.cl,C.nb,_,mQ _ _ _ _,_,rfl,_,s3.seq (SqL.of P.B),_,y,?_]
   refine#[_,_,L.m+1,_,_,L.a c,λk=>L.T s i (e1 k),rfl,s3.seq (SqL.of o),s3.seq (SqL.of A),#[],?_,?_,.inl ?_,λj J=>#[fK _ J,L.keptL_get s i #[],lim.ba _ _ w #[],lim.bk _ _ _ ok g #[]],λG I=>#[s3.trans I,?_]]
   ·unfold Lpd.colL;rw[bH];exact aM _
   ·rw[Lpd.keptL_length];omega
   ·unfold Lpd.colL;rw[bH];exact aM _
   ·rw[L.T_prod s g w,fL,aX];rfl
  ·rintro D U _ ⟨s3,rfl⟩ l Y
   rw[aA,kl]
   exact q l _ (s3.trans (aP.upd Y)) (s3.free Y) aI
 ·have R:L.n<=c:=#[]
  refine#[_,_,_,P.ob,C.cl,C.nk,_,jT _ _ _ _,_,_,_,P.ob,C.cl,C.nb,_,mQ _ _ _ _,_,rfl,_,.inl (SqL.of P.B),?_]
  rw[aA,bl]
  refine#[_,_,_,_,c-L.n,rfl,SqL.of P.Kp,P.Ks,by rw[bH];omega,λr hr=>?_,λl d O Y u=>q l d O Y ?_]
  ·obtain⟨i,hi,rfl⟩:=kW hr
   have:=kQ (l:=L.keptL s i) (i:=c-L.n) (by rw[Lpd.keptL_length];omega)
   rw[show((c-L.n:Nat):Int)=(c:Int)-(L.n:Int) by omega]at this
   exact this
  ·rw[u]
   congr 3
   unfold Lpd.numL
   unfold ofF
   rw[List.map_map]
   refine hE λi hi=>?_
   have e:L.cv c=e1 (c-L.n):=by unfold Lpd.cv;rw[aF #[]]
   show(L.keptL s i).getD (c-L.n) 0=L.T s i (L.cv c)
   rw[e]
   exact iF (L.keptL_get s i #[])
noncomputable def Ot:List PySem.Str:=["row","other","column","listed","place","mine","yours"]
noncomputable def zO(K:aO):Sp:=λvs H Q _=>∃a b l x y n,∃c w:Nat,vs=[.ref a,.ref b,.int c,.ref l]/\SqL K H a (List.map V.int x)/\SqL K H b (List.map V.int y)/\SqL K H l (List.map (λj:Nat=>V.int j) n)/\Ro x w/\Ro y w/\c<w/\(∀j∈n,j<w)/\Q (.bl (decide (lx x y c n=some true))) H
noncomputable def jW0(a b l:Addr)(x y:List Int)(c:Nat)(n:List Nat)(u:Hp):Nat->St->Hp->Prop:=SEq u λi Z=>∃M J v,Z=[some (.ref a),some (.ref b),some (.int c),some (.ref l),M,J,v]/\lx x y c n=lx x y c (n.drop i)
noncomputable def sX(K:aO):TS:=(cP (tC (.bl false)))
noncomputable def Qd(K:aO):TS:=(cD (cU (tOp eU (tOp (gJ K) (aE 0) (aE 4)) (tOp (gJ K) (aE 1) (aE 2))) (aZ 5)) (cD (cU (tOp eU (tOp (gJ K) (aE 1) (aE 4)) (tOp (gJ K) (aE 0) (aE 2))) (aZ 6)) (fU (cY (tOp rNe (aE 5) (aE 6))) (cP (tOp kK (aE 5) (aE 6))) eO)))
noncomputable def Dc(K:aO):TS:=(cD (gA (dC K (aE 3)) (aZ 4) (Qd K)) (sX K))
theorem jW4{n:List Nat}{x:V}(h:(List.map (λj:Nat=>V.int j) n)[i]?=some x):∃c:Nat,x=.int c/\n[i]?=some c:=by
 rw[aY]at h
 cases e:n[i]? with
 |none=>rw[e]at h;cases h
 |some z=>rw[e]at h;exact#[z,(aV h).symm,rfl]
theorem lx_drop{x y:List Int}{n:List Nat}(h:n[i]?=some j):lx x y c (n.drop i)=if x.getD j 0*y.getD c 0=y.getD j 0*x.getD c 0 then lx x y c (n.drop (i+1))else some (decide (x.getD j 0*y.getD c 0<y.getD j 0*x.getD c 0)):=by
 have f:i<n.length:=(aK.mp h).1
 rw[List.drop_eq_getElem_cons f]
 have:n[i]=j:=(aK.mp h).2
 rw[this]
 rfl
theorem Yj{K}:RdS K zO Dc Ot:=by
 intro m H Q E h
 obtain⟨a,b,l,x,y,n,c,w,rfl,G,t,C,⟨xl,xb⟩,⟨r,d⟩,hc,P,q⟩:=h
 rw[show start Ot [V.ref a,V.ref b,V.int c,V.ref l]=[some (.ref a),some (.ref b),some (.int c),some (.ref l),none,none,none]from rfl]
 (dsimp![Dc,gA,dC,cD,aZ,aE])
 refine#[#[_,C],iN (K:=K) (a:=l) (xs:=List.map (λj:Nat=>V.int j) n) (g:=aZ 4) (D:={ nx:=sX K (eQ Q),rt:=Q }) (jW0 a b l x y c n H) ?_ ?_ ?_ ?_]
 ·exact#[rfl,none,none,none,rfl,rfl]
 ·rintro i Z U _ ⟨rfl,_⟩
  exact C
 ·rintro i v Z U hi ⟨rfl,M,J,o,rfl,e⟩
  obtain⟨j,rfl,f⟩:=jW4 hi
  have k:=P j (aL f)
  rw[lx_drop f]at e
  (dsimp![cD,cU,aZ,aE,tOp,rI0,rI,eU,kK,rNe,gL,cP,fU,cY,eO,gJ])
  refine#[_,G,_,kQ (i:=j) #[],_,t,_,kQ (i:=c) #[],_,rfl,_,rfl,.b (xb _ (mB #[])) (d _ (mB #[])),_,t,_,kQ (i:=j) #[],_,G,_,kQ (i:=c) #[],_,rfl,_,rfl,.b (d _ (mB #[])) (xb _ (mB #[])),?_]
  by_cases A:x.getD j 0*y.getD c 0=y.getD j 0*x.getD c 0
  ·rw[aF (by rw[decide_eq_true A];decide)]
   rw[aJ A]at e
   exact#[rfl,_,_,_,rfl,e]
  ·rw[aJ (by rw[decide_eq_false A];rfl)]
   rw[aF A]at e
   rw[e]at q
   have:decide (some (decide (x.getD j 0*y.getD c 0<y.getD j 0*x.getD c 0))=some true)=decide (x.getD j 0*y.getD c 0<y.getD j 0*x.getD c 0):=by
    by_cases h2:x.getD j 0*y.getD c 0<y.getD j 0*x.getD c 0
    ·rw[decide_eq_true h2];rfl
    ·rw[decide_eq_false h2];rfl
   rw[this]at q
   exact q
 ·rintro Z U ⟨rfl,M,J,o,rfl,e⟩
  rw[aA,List.drop_length]at e
  rw[e]at q
  dsimp only[sX,tC,cP,fG,fH,fF]
  exact q
noncomputable def Te:List PySem.Str:=["rows","column","listed","found","place","row"]
noncomputable def Dk(K:aO):Sp:=λvs H Q _=>∃r l ps X n,∃c w:Nat,vs=[.ref r,.int c,.ref l]/\SqL K H r (List.map V.ref ps)/\eG H ps X/\(∀row∈X,Ro row w)/\SqL K H l (List.map (λj:Nat=>V.int j) n)/\c<w/\(∀j∈n,j<w)/\∀o H',aP H H'->Lv X c n X.length o->Q (oV o) H'
noncomputable def jJ7(r l:Addr)(c:Nat)(X:List (List Int))(n:List Nat)(u:Hp):Nat->St->Hp->Prop:=λi Z U=>∃o M J,Z=[some (.ref r),some (.int c),some (.ref l),some (oV o),M,J]/\aP u U/\Lv X c n i o
noncomputable def Fj(K:aO):TS:=(fU (Ea (cY (tOp vI (tOp (gJ K) (aE 5) (aE 1)) (tC (.int 0)))) (tOr (cY (tOp Kh (aE 3) (tC .non))) (tB (cB (zO K) [] E0 (aH (aE 5) (aH (tOp (gJ K) (aE 0) (aE 3)) (aH (aE 1) (aH (aE 2) bE)))))))) (cU (aE 4) (aZ 3)) eO)
noncomputable def wE(K:aO):TG:=(jN K 2 (eF (aZ 4) (eF (aZ 5) jO)))
noncomputable def He(K:aO):TS:=(cD (cU (tC .non) (aZ 3)) (cD (gA (xA K (aE 0)) (wE K) (Fj K)) (cP (aE 3))))
theorem jJe{K}:RdS K Dk He Te:=by
 intro m H Q E h
 obtain⟨r,l,S,X,n,c,w,rfl,T,b,e,C,hc,P,q⟩:=h
 have d:=b.length
 rw[show start Te [V.ref r,V.int c,V.ref l]=[some (.ref r),some (.int c),some (.ref l),none,none,none]from rfl]
 (dsimp![He,gA,xA,cD,cU,aZ,aE,tC,cP])
 refine#[#[_,T],Ez (K:=K) (a:=r) (xs:=List.map V.ref S) (g:=wE K) (D:={ nx:=cP (aE 3) (eQ Q),rt:=Q }) (jJ7 r l c X n H) ?_ ?_ ?_ ?_]
 ·exact#[none,none,none,rfl,aP.refl _,λk row hk=>absurd hk (eN _)]
 ·rintro i Z U _ ⟨_,_,_,_,s3,_⟩
  exact s3.seq T
 ·rintro i x p Z U hi ⟨o,M,J,rfl,s3,Y⟩ hp
  obtain⟨z,rfl,A⟩:=eR hi
  obtain⟨row,F,B⟩:=b.get A
  obtain⟨s,u⟩:=e row (aL F)
  have I:aP H (upd U p (.tup [.int i,.ref z])):=s3.trans (aP.upd hp)
  (dsimp![wE,Fj,Kh,cU,aZ,aE,tC,tOp,rI0,vI,fU,cY,tB,eO,cB,aH,bE,gJ,Ea,tOr,jN,eF,jO,bZ,cN])
  refine#[_,SqT.of aI,rfl,_,_,rfl,_,_,rfl,rfl,_,rfl,_,SqL.of (I _ _ B),_,kQ #[],_,rfl,mT (λt=>?_) (λR=>#[_,_,_,rfl,I,Y.skip F R])]
  cases o with
  |none=>
   simp only[oV,if_true,Option.some.injEq,exists_eq_left',exists_eq_left,V.int.injEq,V.ref.injEq,V.bl.injEq,List.cons.injEq,and_true,true_and,exists_and_left,and_assoc,fG,fH,fF,gX,kD,iK]
   exact#[some i,_,_,rfl,I,Y.first F t]
  |some f=>
   obtain⟨N,fr,hf,_⟩:=id Y
   obtain⟨y,j⟩:∃y,S[f]?=some y:=#[_,aD (by rw[d];exact(aK.mp hf).1)]
   obtain⟨a0,O,v⟩:=b.get j
   rw[hf]at O
   obtain rfl:=aV O
   have G:atI (List.map V.ref S) (f:Int)=some (.ref y):=gM (by rw[aY,j];rfl)
   simp only[oV,reduceCtorEq,if_false,exists_eq_left',V.int.injEq,Option.some.injEq,exists_eq_left,V.ref.injEq,V.bl.injEq,List.cons.injEq,and_true,true_and,exists_and_left,and_assoc,fG,fH,fF,gX,kD,iK]
   refine#[_,I.seq T,_,G,_,_,_,_,_,_,_,w,rfl,SqL.of (I _ _ B),SqL.of (I _ _ v),I.seq C,#[s,u],e fr (aL hf),hc,P,_,rfl,mT (λha=>#[some i,_,_,rfl,I,Y.take hf F t (by simpa using ha)]) (λha=>#[some f,_,_,rfl,I,Y.keep hf F t (by simpa using ha)])]
 ·rintro Z U ⟨o,M,J,rfl,s3,Y⟩
  rw[aA,d]at Y
  (dsimp![aE,tC,tOp,rI0,rNe,gL,cP,cY])
  exact q o U s3 Y
noncomputable def qE:List PySem.Str:=["self","numbers","rows","spares"]
noncomputable def LvO(L:Lpd)(s:Nat->Nat)(c:Nat):Option Nat->Prop
 |none=>∀i,i<=L.m->L.T s i (L.cv c)<=0
 |some r=>r<=L.m/\0<L.T s r (L.cv c)/\∀i,i<=L.m->0<L.T s i (L.cv c)->¬lp (λp=>-(L.T s i (L.li p)*L.T s r (L.cv c)-L.T s r (L.li p)*L.T s i (L.cv c))) L.ls
noncomputable def jI(K:aO):Sp:=λvs H Q _=>∃t ins L s A,∃c:Nat,vs=[.ref t,.ref A]/\iR K H t ins L s/\L.Lim/\L.Okn s/\H A=some (.lst (List.map V.int (L.numL s c)))/\∀o H',aP H H'->LvO L s c o->Q (oV o) H'
noncomputable def lvr(L:Lpd)(s:Nat->Nat)(c i:Nat):List Int:=L.keptL s i++[L.T s i (L.cv c)]
noncomputable def nU(K:aO):TE:=(tOp qK (aE 0) (mS (aH (aE 1) bE)))
noncomputable def nT(K:aO):TG:=(jN K 2 (eF (aZ 0) (eF (aZ 1) jO)))
noncomputable def lW(K:aO):TS:=(cD (cU (gW (mU K (aH (gK K (aE 0) "kept") (aH (aE 1) bE))) 2 [] (nT K) (nU K)) (aZ 2)) (cD (cU (tCB (jD K) (aH (gK K (aE 0) "inside") bE)) (aZ 3)) (cP (cB (Dk K) [] E0 (aH (aE 2) (aH (tOp iQ (aE 3) (tC (.int 2))) (aH (tOp qK (mS (aH (tOp iQ (aE 3) (tC (.int 1))) bE)) (Wm (aE 3))) bE)))))))
theorem lvr_k(L:Lpd)(s:Nat->Nat)(c i:Nat)(h:k<=L.m):(lvr L s c i).getD k 0=L.T s i (e1 k):=iF (by unfold lvr;rw[bV (by rw[Lpd.keptL_length];omega),L.keptL_get s i h])
theorem lvr_b(L:Lpd)(s:Nat->Nat)(c i:Nat):(lvr L s c i).getD (L.m+1) 0=L.T s i L.be:=iF (by unfold lvr;rw[bV (by rw[Lpd.keptL_length];omega),L.keptL_last s i])
theorem Wq(L:Lpd)(s:Nat->Nat)(c i:Nat):(lvr L s c i).getD (L.m+2) 0=L.T s i (L.cv c):=iF (by unfold lvr;rw[bO (by rw[Lpd.keptL_length];omega),Lpd.keptL_length,fZ];rfl)
theorem Ah{K vs H Q E}(C:xP K)(h:jI K vs H Q E):lW K (eQ Q) (start qE vs) H:=by
 obtain⟨t,ins,L,s,nl,c,rfl,⟨f,b,Z,k,bs,ss,ks,P⟩,lim,ok,g,q⟩:=h
 have kl:=P.kl
 have m1:=lim.m1
 have a5:(L.numL s c).length=L.m+1:=by unfold Lpd.numL;rw[bH]
 rw[show start qE [V.ref t,V.ref nl]=[some (.ref t),some (.ref nl),none,none]from rfl]
 (dsimp![lW,gK,gW,mU,qK,Wm,cD,cU,aZ,aE,tC,tOp,rI0,iQ,cP,cB,aH,bE,mS,tCB,jD,bZ])
 refine#[_,_,_,P.ob,C.cl,C.nk,_,jT _ _ _ _,_,rfl,#[_,SqL.of P.Kp],#[_,SqL.of g],lN (K:=K) (a:=k) (b:=nl) (xs:=List.map V.ref ks) (ys:=List.map V.int (L.numL s c)) (λi N U=>aP H U/\∃qs,N=List.map V.ref qs/\eG U qs (ofF i (lvr L s c))) ?_ ?_ #[aP.refl _,[],rfl,trivial] ?_ ?_ ?_]
 ·rw[aA,sizeLine_eq];omega
 ·rw[aA,aA];omega
 ·rintro i N U _ ⟨s3,_⟩
  exact#[s3.seq (SqL.of P.Kp),s3.seq (SqL.of g)]
 ·rintro i x y p N U hx d _ ⟨s3,qs,rfl,R⟩ hp os D
  obtain⟨z,rfl,A⟩:=eR hx
  obtain⟨v,rfl,hv⟩:=fQ d
  obtain⟨r,F,B⟩:=P.Ks.get A
  obtain⟨a6,rfl⟩:=fR F
  obtain⟨_,rfl⟩:=fR hv
  obtain⟨M,J,rfl⟩:∃M J,os=[M,J]:=by
   match os,D with
   | [M,J],_=>exact#[M,J,rfl]
  have I:=aP.upd (o:=HO.tup [.ref z,.int (L.T s i (L.cv c))]) hp
  (dsimp![nT,nU,qK,aZ,aE,tOp,aH,bE,mS,jN,eF,jO,Lca,Lna])
  refine#[_,SqT.of aI,rfl,_,_,rfl,_,_,rfl,rfl,#[[some (.ref z),some (.int (L.T s i (L.cv c)))],rfl,rfl],sz1,λw O=>?_]
  have X:=aP.upd (o:=HO.lst [.int (L.T s i (L.cv c))]) O
  refine#[_,rfl,_,(I.trans X) _ _ (s3 _ _ B),_,aI,by rw[aA,Lpd.keptL_length,sizeLine_eq];show L.m+2+1<=_;omega,λn S=>?_]
  have s6:=aP.upd (o:=HO.lst (List.map V.int (L.keptL s i)++[V.int (L.T s i (L.cv c))])) S
  refine#[((s3.trans I).trans X).trans s6,qs++[n],by rw[aX];rfl,?_]
  rw[fL]
  refine eG.snoc (((R.same I).same X).same s6) ?_
  rw[aI]
  unfold lvr
  rw[aX];rfl
 ·rintro N U _ ⟨s3,qs,rfl,R⟩ l Y
  rw[aA,kl]at R
  have I:=s3.trans (aP.upd (o:=HO.lst (List.map V.ref qs)) Y)
  have a0:=R.same (aP.upd (o:=HO.lst (List.map V.ref qs)) Y)
  have a1:(upd U l (.lst (List.map V.ref qs))) l=some (.lst (List.map V.ref qs)):=aI
  generalize upd U l (.lst (List.map V.ref qs))=G at I a0 a1
  have il:(L.insL s).length=L.m:=by unfold Lpd.insL;rw[bH]
  refine#[_,_,_,I _ _ P.ob,C.cl,C.ni,_,oC _ _ _ _,_,rfl,_,.inl (I.seq (SqL.of P.hi)),?_]
  rw[aA,il]
  refine#[sz1,λw O=>#[L.m,rfl,#[],λn S=>?_]]
  have X:=(aP.upd (o:=HO.lst [.int ((L.m:Int)+1)]) O).trans (aP.upd (o:=HO.lst (List.map V.int (vH L.m))) S)
  refine#[_,aP.upd S _ _ aI,_,aI,by rw[aA,sJ,sizeLine_eq];show 1+L.m<=_;omega,λl3 a2=>?_]
  have s6:=X.trans (aP.upd (o:=HO.lst ([V.int ((L.m:Int)+1)]++List.map V.int (vH L.m))) a2)
  have e:[V.int ((L.m:Int)+1)]++List.map V.int (vH L.m)=List.map (λj:Nat=>V.int j) ((L.m+1)::List.range L.m):=by
   unfold vH
   rw[List.map_map,bR]
   rfl
  refine#[_,_,_,_,(L.m+1)::List.range L.m,L.m+2,L.m+3,rfl,s6.seq (SqL.of a1),a0.same s6,λrow hr=>?_,?_,#[],λj hj=>?_,λo H7 u lv=>?_]
  ·obtain⟨i,hi,rfl⟩:=kW hr
   refine#[by unfold lvr;rw[bC,Lpd.keptL_length];rfl,λx hx=>?_]
   unfold lvr at hx
   rcases cR.mp hx with hx |hx
   ·exact lim.kept ok #[] x hx
   ·rw[bX.mp hx];exact lim.bc s i c ok #[]
  ·have:=SqL.of (K:=K) (aI (H:=upd (upd G w (.lst [.int ((L.m:Int)+1)])) n (.lst (List.map V.int (vH L.m)))) (a:=l3) (o:=.lst ([V.int ((L.m:Int)+1)]++List.map V.int (vH L.m))))
   rw[e]at this⊢
   exact this
  ·rcases dW.mp hj with rfl |hj
   ·omega
   ·have:=fC.mp hj;omega
  ·refine q o H7 ((I.trans s6).trans u) ?_
   rw[bH]at lv
   cases o with
   |none=>
    intro i hi
    have:=lv i _ #[] (fK (lvr L s c) (show i<L.m+1 by omega))
    rw[Wq]at this
    omega
   |some r=>
    obtain⟨hr,fr,a3,hp,hm⟩:=lv
    obtain⟨_,rfl⟩:=fR a3
    rw[Wq]at hp
    refine#[#[],hp,λi hi a4=>?_]
    have:=(hm i _ #[] (fK (lvr L s c) (show i<L.m+1 by omega)) (by rw[Wq];exact a4)).1
    exact Lpd.lx_lp (λk hk=>lvr_k L s c r hk) (lvr_b L s c r) (Wq L s c r) (λk hk=>lvr_k L s c i hk) (lvr_b L s c i) (Wq L s c i) this
noncomputable def xJ:List PySem.Str:=["self"]
noncomputable def iS(K:aO):Sp:=λvs H Q _=>∃t ins L s,vs=[.ref t]/\iR K H t ins L s/\Q (.int (L.D s)) H
noncomputable def pU(K:aO):TS:=(cP (tOp (gJ K) (tOp (gJ K) (gK K (aE 0) "kept") (tUn iE (tC (.int 1)))) (tUn iE (tC (.int 2)))))
theorem atI_m2{l:List Int}{x:Int}(h2:2<=l.length)(h:l[l.length-2]?=some x):atI (List.map V.int l) (-2)=some (.int x):=by
 unfold atI ixN
 rw[aA,aF #[],aJ #[]]
 show(List.map V.int l)[(-2+(l.length:Int)).toNat]?=_
 rw[show(-2+(l.length:Int)).toNat=l.length-2 by omega,aY,h];rfl
theorem Ij{K vs H Q E}(C:xP K)(h:iS K vs H Q E):pU K (eQ Q) (start xJ vs) H:=by
 obtain⟨t,ins,L,s,rfl,⟨f,b,Z,k,bs,v,ks,P⟩,q⟩:=h
 rw[show start xJ [V.ref t]=[some (.ref t)]from rfl]
 (dsimp![pU,gK,aE,tC,tOp,tUn,rU,iE,cP,gJ])
 obtain⟨p,hp,a,B⟩:=P.last
 refine#[_,_,_,P.ob,C.cl,C.nk,_,jT _ _ _ _,_,rfl,_,SqL.of P.Kp,_,a,_,rfl,_,SqL.of B,_,atI_m2 (by rw[Lpd.keptL_length];omega) (by rw[Lpd.keptL_length];exact L.keptL_get s L.m (aM _)),?_]
 rw[show L.m+2-2=L.m by omega,L.last_own];exact q
noncomputable def vE:List PySem.Str:=["self","column","numbers","at","bottom","gone","moved","row","number"]
noncomputable def kX(K:aO):Sp:=λvs H Q _=>∃t ins L s A,∃c r:Nat,vs=[.ref t,.int c,.ref A,.int r]/\iR K H t ins L s/\L.Lim/\L.Okn s/\H A=some (.lst (List.map V.int (L.numL s c)))/\r<L.m/\
 ∀H',aP (mn t ins H) (mn t ins H')->iR K H' t ins L (Lpd.sput s r c)->(∀f,H f≠none->Eb K H t ins L s f->Eb K H' t ins L (Lpd.sput s r c) f)->Q .non H'
noncomputable def mvr(L:Lpd)(s:Nat->Nat)(c r i:Nat):List Int:=(ofF (L.m+2) λk=>((L.keptL s i).getD k 0*L.T s r (L.cv c)-(L.keptL s r).getD k 0*L.T s i (L.cv c)).fdiv (L.D s))
noncomputable def jXU(t A mv g:Addr)(c r:Nat)(L:Lpd)(s:Nat->Nat)(u:Hp):Nat->St->Hp->Prop:=λi Z U=>∃M J qs,Z=[some (.ref t),some (.int c),some (.ref A),some (.int r),some (.int (L.D s)),some (.ref g),some (.ref mv),M,J]/\aP u U/\U mv=some (.lst (List.map V.ref qs))/\eG U qs (ofF i (mvr L s c r))/\(∀x∈qs,u x=none)/\mv∉qs
noncomputable def lU(K:aO):TS:=(cD (cU (aE 5) (Qb (aE 6) (aE 3) Br)) (cD (xQ K (aE 0) (aE 6) "kept") (cU (aE 1) (Qb (gK K (aE 0) "inside") (aE 3) Br))))
noncomputable def qB(K:aO):TE:=(tOp kT (tOp lA (tOp eU (aE 0) (tOp (gJ K) (aE 4) (aE 5))) (tOp eU (aE 1) (aE 3))) (aE 2))
noncomputable def qA(K:aO):TG:=(jN K 2 (eF (aZ 0) (eF (aZ 1) jO)))
noncomputable def qC(K:aO):TS:=(oX (tBM K "list" Uz (aE 6) (aH (gW (mU K (aH (aE 7) (aH (aE 5) bE))) 2 [4,8,2,3] (qA K) (qB K)) bE)))
noncomputable def lV(K:aO):TG:=(jN K 2 (eF (aZ 7) (eF (aZ 8) jO)))
noncomputable def pZ(K:aO):TS:=(cD (cU (mS bE) (aZ 6)) (cD (gA (mU K (aH (gK K (aE 0) "kept") (aH (aE 2) bE))) (lV K) (qC K)) (lU K)))
noncomputable def oM(K:aO):TS:=(cD (cU (eX (eE K "Corner") "bottom" (iS K) [] E0 (aE 0) bE) (aZ 4)) (cD (cU (tOp (gJ K) (gK K (aE 0) "kept") (aE 3)) (aZ 5)) (pZ K)))
theorem mvr_eq{L:Lpd}(ok:L.Okn s){r:Nat}(hr:r<L.m)(hi:i<=L.m)(O:i≠r):mvr L s c r i=L.keptL (Lpd.sput s r c) i:=by
 have K:=ok.ne
 have key:∀y,(L.T s i y*L.T s r (L.cv c)-L.T s r y*L.T s i (L.cv c)).fdiv (L.D s)=L.T (Lpd.sput s r c) i y:=λy=>by
  rw[←ok.exch (c:=c) hr #[] O y]
  exact Int.mul_fdiv_cancel_left _ #[]
 apply List.ext_getElem?
 intro k
 unfold mvr
 by_cases hk:k<=L.m
 ·rw[fK _ #[],L.keptL_get _ _ hk,iF (L.keptL_get s i hk),iF (L.keptL_get s r hk),key]
 ·by_cases a:k=L.m+1
  ·subst a
   rw[fK _ #[],L.keptL_last,iF (L.keptL_last s i),iF (L.keptL_last s r),key]
  ·rw[cM (by rw[bH];omega),cM (by rw[Lpd.keptL_length];omega)]
theorem mvr_all{L:Lpd}(ok:L.Okn s){r:Nat}(hr:r<L.m):(ofF (L.m+1) (mvr L s c r)).set r (L.keptL s r)=ofF (L.m+1) (L.keptL (Lpd.sput s r c)):=by
 apply List.ext_getElem?
 intro k
 rw[getElem?_set]
 by_cases hk:k<L.m+1
 ·rw[fK (L.keptL (Lpd.sput s r c)) hk]
  by_cases e:r=k
  ·subst e
   rw[aJ rfl,aJ (by rw[bH];omega)]
   congr 1
   unfold Lpd.keptL
   rw[Lpd.Ok.same hr,jB λk _=>(Lpd.Ok.same (L:=L) (s:=s) (c:=c) hr (e1 k)).symm]
  ·rw[aF e,fK _ hk,mvr_eq ok hr #[] (Ne.symm e)]
 ·rw[cM (l:=ofF (L.m+1) (L.keptL (Lpd.sput s r c))) (by rw[bH];omega)]
  by_cases e:r=k
  ·omega
  ·rw[aF e,cM (by rw[bH];omega)]
theorem Gn{K vs H Q E}(C:xP K)(h:kX K vs H Q E):oM K (eQ Q) (start vE vs) H:=by
 obtain⟨t,ins,L,s,nl,c,r,rfl,ca,lim,ok,b0,hr,q⟩:=h
 obtain⟨dx,b,sp,k,bs,ss,ks,P⟩:=id ca
 have kl:=P.kl
 have m1:=lim.m1
 have il:(L.insL s).length=L.m:=by unfold Lpd.insL;rw[bH]
 have d4:(L.numL s c).length=L.m+1:=by unfold Lpd.numL;rw[bH]
 obtain⟨g,hg,c3,a6⟩:=P.row (i:=r) #[]
 rw[show start vE [V.ref t,V.int c,V.ref nl,V.int r]=[some (.ref t),some (.int c),some (.ref nl),some (.int r),none,none,none,none,none]from rfl]
 (dsimp?[oM,gK,eX])
 refine#[_,_,P.ob,rfl,_,_,_,_,rfl,ca,_,_,_,P.ob,C.cl,C.nk,_,jT _ _ _ _,_,rfl,_,SqL.of P.Kp,_,c3,?_]
 (dsimp?[pZ,gK,gA,mU])
 refine#[sz0,λmv a0=>?_]
 have O:=aP.upd (o:=HO.lst []) a0
 have b4:(upd H mv (.lst [])) mv=some (.lst []):=aI
 generalize e1:upd H mv (.lst [])=S at O b4
 refine#[_,_,_,O _ _ P.ob,C.cl,C.nk,_,jT _ _ _ _,_,rfl,#[_,O.seq (SqL.of P.Kp)],#[_,O.seq (SqL.of b0)],for_zip (K:=K) (a:=k) (b:=nl) (xs:=List.map V.ref ks) (ys:=List.map V.int (L.numL s c)) (g:=lV K) (D:={ nx:=lU K (eQ Q),rt:=Q }) (jXU t nl mv g c r L s H) ?_ ?_ ?_ ?_ ?_]
 ·exact#[none,none,[],rfl,O,b4,trivial,(λ_ h=>nomatch h),(λh=>nomatch h)]
 ·rintro i Z U _ ⟨_,_,_,_,s3,_⟩
  exact#[s3.seq (SqL.of P.Kp),s3.seq (SqL.of b0)]
 ·rw[aA,aA];omega
 ·rintro i x y p Z U hx d ⟨M,J,qs,rfl,s3,b3,a2,a4,a7⟩ hp
  obtain⟨z,rfl,A⟩:=eR hx
  obtain⟨v,rfl,hv⟩:=fQ d
  obtain⟨row,er,B⟩:=P.Ks.get A
  obtain⟨d5,rfl⟩:=fR er
  obtain⟨_,rfl⟩:=fR hv
  have I:=aP.upd (o:=HO.tup [.ref z,.int (L.T s i (L.cv c))]) hp
  (dsimp![lV,qC,oX,tBM,Uz,gW,mU,aZ,aE,aH,bE,jN,eF,jO])
  refine#[_,SqT.of aI,rfl,_,_,rfl,_,_,rfl,rfl,?_]
  have a8:=I _ _ b3
  have b5:=a2.same I
  generalize upd U p (.tup [.ref z,.int (L.T s i (L.cv c))])=G at I a8 b5
  have a1:=s3.trans I
  have bD:=lim.bD s ok
  have D0:=ok.ne
  have br:=lim.bc s r c ok #[]
  have bi:=lim.bc s i c ok #[]
  refine#[.inl #[rfl,_,SqL.of a8],_,rfl,#[_,a1.seq (SqL.of B)],#[_,a1.seq (SqL.of a6)],lN (K:=K) (a:=z) (b:=g) (xs:=List.map V.int (L.keptL s i)) (ys:=List.map V.int (L.keptL s r)) (λj N H5=>aP G H5/\N=List.map V.int (ofF j λk=>((L.keptL s i).getD k 0*L.T s r (L.cv c)-(L.keptL s r).getD k 0*L.T s i (L.cv c)).fdiv (L.D s))) ?_ ?_ #[aP.refl _,rfl] ?_ ?_ ?_]
  ·rw[aA,Lpd.keptL_length,sizeLine_eq];omega
  ·rw[aA,aA,Lpd.keptL_length,Lpd.keptL_length]
  ·rintro j N H5 _ ⟨X,_⟩
   exact#[(a1.trans X).seq (SqL.of B),(a1.trans X).seq (SqL.of a6)]
  ·rintro j x y pp N H5 hx d _ ⟨X,rfl⟩ c4 os ho
   obtain⟨u,rfl,R⟩:=fQ hx
   obtain⟨w,rfl,hw⟩:=fQ d
   obtain⟨q1,q2,rfl⟩:∃M J,os=[M,J]:=by
    match os,ho with
    | [M,J],_=>exact#[M,J,rfl]
   have s6:=aP.upd (o:=HO.tup [.int u,.int w]) c4
   have bu:=lim.kept ok (show i<=L.m by omega) u (aL R)
   have bw:=lim.kept ok (show r<=L.m by omega) w (aL hw)
   have eu:=iF R
   have ew:=iF hw
   (dsimp![qA,qB,cL,bR,cK,bF,aZ,aE,tOp,rI0,rI,lA,eU,kT,gJ,jN,eF,jO,Lca,Lna])
   refine#[_,SqT.of aI,rfl,_,_,rfl,_,_,rfl,rfl,#[[some (.int u),some (.int w)],rfl,rfl],?_]
   refine#[_,((a1.trans X).trans s6).seq (SqL.of b0),_,gM (j:=r) (v:=V.int (L.T s r (L.cv c))) (by rw[aY];unfold Lpd.numL;rw[fK _ #[]];rfl),?_]
   refine#[_,rfl,_,rfl,.b bu br,_,rfl,.b bw bi,#[#[],bD],X.trans s6,?_]
   rw[fL,aX,eu,ew];rfl
  ·rintro N H5 _ ⟨X,rfl⟩ l Y
   rw[aA,Lpd.keptL_length]at*
   have s6:=aP.upd (o:=HO.lst (List.map V.int (mvr L s c r i))) Y
   have c5:(upd H5 l (.lst (List.map V.int (mvr L s c r i)))) l=some (.lst (List.map V.int (mvr L s c r i))):=aI
   have c6:=s6 _ _ (X _ _ a8)
   have c7:=b5.same (X.trans s6)
   have c8:=a1.trans (X.trans s6)
   have c9:H l=none:=(a1.trans X).free Y
   have b7:l≠mv:=λe=>by rw[e,X _ _ a8]at Y;cases Y
   show ∃x,upd H5 l (.lst (List.map V.int (mvr L s c r i))) mv=some (HO.lst x)/\x.length<sizeLine/\jXU t nl mv g c r L s H (i+1) _ (upd (upd H5 l (.lst (List.map V.int (mvr L s c r i)))) mv (HO.lst (x++[V.ref l])))
   generalize upd H5 l (.lst (List.map V.int (mvr L s c r i)))=H6 at*
   refine#[_,c6,by rw[aA,a2.length,bH,sizeLine_eq];omega,_,_,qs++[l],rfl,c8.put a0,?_,?_,λx hx=>?_,λhx=>?_]
   ·rw[aI,aX];rfl
   ·refine eG.put ?_ ?_
    ·intro hx
     rcases cR.mp hx with hx |hx
     ·exact a7 hx
     ·exact b7 (bX.mp hx).symm
    ·rw[fL]
     exact eG.snoc c7 c5
   ·rcases cR.mp hx with hx |hx
    ·exact a4 x hx
    ·rw[bX.mp hx];exact c9
   ·rcases cR.mp hx with hx |hx
    ·exact a7 hx
    ·exact b7 (bX.mp hx).symm
 ·rintro Z U ⟨M,J,qs,rfl,s3,b3,a2,a4,a7⟩
  rw[aA,kl]at a2
  (dsimp![lU,Qb,Br,xQ,gK,cD,cU,aE])
  have d0:qs.length=L.m+1:=by rw[a2.length,bH]
  have d1:t≠mv:=dE P.ob a0
  have d2:ins≠mv:=dE P.hi a0
  have b8:t≠ins:=kU P.ob P.hi (by intro z;cases z)
  have a3:mn t ins H g=some (.lst (List.map V.int (L.keptL s r))):=by
   obtain⟨_,e1,e2⟩:=P.hks.get hg
   obtain⟨_,rfl⟩:=fR e1
   exact e2
  have b9:g≠t/\g≠ins:=by
   constructor
   ·rintro rfl;unfold mn at a3;rw[aJ (.inl rfl)]at a3;cases a3
   ·rintro rfl;unfold mn at a3;rw[aJ (.inr rfl)]at a3;cases a3
  have d3:mv≠g:=λe=>by rw[e,a6]at a0;cases a0
  have c1:(List.map V.ref qs).set r (V.ref g)=List.map V.ref (qs.set r g):=by rw[List.map_set]
  have I:aP H (upd U mv (.lst (List.map V.ref (qs.set r g)))):=s3.put a0
  have a5:eG (upd U mv (.lst (List.map V.ref (qs.set r g)))) (qs.set r g) (ofF (L.m+1) (L.keptL (Lpd.sput s r c))):=by
   rw[←mvr_all ok hr]
   refine eG.put (λhx=>?_) (eG.setr (s3 _ _ a6) r a2)
   rcases mem_or_eq_of_mem_set hx with hx |hx
   ·exact a7 hx
   ·exact d3 hx
  have a9:(upd U mv (.lst (List.map V.ref (qs.set r g)))) mv=some (.lst (List.map V.ref (qs.set r g))):=aI
  refine#[_,b3,_,by rw[aA,d0];exact Ek #[] #[],?_]
  rw[dA,c1]
  generalize upd U mv (.lst (List.map V.ref (qs.set r g)))=G at I a5 a9
  refine#[_,_,_,I _ _ P.ob,C.cl,C.nk,by show 4<1000;decide,_,_,_,aI,C.cl,C.ni,_,oC b sp mv ins,_,rfl,_,(by rw[bY b8.symm];exact I _ _ P.hi),_,(by rw[aA,il];exact Ek #[] #[]),?_]
  rw[dA,jXm]
  have em:∀o o',mn t ins (upd (upd G t o) ins o')=mn t ins G:=λo o'=>by rw[nY (.inr rfl),nY (.inl rfl)]
  have n:aP (mn t ins H) (mn t ins G):=iO I
  have P5:nV K (upd (upd G t (.ins (eE K "Corner") dx (cfl b sp mv ins))) ins (.lst ((List.map V.int (L.insL s)).set r (V.int c)))) t ins L (Lpd.sput s r c) dx b sp mv bs ss (qs.set r g):=by
   refine#[?_,?_,?_,?_,P.sl,P.sb,?_,?_,?_]
   ·rw[bY b8,aI]
   ·rw[em];exact n _ _ P.hb
   ·rw[em];exact P.hbs.same n
   ·rw[em];exact n _ _ P.hs
   ·rw[em];exact xU a9 d1.symm d2.symm
   ·rw[em]
    refine a5.mn (λhx=>?_) (λhx=>?_)
    ·rcases mem_or_eq_of_mem_set hx with hx |hx
     ·have:=a4 _ hx;rw[P.ob]at this;cases this
     ·exact b9.1 hx.symm
    ·rcases mem_or_eq_of_mem_set hx with hx |hx
     ·have:=a4 _ hx;rw[P.hi]at this;cases this
     ·exact b9.2 hx.symm
   ·rw[aI,←List.map_set]
    unfold Lpd.insL
    rw[ofF_set]
    congr 3
    refine jB λk _=>?_
    unfold Lpd.sput
    split<;>rfl
  refine q _ (by rw[em];exact n) #[_,_,_,_,_,_,_,P5] λf c2 F=>?_
  obtain⟨n1,n2,n3,n4,n5⟩:=F.of P
  refine#[_,_,_,_,_,_,_,P5,n1,n2,λe=>c2 (by rw[e];exact a0),n4,λhx=>?_]
  rcases mem_or_eq_of_mem_set hx with hx |hx
  ·exact c2 (a4 _ hx)
  ·exact n5 (by rw[hx];exact aL hg)
noncomputable def Jx:List PySem.Str:=["corner","column","numbers","at"]
noncomputable def qF(K:aO):Sp:=λvs H Q _=>∃t ins L s,vs=[.ref t]/\iR K H t ins L s/\L.Lim/\L.Okx s/\kC L s/\
 ∀o U H',aP (mn t ins H) (mn t ins H')->iR K H' t ins L U->L.Okx U->kC L U->UnO L U o->Q (oV o) H'
noncomputable def El(K:aO)(t ins:Addr)(L:Lpd)(u:Hp)(Z:St)(U:Hp)(s:Nat->Nat)(o:Option Nat):Prop:=(∃M J,Z=[some (.ref t),some (oV o),M,J])/\aP (mn t ins u) (mn t ins U)/\iR K U t ins L s/\L.Okx s/\kC L s/\EntO L s (L.n+L.m) o
open Classical in
noncomputable def mu_un(K:aO)(t ins:Addr)(L:Lpd)(H0:Hp)(σ:St)(H3:Hp):Nat:=if h:∃s,∃o,El K t ins L H0 σ H3 s o then L.mu (Classical.choose h)else 0
noncomputable def qW(K:aO):TS:=(cP (tC .non))
noncomputable def qX(K:aO):TS:=(cD (cU (eX (eE K "Corner") "numbers" (iI K) [] E0 (aE 0) (aH (aE 1) bE)) (aZ 2)) (cD (cU (eX (eE K "Corner") "leaving_by" (jI K) [] E0 (aE 0) (aH (aE 2) bE)) (aZ 3)) (cD (fU (cY (tOp Kh (aE 3) (tC .non))) (cP (aE 1)) eO) (cD (oX (eX (eE K "Corner") "step_in" (kX K) [] E0 (aE 0) (aH (aE 1) (aH (aE 2) (aH (aE 3) bE))))) (cU (eX (eE K "Corner") "entering" (iX K) [] E0 (aE 0) bE) (aZ 1))))))
noncomputable def yQ(K:aO):TS:=(cD (cU (eX (eE K "Corner") "entering" (iX K) [] E0 (aE 0) bE) (aZ 1)) (cD (xZ (cY (tOp Wo (aE 1) (tC .non))) (qX K)) (qW K)))
theorem jW2{L:Lpd}(h:L.insL s=L.insL U)(hi:i<L.m):s i=U i:=by
 unfold Lpd.insL at h
 have h1:=fK (λi=>(s i:Int)) hi
 rw[h,fK (λi=>(U i:Int)) hi]at h1
 have:=aV h1
 omega
theorem jX0{L:Lpd}(h:∀i,i<L.m->s i=U i):L.B s=L.B U:=by
 funext i
 unfold Lpd.B
 by_cases hi:i<L.m
 ·rw[aJ hi,aJ hi,h i hi]
 ·rw[aF hi,aF hi]
theorem Xh{L:Lpd}(h:∀i,i<L.m->s i=U i):L.mu s=L.mu U:=by
 have e:=jX0 h
 unfold Lpd.mu Lpd.Fur Lpd.T Lpd.D
 rw[e]
theorem iR.ins_eq{t ins:Addr}{L:Lpd}(h:iR K H t ins L s)(h':iR K H t ins L U):∀i,i<L.m->s i=U i:=λi hi=>by
 obtain⟨_,_,_,_,_,_,_,P⟩:=h
 obtain⟨_,_,_,_,_,_,_,c⟩:=h'
 have e:=P.hi.symm.trans c.hi
 injection e with e
 injection e with e
 exact jW2 (List.map_inj_right (λa b h=>by injection h)|>.mp e) hi
theorem Xg{t ins:Addr}{L:Lpd}{u:Hp}{Z:St}{U:Hp}{o:Option Nat}(h:El K t ins L u Z U s o):mu_un K t ins L u Z U=L.mu s:=by
 unfold mu_un
 have hx:∃s,∃o,El K t ins L u Z U s o:=#[s,o,h]
 rw[dif_pos hx]
 obtain⟨g,M⟩:=Classical.choose_spec hx
 exact Xh (M.2.2.1.ins_eq h.2.2.1)
theorem mu_step{L:Lpd}(o:L.Okx s)(g:L.Okx U)(hs:kC L U)(h:L.Fur s U):L.mu U<L.mu s:=by
 have e:∀i,i<L.m->U i=Lpd.sf (ofF L.m U) i:=λi hi=>by
  unfold Lpd.sf
  rw[aR,fK _ hi];rfl
 rw[Xh e]
 have a:=jX0 e
 have b:L.D U=L.D (Lpd.sf (ofF L.m U)):=by unfold Lpd.D;rw[a]
 refine Lpd.mu_lt o.pos (b▸g.pos) (bH _ _) (λc hc=>?_) ?_
 ·obtain⟨k,hk,rfl⟩:=kW hc
  exact hs k hk
 ·unfold Lpd.Fur Lpd.T Lpd.D at h⊢
  rw[←a];exact h
theorem Vn{K}:RdS K qF yQ Jx:=by
 intro vs H Q E h
 obtain⟨t,ins,L,s,rfl,ca,lim,ok,io,q⟩:=h
 obtain⟨f,b,sp,k,bs,ss,ks,P⟩:=id ca
 rw[show start Jx [V.ref t]=[some (.ref t),none,none,none]from rfl]
 (dsimp![yQ,eX,cD,cU,aZ,aE,bE,bZ])
 refine#[_,_,P.ob,rfl,_,_,_,_,rfl,ca,lim,ok.n,λo S O en=>?_]
 refine Mm (λZ d=>∃s o,El K t ins L H Z d s o) (mu_un K t ins L H) #[s,o,#[_,_,rfl],iO O,ca.same O,ok,io,en] ?_ ?_
 ·rintro Z U ⟨s3,o3,l⟩
  have a5:=Xg l
  rw[a5]
  obtain⟨⟨q1,J,rfl⟩,a1,a,B,z,p⟩:=l
  (dsimp![Wo,aE,tC,tOp,cY])
  cases o3 with
  |none=>
   (try dsimp only[qW,tC,cP,fG,fH,fF];try simp only[oV,decide_true,Bool.not_true,Bool.false_eq_true,if_false,qW,tC,cP,Option.some.injEq,exists_eq_left',exists_eq_left,V.int.injEq,V.ref.injEq,V.bl.injEq,List.cons.injEq,and_true,true_and,exists_and_left,and_assoc,fG,fH,fF,gX,kD,iK])
   exact q none s3 U a1 a B z p
  |some c=>
   (try dsimp only[qX,eX,Kh,oX,cD,cU,aZ,aE,tC,tOp,cP,fU,cY,eO,aH,bE,Lq0,Lq1,Ls0,Ls1,fG,fH,fF];try simp only[oV,reduceCtorEq,decide_false,Bool.not_false,if_true,qX,eX,Kh,oX,cD,cU,aZ,aE,tC,tOp,cP,fU,cY,eO,aH,bE,Lq0,Lq1,Ls0,Ls1,Option.some.injEq,exists_eq_left',V.ref.injEq,V.bl.injEq,true_and,bZ,exists_and_left,cN,exists_eq_left,V.int.injEq,List.cons.injEq,and_true,and_assoc,fG,fH,fF,gX,kD,iK])
   obtain⟨a9,R,b0,k3,b4,b5,b7,M⟩:=id a
   refine#[_,_,M.ob,rfl,_,_,_,_,_,rfl,a,lim,B.n,p.1,λA G I N g=>?_]
   refine#[_,_,(M.same I).ob,rfl,_,_,_,_,_,_,rfl,a.same I,lim,B.n,g,λo5 w X Y=>?_]
   have T:aP (mn t ins H) (mn t ins w):=a1.trans (iO (I.trans X))
   have a2:=a.same (I.trans X)
   cases o5 with
   |none=>
    simp only[oV,if_true,exists_eq_left',V.int.injEq,Option.some.injEq,exists_eq_left,V.ref.injEq,V.bl.injEq,List.cons.injEq,and_true,true_and,exists_and_left,and_assoc,fG,fH,fF,gX,kD,iK]
    exact q (some c) s3 w T a2 B z #[p.1,p.2,λi hi=>Y i #[]]
   |some r=>
    obtain⟨hr,hp,F⟩:=Y
    have j:r<L.m:=by
     have:=p.2
     rcases Nat.lt_or_ge r L.m with h |h
     ·exact h
     ·have:r=L.m:=#[]
      subst this;omega
    have x:=B.step j hp λi hi D=>F i #[] D
    have a3:kC L (Lpd.sput s3 r c):=λi hi=>by
     unfold Lpd.sput;split
     ·exact p.1
     ·exact z i hi
    have a6:=B.further (r:=r) (c:=c) j p.2
    simp only[oV,reduceCtorEq,if_false,exists_eq_left',V.int.injEq,Option.some.injEq,exists_eq_left,V.ref.injEq,V.bl.injEq,List.cons.injEq,and_true,true_and,exists_and_left,and_assoc,fG,fH,fF,gX,kD,iK]
    refine#[_,_,(M.same (I.trans X)).ob,rfl,_,_,_,_,_,_,_,rfl,a2,lim,B.n,X _ _ g,j,λC a7 a0 _=>?_]
    obtain⟨b8,b6,b9,k6,c1,c2,c3,P6⟩:=id a0
    refine#[_,_,P6.ob,rfl,_,_,_,_,rfl,a0,lim,x.n,λo7 H7 u a8=>?_]
    have a4:El K t ins L H [some (.ref t),some (oV o7),some (.ref A),some (.int r)] H7 (Lpd.sput s3 r c) o7:=#[#[_,_,rfl],(T.trans a7).trans (iO u),a0.same u,x,a3,a8]
    refine#[#[_,_,a4],?_]
    rw[Xg a4]
    exact mu_step B x a3 a6
 ·intro Z d Q1 Q2 y h
  dsimp only[cY,tOp,tUn,Wo]at h⊢
  first
  | (obtain⟨v,hv,hx,e⟩:=Aj h
     exact Ai hv #[hx,y _ _ e])
  | (obtain⟨v,hv,hx,b,hb,e⟩:=Aj h
     exact Ai hv #[hx,b,hb,y _ _ e])
noncomputable def Af:List PySem.Str:=["row"]
noncomputable def mF(K:aO):Sp:=λvs H Q _=>∃a ns,vs=[.ref a]/\SqL K H a (List.map V.int ns)/\ns.length<=200/\∀l H',aP H H'->H l=none->H' l=some (.lst (List.map V.int (ns.map λx=>-x)))->Q (.ref l) H'
noncomputable def sL(K:aO):TE:=(tUn iE (aE 0))
noncomputable def qY(K:aO):TS:=(cP (dN (dC K (aE 0)) [] (sL K)))
theorem Kk{K}:RdS K mF qY Af:=by
 intro m H Q E h
 obtain⟨a,ns,rfl,ha,A,q⟩:=h
 rw[show start Af [V.ref a]=[some (.ref a)]from rfl]
 (dsimp?[qY,dN,dC])
 refine#[#[_,ha],eP (K:=K) (a:=a) (xs:=List.map V.int ns) (λi N U=>U=H/\N=List.map V.int ((ns.take i).map λx=>-x)) (by rw[aA,sizeLine_eq];omega) #[rfl,rfl] ?_ ?_ ?_]
 ·rintro i N U _ ⟨rfl,_⟩
  exact ha
 ·rintro i x N U hi _ ⟨rfl,rfl⟩
  obtain⟨n,rfl,R⟩:=fQ hi
  (dsimp?[sL])
  rw[dH R,aX,aX];rfl
 ·rintro N U _ ⟨rfl,rfl⟩ p hp
  rw[aA,cA]
  exact q p _ (aP.upd hp) hp aI
noncomputable def sP:List PySem.Str:=["self","inside","first","free","column","numbers","places"]
noncomputable def mN(K:aO):Sp:=λvs H Q _=>∃t ins L g,∃p:List Nat,vs=[.ref t,.ref g]/\iR K H t ins L L.ins0/\L.Lim/\L.fl=false/\1<=L.m/\mn t ins H g=some (.lst (List.map V.int (p.map λc:Nat=>(c:Int))))/\p.length=L.m/\
 (∀H',aP (mn t ins H) (mn t ins H')->Q (.bl false) H')/\
 ∀e s H',(e=L∨e=L.flip)->aP (mn t ins H) (mn t ins H')->iR K H' t ins e s->e.Ok s->kC e s->Q (.bl true) H'
noncomputable def lJ(K:aO):TS:=(cP (tOp Tn (tCB (Lr K) (aH (cB (kH K) [] E0 (aH (tSl (xL K) (gK K (aE 0) "kept") hU (lY (tUn iE (tC (.int 1))))) (aH (tUn iE (tC (.int 1))) bE))) bE)) (tC (.int 0))))
noncomputable def pO(K:aO):TE:=(cB (mF K) [] E0 (aH (aE 0) bE))
noncomputable def iC(K:aO):TS:=(cD (fU (cY (tOp kK (eX (eE K "Corner") "bottom" (iS K) [] E0 (aE 0) bE) (tC (.int 0)))) (xQ K (aE 0) (dN (dC K (gK K (aE 0) "kept")) [] (pO K)) "kept") eO) (lJ K))
noncomputable def pN(K:aO):TE:=(aE 0)
noncomputable def lH(K:aO):TS:=(cD (oX (eX (eE K "Corner") "step_in" (kX K) [] E0 (aE 0) (aH (aE 4) (aH (aE 5) (aH (tOp (gJ K) (aE 6) (tC (.int 0))) bE))))) (oX (tBM K "list" Kx (aE 3) (aH (tOp (gJ K) (aE 6) (tC (.int 0))) bE))))
noncomputable def pL(K:aO):TS:=(cD (fU (vG (tTru K (aE 6))) (cP (tC (.bl false))) eO) (lH K))
noncomputable def pM(K:aO):TE:=(aE 0)
noncomputable def pK(K:aO):TS:=(cD (cU (jZ (dC K (aE 3)) [5] (cY (tOp rNe (tOp (gJ K) (aE 1) (aE 0)) (tC (.int 0)))) (pM K)) (aZ 6)) (pL K))
noncomputable def iD(K:aO):TS:=(cD (cU (eX (eE K "Corner") "numbers" (iI K) [] E0 (aE 0) (aH (aE 4) bE)) (aZ 5)) (pK K))
noncomputable def pJ(K:aO):TS:=(cD (gA (dC K (jZ (dC K (aE 1)) [2] (cY (tOp kK (aE 0) (aE 1))) (pN K))) (aZ 4) (iD K)) (iC K))
noncomputable def lK(K:aO):TE:=(aE 0)
noncomputable def pI(K:aO):TS:=(cD (cU (jZ (gT (aH (tCB (jD K) (aH (aE 1) bE)) bE)) [1,2] (cY (tOp (rIn K true) (tOp iQ (aE 2) (aE 0)) (aE 1))) (lK K)) (aZ 3)) (pJ K))
noncomputable def nS(K:aO):TS:=(cD (cU (tCB (jD K) (aH (gK K (aE 0) "begun") bE)) (aZ 2)) (pI K))
theorem eG.take:∀{ps:List Addr}{X:List (List Int)}(i:Nat),eG H ps X->eG H (ps.take i) (X.take i)
 |_,_,0,_=>trivial
 | [],[],_+1,_=>trivial
 |_::_,_::_,i+1,h=>#[h.1,eG.take i h.2]
 | [],_::_,_,h=>h.elim
 |_::_,[],_,h=>h.elim
theorem jWp{n:Nat}{f:Nat->d}(h:i<=n):(ofF n f).take i=ofF i f:=by
 unfold ofF;rw[←map_take,List.take_range,Nat.min_eq_left h]
theorem jZ9{c:Type}{n:Nat}{f:Nat->d}{g:d->c}:(ofF n f).map g=ofF n λk=>g (f k):=by unfold ofF;rw[List.map_map];rfl
theorem Jn(C:xP K){t ins:Addr}{L:Lpd}{h v n q R:Option V}(ca:iR K G t ins L s)(lim:L.Lim)(m1:1<=L.m)
  (u:∀d,aP G d->Q (.bl false) d) (X:∀d,aP G d->(∀i,i<L.m->0<=L.T s i L.be)->Q (.bl true) d):
  lJ K (eQ Q) [some (.ref t),h,J,v,n,q,R] G:=by
 obtain⟨f,b,Z,k,bs,x,ks,P⟩:=ca
 have kl:=P.kl
 have D:=lim.m1
 (dsimp?[lJ,gK,xL,Lr])
 refine#[_,_,_,P.ob,C.cl,C.nk,_,jT b Z k ins,k,rfl,_,SqL.of P.Kp,λz A=>?_]
 have p:qL (List.map V.ref ks) none (some (-1))=List.map V.ref (ks.take L.m):=by rw[Fa,aA,kl,Nat.add_sub_cancel,map_take]
 rw[p]
 have hks:eG G (ks.take L.m) (ofF L.m (L.keptL s)):=by have:=P.Ks.take L.m;rwa [jWp (Nat.le_succ _)]at this
 refine#[z,_,_,-1,L.m+1,rfl,SqL.of aI,hks.same (aP.upd A),by rw[bH];omega,λr hr=>?_,λl S O Y g=>?_]
 ·obtain⟨i,hi,rfl⟩:=kW hr
  rw[iF (L.keptL_last s i)]
  exact qS (by rw[aA,Lpd.keptL_length,aY,show L.m+2-1=L.m+1 by omega,L.keptL_last];rfl)
 ·have a:=(aP.upd (o:=HO.lst (List.map V.ref (ks.take L.m))) A).trans O
  rw[jZ9,jB λi _=>iF (L.keptL_last s i)]at g
  refine#[l,rfl,_,SqL.of g,λe=>?_,λM j w=>?_]
  ·have:=congrArg List.length e
   rw[bH]at this
   simp at this;omega
  ·by_cases c:0<=M
   ·rw[decide_eq_true c]
    refine X S a λi hi=>?_
    have:=w _ (aL (fK (λi=>L.T s i L.be) hi))
    omega
   ·rw[decide_eq_false c]
    exact u S a
theorem Yl(C:xP K){t ins:Addr}{L:Lpd}{M o2 v r q o6:Option V}(ca:iR K G t ins L s)(lim:L.Lim)(m1:1<=L.m)(ok:L.Okn s)(io:kC L s)
  (u:∀d,aP (mn t ins G) (mn t ins d)->Q (.bl false) d) (X:∀e d,(e=L∨e=L.flip)->aP (mn t ins G) (mn t ins d)->iR K d t ins e s->e.Ok s->kC e s->Q (.bl true) d):
  iC K (eQ Q) [some (.ref t),M,o2,v,r,q,o6] G:=by
 obtain⟨f,b,Z,k,bs,ss,ks,P⟩:=id ca
 have kl:=P.kl
 have ml:=lim.m1
 have H:t≠ins:=kU P.ob P.hi (by intro z;cases z)
 have R:=ok.ne
 (dsimp?[iC,eX,dN,dC,xQ,gK];try simp_arith[iC,eX,dN,dC,xQ,gK,if_true])
 refine#[_,_,P.ob,rfl,t,ins,L,s,rfl,ca,_,rfl,mT (λhD=>?_) (λhD=>?_)]
 ·refine#[_,_,_,P.ob,C.cl,C.nk,_,jT b Z k ins,k,rfl,#[_,SqL.of P.Kp],eP (K:=K) (a:=k) (xs:=List.map V.ref ks) (λi N U=>aP G U/\∃qs,N=List.map V.ref qs/\eG U qs (ofF i (L.flip.keptL s))/\∀x∈qs,G x=none) ?_ #[aP.refl _,[],rfl,trivial,(λ_ h=>nomatch h)] ?_ ?_ ?_]
  ·rw[aA,kl,sizeLine_eq];omega
  ·rintro i N U _ ⟨s3,_⟩
   exact SqL.of (s3 _ _ P.Kp)
  ·rintro i x N U hi _ ⟨s3,qs,rfl,J,O⟩
   obtain⟨z,rfl,A⟩:=eR hi
   obtain⟨row,F,B⟩:=(P.Ks.same s3).get A
   obtain⟨y,rfl⟩:=fR F
   (dsimp?[pO])
   refine#[z,_,rfl,SqL.of B,by rw[Lpd.keptL_length];omega,λl H4 I Y a0=>#[s3.trans I,qs++[l],by rw[aX];rfl,?_,λx hx=>?_]]
   ·rw[fL]
    exact eG.snoc (J.same I) (by rw[a0,L.flip_kept])
   ·rcases cR.mp hx with hx |hx
    ·exact O x hx
    ·rw[bX.mp hx];exact s3.free Y
  ·rintro N U _ ⟨s3,qs,rfl,J,O⟩ p hp
   rw[aA,kl]at J
   have I:=s3.trans (aP.upd (o:=HO.lst (List.map V.ref qs)) hp)
   have j:=J.same (aP.upd (o:=HO.lst (List.map V.ref qs)) hp)
   have p4:(upd U p (HO.lst (List.map V.ref qs))) p=some (HO.lst (List.map V.ref qs)):=aI
   have p0:G p=none:=s3.free hp
   generalize upd U p (HO.lst (List.map V.ref qs))=H4 at I j p4
   refine#[_,_,_,I _ _ P.ob,C.cl,C.nk,by show 4<1000;decide,?_]
   rw[jXm]
   have g:∀o,mn t ins (upd H4 t o)=mn t ins H4:=λo=>nY (.inl rfl)
   have n:aP (mn t ins G) (mn t ins H4):=iO I
   have D:iR K (upd H4 t (.ins (eE K "Corner") f (cfl b Z p ins))) t ins L.flip s:=by
    refine#[f,b,Z,p,bs,ss,qs,aI,?_,?_,?_,P.sl,P.sb,?_,?_,?_]
    ·rw[g];exact n _ _ P.hb
    ·rw[g];exact P.hbs.same n
    ·rw[g];exact n _ _ P.hs
    ·rw[g];exact xU p4 (dE P.ob p0).symm (dE P.hi p0).symm
    ·rw[g]
     exact j.mn (λhx=>by have:=O _ hx;rw[P.ob]at this;cases this) (λhx=>by have:=O _ hx;rw[P.hi]at this;cases this)
    ·rw[bY H.symm];exact I _ _ P.hi
   have T:aP (mn t ins G) (mn t ins (upd H4 t (.ins (eE K "Corner") f (cfl b Z p ins)))):=by rw[g];exact n
   generalize upd H4 t (.ins (eE K "Corner") f (cfl b Z p ins))=w at D T
   refine Jn C D lim.flip m1 (λd S=>u d (T.trans (iO S))) λd S c=>X L.flip d (.inr rfl) (T.trans (iO S)) (D.same S) #[?_,ok.cr,c] io
   rw[Lpd.flip_D];omega
 ·refine Jn C ca lim m1 (λd S=>u d (iO S)) λd S c=>X L d (.inl rfl) (iO S) (ca.same S) #[#[],ok.cr,c] io
structure CmAt(K:aO)(H0 H:Hp)(t ins f cl:Addr)(L:Lpd)(s:Nat->Nat)(fr cs:List Nat):Prop where
 sm:aP (mn t ins H0) (mn t ins H)
 ca:Eb K H t ins L s f
 ok:L.Okn s
 io:kC L s
 f0:H0 f=none
 hf:mn t ins H f=some (.lst (List.map V.int (fr.map λi:Nat=>(i:Int))))
 fm:∀x∈fr,x<L.m
 fl:fr.length<=L.m
 hc:mn t ins H cl=some (.lst (List.map V.int (cs.map λi:Nat=>(i:Int))))
 cf:cl≠f
noncomputable def jWz(K:aO)(u:Hp)(t ins g f cl:Addr)(L:Lpd)(cs:List Nat):Nat->St->Hp->Prop:=λ_ Z U=>∃s fr r q R,Z=[some (.ref t),some (.ref g),some (.int L.n),some (.ref f),r,q,R]/\CmAt K u U t ins f cl L s fr cs
theorem Xr:∀{l:List Nat}{r:Nat},r∈l->∃j:Nat,l[j]?=some r/\∀m:Nat,m<j->l[m]?≠some r
 | [],_,h=>nomatch h
 |a::l,r,h=>by
  by_cases e:a=r
  ·exact#[0,by rw[e];rfl,λm hm=>absurd hm (eN _)]
  ·rcases dW.mp h with h |h
   ·exact absurd h.symm e
   ·obtain⟨j,h1,h2⟩:=Xr h
    refine#[j+1,by simpa using h1,λm hm=>?_]
    cases m with
    |zero=>intro z;exact e (by simpa using z)
    |succ m=>have:=h2 m #[];simpa using this
theorem Ve{x:V}(h:(List.map V.int (ns.map λi:Nat=>(i:Int)))[i]?=some x):∃y:Nat,x=.int (y:Int)/\ns[i]?=some y:=by
 rw[aY,aY]at h
 cases e:ns[i]? with
 |none=>rw[e]at h;cases h
 |some y=>rw[e]at h;exact#[y,(aV h).symm,rfl]
theorem Ym{D:rW}{u:Hp}{t ins g f cl:Addr}{L:Lpd}{fr cs:List Nat}{q o6:Option V}(lim:L.Lim)(I:CmAt K u G t ins f cl L s fr cs)(hc:c<L.n)
  (k0:∀d,aP (mn t ins u) (mn t ins d)->D.rt (.bl false) d) (X:∀s' J q o6 d,CmAt K u d t ins f cl L s' J cs->D.nx [some (.ref t),some (.ref g),some (.int L.n),some (.ref f),some (.int c),q,o6] d):
  iD K D [some (.ref t),some (.ref g),some (.int L.n),some (.ref f),some (.int c),q,o6] G:=by
 obtain⟨dx,b,sp,k,bs,v,ks,P⟩:=id I.ca.at
 (dsimp?[iD,eX];try simp_arith[iD,eX,if_true])
 refine#[_,_,P.ob,rfl,t,ins,L,s,c,rfl,I.ca.at,lim,I.ok,#[],λA S O R B=>?_]
 have ml:=lim.m1
 have fl:=I.fl
 have a1:=O _ _ (lM _ _ I.hf)
 (dsimp?[pK,jZ,dC])
 refine#[#[_,SqL.of a1],Dv (K:=K) (a:=f) (xs:=List.map V.int (fr.map λi:Nat=>(i:Int))) (λi N U=>U=S/\∃ps:List Nat,N=List.map V.int (ps.map λi:Nat=>(i:Int))/\∀x∈ps,x∈fr/\L.T s x (L.cv c)≠0) (by rw[aA,aA,sizeLine_eq];omega) #[rfl,[],rfl,(λ_ h=>nomatch h)] ?_ ?_ ?_]
 ·rintro i N U _ ⟨rfl,_⟩
  exact SqL.of a1
 ·rintro i x N U hi _ ⟨rfl,ps,rfl,hp⟩
  obtain⟨y,rfl,hy⟩:=Ve hi
  have ym:=I.fm y (aL hy)
  (dsimp?[pM,cL,bR,cK,bF])
  refine#[_,SqL.of B,V.int (L.T s y (L.cv c)),gM (by rw[aY];unfold Lpd.numL;rw[fK _ #[]];rfl),rfl,?_]
  by_cases h0:L.T s y (L.cv c)=0
  ·rw[decide_eq_true (by rw[h0]:V.int (L.T s y (L.cv c))=V.int 0)]
   exact sQ #[ps,rfl,hp]
  ·rw[decide_eq_false (λz=>h0 (by injection z):¬V.int (L.T s y (L.cv c))=V.int 0)]
   refine iteT #[ps++[y],by rw[aX,aX];rfl,λx hx=>?_]
   rcases cR.mp hx with hx |hx
   ·exact hp x hx
   ·rw[bX.mp hx];exact#[aL hy,h0]
 ·rintro N U ⟨rfl,ps,rfl,hp⟩ p w
  have F:=aP.upd (o:=HO.lst (List.map V.int (ps.map λi:Nat=>(i:Int)))) w
  have Z:(upd U p (HO.lst (List.map V.int (ps.map λi:Nat=>(i:Int))))) p=some (HO.lst (List.map V.int (ps.map λi:Nat=>(i:Int)))):=aI
  generalize upd U p (HO.lst (List.map V.int (ps.map λi:Nat=>(i:Int))))=M at F Z
  have l:=O.trans F
  (dsimp?[pL,tTru])
  refine#[_,.inl #[_,SqL.of Z,rfl],?_]
  cases ps with
  |nil=>exact iteT (k0 M (I.sm.trans (iO l)))
  |cons r pr=>
   obtain⟨rf,Q⟩:=hp r bT
   have rm:=I.fm r rf
   have P2:=P.same l
   refine sQ ?_
   (dsimp?[lH,oX,eX,tBM,Kx];try simp_arith[lH,oX,eX,tBM,Kx,if_true])
   have a2:p≠t/\p≠ins:=#[(dE (O _ _ P.ob) w).symm,(dE (O _ _ P.hi) w).symm]
   have Y:f≠t/\f≠ins:=by
    have hf:=I.hf
    constructor
    ·rintro rfl;unfold mn at hf;rw[aJ (.inl rfl)]at hf;cases hf
    ·rintro rfl;unfold mn at hf;rw[aJ (.inr rfl)]at hf;cases hf
   have pf:p≠f:=λe=>by rw[e,a1]at w;cases w
   have F2:=I.ca.same l
   refine#[_,_,P2.ob,rfl,_,SqL.of Z,V.int r,iU,t,ins,L,s,A,c,r,rfl,F2.at,lim,I.ok,F _ _ B,rm,λH4 a0 a5 ff=>?_]
   have F4:=ff f (by rw[l _ _ (lM _ _ I.hf)];exact λz=>nomatch z) F2
   have C:=a0 _ _ (iO l _ _ I.hf)
   have p4:=a0 _ _ (xU Z a2.1 a2.2)
   have c4:=a0 _ _ (iO l _ _ I.hc)
   obtain⟨j,hj,a3⟩:=Xr rf
   refine#[.inl #[rfl,_,SqL.of (lM _ _ C)],_,SqL.of (lM _ _ p4),V.int r,iU,fr.map λi:Nat=>(i:Int),(r:Int),rfl,lM _ _ C,j,by rw[aY,hj];rfl,λm hm e=>?_,?_]
   ·rw[aY]at e
    cases e2:fr[m]? with
    |none=>rw[e2]at e;cases e
    |some y=>
     rw[e2]at e
     have:(y:Int)=r:=aV e
     exact a3 m hm (by rw[e2];congr 1;omega)
   ·have er:(fr.map λi:Nat=>(i:Int)).eraseIdx j=(fr.eraseIdx j).map λi:Nat=>(i:Int):=(Ug _ _ _).symm
    rw[er]
    have em:=Aq (H:=H4) (o:=HO.lst (List.map V.int ((fr.eraseIdx j).map λi:Nat=>(i:Int)))) Y.1 Y.2
    have a4:mn t ins u f=none:=by unfold mn;rw[aF (λz=>z.elim Y.1 Y.2)];exact I.f0
    refine X (Lpd.sput s r c) (fr.eraseIdx j) _ _ _ #[by rw[em];exact((I.sm.trans (iO l)).trans a0).put a4,F4.upd Y.1 Y.2,I.ok.step rm Q,λi hi=>?_,I.f0,by rw[em,aI],λx hx=>I.fm x (List.mem_of_mem_eraseIdx hx),cO (List.length_eraseIdx_le _ _) I.fl,by rw[em,bY I.cf];exact c4,I.cf]
    unfold Lpd.sput
    split
    ·omega
    ·exact I.io i hi
theorem Dy{K vs H Q E}(C:xP K)(h:mN K vs H Q E):nS K (eQ Q) (start sP vs) H:=by
 obtain⟨t,ins,L,g,p,rfl,ca,lim,fl,m1,hg,gl,k0,X⟩:=h
 obtain⟨dx,b,sp,k,bs,ss,ks,P⟩:=id ca
 have ml:=lim.m1
 rw[show start sP [V.ref t,V.ref g]=[some (.ref t),some (.ref g),none,none,none,none,none]from rfl]
 (dsimp?[nS,gK])
 refine#[_,_,_,P.ob,C.cl,C.nb,_,mQ b sp k ins,b,rfl,_,.inl (SqL.of P.B),?_]
 rw[aA,P.bl]
 (dsimp?[pI,jZ,gT])
 have a0:=lM _ _ hg
 refine#[_,.inl (SqL.of a0),?_]
 rw[aA,aA,gl,dA]
 refine#[#[],#[],jY0 (lo:=0) (W:=λj N d=>d=H/\∃fr:List Nat,N=List.map V.int (fr.map λi:Nat=>(i:Int))/\(∀x∈fr,x<L.m)/\fr.length<=j) (by rw[sizeLine_eq];omega) #[rfl,[],rfl,(λ_ h=>nomatch h),aM _] ?_ ?_]
 ·rintro j N d hj _ ⟨rfl,fr,rfl,fm,a1⟩
  (dsimp?[lK,rIn,cL,bR,cK,bF];try simp_arith[lK,rIn,cL,bR,cK,bF,eJ])
  refine#[_,.inl (SqL.of a0),rfl,?_,?_]
  ·rw[List.all_eq_true]
   intro v hv
   obtain⟨c,_,rfl⟩:=dD.mp hv
   rfl
  ·refine mT (λ_=>#[fr++[j],by rw[aX,aX];rfl,λx hx=>?_,by rw[bC];show fr.length+1<=j+1;omega]) (λ_=>#[fr,rfl,fm,#[]])
   rcases cR.mp hx with hx |hx
   ·exact fm x hx
   ·rw[bX.mp hx];exact hj
 ·rintro N d ⟨rfl,fr,rfl,fm,a1⟩ f hf
  have O:=aP.upd (o:=HO.lst (List.map V.int (fr.map λi:Nat=>(i:Int)))) hf
  have r:(upd d f (HO.lst (List.map V.int (fr.map λi:Nat=>(i:Int))))) f=some (HO.lst (List.map V.int (fr.map λi:Nat=>(i:Int)))):=aI
  generalize upd d f (HO.lst (List.map V.int (fr.map λi:Nat=>(i:Int))))=S at O r
  have z:=O _ _ a0
  (dsimp?[pJ,gA,jZ,dC])
  refine#[#[_,SqL.of z],Dv (K:=K) (a:=g) (xs:=List.map V.int (p.map λi:Nat=>(i:Int))) (λi N U=>U=S/\∃T:List Nat,N=List.map V.int (T.map λi:Nat=>(i:Int))/\∀x∈T,x<L.n) (by rw[aA,aA,sizeLine_eq];omega) #[rfl,[],rfl,(λ_ h=>nomatch h)] ?_ ?_ ?_]
  ·rintro i N U _ ⟨rfl,_⟩
   exact SqL.of z
  ·rintro i x N U hi _ ⟨rfl,T,rfl,hc⟩
   obtain⟨y,rfl,hy⟩:=Ve hi
   (dsimp?[pN,cL,bR,cK,bF])
   by_cases h0:(y:Int)<(L.n:Int)
   ·rw[aJ h0]
    refine#[T++[y],by rw[aX,aX];rfl,λx hx=>?_]
    rcases cR.mp hx with hx |hx
    ·exact hc x hx
    ·rw[bX.mp hx];omega
   ·rw[aF h0]
    exact#[T,rfl,hc]
  ·rintro N U ⟨rfl,T,rfl,hc⟩ cl J
   have F:=aP.upd (o:=HO.lst (List.map V.int (T.map λi:Nat=>(i:Int)))) J
   have c2:(upd U cl (HO.lst (List.map V.int (T.map λi:Nat=>(i:Int))))) cl=some (HO.lst (List.map V.int (T.map λi:Nat=>(i:Int)))):=aI
   have a4:cl≠f:=λe=>by rw[e,r]at J;cases J
   have a2:cl≠t/\cl≠ins:=#[(dE (O _ _ P.ob) J).symm,(dE (O _ _ P.hi) J).symm]
   have a3:f≠t/\f≠ins:=#[(dE P.ob hf).symm,(dE P.hi hf).symm]
   have u:=F _ _ r
   generalize upd U cl (HO.lst (List.map V.int (T.map λi:Nat=>(i:Int))))=M at F c2 u
   have l:=O.trans F
   have I:CmAt K d M t ins f cl L L.ins0 fr T:=#[iO l,((ca.fresh hf).same l),Lpd.Okn.start fl,λi hi=>by show L.n+i<L.n+L.m;omega,hf,xU u a3.1 a3.2,fm,a1,xU c2 a2.1 a2.2,a4]
   refine#[#[_,SqL.of c2],iN (K:=K) (a:=cl) (xs:=List.map V.int (T.map λi:Nat=>(i:Int))) (g:=aZ 4) (D:={ nx:=iC K (eQ Q),rt:=Q }) (jWz K d t ins g f cl L T) #[_,_,_,_,_,rfl,I] ?_ ?_ ?_]
   ·rintro i Z G _ ⟨_,_,_,_,_,_,Y⟩
    exact SqL.of (lM _ _ Y.hc)
   ·rintro i x Z G hi ⟨s,a5,o4,q,R,rfl,Y⟩
    obtain⟨y,rfl,hy⟩:=Ve hi
    show iD K _ [some (.ref t),some (.ref g),some (.int L.n),some (.ref f),some (.int y),q,R] G
    exact Ym lim Y (hc y (aL hy)) (λw sm=>k0 w sm) λs' a6 q R w I5=>#[s',a6,_,q,R,rfl,I5]
   ·rintro Z G ⟨s,a5,o4,q,R,rfl,Y⟩
    exact Yl C Y.ca.at lim m1 Y.ok Y.io (λw sm=>k0 w (Y.sm.trans sm)) λL2 w e sm A a7 a8=>X L2 s w e (Y.sm.trans sm) A a7 a8
noncomputable def rV:List PySem.Str:=["self","column","numbers"]
noncomputable def lX(K:aO):Sp:=λvs H Q _=>∃t ins L s,∃o:Option Nat,vs=[.ref t,oV o]/\iR K H t ins L s/\L.Lim/\L.Okn s/\(∀c,o=some c->c<L.n+L.m)/\(∀H',aP H H'->Q (.bl false) H')/\∀H',aP H H'->UnO L s o->Q (.bl true) H'
noncomputable def kJ(K:aO):TS:=(cD (fU (cY (tOp Kh (aE 1) (tC .non))) (cP (tOp Kh (eX (eE K "Corner") "entering" (iX K) [] E0 (aE 0) bE) (tC .non))) eO) (cD (cU (eX (eE K "Corner") "numbers" (iI K) [] E0 (aE 0) (aH (aE 1) bE)) (aZ 2)) (cP (rY (tOp kK (tOp (gJ K) (aE 2) (tUn iE (tC (.int 1)))) (tC (.int 0))) (tOp Kh (eX (eE K "Corner") "leaving_by" (jI K) [] E0 (aE 0) (aH (aE 2) bE)) (tC .non))))))
theorem Bm{K vs H Q E}(C:xP K)(h:lX K vs H Q E):kJ K (eQ Q) (start rV vs) H:=by
 obtain⟨t,ins,L,s,o,rfl,ca,lim,ok,hc,u,X⟩:=h
 obtain⟨f,b,Z,k,bs,v,ks,P⟩:=id ca
 rw[show start rV [V.ref t,oV o]=[some (.ref t),some (oV o),none]from rfl]
 (dsimp?[kJ,eX,Kh];try simp_arith[kJ,eX,Kh,if_true])
 cases o with
 |none=>
  rw[aJ (show oV none=V.non from rfl)]
  refine#[_,_,P.ob,rfl,t,ins,L,s,rfl,ca,lim,ok,λo S O en=>?_]
  cases o with
  |none=>rw[decide_eq_true (show oV none=V.non from rfl)];exact X S O en
  |some c=>rw[decide_eq_false (show ¬oV (some c)=V.non from λz=>nomatch z)];exact u S O
 |some c=>
  rw[aF (show ¬oV (some c)=V.non from λz=>nomatch z)]
  refine#[_,_,P.ob,rfl,t,ins,L,s,c,rfl,ca,lim,ok,hc c rfl,λA S O R B=>#[A,rfl,_,SqL.of B,V.int (L.T s L.m (L.cv c)),qS (by rw[aA];unfold Lpd.numL;rw[bH,Nat.add_sub_cancel,aY,fK _ (gD _)];rfl),_,rfl,mT (λh=>#[_,_,(P.same O).ob,rfl,t,ins,L,s,A,c,rfl,ca.same O,lim,ok,B,λo M F Y=>?_]) (λh=>u S O)]]
  cases o with
  |none=>rw[decide_eq_true (show oV none=V.non from rfl)];exact X M (O.trans F) #[hc c rfl,h,λi hi=>Y i (jV hi)]
  |some r=>rw[decide_eq_false (show ¬oV (some r)=V.non from λz=>nomatch z)];exact u M (O.trans F)
noncomputable def Ck:List PySem.Str:=["lists","bits","guess","column","corner"]
structure Tr(H:Hp)(a:Addr)(rps:List Addr)(L:Lpd)(q q':Nat):Prop where
 R:xN H a rps L
 fl:L.fl=false
 m1:1<=L.m
 n1:1<=L.n
 lim:L.Lim
 F:Fit L.m L.n q'
 q9:q<=9000
 st:∀k,40*2^k<q->40*2^k<=q'
 ba:∀j k,j<L.n->k<=L.m->BB q (L.a j k)
 bb:∀k,k<=L.m->BB q (L.be k)
 nn:∀k,k<L.m->0<=L.be k
structure jZq(K:aO)(H:Hp)(p t ins:Addr)(L L2:Lpd)(s:Nat->Nat)(o:Option Nat):Prop where
 e:L2=L∨L2=L.flip
 hp:H p=some (.tup [.ref t,oV o])
 ca:iR K H t ins L2 s
 ok:L2.Ok s
 io:kC L2 s
 un:UnO L2 s o
noncomputable def rD(K:aO):Sp:=λvs H Q _=>∃a g L q f,vs=[.ref a]/\Tr H a g L q f/\∀p t ins e s o H',aP H H'->jZq K H' p t ins L e s o->Q (.ref p) H'
noncomputable def uK(K:aO):TS:=(cP (hJ (aH (aE 4) (aH (aE 3) bE))))
noncomputable def uJ(K:aO):TS:=(cD (cU (cB (qF K) [] E0 (aH (aE 4) bE)) (aZ 3)) (uK K))
noncomputable def oI(K:aO):TS:=(cD (cU (Bp (eE K "Corner") (jW K) [] E0 (aH (aE 0) bE)) (aZ 4)) (uJ K))
noncomputable def uL(K:aO):TE:=(cB (vW K) [] E0 (aH (aE 0) bE))
noncomputable def oH(K:aO):TS:=(cU (tOp eU (tC (.int 2)) (aE 1)) (aZ 1))
noncomputable def oG(K:aO):TS:=(cD (fU (Ea (tB (eX (eE K "Corner") "comes_to" (mN K) [] E0 (aE 4) (aH (gK K (aE 2) "inside") bE))) (tB (eX (eE K "Corner") "ends_with" (lX K) [] E0 (aE 4) (aH (aE 3) bE)))) (cP (hJ (aH (aE 4) (aH (aE 3) bE)))) eO) (oH K))
noncomputable def uI(K:aO):TS:=(cD (cU (Bp (eE K "Corner") (jW K) [] E0 (aH (aE 0) bE)) (aZ 4)) (oG K))
noncomputable def uH(K:aO):TS:=(cD (cU (cB (qF K) [] E0 (aH (aE 2) bE)) (aZ 3)) (uI K))
noncomputable def oJ(K:aO):TS:=(cD (cU (Bp (eE K "Corner") (jW K) [] E0 (aH (cB (De K) [] E0 (aH (aE 0) (aH (aE 1) bE))) bE)) (aZ 2)) (uH K))
noncomputable def uG(K:aO):TS:=(cD (xZ (cY (tOp kK (aE 1) (tCB (Ws K) (aH (dN (dC K (aE 0)) [] (uL K)) bE)))) (oJ K)) (oI K))
noncomputable def sU(K:aO):TS:=(cD (cU (tC (.int 40)) (aZ 1)) (uG K))
theorem Tr.same{L:Lpd}{f:Nat}(h:Tr H a g L q f)(s:aP H H'):Tr H' a g L q f:=#[h.R.same s,h.fl,h.m1,h.n1,h.lim,h.F,h.q9,h.st,h.ba,h.bb,h.nn]
theorem Tr.row{L:Lpd}{f:Nat}(h:Tr H a g L q f)(hi:i<=L.m):∀x∈L.rowL i,BB q x:=λx hx=>by
 rcases Lpd.rowL_mem hx with⟨j,P,rfl⟩|rfl
 ·exact h.ba j i P hi
 ·exact h.bb i hi
theorem Kv{S M:Hp}{t i:Addr}(s:aP H S)(y:H t=none)(hi:H i=none)(m:aP (mn t i S) (mn t i M)):aP H M:=λb o e=>lM _ _ (m b o (xU (s b o e) (dE e y) (dE e hi)))
theorem zS{L:Lpd}{P:Addr->Hp->Prop}(R:xN G a g L)(lim:L.Lim)(fl:L.fl=false)(k:∀t ins d,G t=none->G ins=none->aP G d->iR K d t ins L L.ins0->P t d):
  ∀(x f:Addr),G x=none->G f=none->f≠x->jW K [.ref x,.ref a] (upd (upd G f (.own x)) x (.ins (eE K "Corner") f [])) (λv M=>v=.non/\P x M) E0:=by
 intro t f y c ne
 have O:aP G (upd (upd G f (.own t)) t (.ins (eE K "Corner") f [])):=(aP.upd c).put y
 refine#[t,f,a,g,L,rfl,aI,R.same O,lim,fl,λins d hi b ca=>#[rfl,k t ins d y (O.free hi) (λi o e=>b i o (O i o e) (dE e y)) ca]]
theorem jJf{L:Lpd}{f:Nat}{j v r:Option V}(I:Tr G a g L q f)(s:aP H G)(k:∀p t ins e s o d,aP H d->jZq K d p t ins L e s o->Q (.ref p) d):
  oI K (eQ Q) [some (.ref a),j,J,v,r] G:=by
 (dsimp?[oI,Bp])
 refine zS I.R I.lim I.fl λt ins S y hi O ca=>?_
 (dsimp?[uJ])
 refine#[t,ins,L,L.ins0,rfl,ca,I.lim,Lpd.Okx.start I.fl I.nn,λi hi=>by show L.n+i<L.n+L.m;omega,λo U M sm D b c h=>?_]
 (dsimp?[uK])
 refine#[sz2,λp hp=>k p t ins L U o _ ((s.trans (Kv O y hi sm)).trans (aP.upd hp)) #[.inl rfl,aI,D.same (aP.upd hp),b.w,c,h]]
theorem jJg(C:xP K){D:rW}{L:Lpd}{q' b:Nat}{v o4:Option V}(I:Tr G a g L q q')(s:aP H G)(b1:1<=b)(bq:b<q)(b0:b<=q')(k:∀p t ins e s o d,aP H d->jZq K d p t ins L e s o->D.rt (.ref p) d)
  (kn:∀J v o4 d,aP H d->D.nx [some (.ref a),some (.int ((2*b:Nat):Int)),J,v,o4] d):
  oJ K D [some (.ref a),some (.int b),J,v,o4] G:=by
 have q9:=I.q9
 (dsimp?[oJ,Bp])
 refine#[a,g,L,b,rfl,I.R,I.n1,I.F.n1,I.F.m1,#[],λi hi x hx=>(I.row hi x hx).mono #[],λl qs e S O R2 Q=>?_]
 have a0:e.Lim:=by
  have F2:Fit e.m e.n q':=by rw[Q.m,Q.n];exact I.F
  exact F2.lim (λj k P hk=>(Q.ba j k (by rw[←Q.n];exact P) (by rw[←Q.m];exact hk)).mono #[]) λk hk=>(Q.bb k (by rw[←Q.m];exact hk)).mono #[]
 show ∀(x f:Addr),_
 refine zS R2 a0 Q.fl λt ins M y hi s2 ca=>?_
 (dsimp?[uH])
 refine#[t,ins,e,e.ins0,rfl,ca,a0,Lpd.Okx.start Q.fl (λi hi=>Q.nn i (by have:=Q.m;omega) (I.nn i (by have:=Q.m;omega))),λi hi=>by show e.n+i<e.n+e.m;omega,λo s' U sm a6 B b7 a7=>?_]
 have a2:aP G U:=Kv (O.trans s2) (O.free y) (O.free hi) sm
 have z:=I.same a2
 obtain⟨b8,b3,a8,k3,b9,c1,c2,P3⟩:=id a6
 (dsimp?[uI,Bp])
 refine zS z.R z.lim z.fl λN h H4 a1 Y s4 a3=>?_
 have P4:=P3.same s4
 obtain⟨c3,b4,c4,k4,c5,c6,c7,PT⟩:=id a3
 have r4:∀d,aP H d->oH K D [some (.ref a),some (.int b),some (.ref t),some (oV o),some (.ref N)] d:=λd s'=>by
  (dsimp?[oH])
  refine#[.l (by show(2:Int).natAbs<2^64;decide),?_]
  rw[show(2:Int)*(b:Int)=((2*b:Nat):Int) by omega]
  exact kn _ _ _ d s'
 have r:=s.trans a2
 have e1:e.insL s'=(ofF L.m s').map λc:Nat=>(c:Int):=by unfold Lpd.insL;rw[Q.m,jZ9]
 have a4:=P4.hi
 rw[e1]at a4
 have n1:ins≠N:=dE P3.hi a1
 have n2:ins≠h:=dE P3.hi Y
 (dsimp?[oG,eX,gK];try simp_arith[oG,eX,gK,if_true])
 refine#[_,_,PT.ob,rfl,_,_,_,P4.ob,C.cl,C.ni,_,oC b3 a8 k3 ins,N,h,L,ins,ofF L.m s',rfl,a3,z.lim,z.fl,z.m1,xU a4 n1 n2,bH _ _,λw T=>#[false,rfl,sQ (sQ (r4 w ?_))],λL3 s3 w u T A a5 a9=>#[true,rfl,iteT ?_]]
 ·exact Kv (r.trans s4) (r.free a1) (r.free Y) T
 ·have X:=Kv (r.trans s4) (r.free a1) (r.free Y) T
  obtain⟨c8,b5,c9,k5,d0,d1,d2,P5⟩:=id A
  have Z:L3.Lim/\L3.n=L.n/\L3.m=L.m:=by
   rcases u with rfl |rfl
   ·exact#[z.lim,rfl,rfl]
   ·exact#[z.lim.flip,rfl,rfl]
  refine#[_,_,P5.ob,rfl,N,h,L3,s3,o,rfl,A,Z.1,a5.n,λc ec=>?_,λH6 s6=>#[false,rfl,sQ (r4 H6 (X.trans s6))],λH6 s6 un=>#[true,rfl,iteT #[sz2,λp hp=>k p N h L3 s3 o _ ((X.trans s6).trans (aP.upd hp)) #[u,aI,(A.same s6).same (aP.upd hp),a5,a9,un]]]]
  subst ec
  have:=a7.1
  rw[Q.n,Q.m]at this
  rw[Z.2.1,Z.2.2]
  exact this
theorem Oz{K vs H Q E}(C:xP K)(h:rD K vs H Q E):sU K (eQ Q) (start Ck vs) H:=by
 obtain⟨a,g,L,q,f,rfl,I,k⟩:=h
 rw[show start Ck [V.ref a]=[some (.ref a),none,none,none,none]from rfl]
 (dsimp?[sU,uG,xZ,dN,dC,Ws])
 have q9:=I.q9
 have s:=I.R.len
 have D:=I.F.m1
 refine#[λm Z U=>∃(b e:Nat)(J v r:Option V),Z=[some (.ref a),some (.int b),J,v,r]/\m=9000-b/\b=40*2^e/\1<=b/\aP H U,#[9000-40,40,0,none,none,none,rfl,rfl,rfl,by decide,aP.refl _],?_]
 rintro m Z U ⟨b,e0,J,v,r,rfl,rfl,O,b1,s3⟩
 have z:=I.same s3
 simp only[Lq0,Lq1]
 refine#[a,rfl,#[_,SqL.of z.R.ha],eP (K:=K) (a:=a) (xs:=List.map V.ref g) (λi N S=>aP U S/\∃ls:List Int,N=List.map V.int ls/\ls.length=i/\∀l∈ls,l<=q) (by rw[aA,sizeLine_eq];omega) #[aP.refl _,[],rfl,rfl,(λ_ h=>nomatch h)] ?_ ?_ ?_]
 ·rintro i N S _ ⟨P,_⟩
  exact SqL.of (P _ _ z.R.ha)
 ·rintro i x N S hi _ ⟨P,ls,rfl,A,c⟩
  obtain⟨p,rfl,hp⟩:=eR hi
  obtain⟨y,B⟩:=(z.R.same P).inv hp
  (dsimp?[uL])
  refine#[p,_,rfl,SqL.of B,λe=>?_,by rw[Lpd.rowL_length];have:=I.F.n1;omega,λM w X _#[n,hn,t]=>#[P.trans X,ls++[(M:Int)],by rw[aX];rfl,by rw[bC,A];rfl,λl Y=>?_]]
  ·have:=congrArg List.length e
   rw[Lpd.rowL_length]at this
   simp at this
  ·rcases cR.mp Y with Y |Y
   ·exact c l Y
   ·rw[bX.mp Y,←t]
    have:=Qp (I.row y n hn)
    omega
 ·rintro N S _ ⟨P,ls,rfl,A,c⟩ p hp
  rw[aA,s]at A
  refine#[ls,SqL.of aI,λe=>by rw[e]at A;simp at A,λM j hA=>#[_,rfl,?_]]
  have X:=(s3.trans P).trans (aP.upd (o:=HO.lst (List.map V.int ls)) hp)
  have u:=c M j
  refine mT (λh=>#[λG d=>∃J v r,G=[some (.ref a),some (.int ((2*b:Nat):Int)),J,v,r]/\aP H d,λG d#[J,v,r,e,T]=>#[9000-2*b,#[],2*b,e0+1,J,v,r,e,rfl,by rw[O,jU];omega,#[],T],?_]) (λh=>?_)
  ·exact jJg C (I.same X) X b1 #[] (by rw[O];exact I.st e0 #[]) k λJ v r d T=>#[J,v,r,rfl,T]
  ·exact jJf (I.same X) X k
noncomputable def N_over:List PySem.Str:=["one","other"]
noncomputable def Ku(K:aO):Sp:=λvs H Q _=>∃p q a b c d,vs=[.ref p,.ref q]/\Tw K H p q a b c d/\0<b/\0<c/\BB 9000 (b*c)/\∀r H',aP H H'->H' r=some (.tup [.int (lo2 (a*d) (b*c)).1,.int (lo2 (a*d) (b*c)).2])->Q (.ref r) H'
noncomputable def Zk(K:aO):TS:=(cP (cB (nH K) [] E0 (aH (tOp eU (tOp (dO K) (aE 0) (tC (.int 0))) (tOp (dO K) (aE 1) (tC (.int 1)))) (aH (tOp eU (tOp (dO K) (aE 0) (tC (.int 1))) (tOp (dO K) (aE 1) (tC (.int 0)))) bE))))
theorem rd_over{K}:RdS K Ku Zk N_over:=by
 intro m H Q E h
 obtain⟨p,q,a,b,c,d,rfl,⟨hp,J,ba,bb,bc,e⟩,U,c0,D,k⟩:=h
 rw[show start N_over [V.ref p,V.ref q]=[some (.ref p),some (.ref q)]from rfl]
 (dsimp![Zk,aE,tC,tOp,rI,eU,cP,cB,aH,bE,dO,bZ])
 refine#[_,hp,_,iU,_,J,_,iJ,_,rfl,_,rfl,.b ba e,_,hp,_,iJ,_,J,_,iU,_,rfl,_,rfl,.b bb bc,?_]
 have z:0<b*c:=bK U c0
 refine#[_,_,rfl,#[],D,λx y r f s h l=>k r f s ?_]
 obtain⟨e1,C⟩:=l.uniq z (eK z)
 rw[←e1,←C];exact h
noncomputable def xI:List PySem.Str:=["self","numbers","told","number","column"]
noncomputable def lO(K:aO):Sp:=λvs H Q _=>∃t ins L s A,∃f:Nat->Int,vs=[.ref t,.ref A]/\iR K H t ins L s/\L.Lim/\L.Ok s/\H A=some (.lst (List.map V.int (ofF (L.m+1) f)))/\
 ∀l ps H',aP H H'->H l=none->H' l=some (.lst (List.map V.ref ps))->eC K H' ps (ofF L.n (xK L s f L.m))->Q (.ref l) H'
noncomputable def jYq(K:aO)(t A l:Addr)(L:Lpd)(s:Nat->Nat)(f:Nat->Int)(u:Hp):Nat->St->Hp->Prop:=λi Z U=>∃M J ps,Z=[some (.ref t),some (.ref A),some (.ref l),M,J]/\aP u U/\U l=some (.lst (List.map V.ref ps))/\eC K U ps (ofF L.n (xK L s f i))
noncomputable def rT(K:aO):TS:=(fU (cY (tOp kK (aE 4) (tCB (jD K) (aH (aE 2) bE)))) (cU (cB (nH K) [] E0 (aH (aE 3) (aH (eX (eE K "Corner") "bottom" (iS K) [] E0 (aE 0) bE) bE))) (Qb (aE 2) (aE 4) Br)) eO)
noncomputable def mM(K:aO):TG:=(jN K 2 (eF (aZ 3) (eF (aZ 4) jO)))
noncomputable def rS(K:aO):TE:=(hJ (aH (tC (.int 0)) (aH (tC (.int 1)) bE)))
noncomputable def pT(K:aO):TS:=(cD (cU (dN (dC K (gK K (aE 0) "begun")) [] (rS K)) (aZ 2)) (cD (gA (mU K (aH (aE 1) (aH (gK K (aE 0) "inside") bE))) (mM K) (rT K)) (cP (aE 2))))
theorem jWv{D:Int}(h:0<D):lo2 0 D=(0,1):=by
 have:Lo 0 D 0 1:=#[by decide,by decide,by simp,aM _,#[]]
 exact(this.is h).symm
theorem Xd{n:Nat}{f:Nat->d}{v:d}:(ofF n f).set i v=ofF n λk=>if k=i then v else f k:=by
 apply List.ext_getElem?
 intro k
 rw[getElem?_set]
 by_cases hk:k<n
 ·rw[fK (λk=>if k=i then v else f k) hk]
  by_cases e:i=k
  ·rw[aJ e,aJ (by rw[bH];omega),aJ e.symm]
  ·rw[aF e,aF (Ne.symm e),fK _ hk]
 ·rw[cM (l:=ofF n λk=>if k=i then v else f k) (by rw[bH];omega)]
  by_cases e:i=k
  ·rw[aJ e,aF (by rw[bH];omega)]
  ·rw[aF e,cM (by rw[bH];omega)]
theorem Wz{L:Lpd}(ok:L.Ok s){f:Nat->Int}(hi:i<L.m):Lpd.spr (i+1) s f j=if j=s i then f i else Lpd.spr i s f j:=by
 show Lpd.spr i s f j+(if s i=j then f i else 0)=_
 by_cases e:s i=j
 ·rw[aJ e,aJ e.symm]
  have:Lpd.spr i s f j=0:=kN λk hk=>aF λz=>ok.inj (show k<L.m by omega) hi #[] (z.trans e.symm)
  rw[this,eJ]
 ·rw[aF e,aF (Ne.symm e),Int.add_zero]
theorem Ii{K vs H Q E}(C:xP K)(h:lO K vs H Q E):pT K (eQ Q) (start xI vs) H:=by
 obtain⟨t,ins,L,s,A,f,rfl,ca,lim,ok,a4,q⟩:=h
 obtain⟨dx,b,sp,k,bs,ss,ks,P⟩:=id ca
 have bl:=P.bl
 have n1:=lim.n1
 have m1:=lim.m1
 have R:=ok.pos
 rw[show start xI [V.ref t,V.ref A]=[some (.ref t),some (.ref A),none,none,none]from rfl]
 (dsimp![pT,gK,dN,dC,gA,mU,cD,cU,aZ,aE,cP,aH,bE])
 refine#[_,_,_,P.ob,C.cl,C.nb,_,mQ _ _ _ _,_,rfl,#[_,SqL.of P.B],eP (K:=K) (a:=b) (xs:=List.map V.ref bs) (λi N U=>aP H U/\∃S,N=List.map V.ref S/\eC K U S (ofF i λ_=>((0,1):Int×Int))) ?_ #[aP.refl _,[],rfl,trivial] ?_ ?_ ?_]
 ·rw[aA,sizeLine_eq];omega
 ·rintro i N U _ ⟨s3,_⟩
  exact s3.seq (SqL.of P.B)
 ·rintro i x N U hi _ ⟨s3,S,rfl,c⟩
  dsimp only[rS,tC,aH,bE,hJ,fG,fH,fF]
  refine#[sz2,λp hp=>#[s3.trans (aP.upd hp),S++[p],by rw[aX];rfl,?_]]
  rw[fL]
  exact eC.snoc (c.same (aP.upd hp)) (SqT.of aI)
 ·rintro N U _ ⟨s3,S,rfl,c⟩ l Y
  rw[aA,bl]at c
  have I:=s3.trans (aP.upd (o:=HO.lst (List.map V.ref S)) Y)
  have a5:=c.same (aP.upd (o:=HO.lst (List.map V.ref S)) Y)
  have a6:(upd U l (.lst (List.map V.ref S))) l=some (.lst (List.map V.ref S)):=aI
  have a7:=s3.free Y
  generalize upd U l (.lst (List.map V.ref S))=G at I a5 a6
  have T:(L.insL s).length=L.m:=by unfold Lpd.insL;rw[bH]
  refine#[_,_,_,I _ _ P.ob,C.cl,C.ni,_,oC _ _ _ _,_,rfl,#[_,I.seq (SqL.of a4)],#[_,I.seq (SqL.of P.hi)],jW6 (K:=K) (a:=A) (b:=ins) (xs:=List.map V.int (ofF (L.m+1) f)) (ys:=List.map V.int (L.insL s)) (g:=mM K) (D:={ nx:=cP (aE 2) (eQ Q),rt:=Q }) L.m (jYq K t A l L s f H) ?_ ?_ ?_ ?_ ?_ ?_ ?_]
  ·refine#[none,none,S,rfl,I,a6,?_]
   have:(ofF L.n λ_=>((0,1):Int×Int))=ofF L.n (xK L s f 0):=jB λj _=>by
    unfold xK
    show _=lo2 0 _
    rw[jWv R]
   rw[←this];exact a5
  ·rintro i Z H5 _ ⟨_,_,_,_,X,_⟩
   exact#[X.seq (SqL.of a4),X.seq (SqL.of P.hi)]
  ·rw[aA,bH];omega
  ·rw[aA,T];exact aM _
  ·rw[aA,aA,T];exact .inr (aM _)
  ·rintro i x y p Z H5 hx d hi ⟨M,J,a0,rfl,X,a3,a2⟩ hp
   obtain⟨v,rfl,hv⟩:=fQ hx
   obtain⟨w,rfl,hw⟩:=fQ d
   obtain⟨_,rfl⟩:=fR hv
   obtain⟨_,rfl⟩:=fR hw
   have s6:=aP.upd (o:=HO.tup [.int (f i),.int (s i)]) hp
   have a8:a0.length=L.n:=by rw[a2.length,bH]
   (dsimp![mM,rT,eX,cU,aZ,aE,tOp,rI0,kK,fU,cY,eO,cB,aH,bE,tCB,jD,jN,eF,jO,bZ,cN])
   refine#[_,SqT.of aI,rfl,_,_,rfl,_,_,rfl,rfl,?_]
   have O:=s6 _ _ a3
   have z:=a2.same s6
   have a1:=X.trans s6
   generalize upd H5 p (.tup [.int (f i),.int (s i)])=H6 at a1 O z
   refine#[_,.inl (SqL.of O),?_]
   rw[aA,a8]
   refine#[_,rfl,mT (λa9=>?_) (λa9=>?_)]
   ·have b3:s i<L.n:=#[]
    refine#[_,_,a1 _ _ P.ob,rfl,_,_,_,_,rfl,ca.same a1,_,_,rfl,Int.ne_of_gt R,lim.bD s ok.n,λx y r H7 u b0 F=>?_]
    (dsimp![Qb,Br,aE])
    refine#[_,u _ _ O,_,by rw[aA,a8];exact Ek #[] #[],?_]
    rw[dA]
    refine#[_,_,a0.set (s i) r,rfl,(a1.trans u).put a7,by rw[aI,List.map_set],?_]
    have e:ofF L.n (xK L s f (i+1))=(ofF L.n (xK L s f i)).set (s i) (x,y):=by
     rw[Xd]
     refine jB λj hj=>?_
     unfold xK
     rw[Wz ok hi]
     by_cases e:j=s i
     ·rw[aJ e,aJ e,F.is R]
     ·rw[aF e,aF e]
    rw[e]
    exact eC.off (u _ _ O) (eC.set (SqT.of b0) (s i) (z.same u))
   ·refine#[_,_,a0,rfl,a1,O,?_]
    have e:ofF L.n (xK L s f (i+1))=ofF L.n (xK L s f i):=jB λj hj=>by
     unfold xK
     rw[Wz ok hi,aF #[]]
    rw[e];exact z
  ·rintro Z H5 ⟨M,J,a0,rfl,X,a3,a2⟩
   (dsimp![aE,cP])
   exact q l a0 H5 X a7 a3 a2
noncomputable def Kg:List PySem.Str:=["self"]
noncomputable def wY(K:aO):Sp:=λvs H Q _=>∃t ins L s,vs=[.ref t]/\iR K H t ins L s/\L.Lim/\L.Ok s/\
 ∀l ps H',aP H H'->H l=none->H' l=some (.lst (List.map V.ref ps))->eC K H' ps (ofF L.n (xK L s (λi=>L.T s i L.be) L.m))->Q (.ref l) H'
noncomputable def zM(K:aO):TS:=(cP (eX (eE K "Corner") "spread" (lO K) [] E0 (aE 0) (aH (cB (kH K) [] E0 (aH (gK K (aE 0) "kept") (aH (tUn iE (tC (.int 1))) bE))) bE)))
theorem atI_end{l:List Int}{x:Int}(h:l[l.length-1]?=some x):atI (List.map V.int l) (-1)=some (.int x):=qS (by rw[aA,aY,h];rfl)
theorem Vv{K vs H Q E}(C:xP K)(h:wY K vs H Q E):zM K (eQ Q) (start Kg vs) H:=by
 obtain⟨t,ins,L,s,rfl,ca,lim,ok,q⟩:=h
 obtain⟨f,b,Z,k,bs,v,ks,P⟩:=id ca
 have m1:=lim.m1
 rw[show start Kg [V.ref t]=[some (.ref t)]from rfl]
 (dsimp![zM,gK,eX,aE,tC,tUn,rU,iE,cP,cB,aH,bE,bZ])
 refine#[_,_,P.ob,rfl,_,_,_,P.ob,C.cl,C.nk,_,jT _ _ _ _,_,_,_,_,L.m+1,rfl,SqL.of P.Kp,P.Ks,by rw[bH];omega,λr hr=>?_,λA S O R g=>?_]
 ·obtain⟨i,hi,rfl⟩:=kW hr
  rw[iF (L.keptL_last s i)]
  exact atI_end (by rw[Lpd.keptL_length];exact L.keptL_last s i)
 ·have e:(ofF (L.m+1) (L.keptL s)).map (λr=>r.getD (L.m+1) 0)=ofF (L.m+1) λi=>L.T s i L.be:=by
   unfold ofF
   rw[List.map_map]
   exact hE λi _=>iF (L.keptL_last s i)
  rw[e]at g
  refine#[_,_,_,_,_,_,rfl,ca.same O,lim,ok,g,λl c M F Y a hp=>q l c M (O.trans F) (O.free Y) a hp]
noncomputable def Cs:List PySem.Str:=["self","column","told"]
noncomputable def rL(K:aO):Sp:=λvs H Q _=>∃t ins L s,∃c:Nat,vs=[.ref t,.int c]/\iR K H t ins L s/\L.Lim/\L.Ok s/\c<L.n+L.m/\(∀i,i<L.m->s i≠c)/\
 ∀l ps H',aP H H'->H l=none->H' l=some (.lst (List.map V.ref ps))->eC K H' ps (ofF L.n (mI L s c))->Q (.ref l) H'
noncomputable def uS(K:aO):TE:=(tUn iE (aE 0))
noncomputable def tJ(K:aO):TS:=(cD (cU (eX (eE K "Corner") "spread" (lO K) [] E0 (aE 0) (aH (dN (dC K (eX (eE K "Corner") "numbers" (iI K) [] E0 (aE 0) (aH (aE 1) bE))) [] (uS K)) bE)) (aZ 2)) (cD (fU (cY (tOp kK (aE 1) (tCB (jD K) (aH (aE 2) bE)))) (cU (hJ (aH (tC (.int 1)) (aH (tC (.int 1)) bE))) (Qb (aE 2) (aE 1) Br)) eO) (cP (aE 2))))
theorem lo2_one{D:Int}(h:0<D):lo2 D D=(1,1):=by
 have:Lo D D 1 1:=#[by decide,by decide,by rw[gR],#[],#[]]
 exact(this.is h).symm
theorem Ph{K vs H Q E}(C:xP K)(h:rL K vs H Q E):tJ K (eQ Q) (start Cs vs) H:=by
 obtain⟨t,ins,L,s,c,rfl,ca,lim,ok,hc,D,q⟩:=h
 obtain⟨dx,b,Z,k,bs,ss,ks,P⟩:=id ca
 have m1:=lim.m1
 have D0:=ok.pos
 rw[show start Cs [V.ref t,V.int c]=[some (.ref t),some (.int c),none]from rfl]
 (dsimp![tJ,eX,dN,dC,cD,cU,aZ,aE,tC,tOp,rI0,kK,cP,fU,cY,eO,aH,bE,hJ,tCB,jD,bZ,cN])
 refine#[_,_,P.ob,rfl,_,_,P.ob,rfl,_,_,_,_,_,rfl,ca,lim,ok.n,hc,λA S O R M=>?_]
 have B:(L.numL s c).length=L.m+1:=by unfold Lpd.numL;rw[bH]
 refine#[_,rfl,#[_,SqL.of M],eP (K:=K) (a:=A) (xs:=List.map V.int (L.numL s c)) (WEq S λi N=>N=List.map V.int (ofF i λi=>-L.T s i (L.cv c))) ?_ #[rfl,rfl] ?_ ?_ ?_]
 ·rw[aA,B,sizeLine_eq];omega
 ·rintro i N U _ ⟨rfl,_⟩
  exact SqL.of M
 ·rintro i x N U hi _ ⟨rfl,rfl⟩
  obtain⟨v,rfl,hv⟩:=fQ hi
  obtain⟨_,rfl⟩:=fR hv
  (dsimp![uS,aE,tUn,rU,iE])
  refine#[rfl,?_]
  show _=List.map V.int (ofF (i+1) λi=>-L.T s i (L.cv c))
  rw[fL,aX];rfl
 ·rintro N U _ ⟨rfl,rfl⟩ w a0
  rw[aA,B]
  have F:=O.trans (aP.upd (o:=HO.lst (List.map V.int (ofF (L.m+1) λi=>-L.T s i (L.cv c)))) a0)
  refine#[_,_,_,_,_,λi=>-L.T s i (L.cv c),rfl,ca.same F,lim,ok,aI,λl ps G I Y d J=>?_]
  have y:ps.length=L.n:=by rw[J.length,bH]
  have r:=F.trans I
  have u:=F.free Y
  refine#[_,rfl,_,.inl (SqL.of d),?_]
  rw[aA,y]
  have same:∀j,j≠c->mI L s c j=xK L s (λi=>-L.T s i (L.cv c)) L.m j:=λj hj=>by
   unfold mI xK
   rw[aF hj,Int.add_zero]
  refine mT (λf=>#[sz2,λp hp=>?_]) (λf=>?_)
  ·(dsimp![Qb,Br,aE,cP])
   have X:=aP.upd (o:=HO.tup [.int 1,.int 1]) hp
   refine#[_,X _ _ d,_,by rw[aA,y];exact Ek #[] #[],?_]
   rw[dA]
   refine q l (ps.set c p) _ ((r.trans X).put u) u (by rw[aI,List.map_set]) ?_
   have e:ofF L.n (mI L s c)=(ofF L.n (xK L s (λi=>-L.T s i (L.cv c)) L.m)).set c (1,1):=by
    rw[Xd]
    refine jB λj hj=>?_
    by_cases e:j=c
    ·rw[aJ e]
     unfold mI
     have:Lpd.spr L.m s (λi=>-L.T s i (L.cv c)) j=0:=kN λi hi=>aF λz=>D i hi (z.trans e)
     rw[this,aJ e,eJ,lo2_one D0]
    ·rw[aF e,same j e]
   rw[e]
   exact eC.off (X _ _ d) (eC.set (g:=((1,1):Int×Int)) (SqT.of aI) c (J.same X))
  ·refine q l ps G r u d ?_
   have e:ofF L.n (mI L s c)=ofF L.n (xK L s (λi=>-L.T s i (L.cv c)) L.m):=jB λj hj=>same j #[]
   rw[e];exact J
noncomputable def Kf:List PySem.Str:=["self"]
noncomputable def wX(K:aO):Sp:=λvs H Q _=>∃t ins L s,vs=[.ref t]/\iR K H t ins L s/\L.Lim/\L.Ok s/\
 ∀l ps H',aP H H'->H l=none->H' l=some (.lst (List.map V.ref ps))->eC K H' ps (ofF L.m λk=>lo2 (L.T s L.m (e1 k)) (L.D s))->Q (.ref l) H'
noncomputable def Ad(K:aO):TE:=(cB (nH K) [] E0 (aH (aE 0) (aH (eX (eE K "Corner") "bottom" (iS K) [] E0 (aE 1) bE) bE)))
noncomputable def zL(K:aO):TS:=(cP (dN (dC K (tSl (xL K) (tOp (gJ K) (gK K (aE 0) "kept") (tUn iE (tC (.int 1)))) hU (lY (tCB (jD K) (aH (gK K (aE 0) "inside") bE))))) [0] (Ad K)))
theorem Vu{K vs H Q E}(C:xP K)(h:wX K vs H Q E):zL K (eQ Q) (start Kf vs) H:=by
 obtain⟨t,ins,L,s,rfl,ca,lim,ok,q⟩:=h
 obtain⟨f,b,Z,k,bs,G,ks,P⟩:=id ca
 have m1:=lim.m1
 have R:=ok.pos
 have A:(L.insL s).length=L.m:=by unfold Lpd.insL;rw[bH]
 obtain⟨p,_,d,B⟩:=P.last
 rw[show start Kf [V.ref t]=[some (.ref t)]from rfl]
 (dsimp![zL,gK,dN,dC,aE,tC,tOp,tUn,rU,iE,cP,aH,bE,tCB,jD,tSl,lY,hU,xL,gJ])
 refine#[_,_,_,P.ob,C.cl,C.nk,_,jT _ _ _ _,_,rfl,_,SqL.of P.Kp,_,d,_,_,_,P.ob,C.cl,C.ni,_,oC _ _ _ _,_,rfl,_,.inl (SqL.of P.hi),?_]
 rw[aA,A]
 refine#[_,rfl,_,SqL.of B,λw z=>?_]
 rw[jXi (by rw[Lpd.keptL_length];omega),Oi]
 have O:=aP.upd (o:=HO.lst (List.map V.int (ofF L.m λk=>L.T s L.m (e1 k)))) z
 have h1:(upd H w (.lst (List.map V.int (ofF L.m λk=>L.T s L.m (e1 k))))) w=some (.lst (List.map V.int (ofF L.m λk=>L.T s L.m (e1 k)))):=aI
 generalize upd H w (.lst (List.map V.int (ofF L.m λk=>L.T s L.m (e1 k))))=S at O h1
 refine#[#[_,SqL.of h1],eP (K:=K) (a:=w) (xs:=List.map V.int (ofF L.m λk=>L.T s L.m (e1 k))) (λi N U=>aP S U/\∃j,N=List.map V.ref j/\eC K U j (ofF i λk=>lo2 (L.T s L.m (e1 k)) (L.D s))) ?_ #[aP.refl _,[],rfl,trivial] ?_ ?_ ?_]
 ·rw[aA,bH,sizeLine_eq];omega
 ·rintro i N U _ ⟨s3,_⟩
  exact s3.seq (SqL.of h1)
 ·rintro i x N U hi _ ⟨s3,j,rfl,c⟩
  obtain⟨v,rfl,hv⟩:=fQ hi
  obtain⟨g,rfl⟩:=fR hv
  (dsimp![Ad,eX,cL,bR,cK,bF,aE,cB,aH,bE,bZ])
  refine#[_,_,(O.trans s3) _ _ P.ob,rfl,_,_,_,_,rfl,ca.same (O.trans s3),_,_,rfl,Int.ne_of_gt R,lim.bD s ok.n,λx y r I u e F=>#[s3.trans u,j++[r],by rw[aX];rfl,?_]]
  rw[fL]
  refine eC.snoc (c.same u) ?_
  rw[←F.is R]
  exact SqT.of e
 ·rintro N U _ ⟨s3,j,rfl,c⟩ l Y
  rw[aA,bH]at c
  exact q l j _ ((O.trans s3).trans (aP.upd Y)) ((O.trans s3).free Y) aI (c.same (aP.upd Y))
noncomputable def N_best:List PySem.Str:=["rows","bounds","goal","bound","made","limits","aims","lists","ended","xs"]
structure BeIn(K:aO)(H:Hp)(a b c:Addr)(rps bps gps:List Addr)(frs:jA)(fb fg:fP):Prop where
 ha:H a=some (.lst (List.map V.ref rps))
 hr:xO K H rps frs
 hb:H b=some (.lst (List.map V.ref bps))
 hbs:eC K H bps fb
 hg:H c=some (.lst (List.map V.ref gps))
 hgs:eC K H gps fg
 gb:∀f∈fb,G9 f
noncomputable def wordO:Option Nat->Str
 |none=>"best"
 |some _=>"endless"
noncomputable def wayO(fl:Bool)(frs:jA)(fb fg:fP)(s:Nat->Nat):Option Nat->fP
 |none=>ofF frs.length λk=>fov (ftm (lo2 ((bP fl frs fb fg).T s frs.length (e1 k)) ((bP fl frs fb fg).D s)) (whF (frs.getD k []))) (whF fg)
 |some c=>ofF fg.length (mI (bP fl frs fb fg) s c)
structure BeOut(K:aO)(H':Hp)(v:Addr)(fl:Bool)(frs:jA)(fb fg:fP)(s:Nat->Nat)(o:Option Nat)(x w:Addr)(xp wp:List Addr):Prop where
 ok:(bP fl frs fb fg).Ok s
 io:kC (bP fl frs fb fg) s
 un:UnO (bP fl frs fb fg) s o
 hv:H' v=some (.tup [.str (wordO o),.ref x,.ref w])
 hx:H' x=some (.lst (List.map V.ref xp))
 hxs:eC K H' xp (ofF fg.length λj=>fov (xK (bP fl frs fb fg) s (λi=>(bP fl frs fb fg).T s i (bP fl frs fb fg).be) frs.length j) (whF (bnF frs fb)))
 hw:H' w=some (.lst (List.map V.ref wp))
 hws:eC K H' wp (wayO fl frs fb fg s o)
noncomputable def Uw(K:aO):Sp:=λvs H Q _=>∃a b c g e d frs fb fg,vs=[.ref a,.ref b,.ref c]/\BeIn K H a b c g e d frs fb fg/\
 (∀f∈fb,0<=f.1)/\BeO frs fb fg/\1<=frs.length/\1<=fg.length/\∀v fl s o x w X h H',aP H H'->H x=none->H w=none->BeOut K H' v fl frs fb fg s o x w X h->Q (.ref v) H'
noncomputable def iv_best(a b c:Addr)(u:Hp)(fb:fP):Nat->St->Hp->Prop:=λi Z U=>∃M,Z=[some (.ref a),some (.ref b),some (.ref c),M,none,none,none,none,none,none]/\aP u U/\∀f∈fb.take i,0<=f.1
noncomputable def Ri(K:aO):TE:=(cB (Ku K) [] E0 (aH (cB (tX K) [] E0 (aH (aE 0) (aH (tOp (dO K) (aE 1) (tC (.int 0))) bE))) (aH (tOp (dO K) (aE 2) (tC (.int 0))) bE)))
noncomputable def Rc(K:aO):TG:=(jN K 2 (eF (aZ 0) (eF (aZ 1) jO)))
noncomputable def qI(K:aO):TS:=(cD (fU (cY (tOp Wo (tOp (dO K) (aE 8) (tC (.int 1))) (tC .non))) (cP (hJ (aH (tC (.str "endless")) (aH (aE 9) (aH (eX (eE K "Corner") "ways" (rL K) [] E0 (tOp (dO K) (aE 8) (tC (.int 0))) (aH (tOp (dO K) (aE 8) (tC (.int 1))) bE)) bE))))) eO) (cP (hJ (aH (tC (.str "best")) (aH (aE 9) (aH (gW (mU K (aH (eX (eE K "Corner") "ys" (wX K) [] E0 (tOp (dO K) (aE 8) (tC (.int 0))) bE) (aH (aE 4) bE))) 2 [6] (Rc K) (Ri K)) bE))))))
noncomputable def Rh(K:aO):TE:=(cB (Ku K) [] E0 (aH (aE 0) (aH (tOp (dO K) (aE 1) (tC (.int 0))) bE)))
noncomputable def Hn(K:aO):TS:=(cD (cU (dN (dC K (eX (eE K "Corner") "xs" (wY K) [] E0 (tOp (dO K) (aE 8) (tC (.int 0))) bE)) [5] (Rh K)) (aZ 9)) (qI K))
noncomputable def Qz(K:aO):TS:=(cD (cU (cB (rD K) [] E0 (aH (tOp qK (aE 7) (mS (aH (tOp qK (cB (mF K) [] E0 (aH (tOp (dO K) (aE 6) (tC (.int 1))) bE)) (mS (aH (tC (.int 0)) bE))) bE))) bE)) (aZ 8)) (Hn K))
noncomputable def Rg(K:aO):TE:=(tOp qK (tOp (dO K) (aE 0) (tC (.int 1))) (mS (aH (aE 1) bE)))
noncomputable def Rb(K:aO):TG:=(jN K 2 (eF (aZ 0) (eF (aZ 1) jO)))
noncomputable def Hm(K:aO):TS:=(cD (cU (gW (mU K (aH (aE 4) (aH (tOp (dO K) (aE 5) (tC (.int 1))) bE))) 2 [] (Rb K) (Rg K)) (aZ 7)) (Qz K))
noncomputable def Rf(K:aO):TE:=(cB (tX K) [] E0 (aH (aE 0) (aH (tOp (dO K) (aE 1) (tC (.int 0))) bE)))
noncomputable def Ra(K:aO):TG:=(jN K 2 (eF (aZ 0) (eF (aZ 1) jO)))
noncomputable def Qy(K:aO):TS:=(cD (cU (cB (yH K) [] E0 (aH (gW (mU K (aH (aE 1) (aH (aE 4) bE))) 2 [] (Ra K) (Rf K)) bE)) (aZ 5)) (cD (cU (cB (yH K) [] E0 (aH (aE 2) bE)) (aZ 6)) (Hm K)))
noncomputable def Re(K:aO):TE:=(cB (yH K) [] E0 (aH (aE 0) bE))
noncomputable def Hl(K:aO):TS:=(cD (cU (dN (dC K (aE 0)) [] (Re K)) (aZ 4)) (Qy K))
noncomputable def jX5(K:aO):TS:=(fU (tB (cB (Nc K) [] E0 (aH (aE 3) (aH (hJ (aH (tC (.int 0)) (aH (tC (.int 1)) bE))) bE)))) jK eO)
noncomputable def Zl(K:aO):TS:=(cD (gA (dC K (aE 1)) (aZ 3) (jX5 K)) (Hl K))
structure Wu(K:aO)(G:Hp)(md lv lf ll av af ag:Addr)(ms:List Addr)(frs:jA)(fb fg:fP):Prop where
 hmd:G md=some (.lst (List.map V.ref ms))
 hm:xR G ms frs
 hlv:G lv=some (.tup [.ref lf,.ref ll])
 hlf:G lf=some (.tup [.int (whF (bnF frs fb)).1,.int (whF (bnF frs fb)).2])
 hll:G ll=some (.lst (List.map V.int (whL (bnF frs fb))))
 hav:G av=some (.tup [.ref af,.ref ag])
 haf:G af=some (.tup [.int (whF fg).1,.int (whF fg).2])
 hag:G ag=some (.lst (List.map V.int (whL fg)))
theorem Wu.same{d:Hp}{Z Y A b c:Addr}{T:List Addr}{frs:jA}{fb fg:fP}(h:Wu K G Z Y a A b af c T frs fb fg)(s:aP G d):Wu K d Z Y a A b af c T frs fb fg:=
 #[s _ _ h.hmd,h.hm.same s,s _ _ h.hlv,s _ _ h.hlf,s _ _ h.hll,s _ _ h.hav,s _ _ h.haf,s _ _ h.hag]
theorem Xe(l:List Int):ofF l.length (λj=>l.getD j 0)=l:=by
 refine List.ext_getElem? λj=>?_
 by_cases h:j<l.length
 ·rw[fK _ h,Ey h]
 ·rw[cM (by rw[bH];omega),cM #[]]
theorem rowL_of{e:Bool}{frs:jA}{fb fg:fP}(B:BeO frs fb fg){r:fP}(F:frs[i]?=some r):(bP e frs fb fg).rowL i=whL r++[(whL (bnF frs fb)).getD i 0]:=by
 unfold Lpd.rowL
 have Y:=(aK.mp F).1
 have eq:frs.getD i []=r:=by rw[aR,F];rfl
 have e1:ofF fg.length (λj=>(bP e frs fb fg).a j i)=whL r:=by
  rw[show(λj=>(bP e frs fb fg).a j i)=λj=>(whL r).getD j 0 from funext λj=>by
   show(if i<frs.length then(whL (frs.getD i [])).getD j 0 else _)=_
   rw[aJ Y,eq],←B.lr r (aL F),←kF]
  exact Xe _
 show ofF fg.length (λj=>(bP e frs fb fg).a j i)++_=_
 rw[e1];rfl
theorem jX7{e:Bool}{frs:jA}{fb fg:fP}(B:BeO frs fb fg):(bP e frs fb fg).rowL frs.length=((whL fg).map λx=>-x)++[0]:=by
 unfold Lpd.rowL
 have e1:ofF fg.length (λj=>(bP e frs fb fg).a j frs.length)=(whL fg).map λx=>-x:=by
  conv=>rhs;rw[←Xe (whL fg),kF]
  unfold ofF
  rw[List.map_map]
  refine hE λj _=>?_
  show(if frs.length<frs.length then _ else _)=_
  rw[aF (eV _)];rfl
 have C:(whL (bnF frs fb)).getD frs.length 0=0:=by
  rw[aR,cM (by rw[kF,jM B.lb];exact aM _)];rfl
 show ofF fg.length (λj=>(bP e frs fb fg).a j frs.length)++[(whL (bnF frs fb)).getD frs.length 0]=_
 rw[e1,C]
theorem Zt{frs:jA}{fb fg:fP}(B:BeO frs fb fg):∀f∈bnF frs fb,G9 f:=λf hf=>by
 have a:=jM B.lb
 obtain⟨i,hi⟩:=cJ hf
 have j:i<frs.length:=by have:=(aK.mp hi).1;omega
 have b:i<fb.length:=by rw[B.lb];exact j
 have e1:=aD j
 have C:=aD b
 rw[vU C e1]at hi
 obtain rfl:=aV hi
 have h:=iY λf hf=>(B.gr _ (cS j) f hf).1
 have tb:=B.tb _ (cS b) _ (cS j)
 have z:=bK (B.gb _ (cS b)).1 h.2
 have F:=eK (t:=(fb[i]).1*(whF frs[i]).1) z
 exact#[F.pos,(F.bb tb.2 tb.1).1,(F.bb tb.2 tb.1).2]
theorem jJq{b c md lv lf ll av ag:Addr}{ms:List Addr}{frs:jA}{fb fg:fP}(B:BeO frs fb fg)(M:Wu K G md lv lf ll av af ag ms frs fb fg)(s0:aP H G){t ins:Addr}{L2:Lpd}{o:Option Nat}(O:jZq K G p t ins (bP false frs fb fg) L2 s o)
  (q:∀v fl s o x w xp wp d,aP H d->H x=none->H w=none->BeOut K d v fl frs fb fg s o x w xp wp->Q (.ref v) d) {o3 o7 o9:Option V}:
  Hn K (eQ Q) [some (.ref a),some (.ref b),some (.ref c),o3,some (.ref md),some (.ref lv),some (.ref av),o7,some (.ref p),o9] G:=by
 obtain⟨fl,C⟩:∃fl,L2=bP fl frs fb fg:=by
  rcases O.e with e |e
  ·exact#[false,e]
  ·exact#[true,e]
 subst C
 have ok:=O.ok
 have io:=O.io
 have un:=O.un
 have a5:=O.ca
 have l:=O.hp
 have e0:=Zt B
 have lim:=B.lim fl
 have m1:frs.length<=100:=lim.m1
 have n1:fg.length<=100:=lim.n1
 have e3:=M.hm.length
 have D0:=ok.pos
 obtain⟨f4,b5,f5,k5,f6,f7,f8,P⟩:=id a5
 have wb:=iY λf hf=>(e0 f hf).1
 have wg:=iY λf hf=>(B.gg f hf).1
 (dsimp?[Hn,eX,dN,dC])
 refine#[_,SqT.of l,_,iU,_,rfl,_,_,P.ob,rfl,_,_,_,_,rfl,a5,lim,ok,λxl d0 e4 I f9 a6 hxs=>?_]
 have a4:=I
 have d1:d0.length=fg.length:=by rw[hxs.length,bH];rfl
 have e5:∀j,BB 20000 (Lpd.spr (bP fl frs fb fg).m s (λi=>(bP fl frs fb fg).T s i (bP fl frs fb fg).be) j):=spr_bb ok λi hi=>lim.bb s i ok.n #[]
 refine#[_,rfl,#[_,SqL.of a6],eP (K:=K) (a:=xl) (xs:=List.map V.ref d0) (λi N a1=>aP e4 a1/\∃S,N=List.map V.ref S/\eC K a1 S (ofF i λj=>fov (xK (bP fl frs fb fg) s (λi=>(bP fl frs fb fg).T s i (bP fl frs fb fg).be) frs.length j) (whF (bnF frs fb)))) ?_ #[aP.refl _,[],rfl,trivial] ?_ ?_ ?_]
 ·rw[aA,d1,sizeLine_eq];omega
 ·rintro i N a1 _ ⟨Z,_⟩
  exact Z.seq (SqL.of a6)
 ·rintro i x N a1 hi _ ⟨Z,S,rfl,c4⟩
  obtain⟨p,rfl,hp⟩:=eR hi
  obtain⟨f,ef,hF⟩:=hxs.get hp
  obtain⟨g0,rfl⟩:=fR ef
  have F:=eK (t:=Lpd.spr (bP fl frs fb fg).m s (λi=>(bP fl frs fb fg).T s i (bP fl frs fb fg).be) i) D0
  have a7:=F.bb (e5 i) ((lim.bD s ok.n).mono (show 9000<=20000 by decide))
  have b3:(lo2 (Lpd.spr (bP fl frs fb fg).m s (λi=>(bP fl frs fb fg).T s i (bP fl frs fb fg).be) i) ((bP fl frs fb fg).D s)).2<=(bP fl frs fb fg).D s:=by have h1:=F.by_;have h2:=F.pos;omega
  (dsimp?[Rh,cL,bR,cK,bF])
  refine#[_,SqT.of ((a4.trans Z) _ _ M.hlv),_,iU,_,_,_,_,_,_,rfl,#[Z.tup hF,SqT.of ((a4.trans Z) _ _ M.hlf),a7.1,a7.2,B.wb.1,B.wb.2],F.pos,wb.1,Bf (B.ox fl s ok.n) (bW F.pos) b3 (bW wb.1),λr e6 U hr=>#[Z.trans U,S++[r],by rw[aX];rfl,?_]]
  rw[fL]
  exact eC.snoc (c4.same U) (SqT.of hr)
 ·rintro N a1 _ ⟨Z,xp,rfl,c5⟩ xv b7
  rw[aA,d1]at c5
  have U:=Z.trans (aP.upd (o:=HO.lst (List.map V.ref xp)) b7)
  have a2:=c5.same (aP.upd (o:=HO.lst (List.map V.ref xp)) b7)
  have a3:(upd a1 xv (.lst (List.map V.ref xp))) xv=some (.lst (List.map V.ref xp)):=aI
  generalize upd a1 xv (.lst (List.map V.ref xp))=e6 at U a2 a3
  have c1:H xv=none:=((s0.trans a4).trans Z).free b7
  clear Z c5 b7
  have a8:=a4.trans U
  have c2:=a5.same (I.trans U)
  have d2:=P.same (I.trans U)
  (dsimp?[qI,Wo,eX])
  refine#[_,SqT.of ((I.trans U) _ _ l),_,iJ,?_]
  cases o with
  |some c=>
   (dsimp?[qI];try simp_arith[qI,oV,reduceCtorEq,decide_false,Bool.not_false,if_true])
   refine#[_,SqT.of ((I.trans U) _ _ l),_,iU,_,rfl,_,_,d2.ob,rfl,_,SqT.of ((I.trans U) _ _ l),_,iJ,_,_,_,_,_,rfl,c2,lim,ok,un.1,λi hi=>Lpd.out un.2.1 hi,λwl wp d3 g b8 c6 hws=>#[sz3,λv hv=>?_]]
   have X:=aP.upd (o:=HO.tup [.str "endless",.ref xv,.ref wl]) hv
   exact q v fl s (some c) xv wl xp wp _ (((s0.trans a8).trans g).trans X) c1 ((s0.trans a8).free b8) #[ok,io,un,aI,X _ _ (g _ _ a3),(a2.same g).same X,X _ _ c6,hws.same X]
  |none=>
   (dsimp?[qI,gW,mU];try simp_arith[qI,oV,decide_true,Bool.not_true,Bool.false_eq_true,if_false,gW,mU])
   refine#[_,SqT.of ((I.trans U) _ _ l),_,iU,?_]
   refine#[_,_,d2.ob,rfl,_,_,_,_,rfl,c2,lim,ok,λyl d4 d3 g g1 a9 d5=>?_]
   have c7:d4.length=frs.length:=by rw[d5.length,bH];rfl
   have a0:=a8.trans g
   refine#[_,rfl,#[_,SqL.of a9],#[_,SqL.of (a0 _ _ M.hmd)],lN (K:=K) (a:=yl) (b:=md) (xs:=List.map V.ref d4) (ys:=List.map V.ref ms) (λi N b0=>aP d3 b0/\∃S,N=List.map V.ref S/\eC K b0 S (ofF i λk=>fov (ftm (lo2 ((bP fl frs fb fg).T s frs.length (e1 k)) ((bP fl frs fb fg).D s)) (whF (frs.getD k []))) (whF fg))) ?_ ?_ #[aP.refl _,[],rfl,trivial] ?_ ?_ ?_]
   ·rw[aA,c7,sizeLine_eq];omega
   ·rw[aA,aA,c7,e3]
   ·rintro i N b0 _ ⟨X,_⟩
    exact#[X.seq (SqL.of a9),X.seq (SqL.of (a0 _ _ M.hmd))]
   ·rintro i x y p N b0 hx hy _ ⟨X,S,rfl,c4⟩ hp os ho
    obtain⟨py,rfl,e7⟩:=eR hx
    obtain⟨pm,rfl,e8⟩:=eR hy
    obtain⟨f,ef,hF⟩:=d5.get e7
    obtain⟨e9,rfl⟩:=fR ef
    obtain⟨r,rf,g3,er,hv,f1,g4⟩:=M.hm.get e8
    have b9:=aL er
    have f2:frs.getD i []=r:=by rw[aR,er];rfl
    obtain⟨J,o3,rfl⟩:∃o1 J,os=[o1,J]:=by
     match os,ho with
     | [o1,J],_=>exact#[o1,J,rfl]
    have h:=X.trans (aP.upd (o:=HO.tup [.ref py,.ref pm]) hp)
    have w:=iY λf hf=>(B.gr r b9 f hf).1
    have c3:i<frs.length:=e9
    obtain⟨d6,c8⟩:=B.oy fl s ok.n r b9
    have c8:=c8 i c3
    have F:=eK (t:=(bP fl frs fb fg).T s frs.length (e1 i)) D0
    have a7:=F.bb (lim.bk s frs.length i ok.n (aM _) (jV c3)) ((lim.bD s ok.n).mono (show 9000<=20000 by decide))
    have b3:(lo2 ((bP fl frs fb fg).T s frs.length (e1 i)) ((bP fl frs fb fg).D s)).2<=(bP fl frs fb fg).D s:=by have h1:=F.by_;have h2:=F.pos;omega
    (dsimp?[Rc,Ri,cL,bR,cK,bF])
    refine#[_,SqT.of aI,rfl,_,_,rfl,_,_,rfl,rfl,#[[some (.ref py),some (.ref pm)],rfl,rfl],_,rfl,_,SqT.of ((a0.trans h) _ _ hv),_,iU,?_]
    have b1:BB 9000 ((bP fl frs fb fg).D s*(whF r).2):=d6.of_le (by
     rw[cH ((bP fl frs fb fg).D s*(whF r).2)]
     exact Nat.le_mul_of_pos_right _ #[])
    have b2:=Bf b1 (bW F.pos) b3 (bW w.2)
    have z2:=bK F.pos w.2
    have c9:=eK (t:=(lo2 ((bP fl frs fb fg).T s frs.length (e1 i)) ((bP fl frs fb fg).D s)).1*(whF r).1) z2
    have f3:=lo2_le (t:=(lo2 ((bP fl frs fb fg).T s frs.length (e1 i)) ((bP fl frs fb fg).D s)).1*(whF r).1) z2
    have b4:BB 20000 ((lo2 ((bP fl frs fb fg).T s frs.length (e1 i)) ((bP fl frs fb fg).D s)).1*(whF r).1):=c8.of_le (by
     rw[cH,cH]
     exact gZ F.bx (aM _))
    have d7:=c9.bb b4 (b2.mono (show 9000<=20000 by decide))
    refine#[_,_,_,_,_,_,rfl,#[h.tup hF,SqT.of ((a0.trans h) _ _ f1),a7.1,a7.2,(B.wr r b9).1,(B.wr r b9).2],F.pos,w.2,b2,λu g5 Y R=>?_]
    have b5:BB 9000 ((lo2 ((bP fl frs fb fg).T s frs.length (e1 i)) ((bP fl frs fb fg).D s)).2*(whF r).2*(whF fg).1):=Bf d6 (bW z2) (Int.mul_le_mul_of_nonneg_right b3 (bW w.2)) (bW wg.1)
    refine#[_,SqT.of ((a0.trans (h.trans Y)) _ _ M.hav),_,iU,_,_,_,_,_,_,rfl,#[SqT.of R,SqT.of ((a0.trans (h.trans Y)) _ _ M.haf),d7.1,d7.2,B.wg.1,B.wg.2],c9.pos,wg.1,Bf b5 (bW c9.pos) f3 (bW wg.1),λz g6 d8 A=>#[h.trans (Y.trans d8),S++[z],by rw[aX];rfl,?_]]
    rw[fL]
    refine eC.snoc (((c4.same (aP.upd hp)).same Y).same d8) ?_
    rw[f2]
    exact SqT.of A
   ·rintro N b0 _ ⟨X,wp,rfl,d9⟩ wl b8
    rw[aA,c7]at d9
    refine#[sz3,λv hv=>?_]
    have h:=(aP.upd (o:=HO.lst (List.map V.ref wp)) b8).trans (aP.upd (o:=HO.tup [.str "best",.ref xv,.ref wl]) hv)
    exact q v fl s none xv wl xp wp _ (((s0.trans a0).trans X).trans h) c1 (((s0.trans a0).trans X).free b8) #[ok,io,un,aI,h _ _ ((g.trans X) _ _ a3),(a2.same (g.trans X)).same h,aP.upd hv _ _ aI,d9.same h]
theorem jJp{b c Z Y lf A av ag:Addr}{T:List Addr}{frs:jA}{fb fg:fP}(B:BeO frs fb fg)(al:∀f∈fb,0<=f.1)(U:1<=frs.length)(b4:1<=fg.length)(M:Wu K G Z Y lf A av af ag T frs fb fg)(s0:aP H G)
  (q:∀v fl s o x w X h d,aP H d->H x=none->H w=none->BeOut K d v fl frs fb fg s o x w X h->Q (.ref v) d) {o3 o7 o8 o9:Option V}:
  Hm K (eQ Q) [some (.ref a),some (.ref b),some (.ref c),o3,some (.ref Z),some (.ref Y),some (.ref av),o7,o8,o9] G:=by
 have lim:=B.lim false
 have m1:frs.length<=100:=lim.m1
 have n1:fg.length<=100:=lim.n1
 have a4:=M.hm.length
 have b5:=jM B.lb
 have wl:(whL (bnF frs fb)).length=frs.length:=by rw[kF,b5]
 (dsimp?[Hm,gW,mU])
 refine#[_,SqT.of M.hlv,_,iJ,_,rfl,#[_,SqL.of M.hmd],#[_,SqL.of M.hll],lN (K:=K) (a:=Z) (b:=A) (xs:=List.map V.ref T) (ys:=List.map V.int (whL (bnF frs fb))) (λi N C=>aP G C/\∃ls,N=List.map V.ref ls/\eG C ls (ofF i (bP false frs fb fg).rowL)) ?_ ?_ #[aP.refl _,[],rfl,trivial] ?_ ?_ ?_]
 ·rw[aA,sizeLine_eq,a4];omega
 ·rw[aA,aA,a4,wl]
 ·rintro i N C _ ⟨s6,_⟩
  exact#[s6.seq (SqL.of M.hmd),s6.seq (SqL.of M.hll)]
 ·rintro i x y p N C hx hy _ ⟨s6,ls,rfl,a1⟩ hp os D
  obtain⟨z,rfl,b7⟩:=eR hx
  obtain⟨v,rfl,hv⟩:=fQ hy
  obtain⟨r,rf,rl,er,b8,c4,b9⟩:=M.hm.get b7
  obtain⟨J,o3,rfl⟩:∃o1 J,os=[o1,J]:=by
   match os,D with
   | [o1,J],_=>exact#[o1,J,rfl]
  have c1:=aL er
  have u:=s6.trans (aP.upd (o:=HO.tup [.ref z,.int v]) hp)
  (dsimp?[Rb,Rg,qK,cL,bR,cK,bF])
  refine#[_,SqT.of aI,rfl,_,_,rfl,_,_,rfl,rfl,#[[some (.ref z),some (.int v)],rfl,rfl],_,rfl,_,SqT.of (u _ _ b8),_,iJ,?_]
  refine#[sz1,λn S=>#[_,rfl,_,aP.upd S _ _ (u _ _ b9),_,aI,by rw[aA,kF,B.lr r c1,sizeLine_eq];show fg.length+1<=_;omega,λl3 a8=>?_]]
  refine#[(u.trans (aP.upd S)).trans (aP.upd a8),ls++[l3],by rw[aX];rfl,?_]
  rw[fL]
  refine eG.snoc (((a1.same (aP.upd hp)).same (aP.upd S)).same (aP.upd a8)) ?_
  rw[aI,rowL_of B er,iF hv,aX];rfl
 ·rintro N C _ ⟨s6,ls,rfl,a1⟩ l7 a9
  rw[aA,a4]at a1
  have u:=s6.trans (aP.upd (o:=HO.lst (List.map V.ref ls)) a9)
  have a0:=a1.same (aP.upd (o:=HO.lst (List.map V.ref ls)) a9)
  have a2:(upd C l7 (.lst (List.map V.ref ls))) l7=some (.lst (List.map V.ref ls)):=aI
  generalize upd C l7 (.lst (List.map V.ref ls))=H7 at u a0 a2
  have c2:ls.length=frs.length:=by rw[a0.length,bH]
  (dsimp?[Qz,qK])
  refine#[_,SqT.of (u _ _ M.hav),_,iJ,_,_,rfl,SqL.of (u _ _ M.hag),by rw[kF];omega,λlt H8 P _ c3=>#[sz1,λl0 a5=>#[_,rfl,_,aP.upd a5 _ _ c3,_,aI,by rw[aA,aA,kF,sizeLine_eq];show fg.length+1<=_;omega,λlg b0=>#[sz1,λl1 a6=>?_]]]]
  have e:=((u.trans P).trans (aP.upd (o:=HO.lst [.int 0]) a5)).trans (aP.upd (o:=HO.lst (List.map V.int ((whL fg).map λx=>-x)++[.int 0])) b0)
  have a7:=(P.trans (aP.upd (o:=HO.lst [.int 0]) a5)).trans (aP.upd (o:=HO.lst (List.map V.int ((whL fg).map λx=>-x)++[.int 0])) b0)
  have a3:(upd (upd H8 l0 (.lst [.int 0])) lg (.lst (List.map V.int ((whL fg).map λx=>-x)++[.int 0]))) lg=some (.lst (List.map V.int ((bP false frs fb fg).rowL frs.length))):=by rw[aI,jX7 B,aX];rfl
  generalize upd (upd H8 l0 (.lst [.int 0])) lg (.lst (List.map V.int ((whL fg).map λx=>-x)++[.int 0]))=H9 at e a7 a3 a6
  refine#[_,aP.upd a6 _ _ (a7 _ _ a2),_,aI,by rw[aA,c2,sizeLine_eq];show frs.length+1<=_;omega,λn S=>?_]
  have l:=(aP.upd (o:=HO.lst [.ref lg]) a6).trans (aP.upd (o:=HO.lst (List.map V.ref ls++[.ref lg])) S)
  have R:xN (upd (upd H9 l1 (.lst [.ref lg])) n (.lst (List.map V.ref ls++[.ref lg]))) n (ls++[lg]) (bP false frs fb fg):=by
   refine#[by rw[aI,aX];rfl,?_]
   show eG _ _ (ofF (frs.length+1) _)
   rw[fL]
   exact eG.snoc ((a0.same a7).same l) (l _ _ a3)
  generalize upd (upd H9 l1 (.lst [.ref lg])) n (.lst (List.map V.ref ls++[.ref lg]))=m at l R
  obtain⟨q0,q1,F,q9,st,f1,f2⟩:=B.fit
  have I:Tr m n (ls++[lg]) (bP false frs fb fg) q0 q1:=#[R,rfl,U,b4,lim,F,q9,st,λj k _ _=>f1 j k,λk _=>f2 k,λi _=>jJX (λf hf=>(Zt B f hf).1) (jZf B al) i]
  exact#[n,_,_,_,_,rfl,I,λp t ins L2 s o g b3 O=>jJq B (M.same ((e.trans l).trans b3)) (s0.trans ((e.trans l).trans b3)) O q]
theorem rd_best{K}:RdS K Uw Zl N_best:=by
 intro m H Q E h
 obtain⟨a,b,c,b3,a8,c8,frs,fb,fg,rfl,I,qn,B,b4,b5,q⟩:=h
 have S:=I.hbs.length
 rw[show start N_best [V.ref a,V.ref b,V.ref c]=[some (.ref a),some (.ref b),some (.ref c),none,none,none,none,none,none,none]from rfl]
 (dsimp![Zl,gA,dC,cD,aZ,aE])
 refine#[#[_,SqL.of I.hb],iN (K:=K) (a:=b) (xs:=List.map V.ref a8) (g:=aZ 3) (D:={ nx:=Hl K (eQ Q),rt:=Q }) (iv_best a b c H fb) ?_ ?_ ?_ ?_]
 ·exact#[none,rfl,aP.refl _,(λ_ h=>nomatch h)]
 ·rintro i Z U _ ⟨_,_,s3,_⟩
  exact s3.seq (SqL.of I.hb)
 ·rintro i x Z U hi ⟨M,rfl,s3,k⟩
  obtain⟨p,rfl,hp⟩:=eR hi
  obtain⟨f,O,hF⟩:=I.hbs.get hp
  have hm:=aL O
  have gf:=I.gb f hm
  have one:BB 20000 (1:Int):=by show(1:Int).natAbs<2^20000;exact Nat.one_lt_two_pow (by decide)
  have b7:BB 20000 (0:Int):=by show(0:Int).natAbs<2^20000;exact dR _
  (dsimp![jK,aZ,aE,tC,fU,tB,eO,cB,aH,bE,hJ,jK,bZ])
  refine#[sz2,λz A=>?_]
  have s4:=s3.trans (aP.upd (o:=HO.tup [.int 0,.int 1]) A)
  refine#[_,_,_,_,_,_,rfl,#[s4.tup hF,SqT.of aI,gf.2.1,gf.2.2.mono (by decide),b7,one],_,rfl,mT (λR=>?_) (λR=>?_)]
  ·have:=qn f hm;simp only[cN,eA,fN]at R;omega
  ·refine#[_,rfl,s4,λg hg=>?_]
   rw[dH O]at hg
   rcases cR.mp hg with hg |hg
   ·exact k g hg
   ·rw[bX.mp hg];simp only[cN,eA,fN]at R;omega
 ·rintro Z U ⟨M,rfl,s3,k⟩
  rw[aA,S,cA]at k
  have b8:=I.hr.length
  have m1:frs.length<=100:=(B.lim false).m1
  have n1:fg.length<=100:=(B.lim false).n1
  (dsimp?[Hl,dN,dC])
  refine#[#[_,s3.seq (SqL.of I.ha)],eP (K:=K) (a:=a) (xs:=List.map V.ref b3) (λi N G=>aP H G/\∃T,N=List.map V.ref T/\xR G T (frs.take i)) ?_ #[s3,[],rfl,trivial] ?_ ?_ ?_]
  ·rw[aA,sizeLine_eq];omega
  ·rintro i N G _ ⟨s4,_⟩
   exact s4.seq (SqL.of I.ha)
  ·rintro i x N G hi _ ⟨s4,T,rfl,a1⟩
   obtain⟨p,rfl,hp⟩:=eR hi
   obtain⟨r,qs,F,a9,b9⟩:=I.hr.get hp
   have j:=aL F
   (dsimp![Re,aE,cB,aH,bE,bZ])
   refine#[_,_,_,rfl,s4.seq (SqL.of a9),b9.same s4,B.gr r j,by rw[B.lr r j];omega,B.cr r j,λv f l w X hv hf Y=>#[s4.trans X,T++[v],by rw[aX];rfl,?_]]
   rw[dH F]
   exact xR.append (show xR w [v] [r]from#[#[f,l,hv,hf,Y],trivial]) (a1.same X)
  ·rintro N G _ ⟨s4,T,rfl,a1⟩ md hmd
   rw[aA,b8,cA]at a1
   have X:=s4.trans (aP.upd (o:=HO.lst (List.map V.ref T)) hmd)
   have a3:=a1.same (aP.upd (o:=HO.lst (List.map V.ref T)) hmd)
   have a0:(upd G md (.lst (List.map V.ref T))) md=some (.lst (List.map V.ref T)):=aI
   generalize upd G md (.lst (List.map V.ref T))=w at X a3 a0
   clear s4 a1 hmd s3
   have c1:=a3.length
   (dsimp?[Qy,gW,mU])
   refine#[#[_,X.seq (SqL.of I.hb)],#[_,SqL.of a0],lN (K:=K) (a:=b) (b:=md) (xs:=List.map V.ref a8) (ys:=List.map V.ref T) (λi N C=>aP w C/\∃n,N=List.map V.ref n/\eC K C n ((bnF frs fb).take i)) ?_ ?_ #[aP.refl _,[],rfl,trivial] ?_ ?_ ?_]
   ·rw[aA,sizeLine_eq,S,B.lb];omega
   ·rw[aA,aA,S,B.lb,c1]
   ·rintro i N C _ ⟨s,_⟩
    exact#[(X.trans s).seq (SqL.of I.hb),s.seq (SqL.of a0)]
   ·rintro i x y p N C hx d _ ⟨s,n,rfl,a2⟩ hp os ho
    obtain⟨pb,rfl,c2⟩:=eR hx
    obtain⟨pm,rfl,c3⟩:=eR d
    obtain⟨f,O,hF⟩:=I.hbs.get c2
    obtain⟨r,rf,rl,F,hv,c4,c9⟩:=a3.get c3
    obtain⟨J,o3,rfl⟩:∃M J,os=[M,J]:=by
     match os,ho with
     | [M,J],_=>exact#[M,J,rfl]
    have j:=aL F
    have b0:=aL O
    have gf:=B.gb f b0
    have u:=s.trans (aP.upd (o:=HO.tup [.ref pb,.ref pm]) hp)
    have wp:=iY λf hf=>(B.gr r j f hf).1
    (dsimp?[Ra,Rf])
    refine#[_,SqT.of aI,rfl,_,_,rfl,_,_,rfl,rfl,#[[some (.ref pb),some (.ref pm)],rfl,rfl],_,rfl,_,SqT.of (u _ _ hv),_,iU,?_]
    refine#[_,_,_,_,_,_,rfl,#[(X.trans u).tup hF,SqT.of (u _ _ c4),gf.2.1,gf.2.2.mono (by decide),(B.wr r j).1,(B.wr r j).2],gf.1,wp.2,(B.tb f b0 r j).1,λt H8 P ht=>#[u.trans P,n++[t],by rw[aX];rfl,?_]]
    rw[dH (vU O F)]
    exact eC.snoc ((a2.same (aP.upd hp)).same P) (SqT.of ht)
   ·rintro N C _ ⟨s,n,rfl,a2⟩ tl a6
    have c5:=jM B.lb
    rw[aA,S,B.lb,←c5,cA]at a2
    have u:=s.trans (aP.upd (o:=HO.lst (List.map V.ref n)) a6)
    have a4:=a2.same (aP.upd (o:=HO.lst (List.map V.ref n)) a6)
    have a5:(upd C tl (.lst (List.map V.ref n))) tl=some (.lst (List.map V.ref n)):=aI
    generalize upd C tl (.lst (List.map V.ref n))=H7 at u a4 a5
    clear s a2 a6
    have c6:=Zt B
    refine#[_,_,_,rfl,SqL.of a5,a4,c6,#[],B.cb,λlv lf ll H8 P hlv hlf hll=>?_]
    have a7:=X.trans (u.trans P)
    refine#[_,_,_,rfl,a7.seq (SqL.of I.hg),I.hgs.same a7,B.gg,#[],B.cg,λav af d0 H9 e hav haf c7=>?_]
    exact jJp B k b4 b5 #[e _ _ (P _ _ (u _ _ a0)),a3.same (u.trans (P.trans e)),e _ _ hlv,e _ _ hlf,e _ _ hll,hav,haf,c7] (a7.trans e) q
noncomputable def Yc:List PySem.Str:=["table","goal","plays","told","goals","lift","columns","rows","found","plan","play","column","weight"]
noncomputable def FrD(K:aO)(H:Hp)(d:Addr)(qs:fO)(P:List Nat->Int×Int):Prop:=∃B,H d=some (.dT B)/\B.map (·.1)=qs.map tk/\∀q∈qs,∃a,kZ B (tk q)=some (.ref a)/\SqT K H a [.int (P q).1,.int (P q).2]
theorem FrD.same{d:Addr}{P:List Nat->Int×Int}(h:FrD K H d qs P)(s:aP H H'):FrD K H' d qs P:=let⟨kv,a,b,c⟩:=h;#[kv,s _ _ a,b,λq J=>let⟨a,e,t⟩:=c q J;#[a,e,s.tup t]]
structure AdO(K:aO)(H:Hp)(v:Addr)(ns:List Nat)(un:List Nat->Nat->Int)(G:Nat->Int)(pd wd wa:Addr)(P Y:List Nat->Int×Int)(W:Int×Int):Prop where
 hv:H v=some (.tup [.ref pd,.ref wd,.ref wa])
 hp:FrD K H pd (dU ns.reverse) P
 hw:FrD K H wd (gB ns ns.length) Y
 ha:H wa=some (.tup [.int W.1,.int W.2])
 op:∀q∈dU ns.reverse,Ts (P q)
 oy:∀b∈gB ns ns.length,Ts (Y b)
 ow:0<W.2/\Int.gcd W.1 W.2=1/\BB 9300 W.1/\BB 9300 W.2
 adv:AdvR (dU ns.reverse) (gB ns ns.length) (λq b=>va (mo un q b)) (λq=>va (gF un G ns q)) (λq=>va (P q)) (λb=>va (Y b)) (va W)
noncomputable def Hu(K:aO):Sp:=λvs H Q _=>∃t g ns A un xs,∃G:Nat->Int,vs=[.ref t,.ref g]/\TbE K H t ns A un/\S3 ns/\SqL K H g xs/\xs.length=ns.length/\(∀q∈dU ns.reverse,(A q).length=ns.length)/\(∀h v,xs[h]?=some v->En H v (G h))/\
 ∀v l k a P Y W H',aP H H'->H l=none->H k=none->AdO K H' v ns un G l k a P Y W->Q (.ref v) H'
noncomputable def jYs(qs:fO)(u:Hp)(l:Addr)(pre:St)(P:List Nat->Int×Int):Nat->St->Hp->Prop:=λi Z U=>∃B M J v,Z=pre++[some (.ref l),M,J,v]/\aP u U/\U l=some (.dT B)/\B.map (·.1)=(qs.take i).map tk/\∀q∈qs.take i,∃a,kZ B (tk q)=some (.ref a)/\U a=some (.tup [.int (P q).1,.int (P q).2])
noncomputable def zH(K:aO):TS:=(cP (hJ (aH (aE 9) (aH (tDZip K (aH (aE 3) (aH (tOp (dO K) (aE 8) (tC (.int 2))) bE))) (aH (cB (Et K) [] E0 (aH (tOp (gJ K) (tOp (dO K) (aE 8) (tC (.int 2))) (tUn iE (tC (.int 1)))) (aH (aE 5) bE))) bE)))))
noncomputable def zK(K:aO):TS:=(Bq (aE 9) (aE 10) (cB (tX K) [] E0 (aH (aE 12) (aH (hJ (aH (tOp (dO K) (aE 11) (tC (.int 0))) (aH (tC (.int 1)) bE))) bE))))
noncomputable def zI(K:aO):TG:=(jN K 3 (eF (aZ 10) (eF (aZ 11) (eF (aZ 12) jO))))
noncomputable def Ji(K:aO):TS:=(cD (gA (iZip3 K (aH (aE 2) (aH (aE 6) (aH (tOp (dO K) (aE 8) (tC (.int 1))) bE)))) (zI K) (zK K)) (zH K))
noncomputable def Jh(K:aO):TS:=(cD (cU vL (aZ 9)) (Ji K))
noncomputable def Jm(K:aO):TE:=(hJ (aH (tC (.int 0)) (aH (tC (.int 1)) bE)))
noncomputable def Jg(K:aO):TS:=(cD (cU (cB (Uw K) [] E0 (aH (aE 7) (aH (tOp qK (dN (dC K (aE 3)) [] (Jm K)) (mS (aH (hJ (aH (tC (.int 1)) (aH (tC (.int 1)) bE))) bE))) (aH (cB (Ay K) [] E0 (aH (aE 6) (aH (tUn iE (tC (.int 1))) bE))) bE)))) (aZ 8)) (Jh K))
noncomputable def zJ(K:aO):TE:=(cB (Ay K) [] E0 (aH (aE 1) (aH (aE 0) bE)))
noncomputable def Jf(K:aO):TS:=(cD (cU (dN (gT (aH (tOp iQ (tCB (jD K) (aH (aE 3) bE)) (tC (.int 1))) bE)) [6] (zJ K)) (aZ 7)) (Jg K))
noncomputable def Jl(K:aO):TE:=(cB (tM K) [] E0 (aH (aE 2) (aH (aE 0) (aH (aE 3) (aH (aE 1) bE)))))
noncomputable def Jj(K:aO):TG:=(jN K 2 (eF (aZ 0) (eF (aZ 1) jO)))
noncomputable def Je(K:aO):TS:=(cD (cU (gW (mU K (aH (aE 2) (aH (cB (Hr K) [] E0 (aH (aE 4) (aH (aE 5) bE))) bE))) 2 [0,3] (Jj K) (Jl K)) (aZ 6)) (Jf K))
noncomputable def Jd(K:aO):TS:=(cD (cU (cB (Dj K) [] E0 (aH (mS (aH (aE 4) bE)) bE)) (aZ 5)) (Je K))
noncomputable def Jk(K:aO):TE:=(cB (Dp K) [] E0 (aH (aE 1) (aH (aE 0) (aH (aE 2) bE))))
noncomputable def Jc(K:aO):TS:=(cD (cU (dN (dC K (aE 2)) [0,1] (Jk K)) (aZ 4)) (Jd K))
noncomputable def Jb(K:aO):TS:=(cD (cU (cB (zP K) [] E0 (aH (aE 0) bE)) (aZ 3)) (Jc K))
noncomputable def Er(K:aO):TS:=(cD (cU (eX (eE K "Table") "plays" (rK K) [] E0 (aE 0) bE) (aZ 2)) (Jb K))
theorem jX3{B:List (List Key×V)}{k:List Key}(h:k∉B.map (·.1)):kZ B k=none:=by
 cases e:kZ B k with
 |none=>rfl
 |some v=>
  obtain⟨w,hw,T,_⟩:=Mn e
  exact absurd (dD.mpr #[w,hw,T]) h
theorem Ps.refs(h:Ps H xs qs):∃S:List Addr,xs=List.map V.ref S:=by
 have:∀x∈xs,∃a,x=V.ref a:=λx hx=>by
  obtain⟨i,hi⟩:=cJ hx
  obtain⟨_,a,_,e,_⟩:=h.get hi
  exact#[a,e]
 clear h
 induction xs with
 |nil=>exact#[[],rfl]
 |cons x t ih=>
  obtain⟨a,rfl⟩:=this x (bT ..)
  obtain⟨S,rfl⟩:=ih λy d=>this y (bI _ d)
  exact#[a::S,rfl]
theorem jYQ{K}:RdS K Hu Er Yc:=by
 intro vs H Q E h
 obtain⟨t,g,ns,A,un,F,G,rfl,tb,s3,hg,xl,cl,hG,k⟩:=h
 obtain⟨nb,b6,q8,q1,n3⟩:=s3.all
 obtain⟨dx,m0,d0,ht⟩:=tb.tab.ins
 have I:AdI ns un G:=#[s3,λq J h hh=>let⟨_,_,e⟩:=tb.en q J h hh;e.bb,λh hh=>(hG h _ (aD #[])).bb]
 rw[show start Yc [V.ref t,V.ref g]=[some (.ref t),some (.ref g),none,none,none,none,none,none,none,none,none,none,none]from rfl]
 (dsimp?[Er,eX];try simp_arith[Er,eX,if_true])
 refine#[dx,_,ht,Le _ _ (by decide+kernel) (by decide+kernel),t,ns,A,rfl,tb.tab,tb.sz,λp ps S s1 _ hp pq=>?_]
 (dsimp?[Jb])
 refine#[t,ns,A,rfl,tb.tab.same s1,tb.sz,λl bs M s2 hl pb=>?_]
 have a8:=s1.trans s2
 have f9:=tb.same a8
 have c2:=s2 _ _ hp
 have e0:=pq.same s2
 have pl:=pq.1
 have bl:=pb.1
 (dsimp?[Jc,dN,dC])
 refine#[#[_,SqL.of c2],eP (K:=K) (a:=p) (xs:=ps) (λi N U=>aP M U/\∃X,N=List.map V.ref X/\eC K U X (((dU ns.reverse).take i).map (gF un G ns))) (by rw[sizeLine_eq];omega) #[aP.refl _,[],rfl,trivial] ?_ ?_ ?_]
 ·rintro i N U _ ⟨s3,_⟩
  exact SqL.of (s3 _ _ c2)
 ·rintro i x N U hi _ ⟨s3,X,rfl,hf⟩
  obtain⟨q,a,eq,rfl,ha⟩:=(e0.same s3).get hi
  have J:=aL eq
  (dsimp?[Jk,cL,bR,cK,bF])
  refine#[t,a,g,ns,A,un,q,F,G,rfl,f9.same s3,ha,J,(a8.trans s3).seq hg,xl,cl q J,λh v e=>(hG h v e).keep (eI (a8.trans s3)),λr H4 s4 hr=>#[s3.trans s4,X++[r],by rw[aX];rfl,?_]]
  rw[dH eq,aX]
  exact eC.snoc (hf.same s4) (SqT.of hr)
 rintro N U _ ⟨s3,X,rfl,hf⟩ gl i3
 rw[pl,cA]at hf
 have s4:=aP.upd (o:=HO.lst (List.map V.ref X)) i3
 have i4:=a8.trans (s3.trans s4)
 have e3:=s3.trans s4
 have e4:(upd U gl (.lst (List.map V.ref X))) gl=some (.lst (List.map V.ref X)):=aI
 have e5:=hf.same s4
 generalize upd U gl (.lst (List.map V.ref X))=H4 at s4 i4 e3 e4 e5
 (dsimp?[Jd])
 refine#[sz1,λg1 i5=>?_]
 have s5:=aP.upd (o:=HO.lst [V.ref gl]) i5
 have g0:∀f∈(dU ns.reverse).map (gF un G ns),0<f.2/\BB 107 f.1/\BB 107 f.2:=λf hf=>by
  obtain⟨q,J,rfl⟩:=dD.mp hf
  have lo:=eK (t:=sm ns.length λh=>G h*un q h) (b:=2520*2520) (by decide)
  have bb:=lo.bb (I.gb J) (n:=23) (by unfold BB;decide)
  exact#[lo.pos,bb.1,bb.2.mono (by decide)]
 have gm:∀f∈(dU ns.reverse).map (gF un G ns),0<f.2/\BB 4000 f.1/\BB 4000 f.2:=λf hf=>let h:=g0 f hf;#[h.1,h.2.1.mono (by decide),h.2.2.mono (by decide)]
 refine#[g1,[gl],[(dU ns.reverse).map (gF un G ns)],(dU ns.reverse).length,rfl,SqL.of aI,#[#[X,s5 _ _ e4,e5.same s5],trivial],#[aM _,by show 1<=100;decide,q1,#[],λr hr=>by rw[bX.mp hr,aA],λr hr f hf=>by rw[bX.mp hr]at hf;exact gm f hf],λz lf H5 s6 hlf mn=>?_]
 have d1:=s5.trans s6
 have ok:=I.ok mn
 have bz:BB 108 (1-z):=mn.bb (n:=107) λr hr f hf=>by rw[bX.mp hr]at hf;exact g0 f hf
 (dsimp?[Je,gW,mU])
 refine#[gl,lf,X,_,z,rfl,SqL.of (d1 _ _ e4),e5.same d1,SqT.of hlf,bz.mono (by decide),gm,by rw[aA];omega,λll ls H6 u hll g3=>#[ll,rfl,#[_,SqL.of ((e3.trans d1).trans u _ _ c2)],#[_,SqL.of hll],?_]]
 have d2:=(e3.trans d1).trans u
 have i6:=g3.length
 rw[aA,aA]at i6
 refine lN (K:=K) (a:=p) (b:=ll) (xs:=ps) (ys:=List.map V.ref ls) (λi N H7=>aP H6 H7/\∃cs,N=List.map V.ref cs/\ClAt H7 cs (((dU ns.reverse).take i).map (adq un G ns z).col)) ?_ ?_ #[aP.refl _,[],rfl,rfl,λi p fs e=>by simp at e] ?_ ?_ ?_
 ·rw[sizeLine_eq];omega
 ·rw[aA];omega
 ·rintro i N H7 _ ⟨s8,_⟩
  exact#[SqL.of ((d2.trans s8) _ _ c2),SqL.of (s8 _ _ hll)]
 ·rintro i x y pp N H7 hx d _ ⟨s8,cs,rfl,hc⟩ e6 os ho
  obtain⟨o2,o3,rfl⟩:∃o1 o2,os=[o1,o2]:=by
   match os,ho with
   | [o1,o2],_=>exact#[o1,o2,rfl]
  obtain⟨q,a,eq,rfl,ha⟩:=(e0.same (d2.trans s8)).get hx
  obtain⟨la,rfl,i7⟩:=eR d
  have J:=aL eq
  obtain⟨f,ef,hlf⟩:=(g3.same s8).get i7
  rw[aY,aY,eq]at ef
  obtain rfl:=aV ef
  have s9:=aP.upd (o:=HO.tup [V.ref a,V.ref la]) e6
  have a1:=(d2.trans s8).trans s9
  (dsimp?[Jj,Jl,cL,bR,cK,bF])
  refine#[_,SqT.of aI,rfl,_,_,rfl,_,_,rfl,rfl,#[[some (.ref a),some (.ref la)],rfl,rfl],t,a,l,la,ns,A,un,q,bs,_,rfl,f9.same a1,s9 _ _ ha,J,SqL.of (a1 _ _ hl),pb.same a1,s9.tup hlf,I.g9 mn J,#[],λl' r H8 a6 h1 h2=>#[(s8.trans s9).trans a6,cs++[r],by rw[aX];rfl,?_]]
  have g4:=s9.trans a6
  rw[dH eq,aX]
  refine#[by rw[bC,bC,hc.1];rfl,λj p' fs e1 C=>?_]
  by_cases jl:j<cs.length
  ·rw[bV jl]at e1
   rw[bV (by rw[←hc.1];exact jl)]at C
   exact(hc.same g4).2 j p' fs e1 C
  ·rw[bO #[]]at e1
   rw[bO (by rw[←hc.1];omega),←hc.1]at C
   generalize j-cs.length=j' at e1 C
   match j',e1,C with
   |0,e1,C=>
    simp at e1 C
    subst e1 C
    exact#[l',h2,h1]
   |n+1,e1,_=>simp at e1
 rintro N H7 _ ⟨s8,cs,rfl,hc⟩ b5 g5
 rw[pl,cA]at hc
 have s9:=aP.upd (o:=HO.lst (List.map V.ref cs)) g5
 have a1:=(d2.trans s8).trans s9
 have c3:=hc.same s9
 have c4:(upd H7 b5 (.lst (List.map V.ref cs))) b5=some (.lst (List.map V.ref cs)):=aI
 have g6:=s9 _ _ (s8 _ _ (u _ _ hlf))
 generalize upd H7 b5 (.lst (List.map V.ref cs))=H9 at a1 c3 c4 g6
 clear g5 s9 hc
 have d4:∀q,(clr ((adq un G ns z).col q)).length=(gB ns ns.length).length+2:=λq=>by
  unfold clr AdQ.col;rw[aA,bC,aA];rfl
 have l0:cs.length=(dU ns.reverse).length:=by rw[c3.1,aA]
 (dsimp?[Jf,dN,gT])
 refine#[_,.inl (SqL.of (a1 _ _ hl)),#[],#[],?_]
 rw[show((bs.length:Int)+1).toNat=(gB ns ns.length).length+1 by omega]
 refine jL (lo:=0) (λi N b7=>aP H9 b7/\∃rw,N=List.map V.ref rw/\xO K b7 rw (ofF i λi=>(dU ns.reverse).map λq=>((clr ((adq un G ns z).col q)).getD i 0,1))) (by rw[sizeLine_eq];omega) #[aP.refl _,[],rfl,trivial] ?_ ?_
 ·rintro i N b7 hi _ ⟨a6,a9,rfl,hr⟩
  (dsimp?[zJ,cL,bR,cK,bF];try simp_arith[zJ,cL,bR,cK,bF,eJ])
  refine#[b5,cs,_,i,i,rfl,SqL.of (a6 _ _ c4),c3.same a6,#[],λfs e7=>?_,λp' ws e8 b8 h1 h2=>#[a6.trans b8,a9++[p'],by rw[aX];rfl,?_]]
  ·obtain⟨q,_,rfl⟩:=dD.mp e7
   exact kQ (by rw[d4];omega)
  ·rw[fL]
   rw[List.map_map]at h2
   exact xO.append (show xO K e8 [p'] [(dU ns.reverse).map λq=>((clr ((adq un G ns z).col q)).getD i 0,1)]from#[#[ws,h1,h2],trivial]) (hr.same b8)
 rintro N b7 _ ⟨a6,a9,rfl,hr⟩ rl g7
 have b8:=aP.upd (o:=HO.lst (List.map V.ref a9)) g7
 have b4:=a6.trans b8
 have d5:=hr.same b8
 have d6:(upd b7 rl (.lst (List.map V.ref a9))) rl=some (.lst (List.map V.ref a9)):=aI
 generalize upd b7 rl (.lst (List.map V.ref a9))=e8 at b4 d5 d6
 clear g7 b8 hr
 have g8:=b4 _ _ (a1 _ _ hl)
 (dsimp?[Jg,dN,dC])
 refine#[#[_,SqL.of g8],eP (K:=K) (a:=l) (xs:=bs) (λi N a7=>aP e8 a7/\∃R,N=List.map V.ref R/\eC K a7 R (((gB ns ns.length).take i).map λ_=>(0,1))) (by rw[sizeLine_eq];omega) #[aP.refl _,[],rfl,trivial] ?_ ?_ ?_]
 ·rintro i N a7 _ ⟨b9,_⟩
  exact SqL.of (b9 _ _ g8)
 ·rintro i x N a7 hi _ ⟨b9,R,rfl,hu⟩
  obtain⟨q,a,eq,rfl,ha⟩:=(pb.same ((a1.trans b4).trans b9)).get hi
  (dsimp?[Jm])
  refine#[sz2,λr hr=>#[b9.trans (aP.upd hr),R++[r],by rw[aX];rfl,?_]]
  rw[dH eq,aX]
  exact eC.snoc (hu.same (aP.upd hr)) (SqT.of aI)
 rintro N a7 _ ⟨b9,R,rfl,hu⟩ ul i8
 rw[bl,cA]at hu
 have i9:=hu.length
 rw[aA]at i9
 refine#[sz2,λp1 j0=>#[sz1,λp2 h0=>?_]]
 have h4:=aP.upd (o:=HO.lst (List.map V.ref R)) i8
 have c5:=aP.upd (o:=HO.tup [V.int 1,V.int 1]) j0
 have d3:=aP.upd (o:=HO.lst [V.ref p1]) h0
 refine#[ul,p2,_,[.ref p1],rfl,rfl,d3 _ _ (c5 _ _ aI),aI,by rw[aA,sizeLine_eq];show _+1<=_;omega,λc6 j1=>?_]
 have e9:=aP.upd (o:=HO.lst (List.map V.ref R++[V.ref p1])) j1
 have a5:=b9.trans (((h4.trans c5).trans d3).trans e9)
 have d7:eC K (upd (upd (upd (upd a7 ul (.lst (List.map V.ref R))) p1 (.tup [.int 1,.int 1])) p2 (.lst [.ref p1])) c6 (.lst (List.map V.ref R++[.ref p1]))) (R++[p1]) (adq un G ns z).fb:=eC.snoc (hu.same (((h4.trans c5).trans d3).trans e9)) (SqT.of (e9 _ _ (d3 _ _ aI)))
 have d8:(upd (upd (upd (upd a7 ul (.lst (List.map V.ref R))) p1 (.tup [.int 1,.int 1])) p2 (.lst [.ref p1])) c6 (.lst (List.map V.ref R++[.ref p1]))) c6=some (.lst (List.map V.ref (R++[p1]))):=by rw[aI,aX];rfl
 generalize upd (upd (upd (upd a7 ul (.lst (List.map V.ref R))) p1 (.tup [.int 1,.int 1])) p2 (.lst [.ref p1])) c6 (.lst (List.map V.ref R++[.ref p1]))=l1 at a5 d7 d8
 have c7:=b4.trans a5
 refine#[b5,cs,_,-1,(gB ns ns.length).length+1,rfl,SqL.of (c7 _ _ c4),c3.same c7,#[],λfs e7=>?_,λgp ws l2 c8 j2 hws=>?_]
 ·obtain⟨q,_,rfl⟩:=dD.mp e7
  have e:=d4 q
  exact qS (by rw[aA,e,aY,aR,show(gB ns ns.length).length+2-1=(gB ns ns.length).length+1 by omega,aD #[]];rfl)
 rw[List.map_map]at hws
 have B:=I.beo mn
 have o1:BB 9000 (1:Int):=by show(1:Int).natAbs<2^9000;exact Nat.one_lt_two_pow (by decide)
 have j3:∀f∈(adq un G ns z).fb,f=(0,1)∨f=(1,1):=λf hf=>by
  rcases cR.mp hf with hf |hf
  ·obtain⟨_,_,rfl⟩:=dD.mp hf;exact .inl rfl
  ·exact .inr (bX.mp hf)
 refine#[rl,c6,gp,a9,R++[p1],ws,(adq un G ns z).frs,(adq un G ns z).fb,(adq un G ns z).fg,rfl,#[(a5.trans c8) _ _ d6,d5.same (a5.trans c8),c8 _ _ d8,d7.same c8,j2,hws,B.gb],λf hf=>by rcases j3 f hf with rfl |rfl<;>decide,B,by rw[AdQ.frs_length];omega,by rw[AdQ.fg_length];exact q1,λv fl s o x w xp wp j4 j5 _ _ O=>?_]
 have a3:=c7.trans (c8.trans j5)
 have a4:=a1.trans a3
 cases o with
 |some c=>exact(AdQ.no_way_ B ok O.ok O.io O.un).elim
 |none=>
  have T:=I.told mn O.ok O.io O.un
  have d9:=a4 _ _ c2
  have f3:=O.hxs.length
  rw[bH,AdQ.fg_length]at f3
  have f3:xp.length=(dU ns.reverse).length:=f3
  (dsimp?[Jh,vL])
  intro pd f4
  (dsimp?[Ji,gA,iZip3])
  have su:=aP.upd (o:=HO.dT []) f4
  refine#[_,SqT.of (su _ _ O.hv),_,iJ,x,rfl,#[_,SqL.of (su _ _ d9)],#[_,SqL.of (su _ _ (a3 _ _ c4))],#[_,SqL.of (su _ _ O.hx)],jW7 (K:=K) (xs:=ps) (ys:=List.map V.ref cs) (zs:=List.map V.ref xp) (g:=zI K) (D:={ nx:=zH K (eQ Q),rt:=Q }) (jYs (dU ns.reverse) j4 pd [some (.ref t),some (.ref g),some (.ref p),some (.ref l),some (.ref gl),some (.ref lf),some (.ref b5),some (.ref rl),some (.ref v)] ((adq un G ns z).P fl s)) ?_ ?_ ?_ ?_ ?_ ?_]
  ·exact#[[],none,none,none,rfl,su,aI,rfl,λq J=>by simp at J]
  ·rintro i Z h5 _ ⟨_,_,_,_,_,a0,_⟩
   exact#[SqL.of (a0 _ _ d9),SqL.of (a0 _ _ (a3 _ _ c4)),SqL.of (a0 _ _ O.hx)]
  ·rw[aA];omega
  ·rw[aA];omega
  ·rintro i x1 y1 z1 pp Z h5 hx d hz ⟨kv,j6,j7,j8,rfl,a0,f5,hk,hP⟩ e6
   obtain⟨q,a,eq,rfl,ha⟩:=(e0.same (a4.trans a0)).get hx
   obtain⟨c,rfl,j9⟩:=eR d
   obtain⟨xa,rfl,k0⟩:=eR hz
   have J:=aL eq
   have sp:=aP.upd (o:=HO.tup [V.ref a,V.ref c,V.ref xa]) e6
   have b0:=a0.trans sp
   obtain⟨_,k1,_⟩:=(c3.same (a3.trans b0)).2 i c _ j9 (by rw[aY,eq];rfl)
   obtain⟨f,ef,k2⟩:=(O.hxs.same b0).get k0
   obtain⟨_,rfl⟩:=fR ef
   have ex:(adq un G ns z).x fl s q=xF fl (adq un G ns z).frs (adq un G ns z).fb (adq un G ns z).fg s i:=by unfold AdQ.x;rw[show(adq un G ns z).qs.idxOf q=i from AdQ.idx (mK _) eq]
   have xb:=T.xb q J
   rw[ex]at xb
   have L0:=ok.lp J
   have Lb:BB 23 (lc ((adq un G ns z).col q)):=(I.bb mn J).lc_bb (by decide) (by unfold BB;decide)
   (dsimp?[zI,zK,Bq])
   refine#[_,SqT.of aI,rfl,_,_,rfl,_,_,rfl,_,_,rfl,rfl,?_]
   (dsimp?[zK,Bq])
   refine#[_,rfl,_,SqT.of k1,_,iU,sz2,λr1 k3=>?_]
   have b3:=aP.upd (o:=HO.tup [V.int (lc ((adq un G ns z).col q)),V.int 1]) k3
   refine#[xa,r1,_,_,_,1,rfl,#[b3.tup k2,SqT.of aI,xb.2.1.mono (by decide),xb.2.2.mono (by decide),Lb.mono (by decide),o1.mono (by decide)],xb.1,by decide,by rw[eA];exact xb.2.2,λr f6 a2 hr=>?_]
   have f7:=(b0.trans b3).trans a2
   have h6:=a2 _ _ (b3 _ _ (sp _ _ f5))
   have h7:f6 a=some (.tup ((tk q).map kV)):=by rw[tS];exact a2 _ _ (b3 _ _ (sp _ _ ha))
   have n0:kZ kv (tk q)=none:=jX3 (by rw[hk];exact λm=>Ds (wB (mK ns.reverse)) (by rw[aY,eq];rfl) (by rw[←map_take];exact m))
   have kl:kv.length<=100:=by
    have:kv.length=(kv.map (·.1)).length:=(aA ..).symm
    rw[hk,aA,dM]at this
    omega
   refine#[_,.inr #[kv,tk q,a,h6,rfl,h7,by rw[sizeLine_eq];omega,rfl],kv++[(tk q,.ref r)],_,_,_,rfl,f7.put f4,by rw[aI,nI _ n0],by rw[aX,hk,dH eq,aX];rfl,λq' c1=>?_]
   have up:∀c F,f6 c=some (.tup F)->(upd f6 pd (.dT (Bg kv (tk q) (.ref r)))) c=some (.tup F):=λc F hc=>by
    rw[bY (λe=>by rw[e,h6]at hc;cases hc)];exact hc
   rw[←nI (.ref r) n0,Ep]
   by_cases e:q'=q
   ·subst e
    refine#[r,by rw[aJ rfl],up _ _ ?_]
    unfold AdQ.P;rw[ex];exact hr
   ·rw[dH eq]at c1
    rcases cR.mp c1 with c1 |c1
    ·obtain⟨a',f1,f2⟩:=hP q' c1
     exact#[a',by rw[aF λz=>e (xY z)];exact f1,up _ _ (a2 _ _ (b3 _ _ (sp _ _ f2)))]
    ·exact absurd (bX.mp c1) e
  ·rintro Z h5 ⟨kv,j6,j7,j8,rfl,a0,f5,hk,hP⟩
   rw[pl,cA]at hk hP
   have c9:=O.hws.same a0
   have h8:=c9.length
   have k4:(wayO fl (adq un G ns z).frs (adq un G ns z).fb (adq un G ns z).fg s none).length=(gB ns ns.length).length+1:=by show(ofF _ _).length=_;rw[bH,AdQ.frs_length];rfl
   rw[k4]at h8
   have k5:=a0 _ _ (a3 _ _ (a1 _ _ hl))
   have h9:=pb.same (a4.trans a0)
   obtain⟨bp,rfl⟩:∃bp:List Addr,bs=List.map V.ref bp:=Ps.refs pb
   rw[aA]at bl
   (dsimp?[zH,tDZip,Lca,Lna])
   refine#[_,SqT.of (a0 _ _ O.hv),_,atI2,w,rfl,(gB ns ns.length).map tk,bp,SqL.of k5,List.map V.ref wp,SqL.of (a0 _ _ O.hw),by rw[aA];exact bl,by rw[aA,aA];omega,λi q kk e1 C=>?_,wB nb,λwd i0=>?_]
   ·rw[aY]at C
    cases eb:(gB ns ns.length)[i]? with
    |none=>rw[eb]at C;cases C
    |some b=>
     rw[eb]at C
     obtain rfl:=aV C
     obtain⟨a,ea,ha⟩:=h9.2 i b eb
     rw[aY,e1]at ea
     obtain rfl:q=a:=by simpa using ea
     rw[tS];exact ha
   have sw:=aP.upd (o:=HO.dT (((gB ns ns.length).map tk).zip (List.map V.ref wp))) i0
   have f8:(List.map V.ref wp)[(List.map V.ref wp).length-1]?=some (V.ref (wp.getD (gB ns ns.length).length 0)):=by rw[aA,h8,aY,aR,show(gB ns ns.length).length+1-1=(gB ns ns.length).length by omega,aD #[]];rfl
   obtain⟨f,ef,k6⟩:=c9.get (i:=(gB ns ns.length).length) (p:=wp.getD (gB ns ns.length).length 0) (by rw[aR,aD #[]];rfl)
   have ef:f=yF fl (adq un G ns z).frs (adq un G ns z).fb (adq un G ns z).fg s (gB ns ns.length).length:=(fR ef).2
   have ym:0<f.2/\BB 9200 f.1/\BB 9000 f.2:=by rw[ef];exact T.ym
   refine#[_,SqT.of (sw _ _ (a0 _ _ O.hv)),_,atI2,_,rfl,_,SqL.of (sw _ _ (a0 _ _ O.hw)),_,qS f8,_,lf,_,_,_,1,rfl,#[sw.tup k6,SqT.of (sw _ _ ((a3.trans a0) _ _ g6)),ym.2.1.mono (by decide),ym.2.2.mono (by decide),bz.mono (by decide),o1.mono (by decide)],ym.1,by decide,by rw[eA];exact ym.2.2,λwa l3 b3 k7=>#[sz3,λk8 i1=>?_]]
   have a2:=b3.trans (aP.upd (o:=HO.tup [V.ref pd,V.ref wd,V.ref wa]) i1)
   have i2:=(a8.trans (a4.trans a0)).trans (sw.trans a2)
   have zp:((gB ns ns.length).map tk).length<=(List.map V.ref wp).length:=by rw[aA,aA];omega
   have z1:0<f.2*1:=by have:=ym.1;rw[eA];exact this
   have lo:=eK (t:=f.1*1-(1-z)*f.2) z1
   refine k k8 pd wd wa ((adq un G ns z).P fl s) ((adq un G ns z).y fl s) _ _ i2 ((a8.trans a4).free f4) ((a8.trans (a4.trans a0)).free i0) #[aI,#[kv,(sw.trans a2) _ _ f5,hk,λq J=>let⟨a,e1,C⟩:=hP q J;#[a,e1,SqT.of ((sw.trans a2) _ _ C)]],#[_,a2 _ _ aI,List.map_fst_zip zp,λb hb=>?_],aP.upd i1 _ _ k7,T.P,T.Y,#[lo.pos,lo.cop,?_],?_]
   ·obtain⟨i,eb⟩:=cJ hb
    have il:=(aK.mp eb).1
    have ew:wp[i]?=some (wp.getD i 0):=by rw[aR,aD #[]];rfl
    obtain⟨f',ef,k9⟩:=(c9.same (sw.trans a2)).get ew
    obtain⟨_,rfl⟩:=fR ef
    refine#[wp.getD i 0,Uk (by rw[List.map_fst_zip zp];exact wB nb) i (by rw[List.getElem?_zip_eq_some];exact#[by rw[aY,eb];rfl,by rw[aY,ew];rfl]),?_]
    unfold AdQ.y
    rw[show(adq un G ns z).bs.idxOf b=i from AdQ.idx nb eb]
    exact k9
   ·have b1:BB 9201 (f.1*1-(1-z)*f.2):=by
     rw[eA]
     exact BB.sub (n:=9200) ym.2.1 ((bz.mul ym.2.2).mono (by decide))
    have:=lo.bb (b1.mono (n:=9300) (by decide)) (by rw[eA];exact ym.2.2.mono (n:=9300) (by decide))
    exact this
   ·have ev:=va_sub (f:=f) (g:=(1-z,1)) ym.1 Int.zero_lt_one
    rw[va_int,ef]at ev
    rw[ef,show va (lo2 _ _)=_ from ev]
    exact T.adv
noncomputable def Cn:List PySem.Str:=["sizes","size"]
noncomputable def rF(K:aO):Sp:=λvs H Q _=>∃l ns,vs=[.ref l]/\SqL K H l (tv ns)/\2<=ns.length/\Sz ns/\Q .non H
noncomputable def Px(l:Addr)(H:Hp):Nat->St->Hp->Prop:=λ_ Z U=>U=H/\∃o,Z=[some (.ref l),o]
noncomputable def uN(K:aO):TS:=(fU (tOr (cY (tOp kK (aE 1) (tC (.int 1)))) (cY (tOp vI (aE 1) (tC (.int 6))))) jK eO)
noncomputable def sY(K:aO):TS:=(cD (fU (tOr (cY (tOp kK (tCB (jD K) (aH (aE 0) bE)) (tC (.int 2)))) (cY (tOp vI (tCB (jD K) (aH (aE 0) bE)) (tC (.int 3))))) jK eO) (gA (dC K (aE 0)) (aZ 1) (uN K)))
theorem Pc{K}:RdS K rF sY Cn:=by
 intro m H Q E h
 obtain⟨l,ns,rfl,P,h2,sz,q⟩:=h
 have h3:=sz.len
 rw[show start Cn [V.ref l]=[some (.ref l),none]from rfl]
 (dsimp?[sY,gA,dC])
 refine#[_,.inl P,?_]
 rw[mX,aF #[]]
 refine#[_,.inl P,?_]
 rw[mX,aF #[]]
 refine#[#[_,P],iN (K:=K) (a:=l) (xs:=tv ns) (g:=aZ 1) (D:=(eQ Q)) (Px l H) ?_ ?_ ?_ ?_]
 ·exact#[rfl,none,rfl]
 ·rintro i Z U _ ⟨rfl,_⟩
  exact P
 ·rintro i x Z U hi ⟨rfl,o,rfl⟩
  obtain⟨n,R,rfl⟩:=Gq hi
  have N:=sz.ge n (aL R)
  have g2:=sz.le n (aL R)
  (dsimp?[uN])
  rw[aF #[],aF #[]]
  exact#[rfl,_,rfl]
 ·rintro Z U ⟨rfl,o,rfl⟩
  exact q
noncomputable def Co:List PySem.Str:=["cells","plays","hands","play"]
noncomputable def rG(K:aO):Sp:=λvs H Q _=>∃c p kvs xs qs d A,vs=[.ref c,.ref p,.int (d:Nat)]/\H c=some (.dT kvs)/\H p=some (.lst xs)/\Ps H xs qs/\(∀q∈qs,sC H kvs A q)/\(∀q∈qs,(A q).length=d)/\kvs.length=qs.length/\Q .non H
noncomputable def Py(c p:Addr)(d:Nat)(H:Hp):Nat->St->Hp->Prop:=λ_ Z U=>U=H/\∃o,Z=[some (.ref c),some (.ref p),some (.int d),o]
noncomputable def oK(K:aO):TS:=(fU (cY (tOp rNe (tCB Qq (aH (aE 0) bE)) (tCB (jD K) (aH (aE 1) bE)))) jK eO)
noncomputable def uO(K:aO):TS:=(cD (fU (tB (Ef (aE 3) (aE 0))) jK eO) (fU (cY (tOp rNe (tCB (jD K) (aH (jY (aE 0) (aE 3)) bE)) (aE 2))) jK eO))
noncomputable def sZ(K:aO):TS:=(cD (gA (dC K (aE 1)) (aZ 3) (uO K)) (oK K))
theorem Pd{K}:RdS K rG sZ Co:=by
 intro m H Q E h
 obtain⟨c,p,n,F,qs,d,A,rfl,hc,hp,S,ok,e,Y,q⟩:=h
 rw[show start Co [V.ref c,V.ref p,V.int d]=[some (.ref c),some (.ref p),some (.int d),none]from rfl]
 (dsimp?[sZ,gA,dC])
 refine#[#[_,SqL.of hp],iN (K:=K) (a:=p) (xs:=F) (g:=aZ 3) (D:={ nx:=oK K _,rt:=Q }) (Py c p d H) ?_ ?_ ?_ ?_]
 ·exact#[rfl,none,rfl]
 ·rintro i Z U _ ⟨rfl,_⟩
  exact SqL.of hp
 ·rintro i x Z U hi ⟨rfl,o,rfl⟩
  obtain⟨b,a,hb,rfl,ha⟩:=S.get hi
  obtain⟨l,hv,C⟩:=ok b (aL hb)
  have f:=e b (aL hb)
  have y:U a=some (.tup ((tk b).map kV)):=by rw[tS];exact ha
  (dsimp?[uO,Ef,jY])
  refine#[_,Lp.t hc y,?_]
  rw[hv]
  refine sQ ?_
  refine#[_,by rw[←hv];exact Lp.t hc y,?_]
  exact#[l,rfl,_,.inl (SqL.of C),iteNS (by rw[f]) #[rfl,_,rfl]]
 ·rintro Z U ⟨rfl,o,rfl⟩
  (dsimp?[oK,Qq])
  refine#[_,hc,_,.inl (SqL.of hp),?_]
  rw[Y,S.1]
  refine iteNS rfl q
noncomputable def Gm:List PySem.Str:=["self","sizes","cells","plays","play"]
noncomputable def tO(K:aO):Sp:=λvs H Q _=>∃t f s c ns kvs A,vs=[.ref t,.ref s,.ref c]/\H t=some (.ins (eE K "Table") f [])/\SqL K H s (tv ns)/\2<=ns.length/\Sz ns/\H c=some (.dT kvs)/\(∀q∈dU ns.reverse,sC H kvs A q)/\(∀q∈dU ns.reverse,(A q).length=ns.length)/\kvs.length=(dU ns.reverse).length/\
 ∀H',Sb t H H'->xB K H' t ns A->Q .non H'
noncomputable def Ql(K:aO)(t f s c p m d:Addr)(ns:List Nat)(A:List Nat->List V)(H:Hp)(xs:List V):Nat->St->Hp->Prop:=λi Z U=>∃kvs o,Z=[some (.ref t),some (.ref s),some (.ref c),some (.ref p),o]/\Sb t H U/\U t=some (.ins (eE K "Table") f (Cu m d))/\U m=some (.lst (tv ns))/\U p=some (.lst xs)/\Ps U xs (dU ns.reverse)/\
 H d=none/\U d=some (.dT kvs)/\kvs.length<=i/\∀q∈(dU ns.reverse).take i,sC U kvs A q
noncomputable def xD(K:aO):TS:=(Bq (gK K (aE 0) "cells") (aE 4) (tCB (pX K) (aH (jY (aE 2) (aE 4)) bE)))
noncomputable def wT(K:aO):TS:=(cD (oX (cB (rF K) [] E0 (aH (aE 1) bE))) (cD (cU (cB (sI K) [] E0 (aH (aE 1) bE)) (aZ 3)) (cD (oX (cB (rG K) [] E0 (aH (aE 2) (aH (aE 3) (aH (tCB (jD K) (aH (aE 1) bE)) bE))))) (cD (xQ K (aE 0) (tCB (pX K) (aH (aE 1) bE)) "many") (cD (xQ K (aE 0) vL "cells") (gA (dC K (aE 3)) (aZ 4) (xD K)))))))
theorem Sb.keepT{t f:Addr}{fs:List (Str×V)}(s:Sb t H H')(h:H t=some (.ins C f fs)):Ir H H':=λa F e=>s a _ e (kU e h (by intro z;cases z))
theorem Sb.put{t d:Addr}(s:Sb t H G)(h:H d=none):Sb t H (upd G d o):=λb u e hb=>by rw[bY (dE e h)];exact s b u e hb
theorem Qh{K vs H Q E}(T:TabK K)(h:tO K vs H Q E):wT K (eQ Q) (start Gm vs) H:=by
 obtain⟨t,f,s,c,ns,n,A,rfl,y,P,h2,sz,hc,ok,oh,Y,q⟩:=h
 rw[show start Gm [V.ref t,V.ref s,V.ref c]=[some (.ref t),some (.ref s),some (.ref c),none,none]from rfl]
 (dsimp?[wT,oX,xQ,vL,pX,gA,dC])
 refine#[s,ns,rfl,P,h2,sz,s,ns,rfl,P,sz,λp F S O hp hP ps=>?_]
 refine#[_,.inl (O.seq P),?_]
 rw[mX]
 refine#[c,p,n,F,dU ns.reverse,ns.length,A,rfl,O _ _ hc,hP,ps,λq J=>(ok q J).same O,oh,Y,?_]
 refine#[_,.inl (O.seq P),λm hm=>?_]
 have s2:aP S (upd S m (.lst (tv ns))):=aP.upd hm
 generalize C:upd S m (.lst (tv ns))=M at s2
 have m2:M m=some (.lst (tv ns)):=by rw[←C];exact aI
 have N:M t=some (.ins (eE K "Table") f []):=s2 _ _ (O _ _ y)
 refine#[_,f,[],N,T.cl,T.nM,by show 0<1000;decide,λd hd=>?_]
 have t3:(upd M t (.ins (eE K "Table") f (gY "many" (.ref m) []))) t=some (.ins (eE K "Table") f (gY "many" (.ref m) [])):=aI
 have a0:t≠d:=dE t3 hd
 refine#[_,f,_,(by rw[bY a0];exact t3),T.cl,T.nC,by show 1<1000;decide,?_]
 have b1:Sb t M (upd (upd (upd M t (.ins (eE K "Table") f (gY "many" (.ref m) []))) d (.dT [])) t (.ins (eE K "Table") f (Cu m d))):=(Sb.at.trans (Sb.of (aP.upd hd))).trans Sb.at
 have d5:(upd (upd (upd M t (.ins (eE K "Table") f (gY "many" (.ref m) []))) d (.dT [])) t (.ins (eE K "Table") f (Cu m d))) d=some (.dT []):=by rw[bY a0.symm];exact aI
 have I:(upd (upd (upd M t (.ins (eE K "Table") f (gY "many" (.ref m) []))) d (.dT [])) t (.ins (eE K "Table") f (Cu m d))) t=some (.ins (eE K "Table") f (Cu m d)):=aI
 have a3:H d=none:=Sb.free ((Sb.of (O.trans s2)).trans Sb.at) hd a0.symm
 rw[show gY "cells" (V.ref d) (gY "many" (V.ref m) [])=Cu m d from rfl]
 generalize (upd (upd (upd M t (.ins (eE K "Table") f (gY "many" (.ref m) []))) d (.dT [])) t (.ins (eE K "Table") f (Cu m d)))=w at b1 d5 I
 have U:Sb t H w:=(Sb.of (O.trans s2)).trans b1
 have mt:m≠t:=kU m2 N (by intro z;cases z)
 have pt:p≠t:=kU (s2 _ _ hP) N (by intro z;cases z)
 have r:w p=some (.lst F):=b1 _ _ (s2 _ _ hP) pt
 have k:Ps w F (dU ns.reverse):=(ps.same s2).keep (b1.keepT N)
 have a7:(dU ns.reverse).length<=216:=sz.rev.ord
 refine#[p,rfl,#[_,SqL.of r],iN (K:=K) (a:=p) (xs:=F) (g:=aZ 4) (D:=(eQ Q)) (Ql K t f s c p m d ns A H F) ?_ ?_ ?_ ?_]
 ·exact#[[],none,rfl,U,I,b1 _ _ m2 mt,r,k,a3,d5,aM _,λq J=>(by simp at J)]
 ·rintro i Z G _ ⟨_,_,_,_,_,_,hp,_⟩
  exact SqL.of hp
 ·rintro i x Z G hi ⟨B,o,rfl,R,tG,mG,pG,a1,hd,dG,hk,X⟩
  obtain⟨b,a,hb,rfl,ha⟩:=a1.get hi
  have j:i<(dU ns.reverse).length:=(aK.mp hb).1
  obtain⟨l,hv,hL⟩:=ok b (aL hb)
  have cG:G c=some (.dT n):=R _ _ hc (kU hc y (by intro z;cases z))
  have lG:G l=some (.lst (A b)):=R _ _ hL (kU hL y (by intro z;cases z))
  have aG:G a=some (.tup ((tk b).map kV)):=by rw[tS];exact ha
  (dsimp?[xD,Bq,jY,gK,pX])
  refine#[_,by rw[←hv];exact Lp.t cG aG,?_]
  refine#[l,rfl,_,.inl (SqL.of lG),λv u=>?_]
  have s6:aP G (upd G v (.lst (A b))):=aP.upd u
  have d6:(upd G v (.lst (A b))) d=some (.dT B):=s6 _ _ dG
  refine#[_,_,_,s6 _ _ tG,T.cl,T.nC,_,On _ _,d,rfl,_,DPut.t d6 (s6 _ _ aG) (small' #[]),?_]
  refine#[_,_,rfl,(R.trans (Sb.of s6)).put hd,?_,?_,?_,?_,hd,aI,?_,?_]
  ·rw[bY (kU (s6 _ _ tG) d6 (by intro z;cases z))];exact s6 _ _ tG
  ·rw[bY (kU (s6 _ _ mG) d6 (by intro z;cases z))];exact s6 _ _ mG
  ·rw[bY (kU (s6 _ _ pG) d6 (by intro z;cases z))];exact s6 _ _ pG
  ·exact(a1.same s6).keep λb F e=>by rw[bY (kU e d6 (by intro z;cases z))];exact e
  ·have:=zT B (tk b) (V.ref v)
   omega
  ·intro q J
   rw[dH hb]at J
   have a4:v≠d:=kU aI d6 (by intro z;cases z)
   by_cases e:q=b
   ·subst e
    exact#[v,by rw[Ep,aJ rfl],by rw[bY a4];exact aI]
   ·have a5:q∈(dU ns.reverse).take i:=by
     rcases cR.mp J with h |h
     ·exact h
     ·exact absurd (bX.mp h) e
    obtain⟨l2,a6,a2⟩:=X q a5
    exact#[l2,by rw[Ep,aF (λz=>e (xY z))];exact a6,by rw[bY (kU (s6 _ _ a2) d6 (by intro z;cases z))];exact s6 _ _ a2]
 ·rintro Z G ⟨B,o,rfl,R,tG,mG,_,_,_,dG,_,X⟩
  rw[show F.length=(dU ns.reverse).length from ps.1,cA]at X
  exact q G R #[f,m,d,B,tG,mG,dG,X]
noncomputable def Cl:List PySem.Str:=["_law_cells","_law_found","_law_play"]
noncomputable def rE(_:aO):Sp:=λvs H Q _=>∃(d:Addr)(qs:fO)(A:List Nat->List V)(B:List (List Key×V)),vs=[.ref d]/\H d=some (.dT B)/\B.map (·.1)=qs.map tk/\(∀q∈qs,sC H B A q)/\qs.Nodup/\qs.length<=100/\(∀q,(A q).length<=100)/\∀p G H',aP H H'->H' p=some (.dT G)->G.map (·.1)=qs.reverse.map tk->(∀q∈qs,sC H' G A q)->Q (.ref p) H'
noncomputable def Pw(d p l:Addr)(X:List Addr)(u:Hp)(qs:fO)(A:List Nat->List V):Nat->St->Hp->Prop:=λi Z U=>∃G o,Z=[some (.ref d),some (.ref p),o]/\aP u U/\U l=some (.lst (X.map V.ref))/\U p=some (.dT G)/\G.map (·.1)=(qs.reverse.take i).map tk/\∀q∈qs.reverse.take i,sC U G A q
noncomputable def uM(K:aO):TS:=(Bq (aE 1) (aE 2) (tCB (pX K) (aH (jY (aE 0) (aE 2)) bE)))
noncomputable def sW(K:aO):TS:=(cD (cU vL (aZ 1)) (cD (gA (iRev K (tKeys (aE 0))) (aZ 2) (uM K)) (cP (aE 1))))
theorem Pa{K}:RdS K rE sW Cl:=by
 intro vs H Q E h
 obtain⟨d,qs,A,B,rfl,hd,hk,hc,nd,R,Y,k⟩:=h
 rw[show start Cl [V.ref d]=[some (.ref d),none,none]from rfl]
 (dsimp?[sW,vL,gA,iRev,tKeys])
 intro p hp
 have dp:d≠p:=λe=>by rw[e,hp]at hd;cases hd
 refine#[B,.inl (by rw[bY dp];exact hd),λl X O b a3=>#[_,SqL.of aI,?_]]
 have kl:B.length=qs.length:=by rw[←aA (f:=(·.1)),hk,aA]
 have ks:∀(j:Nat)(r:Addr)(q:List Nat),X[j]?=some r->qs[j]?=some q->H r=some (.tup ((tk q).map kV)):=λj r q e1 C=>by
  have T:(B.map (·.1))[j]?=some (tk q):=by rw[hk,aY,C];rfl
  rw[aY]at T
  cases ev:B[j]? with
  |none=>rw[ev]at T;cases T
  |some w=>
   rw[ev]at T
   have t:w.1=tk q:=by simpa using T
   have e5:=a3 j r w e1 ev
   rw[t]at e5
   by_cases e:r=p
   ·rw[e,aI]at e5;cases e5
   ·rwa [bY e]at e5
 have M:aP H (upd (upd H p (.dT [])) l (.lst (X.map V.ref))):=(aP.upd hp).trans (aP.upd O)
 have lp:p≠l:=λe=>by rw[←e,aI]at O;cases O
 refine for_rev (K:=K) (a:=l) (xs:=List.map V.ref X) (g:=aZ 2) (D:={ nx:=cP (aE 1) (eQ Q),rt:=Q }) (Pw d p l X H qs A) #[[],none,rfl,M,aI,by rw[bY lp];exact aI,rfl,λq J=>nomatch J] ?_ ?_ ?_
 ·rintro i Z U _ ⟨_,_,_,_,h3,_⟩
  exact SqL.of h3
 ·rintro i x Z U hi hx ⟨G,o,rfl,s3,h3,a0,s,a1⟩
  rw[aA]at hi hx
  obtain⟨r,rfl,hr⟩:=eR hx
  have P:X.length-1-i<qs.length:=#[]
  have eq:=aD P
  have rv:qs.reverse[i]?=some qs[X.length-1-i]:=by rw[List.getElem?_reverse #[],←eq];congr 1;omega
  generalize qs[X.length-1-i]=q at eq rv
  have J:q∈qs:=aL eq
  have a2:=s3 _ _ (ks _ r q hr eq)
  obtain⟨l',e1,C⟩:=hc q J
  have N:kZ G (tk q)=none:=by
   cases e:kZ G (tk q)with
   |none=>rfl
   |some v=>
    obtain⟨w,hw,T,_⟩:=Mn e
    have m:tk q∈G.map (·.1):=dD.mpr #[w,hw,T]
    rw[s]at m
    obtain⟨q',y,t⟩:=dD.mp m
    have e5:=xY t
    subst e5
    obtain⟨j,S⟩:=cJ y
    have jl:j<i:=by have:=(aK.mp S).1;rw[dM]at this;omega
    rw[List.getElem?_take_of_lt jl]at S
    have:=(List.getElem?_inj (l:=qs.reverse) (by rw[cT];omega) (List.pairwise_reverse.mpr (nd.imp λh=>h.symm))).mp (S.trans rv.symm)
    omega
  (dsimp?[uM,jY,pX,Bq])
  refine#[_,.inr #[B,tk q,r,.inl (s3 _ _ hd),rfl,a2,e1.symm],_,rfl,_,.inl (SqL.of (s3 _ _ C)),λm hm=>?_]
  have I:aP U (upd U m (.lst (A q))):=aP.upd hm
  have a5:G.length<=100:=by
   have:G.length=(G.map (·.1)).length:=(aA ..).symm
   rw[s,aA,dM,cT]at this
   omega
  have a4:l≠p:=λe=>by rw[e,a0]at h3;cases h3
  refine#[_,.inr #[G,tk q,r,I _ _ a0,rfl,I _ _ a2,by rw[sizeLine_eq];omega,rfl],?_]
  rw[nI _ N]
  refine#[_,_,rfl,λc o hc=>?_,by rw[bY a4];exact I _ _ h3,aI,?_,λq' y=>?_]
  ·rw[bY (λe=>by rw[e,hp]at hc;cases hc)];exact I _ _ (s3 _ _ hc)
  ·rw[aX,s,dH rv,aX];rfl
  ·rw[dH rv]at y
   have up:∀c F,(upd U m (.lst (A q))) c=some (.lst F)->(upd (upd U m (.lst (A q))) p (.dT (G++[(tk q,.ref m)]))) c=some (.lst F):=λc F hc=>by
    rw[bY (λe=>by rw[e,I _ _ a0]at hc;cases hc)];exact hc
   rw[←nI (.ref m) N]
   unfold sC
   rw[Ep]
   by_cases e:q'=q
   ·subst e
    exact#[m,by rw[aJ rfl],by rw[nI _ N];exact up _ _ aI]
   ·rcases cR.mp y with y |y
    ·obtain⟨n,f1,u⟩:=a1 q' y
     exact#[n,by rw[aF λz=>e (xY z)];exact f1,by rw[nI _ N];exact up _ _ (I _ _ u)]
    ·exact absurd (bX.mp y) e
 ·rintro Z U ⟨G,o,rfl,s3,h3,a0,s,a1⟩
  (dsimp![aE,tC,tOp,rI0,rNe,gL,cP,cY])
  rw[aA,b,kl,←cT,cA]at s a1
  exact k p G U s3 a0 s λq J=>a1 q (List.mem_reverse.mpr J)
noncomputable def Ya:List PySem.Str:=["_law_sizes","_law_found","_law_hand","_law_told"]
noncomputable def Hs(K:aO):Sp:=λvs H Q _=>∃z ns,vs=[.ref z]/\SqL K H z (tv ns)/\Sz ns/\∀p xs H',aP H H'->H' p=some (.lst xs)->Ps H' xs (gB ns ns.length)->Q (.ref p) H'
noncomputable def Hz(z:Addr)(u:Hp)(ns:List Nat):Nat->St->Hp->Prop:=λi Z U=>∃l ys M J,Z=[some (.ref z),some (.ref l),M,J]/\aP u U/\U l=some (.lst ys)/\Ps U ys (gB ns i)
noncomputable def jZJ(z:Addr)(u:Hp)(ns:List Nat)(h n:Nat):Nat->St->Hp->Prop:=λc Z U=>∃l ys J,Z=[some (.ref z),some (.ref l),some (.int h),J]/\aP u U/\U l=some (.lst ys)/\Ps U ys (gB ns h++(List.range c).flatMap (vJ h n))
noncomputable def zC(K:aO):TE:=(hJ (aH (aE 1) (aH (aE 2) (aH (aE 0) bE))))
noncomputable def zF(K:aO):TS:=(cU (tOp qK (aE 1) (jZ (gT (aH (tOp (gJ K) (aE 0) (aE 2)) bE)) [2,3] (cY (tOp rNe (aE 0) (aE 2))) (zC K))) (aZ 1))
noncomputable def zE(K:aO):TS:=(gA (gT (aH (tOp (gJ K) (aE 0) (aE 2)) bE)) (aZ 3) (zF K))
noncomputable def Ja(K:aO):TS:=(cD (gA (gT (aH (tCB (jD K) (aH (aE 0) bE)) bE)) (aZ 2) (zE K)) (cP (aE 1)))
noncomputable def Mv(K:aO):TS:=(cD (cU (mS bE) (aZ 1)) (Ja K))
theorem jYV{K}:RdS K Hs Mv Ya:=by
 intro vs H Q E h
 obtain⟨z,ns,rfl,A,sz,q⟩:=h
 rw[show start Ya [V.ref z]=[some (.ref z),none,none,none]from rfl]
 have n3:=sz.len
 have F:(tv ns).length=ns.length:=aA ..
 (dsimp?[Mv,Ja,gA,gT])
 refine#[sz0,λl Y=>?_]
 have O:aP H (upd H l (.lst [])):=aP.upd Y
 have a:(upd H l (.lst [])) l=some (.lst []):=aI
 generalize upd H l (.lst [])=S at O a
 refine#[_,.inl (O.seq A),#[],#[],?_]
 rw[show((tv ns).length:Int).toNat=ns.length by rw[F];rfl]
 refine uC (lo:=0) (n:=ns.length) (g:=aZ 2) (D:={ nx:=cP (aE 1) (eQ Q),rt:=Q }) (Hz z H ns) #[l,[],none,none,rfl,O,a,Ps.nil] ?_ ?_
 ·rintro i Z U d ⟨l,T,M,J,rfl,s3,j,b⟩
  have R:ns[i]?=some ns[i]:=aD d
  have x:=sz.le ns[i] (cS d)
  have y:(tv ns)[i]?=some (.int (ns[i]:Nat)):=by unfold tv;rw[aY,R];rfl
  generalize hN:ns[i]=n at R x y
  (dsimp?[zE,gA,gT];try simp_arith[zE,gA,gT,eJ])
  refine#[_,s3.seq A,_,gM y,_,rfl,#[],#[],?_]
  rw[show((n:Nat):Int).toNat=n from rfl]
  refine uC (lo:=0) (n:=n) (g:=aZ 3) (D:={ nx:=Hz z H ns (i+1),rt:=Q,ct:=Hz z H ns (i+1),bk:=cP (aE 1) (eQ Q) }) (jZJ z H ns i n) #[l,T,_,rfl,s3,j,by rw[List.range_zero,List.flatMap_nil,bZ];exact b] ?_ ?_
  ·rintro c Z G hc ⟨l,T,v,rfl,X,s,b⟩
   (dsimp?[zF,jZ,gT];try simp_arith[zF,jZ,gT,eJ])
   refine#[_,X.seq A,_,gM y,_,rfl,#[],#[],?_]
   rw[show((n:Nat):Int).toNat=n from rfl]
   refine Jv (lo:=0) (n:=n) (λk N w=>aP G w/\Ps w N (((List.range k).filter λo=>decide (o≠c)).map λo=>[i,c,o])) (pW #[]) #[aP.refl _,Ps.nil] ?_ ?_
   ·rintro k N w hk _ ⟨u,B⟩
    (dsimp?[cL,bR,cK,zC];try simp_arith[cL,bR,cK,eJ,zC])
    rw[gO,List.filter_append]
    refine#[rfl,?_]
    by_cases e:k=c
    ·subst e
     rw[aF (by simp),gI (by simp),List.filter_nil,bZ]
     exact#[u,B]
    ·rw[aJ (by simp;omega),gH (by simpa using e),List.filter_nil]
     refine And.intro (sz3) (λr hr=>⟨u.trans (aP.upd hr),?_⟩)
     rw[aX]
     exact(B.same (aP.upd hr)).app (Ps.one (by rw[aI];rfl))
   ·rintro N w ⟨u,B⟩ r hr
    have P:aP w (upd w r (.lst N)):=aP.upd hr
    have I:Ps w N (vJ i n c):=B
    have e1:=Xt sz (i:=i) #[]
    have C:=yL (f:=vJ i n) (m:=6) (l:=List.range c) λc _=>cO yO x
    have e3:=@yO i n c
    have t:T.length=(gB ns i++(List.range c).flatMap (vJ i n)).length:=b.1
    rw[bC]at t
    rw[gQ]at C
    have e5:N.length=(vJ i n c).length:=I.1
    refine#[l,r,T,N,rfl,rfl,P _ _ (u _ _ s),aI,pW #[],λp hp=>#[p,T++N,_,rfl,((X.trans u).trans P).trans (aP.upd hp),aI,?_]]
    rw[gO,List.flatMap_append,List.flatMap_singleton,←List.append_assoc]
    exact((b.same (u.trans P)).app (I.same P)).same (aP.upd hp)
  ·rintro Z G ⟨l,T,v,rfl,X,s,b⟩
   refine#[l,T,_,_,rfl,X,s,?_]
   have e:gB ns (i+1)=gB ns i++(List.range n).flatMap (vJ i n):=by
    unfold gB
    rw[gO,List.flatMap_append,List.flatMap_singleton,show ns.getD i 0=n by rw[aR,R];rfl]
    rfl
   rw[e];exact b
 ·rintro Z U ⟨l,T,M,J,rfl,s3,j,b⟩
  (dsimp![aE,tC,tOp,rI0,rNe,gL,cP,cY])
  exact q l T U s3 j b
noncomputable def Tf:List PySem.Str:=["_law_found"]
noncomputable def lB(_:aO):Sp:=λvs H Q _=>∃i,vs=[.int i]/\Q (.bl true) H
noncomputable def Av(K:aO):TS:=(cP (rY (tCB Ki (aH (aE 0) (aH (tC (.ty "int")) bE))) (xT (tCB Ki (aH (aE 0) (aH (tC (.ty "bool")) bE))))))
theorem jJh{K}:RdS K lB Av Tf:=by
 intro m H Q E h
 obtain⟨i,rfl,q⟩:=h
 rw[show start Tf [V.int i]=[some (.int i)]from rfl]
 (try dsimp only[Av,aE,tC,cP,aH,bE,tCB,Ki,rY,xT,Lq0,fG,fH,fF];try simp only[Av,aE,tC,cP,aH,bE,tCB,Ki,rY,xT,Lq0,Option.some.injEq,exists_eq_left',V.bl.injEq,V.ty.injEq,List.cons.injEq,and_true,exists_and_left,and_assoc,exists_eq_left,V.int.injEq,V.ref.injEq,true_and,fG,fH,fF,gX,kD,iK])
 exact#[true,.inl #[rfl,rfl],iteT #[false,.inr #[rfl,rfl],q]]
noncomputable def Xz:List PySem.Str:=["_law_found","_law_due","_law_key","_law_one"]
noncomputable def DueK(K:aO)(H:Hp)(l:Addr)(qs:fO):Prop:=(∃B,H l=some (.dT B)/\B.map (·.1)=qs.map tk)∨∃xs,SqL K H l xs/\Ps H xs qs
noncomputable def Ba(K:aO):Sp:=λvs H Q _=>∃f l qs P,vs=[.ref f,.ref l]/\FrD K H f qs P/\(∀q∈qs,Ts (P q))/\DueK K H l qs/\qs.length<=100/\Q (.bl true) H
noncomputable def pB(K:aO):TS:=(cP (tC (.bl true)))
noncomputable def yY(K:aO):TS:=(fU (tOr (cY (tOp kK (tOp (dO K) (aE 3) (tC (.int 1))) (tC (.int 1)))) (tOr (cY (tOp kK (tOp (dO K) (aE 3) (tC (.int 0))) (tC (.int 0)))) (cY (tOp rNe (cB (jG K) [] E0 (aH (tOp (dO K) (aE 3) (tC (.int 0))) (aH (tOp (dO K) (aE 3) (tC (.int 1))) bE))) (tC (.int 1)))))) (cP (tC (.bl false))) eO)
noncomputable def yV(K:aO):TS:=(cD (fU (tOr (vG (tB (tCB (cIsT K) (aH (aE 3) (aH (tC (.ty "tuple")) bE))))) (tOr (cY (tOp rNe (tCB (jD K) (aH (aE 3) bE)) (tC (.int 2)))) (tOr (vG (tB (cB (lB K) [] E0 (aH (tOp (dO K) (aE 3) (tC (.int 0))) bE)))) (vG (tB (cB (lB K) [] E0 (aH (tOp (dO K) (aE 3) (tC (.int 1))) bE))))))) (cP (tC (.bl false))) eO) (yY K))
noncomputable def Iz(K:aO):TS:=(cD (cU (jY (aE 0) (aE 2)) (aZ 3)) (yV K))
noncomputable def yZ(K:aO):TS:=(cD (fU (tB (Ef (aE 2) (aE 0))) (cP (tC (.bl false))) eO) (Iz K))
noncomputable def yU(K:aO):TS:=(cD (Lk (gA (Lm K (aE 1)) (aZ 2) (yZ K))) (pB K))
noncomputable def Mu(K:aO):TS:=(cD (fU (tOr (vG (tB (tCB cIsD (aH (aE 0) (aH (tC (.ty "dict")) bE))))) (cY (tOp rNe (tCB Qq (aH (aE 0) bE)) (tCB (cLenA K) (aH (aE 1) bE))))) (cP (tC (.bl false))) eO) (yU K))
theorem SqT.offD{r:Addr}{B:List (List Key×V)}(h:SqT K H p xs)(hr:Rd H r (.dT B)):SqT K (upd H r o) p xs:=by
 have n:∀{u:HO},H p=some u->(u=.tup xs∨∃o,u=.frz o (.tup xs))->p≠r:=λhp R e=>by
  subst e
  rcases hr with hr |⟨o,hr⟩<;>rw[hp]at hr<;>cases hr<;>rcases R with R |⟨_,R⟩<;>cases R
 rcases h with(h |⟨o,h⟩)|h
 ·exact .inl (.inl (by rw[bY (n h (.inl rfl))];exact h))
 ·exact .inl (.inr #[o,by rw[bY (n h (.inr #[_,rfl]))];exact h])
 ·exact .inr h
theorem Rw{D:rW}{f l b:Addr}{o:Option V}{U:Hp}{q:List Nat}{d:List (List Key×V)}{p:Int×Int}(rd:Rd U f (.dT d))(hb:U b=some (.tup ((tk q).map kV)))(g:kZ d (tk q)=some (.ref a))(ha:SqT K U a [.int p.1,.int p.2])(ok:Ts p)(nx:D.nx [some (.ref f),some (.ref l),some (.ref b),some (.ref a)] U):yZ K D [some (.ref f),some (.ref l),some (.ref b),o] U:=by
 (dsimp?[yZ,Ef])
 refine#[_,.inr #[d,tk q,b,rd,rfl,hb,rfl],?_]
 rw[g,aF (by simp)]
 (dsimp?[Iz,jY])
 refine#[_,.inr #[d,tk q,b,rd,rfl,hb,g.symm],?_]
 (dsimp?[yV,cIsT];try simp_arith[yV,cIsT,lB])
 refine#[_,ha,sQ #[_,.inr ha,sQ #[_,ha,_,iU,_,rfl,sQ #[_,ha,_,iJ,_,rfl,sQ ?_]]]]
 (dsimp?[yY];try simp_arith[yY,jG])
 have p:=ok.p
 have n:=ok.n
 refine#[_,ha,_,iJ,_,rfl,mT (λz=>by omega) λ_=>#[_,ha,_,iU,_,rfl,mT (λz=>by omega) λ_=>#[_,ha,_,iU,_,ha,_,iJ,_,rfl,_,rfl,?_]]]
 rw[ok.c,aF (by decide)]
 exact nx
theorem jYW{K}:RdS K Ba Mu Xz:=by
 intro m H Q E h
 obtain⟨f,l,qs,P,rfl,⟨B,hf,hk,hv⟩,ok,r,v,k⟩:=h
 rw[show start Xz [V.ref f,V.ref l]=[some (.ref f),some (.ref l),none,none]from rfl]
 have kl:B.length=qs.length:=by rw[←aA (f:=(·.1)),hk,aA]
 (dsimp?[Mu,cIsD,Qq,cLenA])
 have go:yU K { nx:=λx d=>Q V.non d,rt:=Q } [some (V.ref f),some (V.ref l),none,none] H:=by
  (dsimp?[yU,Lk,gA,Lm])
  intro n O
  rcases r with⟨c,hd,p⟩|⟨F,Y,S⟩
  ·have s:c.length=qs.length:=by rw[←aA (f:=(·.1)),p,aA]
   refine .inr #[c,.inl #[hd,λob=>?_]]
   have rd:Rd (upd H l (.frz ob (.dT c))) f (.dT B):=by
    by_cases e:f=l
    ·subst e
     rw[hf]at hd
     cases hd
     exact .inr #[ob,aI]
    ·exact .inl (by rw[bY e];exact hf)
   refine Xq (a:=l) (ob:=ob) (kvs:=c) (g:=aZ 2) (D:=mayE n { nx:=pB K (eQ Q),rt:=Q }) (λi Z U=>∃M J,Z=[some (.ref f),some (.ref l),M,J]/\U=upd H l (.frz ob (.dT c))) #[none,none,rfl,rfl] ?_ ?_ ?_
   ·rintro i Z U _ ⟨_,_,_,rfl⟩
    exact aI
   ·rintro i G I Z U hi ⟨M,J,rfl,rfl⟩ j
    have T:=(aK.mp hi).1
    obtain⟨q,eq⟩:∃q,qs[i]?=some q:=#[_,aD #[]]
    have e:G.1=tk q:=by
     have e1:(c.map (·.1))[i]?=some G.1:=by rw[aY,hi];rfl
     rw[p,aY,eq]at e1
     exact(aV e1).symm
    rw[e]at j
    obtain⟨a,e1,ha⟩:=hv q (aL eq)
    (try dsimp only[cD,cU,aZ,aE,tC,tOp,tUn,rI0,rI,rU,iQ,lA,eU,kT,Lq,iV,tT,iE,kK,Zc,vI,Tn,rEq,rNe,gL,cP,fU,cY,tB,vG,eO,cB,aH,bE,hJ,mS,tCB,Cv,jD,Ki,tSl,lY,hU,xL,gJ,dO,rY,Zb,Ea,tOr,xT,Pz,jK,jN,eF,jO,Lq0,Lq1,Ls0,Ls1,Lca,Lna,fG,fH,fF];try simp only[cD,cU,aZ,aE,tC,tOp,tUn,rI0,rI,rU,iQ,lA,eU,kT,Lq,iV,tT,iE,kK,Zc,vI,Tn,rEq,rNe,gL,cP,fU,cY,tB,vG,eO,cB,aH,bE,hJ,mS,tCB,Cv,jD,Ki,tSl,lY,hU,xL,gJ,dO,rY,Zb,Ea,tOr,xT,Pz,jK,jN,eF,jO,Lq0,Lq1,Ls0,Ls1,Option.some.injEq,exists_eq_left',exists_eq_left,V.int.injEq,V.ref.injEq,V.bl.injEq,V.ty.injEq,List.cons.injEq,and_true,true_and,bZ,exists_and_left,cN,Lca,Lna,and_assoc,fG,fH,fF,gX,kD,iK])
    exact Rw rd j e1 (SqT.offD ha (.inl hd)) (ok q (aL eq)) #[_,_,rfl,rfl]
   ·rintro Z U ⟨M,J,rfl,rfl⟩
    refine .inr #[l,c,ob,(O l λo u z=>by rw[hd]at z;cases z),aI,?_]
    rw[show upd (upd H l (.frz ob (.dT c))) l (.dT c)=H from funext λb=>by
     by_cases e:b=l
     ·rw[e,aI,hd]
     ·rw[bY e,bY e]]
    (dsimp?[pB])
    exact k
  ·refine .inl #[#[_,Y],iN (K:=K) (a:=l) (xs:=F) (g:=aZ 2) (D:=mayE n { nx:=pB K (eQ Q),rt:=Q }) (λi Z U=>∃M J,Z=[some (.ref f),some (.ref l),M,J]/\U=H) #[none,none,rfl,rfl] ?_ ?_ ?_]
   ·rintro i Z U _ ⟨_,_,_,rfl⟩
    exact Y
   ·rintro i x Z U hi ⟨M,J,rfl,rfl⟩
    obtain⟨q,b,eq,rfl,hb⟩:=S.get hi
    obtain⟨a,e1,ha⟩:=hv q (aL eq)
    (try dsimp only[cD,cU,aZ,aE,tC,tOp,tUn,rI0,rI,rU,iQ,lA,eU,kT,Lq,iV,tT,iE,kK,Zc,vI,Tn,rEq,rNe,gL,cP,fU,cY,tB,vG,eO,cB,aH,bE,hJ,mS,tCB,Cv,jD,Ki,tSl,lY,hU,xL,gJ,dO,rY,Zb,Ea,tOr,xT,Pz,jK,jN,eF,jO,Lq0,Lq1,Ls0,Ls1,Lca,Lna,fG,fH,fF];try simp only[cD,cU,aZ,aE,tC,tOp,tUn,rI0,rI,rU,iQ,lA,eU,kT,Lq,iV,tT,iE,kK,Zc,vI,Tn,rEq,rNe,gL,cP,fU,cY,tB,vG,eO,cB,aH,bE,hJ,mS,tCB,Cv,jD,Ki,tSl,lY,hU,xL,gJ,dO,rY,Zb,Ea,tOr,xT,Pz,jK,jN,eF,jO,Lq0,Lq1,Ls0,Ls1,Option.some.injEq,exists_eq_left',exists_eq_left,V.int.injEq,V.ref.injEq,V.bl.injEq,V.ty.injEq,List.cons.injEq,and_true,true_and,bZ,exists_and_left,cN,Lca,Lna,and_assoc,fG,fH,fF,gX,kD,iK])
    exact Rw (.inl hf) (by rw[tS];exact hb) e1 ha (ok q (aL eq)) #[_,_,rfl,rfl]
   ·rintro Z U ⟨M,J,rfl,rfl⟩
    refine .inl ?_
    (dsimp?[pB])
    exact k
 refine#[B,hf,sQ #[B,hf,?_]]
 rcases r with⟨c,hd,p⟩|⟨F,Y,S⟩
 ·refine .inl #[c,hd,?_]
  have s:c.length=qs.length:=by rw[←aA (f:=(·.1)),p,aA]
  rw[aF (by simp [kl,s])]
  exact go
 ·refine .inr #[F,.inl Y,?_]
  rw[aF (by simp [kl,S.1])]
  exact go
noncomputable def Tj:List PySem.Str:=["_law_pairs","_law_top","_law_bottom","_law_one","_law_other"]
noncomputable def PF(K:aO)(H:Hp)(xs:List V)(n:Nat)(f g:Nat->Int×Int):Prop:=xs.length=n/\∀i,i<n->∃a p q,xs[i]?=some (.ref a)/\SqT K H a [.ref p,.ref q]/\SqT K H p [.int (f i).1,.int (f i).2]/\SqT K H q [.int (g i).1,.int (g i).2]
noncomputable def lC(K:aO):Sp:=λvs H Q _=>∃l xs,∃n:Nat,∃f g:Nat->Int×Int,vs=[.ref l]/\SqL K H l xs/\PF K H xs n f g/\n<=100/\(∀k,k<n->G4 (f k)/\G4 (g k))/\∀p H',aP H H'->H' p=some (.tup [.int (jX n f g).1,.int (jX n f g).2])->Q (.ref p) H'
noncomputable def jZZ(l:Addr)(f g:Nat->Int×Int)(u:Hp):Nat->St->Hp->Prop:=λi Z U=>∃M J,Z=[some (.ref l),some (.int (jX i f g).1),some (.int (jX i f g).2),M,J]/\U=u
noncomputable def wN(K:aO):TS:=(cP (hJ (aH (aE 1) (aH (aE 2) bE))))
noncomputable def wM(K:aO):TS:=(cU (tOp eU (tOp eU (aE 2) (tOp (dO K) (aE 3) (tC (.int 1)))) (tOp (dO K) (aE 4) (tC (.int 1)))) (aZ 2))
noncomputable def wP(K:aO):TS:=(cD (cU (tOp iQ (tOp eU (tOp eU (aE 1) (tOp (dO K) (aE 3) (tC (.int 1)))) (tOp (dO K) (aE 4) (tC (.int 1)))) (tOp eU (tOp eU (tOp (dO K) (aE 3) (tC (.int 0))) (tOp (dO K) (aE 4) (tC (.int 0)))) (aE 2))) (aZ 1)) (wM K))
noncomputable def wO(K:aO):TG:=(jN K 2 (eF (aZ 3) (eF (aZ 4) jO)))
noncomputable def Gb(K:aO):TS:=(cD (gA (dC K (aE 0)) (wO K) (wP K)) (wN K))
noncomputable def Ga(K:aO):TS:=(cD (cU (tC (.int 1)) (aZ 2)) (Gb K))
noncomputable def Hi(K:aO):TS:=(cD (cU (tC (.int 0)) (aZ 1)) (Ga K))
theorem jJl{K}:RdS K lC Hi Tj:=by
 intro m H Q E h
 obtain⟨l,F,n,f,g,rfl,Y,⟨xl,hp⟩,R,hk,q⟩:=h
 rw[show start Tj [V.ref l]=[some (.ref l),none,none,none,none]from rfl]
 (dsimp?[Hi,Ga,Gb,gA,dC])
 refine#[#[_,Y],iN (K:=K) (a:=l) (xs:=F) (g:=wO K) (D:={ nx:=wN K (eQ Q),rt:=Q }) (jZZ l f g H) #[none,none,rfl,rfl] ?_ ?_ ?_]
 ·rintro i Z U _ ⟨_,_,_,rfl⟩
  exact Y
 ·rintro i x Z U hx ⟨M,J,rfl,rfl⟩
  have y:i<n:=by rw[←xl];exact(aK.mp hx).1
  obtain⟨a,p,r,e,ha,c,o⟩:=hp i y
  rw[hx]at e;cases e
  obtain⟨⟨t,u⟩,⟨N,g2⟩⟩:=hk i y
  obtain⟨j,d⟩:=Va (f:=f) (g:=g) (q:=40000) (n:=i) λk s=>by have:=hk k #[];exact#[this.1.1,this.1.2,this.2.1,this.2.2]
  have j:=j.mono (show(40000+40000+1)*i+1<=9000000 by omega)
  have d:=d.mono (show(40000+40000+1)*i+1<=9000000 by omega)
  (dsimp?[wO,wP,wM])
  refine#[_,ha,rfl,_,_,rfl,_,_,rfl,rfl,?_]
  (dsimp?[wP,wM])
  exact#[_,rfl,_,c,_,iJ,_,rfl,.b j u,_,rfl,_,o,_,iJ,_,rfl,.b (j.mul u) g2,_,rfl,_,c,_,iU,_,rfl,_,o,_,iU,_,rfl,_,rfl,.b t N,.b (t.mul N) d,_,rfl,_,c,_,iJ,_,rfl,.b d u,_,rfl,_,o,_,iJ,_,rfl,.b (d.mul u) g2,_,_,rfl,rfl]
 ·rintro Z U ⟨M,J,rfl,rfl⟩
  (dsimp?[wN])
  rw[xl]
  refine#[sz2,λp hp=>q p _ (aP.upd hp) aI]
noncomputable def jXx:List PySem.Str:=["_law_play","_law_hand","_law_choice"]
noncomputable def Nb(_:aO):Sp:=λvs H Q _=>∃a zs h c,vs=[.ref a,.int (h:Nat),.int c]/\H a=some (.tup (List.map V.int zs))/\h<zs.length/\zs.length<=100/\∀p H',aP H H'->H' p=some (.tup (List.map V.int (zs.set h c)))->Q (.ref p) H'
noncomputable def Ur(K:aO):TS:=(cP (tOp sB (tOp sB (tSl Qa (aE 0) hU (lY (aE 1))) (hJ (aH (aE 2) bE))) (tSl Qa (aE 0) (lY (tOp iQ (aE 1) (tC (.int 1)))) hU)))
theorem jWb{K}:RdS K Nb Ur jXx:=by
 intro m H Q E h
 obtain⟨a,N,h,c,rfl,ha,Y,b,q⟩:=h
 rw[show start jXx [V.ref a,V.int h,V.int c]=[some (.ref a),some (.int h),some (.int c)]from rfl]
 (dsimp?[Ur,sB,Qa])
 have f:=Ar (List.map V.int N) none (some (h:Int))
 have d:=Ar (List.map V.int N) (some ((h:Int)+1)) none
 rw[aA]at f d
 refine#[_,ha,λM S O h1=>#[sz1,λZ j=>?_]]
 have F:aP S (upd S Z (.tup [.int c])):=aP.upd j
 refine#[_,F _ _ h1,_,aI,pW (by show _+1<=216;omega),λg U s3 h3=>?_]
 refine#[_,s3 _ _ (F _ _ (O _ _ ha)),λe G I i=>?_]
 refine#[_,I _ _ h3,_,i,pW (by rw[bC];show _+1+_<=216;omega),λr w X T=>q r w (O.trans (F.trans (s3.trans (I.trans X)))) ?_]
 rw[T,Zu,show((h:Int)+1)=((h+1:Nat):Int) by omega,Nv,List.set_eq_take_append_cons_drop,aJ Y,aX,bR,map_take,List.map_drop,List.append_assoc]
 rfl
noncomputable def Xy:List PySem.Str:=["_law_cells","_law_play","_law_ask","_law_left","_law_right_here"]
structure CeR(H:Hp)(d:Addr)(ns:List Nat)(cont:List Nat->List V)(un:List Nat->Nat->Int):Prop where
 rd:∃kv,Rd H d (.dT kv)/\∀q∈dU ns.reverse,sC H kv cont q
 en:∀q∈dU ns.reverse,∀h,h<ns.length->∃v,(cont q)[h]?=some v/\En H v (un q h)
theorem CeR.same{d:Addr}{A:List Nat->List V}{un:List Nat->Nat->Int}(h:CeR H d ns A un)(s:aP H H'):CeR H' d ns A un:=
 #[let⟨kv,r,c⟩:=h.rd;#[kv,r.imp (s _ _) λ⟨o,e⟩=>#[o,s _ _ e],λq J=>(c q J).same s],λq J i hi=>let⟨v,e,n⟩:=h.en q J i hi;#[v,e,n.keep (eI s)]]
noncomputable def Az(_:aO):Sp:=λvs H Q _=>∃d pl a ns A un q h c o n,vs=[.ref d,.ref pl,.ref a]/\CeR H d ns A un/\Sz ns/\H pl=some (.tup (tv q))/\q∈dU ns.reverse/\H a=some (.tup (tv [h,c,o]))/\ns[h]?=some n/\o<n/\
 ∀x y p H',aP H H'->H' p=some (.tup [.int x,.int y])->0<y->y<=81->x*2520=(un q h-un (q.set h o) h)*y->BB 100 x->Q (.ref p) H'
noncomputable def Iy(K:aO):TS:=(cP (hJ (aH (tOp lA (tOp eU (tOp (dO K) (aE 3) (tC (.int 0))) (tOp (dO K) (aE 4) (tC (.int 1)))) (tOp eU (tOp (dO K) (aE 4) (tC (.int 0))) (tOp (dO K) (aE 3) (tC (.int 1))))) (aH (tOp eU (tOp (dO K) (aE 3) (tC (.int 1))) (tOp (dO K) (aE 4) (tC (.int 1)))) bE))))
noncomputable def Ix(K:aO):TS:=(cD (cU (tOp (gJ K) (jY (aE 0) (cB (Nb K) [] E0 (aH (aE 1) (aH (tOp (dO K) (aE 2) (tC (.int 0))) (aH (tOp (dO K) (aE 2) (tC (.int 2))) bE))))) (tOp (dO K) (aE 2) (tC (.int 0)))) (aZ 4)) (Iy K))
noncomputable def Mt(K:aO):TS:=(cD (cU (tOp (gJ K) (jY (aE 0) (aE 1)) (tOp (dO K) (aE 2) (tC (.int 0)))) (aZ 3)) (Ix K))
theorem jYY{K}:RdS K Az Mt Xy:=by
 intro m H Q E h
 obtain⟨d,l,a,ns,A,un,q,h,c,o,n,rfl,ce,sz,hp,J,ha,R,D,k⟩:=h
 have Y:h<ns.length:=(aK.mp R).1
 have v:q.length=ns.length:=by rw[iA _ q J,cT]
 have g:=sz.len
 rw[show start Xy [V.ref d,V.ref l,V.ref a]=[some (.ref d),some (.ref l),some (.ref a),none,none]from rfl]
 have a0:=Nh J R D
 obtain⟨B,rd,T⟩:=ce.rd
 obtain⟨w,e1,N⟩:=T _ J
 obtain⟨v1,f1,P⟩:=ce.en _ J h Y
 have a4:H l=some (.tup ((tk q).map kV)):=by rw[tS];exact hp
 (dsimp?[Mt,jY])
 refine#[_,.inr #[B,tk q,l,rd,rfl,a4,e1.symm],_,SqT.of ha,_,iU,_,rfl,_,rfl,_,SqL.of N,_,gM f1,?_]
 (dsimp?[Ix,jY])
 refine#[_,SqT.of ha,_,iU,_,SqT.of ha,_,atI2,?_]
 have tz:∀r:List Nat,List.map V.int (r.map λn:Nat=>(n:Int))=tv r:=λr=>by unfold tv;rw[List.map_map];rfl
 refine#[l,q.map λn:Nat=>(n:Int),h,o,rfl,by rw[tz];exact hp,by rw[aA];omega,by rw[aA];omega,λp S O h1=>?_]
 rw[show(q.map λn:Nat=>(n:Int)).set h (o:Int)=(q.set h o).map λn:Nat=>(n:Int) by rw[List.map_set],tz]at h1
 have a3:S p=some (.tup ((tk (q.set h o)).map kV)):=by rw[tS];exact h1
 have j:=ce.same O
 obtain⟨l2,C,g2⟩:=T _ a0
 obtain⟨v2,u,x⟩:=j.en _ a0 h Y
 refine#[_,.inr #[B,_,p,rd.imp (O _ _) λ⟨o,e⟩=>#[o,O _ _ e],rfl,a3,C.symm],_,SqT.of (O _ _ ha),_,iU,_,rfl,_,rfl,_,SqL.of (O _ _ g2),_,gM u,?_]
 obtain⟨U,x1,I,rfl,k1,M,p9,f,b1⟩:=P.keep (eI O)
 obtain⟨G,x2,X,rfl,y,Z,p8,r2,b2⟩:=x
 have s:BB 4 I:=by unfold BB;omega
 have i:BB 4 X:=by unfold BB;omega
 have t:SqT K S U _:=SqT.of k1
 have F:SqT K S G _:=SqT.of y
 (dsimp?[Iy])
 refine#[_,t,_,iU,_,F,_,iJ,_,rfl,_,rfl,.b b1 i,_,F,_,iU,_,t,_,iJ,_,rfl,_,rfl,.b b2 s,_,t,_,iJ,_,F,_,iJ,_,rfl,_,rfl,.b s i,sz2,λr hr=>?_]
 have z:I*X<=81:=by
  have:=Int.mul_le_mul p9 p8 (bW Z) (by decide)
  omega
 refine k _ _ r _ (O.trans (aP.upd hr)) aI (bK M Z) z (by grind) ?_
 have q1:=b1.mul i
 have q2:=b2.mul s
 unfold BB at*
 have:=Nat.pow_lt_pow_right (show 1<2 by decide) (show 46<100 by decide)
 omega
noncomputable def Os:List PySem.Str:=["_law_cells","_law_plan","_law_needs","_law_ask","_law_pairs"]
theorem aP.thaw{d:Addr}{u:HO}(hd:H d=some u)(s:aP (upd H d o) H'):aP H (upd H' d u):=λb v e=>by
 by_cases z:b=d
 ·rw[z,aI,←e,z,hd]
 ·rw[bY z];exact s b v (by rw[bY z];exact e)
noncomputable def PV(b:Nat)(K:aO)(H:Hp)(xs:List V)(r:Rat):Prop:=∃n f g,PF K H xs n f g/\(∀k,k<n->Gp b b (f k)/\Gp b b (g k))/\rsm n (λk=>va (f k)*va (g k))=r
theorem PV.nil{b:Nat}:PV b K H [] 0:=#[0,λ_=>(0,1),λ_=>(0,1),#[rfl,λi h=>absurd h (eN _)],λi h=>absurd h (eN _),rfl]
theorem PV.map{b:Nat}{r:Rat}(h:PV b K H xs r)(s:∀a T,SqT K H a T->SqT K H' a T):PV b K H' xs r:=let⟨n,f,g,⟨l,p⟩,k⟩:=h;#[n,f,g,#[l,λi hi=>let⟨a,p,q,e,h1,h2,h3⟩:=p i hi;#[a,p,q,e,s _ _ h1,s _ _ h2,s _ _ h3]],k]
theorem PV.same{b:Nat}{r:Rat}(h:PV b K H xs r)(s:aP H H'):PV b K H' xs r:=h.map λ_ _ t=>s.tup t
theorem PV.snoc{b:Nat}{r:Rat}{q:Addr}{g:Int×Int}(h:PV b K H xs r)(ha:SqT K H a [.ref p,.ref q])(hp:SqT K H p [.int f.1,.int f.2])(J:SqT K H q [.int g.1,.int g.2])(j:Gp b b f)(gg:Gp b b g):PV b K H (xs++[.ref a]) (r+va f*va g):=by
 obtain⟨n,u,o,⟨l,c⟩,k,e⟩:=h
 refine#[n+1,λk=>if k=n then f else u k,λk=>if k=n then g else o k,#[by rw[bC,l];rfl,λi hi=>?_],λi hi=>?_,?_]
 ·dsimp only
  by_cases z:i=n
  ·rw[aJ z,aJ z]
   exact#[a,p,q,by rw[z,←l,bO (aM _),fZ];rfl,ha,hp,J]
  ·rw[aF z,aF z]
   obtain⟨a,p,q,e,h1,h2,h3⟩:=c i #[]
   exact#[a,p,q,by rw[bV #[]];exact e,h1,h2,h3]
 ·dsimp only
  by_cases z:i=n
  ·rw[aJ z,aJ z];exact#[j,gg]
  ·rw[aF z,aF z];exact k i #[]
 ·show rsm n _+va (if n=n then f else u n)*va (if n=n then g else o n)=_
  rw[aJ rfl,aJ rfl,←e,eY (g:=λk=>va (u k)*va (o k)) λk hk=>by dsimp only;rw[aF #[],aF #[]]]
theorem PV.mono{b:Nat}{r:Rat}(h:PV b K H xs r)(hc:b<=c):PV c K H xs r:=let⟨n,f,g,p,k,e⟩:=h;#[n,f,g,p,λi hi=>let⟨⟨a1,a2,a3⟩,c1,c2,c3⟩:=k i hi;#[#[a1,a2.mono hc,a3.mono hc],c1,c2.mono hc,c3.mono hc],e]
theorem PV.use{b:Nat}{r:Rat}{l:Addr}{E:XK}(h:PV b K H xs r)(Y:SqL K H l xs)(hb:b<=40000)(R:xs.length<=100)(k:∀p f d,aP H d->d p=some (.tup [.int f.1,.int f.2])->Gp ((b+b+1)*xs.length+1) ((b+b+1)*xs.length+1) f->va f=r->Q (.ref p) d):lC K [.ref l] H Q E:=by
 obtain⟨n,f,g,p,a,e⟩:=h
 have w:=p.1
 refine#[l,xs,n,f,g,rfl,Y,p,#[],λi hi=>let⟨⟨_,a2,a3⟩,_,c2,c3⟩:=a i hi;#[#[a2.mono hb,a3.mono hb],c2.mono hb,c3.mono hb],λp d s hp=>k p _ d s hp #[jS (λi hi=>(a i hi).1.1) λi hi=>(a i hi).2.1,?_] ?_]
 ·have bb:=Va (f:=f) (g:=g) (q:=b) (n:=n) λi hi=>#[(a i hi).1.2.1,(a i hi).1.2.2,(a i hi).2.2.1,(a i hi).2.2.2]
  rw[w];exact bb
 ·rw[xX (λi hi=>(a i hi).1.1) λi hi=>(a i hi).2.1];exact e
theorem va_ge0(p:0<f.2)(h:0<=va f):0<=f.1:=by
 rw[←vP]at h
 have:=(qM (by decide) p).mp h
 simpa using this
structure CeD(H:Hp)(d:Addr)(ns:List Nat)(kv:List (List Key×V))(cont:List Nat->List V)(un:List Nat->Nat->Int):Prop where
 hd:H d=some (.dT kv)
 ks:kv.map (·.1)=(dU ns.reverse).map tk
 cel:∀q∈dU ns.reverse,sC H kv cont q
 cl:∀q∈dU ns.reverse,(cont q).length=ns.length
 en:∀q∈dU ns.reverse,∀h,h<ns.length->∃v,(cont q)[h]?=some v/\En H v (un q h)
 sz:Sz ns
 q8:(dU ns.reverse).length<=8
 b6:(gB ns ns.length).length<=6
theorem CeD.same{d:Addr}{B:List (List Key×V)}{A:List Nat->List V}{un:List Nat->Nat->Int}(h:CeD H d ns B A un)(s:aP H H'):CeD H' d ns B A un:=#[s _ _ h.hd,h.ks,λq J=>(h.cel q J).same s,h.cl,λq J i hi=>let⟨v,e,n⟩:=h.en q J i hi;#[v,e,n.keep (eI s)],h.sz,h.q8,h.b6]
theorem CeD.frz{H:Hp}{d:Addr}{ns:List Nat}{B:List (List Key×V)}{A:List Nat->List V}{un:List Nat->Nat->Int}(h:CeD H d ns B A un)(ob:Obj):CeR (upd H d (.frz ob (.dT B))) d ns A un:=by
 have hd:=h.hd
 refine#[#[B,.inr #[ob,aI],λq J=>let⟨l,e1,e2⟩:=h.cel q J;#[l,e1,by rw[bY λz=>by rw[z,hd]at e2;cases e2];exact e2]],λq J i hi=>let⟨v,e,n⟩:=h.en q J i hi;#[v,e,n.keep λa F ha=>?_]]
 rw[bY λz=>by rw[z,hd]at ha;cases ha];exact ha
theorem CeD.key{d:Addr}{B:List (List Key×V)}{A:List Nat->List V}{un:List Nat->Nat->Int}(h:CeD H d ns B A un){p:List Key×V}(e:B[i]?=some p):∃q,(dU ns.reverse)[i]?=some q/\p.1=tk q:=by
 have e1:(B.map (·.1))[i]?=some p.1:=by rw[aY,e];rfl
 rw[h.ks,aY]at e1
 cases eq:(dU ns.reverse)[i]? with
 |none=>rw[eq]at e1;cases e1
 |some q=>rw[eq]at e1;exact#[q,rfl,(aV e1).symm]
theorem CeD.len{d:Addr}{B:List (List Key×V)}{A:List Nat->List V}{un:List Nat->Nat->Int}(h:CeD H d ns B A un):B.length=(dU ns.reverse).length:=by rw[←aA (f:=(·.1)),h.ks,aA]
noncomputable def zN(K:aO):Sp:=λvs H Q _=>∃d l nd ns B A un P xs,vs=[.ref d,.ref l,.ref nd]/\CeD H d ns B A un/\FrD K H l (dU ns.reverse) P/\(∀q∈dU ns.reverse,Ts (P q))/\SqL K H nd xs/\Ps H xs (gB ns ns.length)/\l≠d/\(∀b∈gB ns ns.length,lsm (dU ns.reverse) (λq=>va (P q)*va (mo un q b))<=0)/\∀H',aP H H'->Q (.bl true) H'
noncomputable def Yw(d l nd:Addr)(u:Hp):Nat->St->Hp->Prop:=λ_ Z U=>∃M J,Z=[some (.ref d),some (.ref l),some (.ref nd),M,J]/\aP u U
noncomputable def sV(K:aO):TS:=(cP (tC (.bl true)))
noncomputable def Bx(K:aO):TS:=(fU (cY (tOp kK (tOp (dO K) (cB (lC K) [] E0 (aH (aE 4) bE)) (tC (.int 0))) (tC (.int 0)))) (cP (tC (.bl false))) eO)
noncomputable def Bz(K:aO):TE:=(hJ (aH (jY (aE 1) (aE 0)) (aH (cB (Az K) [] E0 (aH (aE 2) (aH (aE 0) (aH (aE 3) bE)))) bE)))
noncomputable def Ca(K:aO):TS:=(cD (Lk (cU (jZ (Lm K (aE 0)) [1,0,3] (cY (tOp rEq (tOp (dO K) (aE 0) (tOp (dO K) (aE 3) (tC (.int 0)))) (tOp (dO K) (aE 3) (tC (.int 1))))) (Bz K)) (aZ 4))) (Bx K))
noncomputable def Db(K:aO):TS:=(cD (gA (dC K (aE 2)) (aZ 3) (Ca K)) (sV K))
theorem jZs{un:List Nat->Nat->Int}{q:List Nat}{o:Nat}{x y:Int}(J:q[h]?=some c)(p:0<y)(e:x*2520=(un q h-un (q.set h o) h)*y):va (x,y)= -(va (mo un q [h,c,o])):=by
 rw[Wj,aJ J,va_of (f:=(x,y)) p (by decide:(0:Int)<2520) e]
 unfold uR;rw[Rat.intCast_sub,vN,vN,vN];grind
theorem Yi{K}:RdS K zN Db Os:=by
 intro m H Q E h
 obtain⟨d,l,nd,ns,B,A,un,P,F,rfl,ce,fp,ok,R,S,ne,le,k⟩:=h
 rw[show start Os [V.ref d,V.ref l,V.ref nd]=[some (.ref d),some (.ref l),some (.ref nd),none,none]from rfl]
 (dsimp?[Db,gA,dC])
 refine#[#[_,R],iN (K:=K) (a:=nd) (xs:=F) (g:=aZ 3) (D:={ nx:=sV K (eQ Q),rt:=Q }) (Yw d l nd H) #[none,none,rfl,aP.refl _] ?_ ?_ ?_]
 ·rintro i Z U _ ⟨_,_,_,s3⟩
  exact s3.seq R
 ·rintro i x Z U hi ⟨M,o2,rfl,s3⟩
  obtain⟨b,ba,O,rfl,hb⟩:=(S.same s3).get hi
  have bm:=aL O
  obtain⟨h,c,o,n,rfl,a2,hc,ho,_⟩:=Eo bm
  have Y:=(aK.mp a2).1
  have a3:=ce.same s3
  obtain⟨kp,hp,hk,hv⟩:=fp.same s3
  have hd:=a3.hd
  have q8:=ce.q8
  have kl:=ce.len
  (dsimp?[Ca,Lk,jZ,Lm])
  intro NF nf
  refine .inr #[B,.inl #[hd,λob=>?_]]
  have a8:(upd U d (.frz ob (.dT B))) ba=some (.tup (tv [h,c,o])):=by rw[bY λz=>by rw[z,hd]at hb;cases hb];exact hb
  have a9:(upd U d (.frz ob (.dT B))) l=some (.dT kp):=by rw[bY ne];exact hp
  have rf:=a3.frz ob
  refine jZa (a:=d) (ob:=ob) (kvs:=B) (λi N w=>aP (upd U d (.frz ob (.dT B))) w/\N.length<=i/\PV 40000 K w N (lsm (((dU ns.reverse).take i).filter λq=>decide (q[h]?=some c)) λq=>va (P q)*-(va (mo un q [h,c,o])))) (by rw[sizeLine_eq];omega) #[aP.refl _,aM _,PV.nil] ?_ ?_ ?_
  ·rintro i N w _ ⟨X,_⟩
   exact X _ _ aI
  ·rintro i G I N w b0 _ ⟨X,zl,pv⟩ j
   obtain⟨q,eq,e⟩:=ce.key b0
   rw[e,tS]at j
   have J:=aL eq
   have v:q.length=ns.length:=by rw[iA _ q J,cT]
   have a0:=X _ _ a8
   have a1:q[h]?=some q[h]:=aD #[]
   rw[dH eq,List.filter_append]
   (dsimp?[Bz,jY,cL,bR,cK,bF])
   refine#[_,SqT.of a0,_,iU,_,rfl,_,SqT.of j,.int q[h],gM (by unfold tv;rw[aY,a1];rfl),_,SqT.of a0,.int c,iJ,rfl,?_]
   by_cases e:q[h]=c
   ·obtain⟨a,e1,ha⟩:=hv q J
    have a4:q[h]?=some c:=by rw[a1,e]
    have b3:=X.tup (SqT.offD ha (.inl hd) (o:=.frz ob (.dT B)))
    rw[aJ (by rw[e]),gH (by simpa using a4),List.filter_nil]
    refine#[_,.inr #[kp,tk q,I,.inl (X _ _ a9),rfl,by rw[tS];exact j,e1.symm],d,I,ba,ns,A,un,q,h,c,o,n,rfl,rf.same X,ce.sz,j,J,a0,a2,ho,λx y r C s hr y0 b5 ex bx=>#[sz2,λp a5=>?_]]
    have s7:=s.trans (aP.upd (o:=HO.tup [V.ref a,V.ref r]) a5)
    have k:=ok q J
    refine#[X.trans s7,by rw[bC];show _+1<=_;omega,?_]
    rw[nD]
    show PV 40000 K _ _ (_+(va (P q)*-(va (mo un q [h,c,o]))+0))
    rw[Rat.add_zero,←jZs a4 y0 ex]
    exact(pv.same s7).snoc (SqT.of aI) (s7.tup b3) (g:=(x,y)) (SqT.of (aP.upd a5 _ _ hr)) #[k.p,k.b1,k.b2] #[y0,bx.mono (by decide),(show BB 7 y by unfold BB;omega).mono (by decide)]
   ·rw[aF (by simp;omega),gI (by rw[a1];simp;exact e),List.filter_nil,bZ]
    exact#[X,#[],pv]
  ·rintro N w ⟨X,zl,pv⟩ p a6
   have s:=X.trans (aP.upd (o:=HO.lst N) a6)
   have f6:=s _ _ (aI (H:=U) (a:=d) (o:=.frz ob (.dT B)))
   have p6:(upd w p (.lst N)) p=some (.lst N):=aI
   have a7:=pv.same (aP.upd (o:=HO.lst N) a6)
   refine .inr #[d,B,ob,(nf d λo u z=>by rw[hd]at z;cases z),f6,?_]
   generalize upd w p (.lst N)=C at s f6 p6 a7
   have s7:=aP.thaw hd s
   have b4:=a7.map (H':=upd C d (.dT B)) λa T t=>SqT.offD t (.inr #[ob,f6])
   have p7:(upd C d (.dT B)) p=some (.lst N):=by rw[bY λz=>by rw[z,f6]at p6;cases p6];exact p6
   (dsimp?[Bx])
   refine b4.use (SqL.of p7) (by decide) #[] λr f H8 s8 hr gf ev=>#[_,rfl,_,SqT.of hr,_,iU,_,rfl,?_]
   have e:lsm (((dU ns.reverse).take B.length).filter λq=>decide (q[h]?=some c)) (λq=>va (P q)*-(va (mo un q [h,c,o])))=lsm (dU ns.reverse) (λq=>va (P q)*va (mo un q [h,c,o]))*(-1):=by
    rw[kl,cA,Dt,←nB]
    refine iG λq _=>?_
    by_cases z:q[h]?=some c
    ·rw[aJ (by simpa using z)];grind
    ·rw[aF (by simpa using z),Wj,aF z];grind
   rw[e]at ev
   have l0:=le _ bm
   have n0:=va_ge0 gf.1 (by rw[ev];grind)
   exact mT (λz=>by omega) λ_=>#[_,_,rfl,(s3.trans s7).trans s8]
 ·rintro Z U ⟨M,o2,rfl,s3⟩
  (dsimp?[sV])
  exact k U s3
noncomputable def xH:List PySem.Str:=["_law_cells","_law_weights","_law_needs","_law_goal","_law_most","_law_play","_law_pairs","_law_total"]
theorem SqL.offD{r:Addr}{B:List (List Key×V)}(h:SqL K H p xs)(hr:Rd H r (.dT B)):SqL K (upd H r o) p xs:=by
 have n:∀{u:HO},H p=some u->(u=.lst xs∨∃o,u=.frz o (.lst xs))->p≠r:=λhp R e=>by
  subst e
  rcases hr with hr |⟨o,hr⟩<;>rw[hp]at hr<;>cases hr<;>rcases R with R |⟨_,R⟩<;>cases R
 rcases h with(h |⟨o,h⟩)|h
 ·exact .inl (.inl (by rw[bY (n h (.inl rfl))];exact h))
 ·exact .inl (.inr #[o,by rw[bY (n h (.inr #[_,rfl]))];exact h])
 ·exact .inr h
theorem Hy{r:Addr}{B:List (List Key×V)}(hr:H r=some (.dT B)):Ir H (upd H r o):=λa F h=>by rw[bY λz=>by rw[z,hr]at h;cases h];exact h
theorem FrD.off{d r:Addr}{P:List Nat->Int×Int}{B:List (List Key×V)}(h:FrD K H d qs P)(hr:H r=some (.dT B))(ne:d≠r):FrD K (upd H r o) d qs P:=let⟨B,a,b,c⟩:=h;#[B,by rw[bY ne];exact a,b,λq J=>let⟨a,e,t⟩:=c q J;#[a,e,SqT.offD t (.inl hr)]]
theorem PV.app{b:Nat}{r s:Rat}(h:PV b K H xs r)(h2:PV b K H ys s):PV b K H (xs++ys) (r+s):=by
 obtain⟨n,f,g,⟨l,c⟩,k,e⟩:=h
 obtain⟨m,u,o,⟨v,j⟩,d,O⟩:=h2
 have X:∀(F G:Nat->Rat)(m:Nat),rsm (n+m) (λk=>if k<n then F k else G (k-n))=rsm n F+rsm m G:=λF G m=>by
  induction m with
  |zero=>rw[Nat.add_zero,eY λk hk=>aJ hk];show _=_+(0:Rat);grind
  |succ m ih=>
   show rsm (n+m) _+(if n+m<n then _ else _)=_+(rsm m G+G m)
   rw[ih,aF #[],show n.add m-n=m by show n+m-n=m;omega];grind
 refine#[n+m,λk=>if k<n then f k else u (k-n),λk=>if k<n then g k else o (k-n),#[by rw[bC,l,v],λi hi=>?_],λi hi=>?_,?_]
 ·dsimp only
  by_cases z:i<n
  ·rw[aJ z,aJ z]
   obtain⟨a,p,q,e,t⟩:=c i z
   exact#[a,p,q,by rw[bV #[]];exact e,t]
  ·rw[aF z,aF z]
   obtain⟨a,p,q,e,t⟩:=j (i-n) #[]
   exact#[a,p,q,by rw[bO #[],l];exact e,t]
 ·dsimp only
  by_cases z:i<n
  ·rw[aJ z,aJ z];exact k i z
  ·rw[aF z,aF z];exact d (i-n) #[]
 ·rw[←e,←O,←X]
  exact eY λk _=>by dsimp only;split<;>rfl
noncomputable def frV(H:Hp):V->Int×Int
 | .ref a=>match H a with
  |some (.tup [.int x,.int y])=>(x,y)
  |_=>(0,1)
 |_=>(0,1)
theorem En.fr(h:En H v u):∃a,v=.ref a/\H a=some (.tup [.int (frV H v).1,.int (frV H v).2])/\Gp 40 40 (frV H v)/\va (frV H v)=((u:Int):Rat)/((2520:Int):Rat):=by
 obtain⟨a,x,y,rfl,ha,y0,c,e,bx⟩:=h
 have O:frV H (.ref a)=(x,y):=by show(match H a with |some (.tup [.int x,.int y])=>(x,y)|_=>(0,1))=_;rw[ha]
 rw[O]
 exact#[a,rfl,ha,#[y0,bx,(show BB 4 y by unfold BB;omega).mono (by decide)],va_of (f:=(x,y)) y0 (by decide) e]
theorem zip_pv{n:Nat}{G U:Nat->Int}(hx:∀h v,xs[h]?=some v->En H v (G h))(d:∀h,h<n->∃v,ys[h]?=some v/\En H v (U h))(xl:xs.length=n)(pl:ps.length=xs.length)(c:∀(i:Nat) q x y,ps[i]?=some q->xs[i]?=some x->ys[i]?=some y->H q=some (.tup [x,y])):PV 40 K H (ps.map V.ref) (va (lo2 (sm n λh=>G h*U h) (2520*2520))):=by
 have ex:∀{h},h<n->xs[h]?=some (xs.getD h .non):=λ{h} t=>by rw[aR,aD #[]];rfl
 have B:∀{h},h<n->ys[h]?=some (ys.getD h .non)/\En H (ys.getD h .non) (U h):=λ{h} t=>by
  obtain⟨v,e,k⟩:=d h t
  rw[aR,e];exact#[rfl,k]
 refine#[n,λh=>frV H (xs.getD h .non),λh=>frV H (ys.getD h .non),#[by rw[aA];omega,λi hi=>?_],λi hi=>?_,?_]
 ·obtain⟨a,Y,ha,_⟩:=(hx i _ (ex hi)).fr
  obtain⟨b,O,hb,_⟩:=(B hi).2.fr
  have j:ps[i]?=some ps[i]:=aD #[]
  have h1:=c i _ _ _ j (ex hi) (B hi).1
  refine#[ps[i],a,b,by rw[aY,j];rfl,SqT.of (by rw[h1,Y,O]),SqT.of ha,SqT.of hb]
 ·exact#[let⟨_,_,_,k,_⟩:=(hx i _ (ex hi)).fr;k,let⟨_,_,_,k,_⟩:=(B hi).2.fr;k]
 ·rw[show va (lo2 (sm n λh=>G h*U h) (2520*2520))=_ from Wk (by decide) (eK (by decide)),jZw,vN,←oQ]
  refine eY λi hi=>?_
  obtain⟨_,_,_,_,e1⟩:=(hx i _ (ex hi)).fr
  obtain⟨_,_,_,_,C⟩:=(B hi).2.fr
  rw[e1,C,fB,vN,vN,show(((2520*2520:Int):Rat))⁻¹=((2520:Int):Rat)⁻¹*((2520:Int):Rat)⁻¹ by decide+kernel]
  grind
noncomputable def oO(K:aO):Sp:=λvs H Q _=>∃d k nd g a ns B A un Y xs p W,∃G:Nat->Int,vs=[.ref d,.ref k,.ref nd,.ref g,.ref a]/\CeD H d ns B A un/\FrD K H k (gB ns ns.length) Y/\(∀b∈gB ns ns.length,Ts (Y b))/\SqL K H nd xs/\Ps H xs (gB ns ns.length)/\k≠d/\SqL K H g p/\p.length=ns.length/\(∀h v,p[h]?=some v->En H v (G h))/\SqT K H a [.int W.1,.int W.2]/\Gp 9300 9300 W/\(∀q∈dU ns.reverse,va (gF un G ns q)<=lsm (gB ns ns.length) (λb=>va (Y b)*va (mo un q b))+va W)/\∀H',aP H H'->Q (.bl true) H'
noncomputable def Il(d k nd g a:Addr)(u:Hp):Nat->St->Hp->Prop:=λ_ Z U=>∃M J v,Z=[some (.ref d),some (.ref k),some (.ref nd),some (.ref g),some (.ref a),M,J,v]/\aP u U
noncomputable def mL(K:aO):TS:=(cP (tC (.bl true)))
noncomputable def rP(K:aO):TS:=(fU (cY (tOp vI (tOp eU (tOp (dO K) (aE 7) (tC (.int 0))) (tOp (dO K) (aE 4) (tC (.int 1)))) (tOp eU (tOp (dO K) (aE 4) (tC (.int 0))) (tOp (dO K) (aE 7) (tC (.int 1)))))) (cP (tC (.bl false))) eO)
noncomputable def rO(K:aO):TS:=(cD (cU (cB (lC K) [] E0 (aH (aE 6) bE)) (aZ 7)) (rP K))
noncomputable def rQ(K:aO):TE:=(hJ (aH (jY (aE 1) (aE 0)) (aH (cB (Az K) [] E0 (aH (aE 2) (aH (aE 3) (aH (aE 0) bE)))) bE)))
noncomputable def rN(K:aO):TS:=(cD (cU (tOp qK (aE 6) (jZ (dC K (aE 2)) [1,0,5] (cY (tOp rEq (tOp (dO K) (aE 3) (tOp (dO K) (aE 0) (tC (.int 0)))) (tOp (dO K) (aE 0) (tC (.int 1))))) (rQ K))) (aZ 6)) (rO K))
noncomputable def rR(K:aO):TS:=(cD (cU (Wl K (aH (aE 3) (aH (jY (aE 0) (aE 5)) bE))) (aZ 6)) (rN K))
noncomputable def pS(K:aO):TS:=(cD (Lk (gA (Lm K (aE 0)) (aZ 5) (rR K))) (mL K))
theorem Ih{K}:RdS K oO pS xH:=by
 intro m H Q E h
 obtain⟨d,wd,nd,g,ma,ns,B,A,un,Y,F,gs,W,G,rfl,ce,fw,ok,R,S,ne,hg,gl,hG,hm,gw,le,k⟩:=h
 rw[show start xH [V.ref d,V.ref wd,V.ref nd,V.ref g,V.ref ma]=[some (.ref d),some (.ref wd),some (.ref nd),some (.ref g),some (.ref ma),none,none,none]from rfl]
 (dsimp?[pS,Lk,gA,Lm])
 intro NF nf
 have hd:=ce.hd
 have kl:=ce.len
 refine .inr #[B,.inl #[hd,λob=>?_]]
 have rf:=ce.frz ob
 have a4:=fw.off (o:=.frz ob (.dT B)) hd ne
 have a5:SqL K (upd H d (.frz ob (.dT B))) nd F:=SqL.offD R (.inl hd)
 have a6:=S.keep (Hy (o:=.frz ob (.dT B)) hd)
 have a7:SqL K (upd H d (.frz ob (.dT B))) g gs:=SqL.offD hg (.inl hd)
 have a8:=λh v e=>(hG h v e).keep (Hy (o:=.frz ob (.dT B)) hd)
 have a9:SqT K (upd H d (.frz ob (.dT B))) ma _:=SqT.offD hm (.inl hd)
 have d0:(upd H d (.frz ob (.dT B))) d=some (.frz ob (.dT B)):=aI
 have th:∀H',aP (upd H d (.frz ob (.dT B))) H'->aP H (upd H' d (.dT B)):=λH' s=>aP.thaw hd s
 generalize upd H d (.frz ob (.dT B))=H0 at rf a4 a5 a6 a7 a8 a9 d0 th
 refine Xq (a:=d) (ob:=ob) (kvs:=B) (g:=aZ 5) (D:=mayE NF { nx:=mL K (eQ Q),rt:=Q }) (Il d wd nd g ma H0) #[none,none,none,rfl,aP.refl _] ?_ ?_ ?_
 ·rintro i Z H3 _ ⟨_,_,_,_,s3⟩
  exact s3 _ _ d0
 ·rintro i c8 ka Z H3 hi ⟨M,o2,o3,rfl,s3⟩ j
  obtain⟨q,eq,e⟩:=ce.key hi
  have J:=aL eq
  have ql:q.length=ns.length:=by rw[iA _ q J,cT]
  have n3:=ce.sz.len
  have b6:=ce.b6
  rw[e]at j
  have a2:=rf.same s3
  obtain⟨c3,rd,cs⟩:=a2.rd
  obtain⟨l1,e1,g1⟩:=cs q J
  have cl:=ce.cl q J
  (dsimp?[rR,Wl,jY])
  refine#[_,.inr #[c3,tk q,ka,rd,rfl,j,e1.symm],_,rfl,_,s3.seq a7,_,SqL.of g1,#[],λzl N H4 _ hz I zn zt=>?_]
  have I:aP H3 H4:=I
  have a0:=s3.trans I
  have pz:PV 40 K H4 (N.map V.ref) (va (gF un G ns q)):=zip_pv (U:=un q) (λh v e=>(a8 h v e).keep (eI a0)) (λh t=>let⟨v,e,n⟩:=a2.en q J h t;#[v,e,n.keep (eI I)]) gl zn zt
  have c4:=a2.same I
  rw[tS]at j
  have b0:=I _ _ j
  have b3:=a0.seq a5
  have c5:=a6.same a0
  obtain⟨kw,hw,c9,hv⟩:=a4.same a0
  have l:=S.1
  (dsimp?[rN,jZ,dC])
  refine#[#[_,b3],Dv (K:=K) (a:=nd) (xs:=F) (λi T w=>aP H4 w/\T.length<=i/\PV 40000 K w T (lsm (((gB ns ns.length).take i).filter λb=>decide (q[b.getD 0 0]?=some (b.getD 1 0))) λb=>va (Y b)*-(va (mo un q b)))) (by rw[sizeLine_eq];omega) #[aP.refl _,aM _,PV.nil] ?_ ?_ ?_]
  ·rintro i T w _ ⟨X,_⟩
   exact X.seq b3
  ·rintro i x T w hx _ ⟨X,yl,pv⟩
   obtain⟨b,ba,O,rfl,hb⟩:=(c5.same X).get hx
   have bm:=aL O
   obtain⟨h,c,o,n,rfl,b4,hc,ho,_⟩:=Eo bm
   have hl:=(aK.mp b4).1
   have a3:q[h]?=some q[h]:=aD #[]
   have a1:=X _ _ b0
   rw[dH O,List.filter_append]
   (dsimp?[rQ,jY,cL,bR,cK,bF])
   refine#[_,SqT.of hb,_,iU,_,rfl,_,SqT.of a1,.int q[h],gM (by unfold tv;rw[aY,a3];rfl),_,SqT.of hb,.int c,iJ,rfl,?_]
   by_cases e:q[h]=c
   ·obtain⟨a,e1,ha⟩:=hv _ bm
    have b5:q[h]?=some c:=by rw[a3,e]
    have c6:=X.tup ha
    rw[aJ (by rw[e]),gH (by show decide (q[h]?=some c)=true;simpa using b5),List.filter_nil]
    refine#[_,.inr #[kw,tk [h,c,o],ba,.inl (X _ _ hw),rfl,by rw[tS];exact hb,e1.symm],d,ka,ba,ns,A,un,q,h,c,o,n,rfl,c4.same X,ce.sz,a1,J,hb,b4,ho,λx y r C s6 hr y0 d1 ex bx=>#[sz2,λp b7=>?_]]
    have s7:=s6.trans (aP.upd (o:=HO.tup [V.ref a,V.ref r]) b7)
    have k:=ok _ bm
    refine#[X.trans s7,by rw[bC];show _+1<=_;omega,?_]
    rw[nD]
    show PV 40000 K _ _ (_+(va (Y [h,c,o])*-(va (mo un q [h,c,o]))+0))
    rw[Rat.add_zero,←jZs b5 y0 ex]
    exact(pv.same s7).snoc (SqT.of aI) (s7.tup c6) (g:=(x,y)) (SqT.of (aP.upd b7 _ _ hr)) #[k.p,k.b1,k.b2] #[y0,bx.mono (by decide),(show BB 7 y by unfold BB;omega).mono (by decide)]
   ·rw[aF (by simp;omega),gI (by show ¬decide (q[h]?=some c)=true;rw[a3];simp;exact e),List.filter_nil,bZ]
    exact#[X,#[],pv]
  rintro T w ⟨X,yl,pv⟩ p b8
  have s6:=X.trans (aP.upd (o:=HO.lst T) b8)
  refine#[zl,p,_,_,rfl,rfl,s6 _ _ hz,aI,by rw[aA,sizeLine_eq];omega,λp2 c7=>?_]
  have s7:=aP.upd (o:=HO.lst (N.map V.ref++T)) c7
  have b9:=s6.trans s7
  have pt:=((pz.mono (c:=40000) (by decide)).same b9).app (pv.same ((aP.upd (o:=HO.lst T) b8).trans s7))
  (dsimp?[rO])
  have tl:(N.map V.ref++T).length<=9:=by rw[bC,aA];omega
  refine pt.use (SqL.of aI) (by decide) #[] λr f H8 P hr gf ev=>?_
  have c1:=(a0.trans b9).trans P
  have c2:=c1.tup a9
  have fb:Gp 9000000 9000000 f:=#[gf.1,gf.2.1.mono #[],gf.2.2.mono #[]]
  (dsimp?[rP])
  refine#[_,SqT.of hr,_,iU,_,c2,_,iJ,_,rfl,_,rfl,.b fb.2.1 gw.2.2,_,c2,_,iU,_,SqT.of hr,_,iJ,_,rfl,_,rfl,.b gw.2.1 fb.2.2,?_]
  have e:lsm (((gB ns ns.length).take F.length).filter λb=>decide (q[b.getD 0 0]?=some (b.getD 1 0))) (λb=>va (Y b)*-(va (mo un q b)))=lsm (gB ns ns.length) (λb=>va (Y b)*va (mo un q b))*(-1):=by
   rw[l,cA,Dt,←nB]
   refine iG λb hb=>?_
   obtain⟨h,c,o,n,rfl,_⟩:=Eo hb
   show(if decide (q[h]?=some c)=true then _ else _)=_
   by_cases z:q[h]?=some c
   ·rw[aJ (by simpa using z)];grind
   ·rw[aF (by simpa using z),Wj,aF z];grind
  rw[e]at ev
  have l0:=le q J
  have l1:=(qM gf.1 gw.1).mp (by rw[ev];grind)
  exact mT (λz=>by omega) λ_=>#[_,_,_,rfl,c1]
 ·rintro Z H3 ⟨M,o2,o3,rfl,s3⟩
  refine .inr #[d,B,ob,(nf d λo u z=>by rw[hd]at z;cases z),s3 _ _ d0,?_]
  (dsimp?[mL])
  exact k _ (th _ s3)
noncomputable def Tg:List PySem.Str:=["_law_found","_law_sizes","_law_cells","_law_goal","_law_needs","_law_plan","_law_weights","_law_most","_law_total","_law_goals"]
noncomputable def Dl(K:aO):Sp:=λvs H Q _=>∃f s c g ns B A un p l k a P Y W,∃G:Nat->Int,vs=[.ref f,.ref s,.ref c,.ref g]/\AdO K H f ns un G l k a P Y W/\SqL K H s (tv ns)/\CeD H c ns B A un/\SqL K H g p/\p.length=ns.length/\(∀h v,p[h]?=some v->En H v (G h))/\l≠c/\k≠c/\∀H',aP H H'->Q (.bl true) H'
noncomputable def Fp(K:aO):TS:=(cP (rY (cB (zN K) [] E0 (aH (aE 2) (aH (aE 5) (aH (aE 4) bE)))) (cB (oO K) [] E0 (aH (aE 2) (aH (aE 6) (aH (aE 4) (aH (aE 3) (aH (aE 7) bE))))))))
noncomputable def Fo(K:aO):TS:=(cD (fU (tOr (cY (tOp rNe (tOp (dO K) (aE 8) (tC (.int 0))) (tOp (dO K) (aE 8) (tC (.int 1))))) (cY (tOp rNe (tOp eU (tOp (dO K) (aE 9) (tC (.int 0))) (tOp (dO K) (aE 7) (tC (.int 1)))) (tOp eU (tOp (dO K) (aE 7) (tC (.int 0))) (tOp (dO K) (aE 9) (tC (.int 1))))))) (cP (tC (.bl false))) eO) (Fp K))
noncomputable def Fr(K:aO):TE:=(hJ (aH (jY (aE 1) (aE 0)) (aH (cB (lC K) [] E0 (aH (Wl K (aH (aE 2) (aH (jY (aE 3) (aE 0)) bE))) bE)) bE)))
noncomputable def Fn(K:aO):TS:=(cD (Lk (cU (cB (lC K) [] E0 (aH (dN (Lm K (aE 2)) [5,3,2] (Fr K)) bE)) (aZ 9))) (Fo K))
noncomputable def Fq(K:aO):TE:=(hJ (aH (jY (aE 1) (aE 0)) (aH (hJ (aH (tC (.int 1)) (aH (tC (.int 1)) bE))) bE)))
noncomputable def Fm(K:aO):TS:=(cD (Lk (cU (cB (lC K) [] E0 (aH (dN (Lm K (aE 2)) [5] (Fq K)) bE)) (aZ 8))) (Fn K))
noncomputable def wF(K:aO):TS:=(cD (fU (tOr (vG (tB (cB (lB K) [] E0 (aH (tOp (dO K) (aE 7) (tC (.int 0))) bE)))) (tOr (vG (tB (cB (lB K) [] E0 (aH (tOp (dO K) (aE 7) (tC (.int 1))) bE)))) (tOr (cY (tOp kK (tOp (dO K) (aE 7) (tC (.int 1))) (tC (.int 1)))) (cY (tOp rNe (cB (jG K) [] E0 (aH (tOp (dO K) (aE 7) (tC (.int 0))) (aH (tOp (dO K) (aE 7) (tC (.int 1))) bE))) (tC (.int 1))))))) (cP (tC (.bl false))) eO) (Fm K))
noncomputable def Fl(K:aO):TS:=(cD (cU (aE 0) (jN K 3 (eF (aZ 5) (eF (aZ 6) (eF (aZ 7) jO))))) (cD (fU (tOr (vG (tB (cB (Ba K) [] E0 (aH (aE 5) (aH (aE 2) bE))))) (tOr (vG (tB (cB (Ba K) [] E0 (aH (aE 6) (aH (aE 4) bE))))) (tOr (vG (tB (tCB Wt (aH (aE 7) (aH (tC (.ty "tuple")) bE))))) (cY (tOp rNe (tCB (jD K) (aH (aE 7) bE)) (tC (.int 2))))))) (cP (tC (.bl false))) eO) (wF K)))
noncomputable def Fk(K:aO):TS:=(cD (fU (tOr (vG (tB (tCB Wt (aH (aE 0) (aH (tC (.ty "tuple")) bE))))) (cY (tOp rNe (tCB (jD K) (aH (aE 0) bE)) (tC (.int 3))))) (cP (tC (.bl false))) eO) (Fl K))
noncomputable def Hf(K:aO):TS:=(cD (cU (cB (Hs K) [] E0 (aH (aE 1) bE)) (aZ 4)) (Fk K))
theorem AdO.same{v:Addr}{un:List Nat->Nat->Int}{G:Nat->Int}{l k:Addr}{P Y:List Nat->Int×Int}{W:Int×Int}(h:AdO K H v ns un G l k a P Y W)(s:aP H H'):AdO K H' v ns un G l k a P Y W:=#[s _ _ h.hv,h.hp.same s,h.hw.same s,s _ _ h.ha,h.op,h.oy,h.ow,h.adv]
theorem jJi{K}:RdS K Dl Hf Tg:=by
 intro m H Q E h
 obtain⟨f,s,c,g,ns,B,A,un,gs,pd,wd,wa,P,Y,W,G,rfl,ad,hs,D,hg,gl,hG,b5,d2,k⟩:=h
 rw[show start Tg [V.ref f,V.ref s,V.ref c,V.ref g]=[some (.ref f),some (.ref s),some (.ref c),some (.ref g),none,none,none,none,none,none]from rfl]
 (dsimp?[Hf])
 refine#[s,ns,rfl,hs,D.sz,λnd F S O R ps=>?_]
 have a0:=ad.same O
 have a6:=D.same O
 have q8:=D.q8
 have b6:=D.b6
 have kl:=D.len
 have n3:=D.sz.len
 obtain⟨w0,wc,c2,c3⟩:=ad.ow
 (dsimp?[Fk,Wt])
 refine#[true,.inl #[rfl,rfl,_,a0.hv],sQ #[_,.inr (SqT.of a0.hv),sQ ?_]]
 (dsimp?[Fl,Wt])
 refine#[_,SqT.of a0.hv,rfl,_,_,rfl,_,_,rfl,_,_,rfl,rfl,?_]
 refine#[pd,c,dU ns.reverse,P,rfl,a0.hp,ad.op,.inl #[B,a6.hd,a6.ks],#[],true,rfl,sQ ?_]
 refine#[wd,nd,gB ns ns.length,Y,rfl,a0.hw,ad.oy,.inr #[F,SqL.of R,ps],#[],true,rfl,sQ ?_]
 refine#[true,.inl #[rfl,rfl,_,a0.ha],sQ #[_,rfl,_,.inr (SqT.of a0.ha),sQ ?_]]
 have a4:SqT K S wa _:=SqT.of a0.ha
 (dsimp?[wF];try simp_arith[wF,lB,jG])
 refine#[_,a4,_,iU,_,rfl,sQ #[_,a4,_,iJ,_,rfl,sQ #[_,a4,_,iJ,_,rfl,mT (λz=>by omega) λ_=>#[_,a4,_,iU,_,a4,_,iJ,_,rfl,_,rfl,?_]]]]
 rw[wc,aF (by decide)]
 have a7:=a6.hd
 (dsimp?[Fm,Lk,dN,Lm])
 intro NF nf
 refine .inr #[B,.inl #[a7,λob=>?_]]
 obtain⟨kp,hp,hk,hv⟩:=a0.hp
 have a8:(upd S c (.frz ob (.dT B))) pd=some (.dT kp):=by rw[bY b5];exact hp
 refine Sk (a:=c) (ob:=ob) (kvs:=B) (λi N w=>aP (upd S c (.frz ob (.dT B))) w/\N.length=i/\PV 40000 K w N (lsm ((dU ns.reverse).take i) λq=>va (P q)*va (1,1))) (by rw[sizeLine_eq];omega) #[aP.refl _,rfl,PV.nil] ?_ ?_ ?_
 ·rintro i N w _ ⟨X,_⟩
  exact X _ _ aI
 ·rintro i d3 ka N w hi _ ⟨X,Z,pv⟩ j
  obtain⟨q,eq,e⟩:=D.key hi
  have J:=aL eq
  rw[e]at j
  obtain⟨a,e1,ha⟩:=hv q J
  have b7:=X.tup (SqT.offD ha (.inl a7) (o:=.frz ob (.dT B)))
  (dsimp?[Fq,jY,cL,bR,cK,bF])
  refine#[_,.inr #[kp,tk q,ka,.inl (X _ _ a8),rfl,j,e1.symm],sz2,λr hr=>#[sz2,λp a5=>?_]]
  have s6:=aP.upd (o:=HO.tup [V.int 1,V.int 1]) hr
  have s7:=s6.trans (aP.upd (o:=HO.tup [V.ref a,V.ref r]) a5)
  have k:=ad.op q J
  refine#[X.trans s7,by rw[bC,Z];rfl,?_]
  rw[dH eq,nD]
  show PV 40000 K _ _ (_+(va (P q)*va (1,1)+0))
  rw[Rat.add_zero]
  have M:BB 40000 (1:Int):=by show(1:Int).natAbs<2^40000;exact Nat.one_lt_two_pow (by decide)
  exact(pv.same s7).snoc (SqT.of aI) (s7.tup b7) (g:=(1,1)) (SqT.of (aP.upd a5 _ _ aI)) #[k.p,k.b1,k.b2] #[by decide,M,M]
 rintro N w ⟨X,Z,pv⟩ p y
 have s6:=X.trans (aP.upd (o:=HO.lst N) y)
 rw[kl,cA]at pv
 refine(pv.same (aP.upd (o:=HO.lst N) y)).use (SqL.of aI) (by decide) #[] λta ft H6 s7 a9 gt et=>?_
 have d:=s6.trans s7
 have f6:=d _ _ (aI (H:=S) (a:=c) (o:=.frz ob (.dT B)))
 refine .inr #[c,B,ob,(nf c λo u z=>by rw[a7]at z;cases z),f6,?_]
 have s8:=aP.thaw a7 d
 have b3:(upd H6 c (.dT B)) ta=some (.tup [.int ft.1,.int ft.2]):=by rw[bY λz=>by rw[z,f6]at a9;cases a9];exact a9
 generalize upd H6 c (.dT B)=x at s8 b3
 clear nf NF a8 d f6 s6 s7 a9 pv X y
 have c4:va ft=1:=by rw[et,vK,nB,ad.adv.one];grind
 have b8:=a6.same s8
 have c5:=a0.same s8
 have a3:=b8.hd
 have c6:=O.trans s8
 (dsimp?[Fn,Lk,dN,Lm])
 intro NF nf
 refine .inr #[B,.inl #[a3,λob=>?_]]
 obtain⟨kp,hp,hk,hv⟩:=c5.hp
 have a8:(upd x c (.frz ob (.dT B))) pd=some (.dT kp):=by rw[bY b5];exact hp
 have rf:=b8.frz ob
 have d4:SqL K (upd x c (.frz ob (.dT B))) g gs:=SqL.offD (c6.seq hg) (.inl a3)
 have d5:=λh v e=>((hG h v e).keep (eI c6)).keep (Hy (o:=.frz ob (.dT B)) a3)
 refine Sk (a:=c) (ob:=ob) (kvs:=B) (λi N w=>aP (upd x c (.frz ob (.dT B))) w/\N.length=i/\PV 40000 K w N (lsm ((dU ns.reverse).take i) λq=>va (P q)*va (gF un G ns q))) (by rw[sizeLine_eq];omega) #[aP.refl _,rfl,PV.nil] ?_ ?_ ?_
 ·rintro i N w _ ⟨X,_⟩
  exact X _ _ aI
 ·rintro i d3 ka N w hi _ ⟨X,Z,pv⟩ j
  obtain⟨q,eq,e⟩:=D.key hi
  have J:=aL eq
  rw[e]at j
  obtain⟨a,e1,ha⟩:=hv q J
  have b7:=X.tup (SqT.offD ha (.inl a3) (o:=.frz ob (.dT B)))
  have c7:=rf.same X
  obtain⟨d6,rd,T⟩:=c7.rd
  obtain⟨l1,C,g1⟩:=T q J
  have cl:=D.cl q J
  (dsimp?[Fr,Wl,jY,cL,bR,cK,bF])
  refine#[_,.inr #[kp,tk q,ka,.inl (X _ _ a8),rfl,j,e1.symm],_,.inr #[d6,tk q,ka,rd,rfl,j,C.symm],_,rfl,_,X.seq d4,_,SqL.of g1,#[],λe0 c8 H4 _ hz I zn zt=>?_]
  have I:aP w H4:=I
  have d7:=X.trans I
  have pz:PV 40 K H4 (c8.map V.ref) (va (gF un G ns q)):=zip_pv (U:=un q) (λh v e=>(d5 h v e).keep (eI d7)) (λh t=>let⟨v,e,n⟩:=c7.en q J h t;#[v,e,n.keep (eI I)]) gl zn zt
  have zm:(c8.map V.ref).length<=3:=by rw[aA];omega
  refine pz.use (SqL.of hz) (by decide) #[] λr fr H6 s6 hr gr er=>#[sz2,λp a5=>?_]
  have s7:=(I.trans s6).trans (aP.upd (o:=HO.tup [V.ref a,V.ref r]) a5)
  have k:=ad.op q J
  refine#[X.trans s7,by rw[bC,Z];rfl,?_]
  rw[dH eq,nD]
  show PV 40000 K _ _ (_+(va (P q)*va (gF un G ns q)+0))
  rw[Rat.add_zero,←er]
  exact(pv.same s7).snoc (SqT.of aI) (s7.tup b7) (SqT.of (aP.upd a5 _ _ hr)) #[k.p,k.b1,k.b2] #[gr.1,gr.2.1.mono #[],gr.2.2.mono #[]]
 rintro N w ⟨X,Z,pv⟩ p y
 have s6:=X.trans (aP.upd (o:=HO.lst N) y)
 rw[kl,cA]at pv
 refine(pv.same (aP.upd (o:=HO.lst N) y)).use (SqL.of aI) (by decide) #[] λga fg H6 s7 b9 gg eg=>?_
 have d:=s6.trans s7
 have f6:=d _ _ (aI (H:=x) (a:=c) (o:=.frz ob (.dT B)))
 refine .inr #[c,B,ob,(nf c λo u z=>by rw[a3]at z;cases z),f6,?_]
 have s9:=aP.thaw a3 d
 have a1:(upd H6 c (.dT B)) ga=some (.tup [.int fg.1,.int fg.2]):=by rw[bY λz=>by rw[z,f6]at b9;cases b9];exact b9
 generalize upd H6 c (.dT B)=H9 at s9 a1
 rw[ad.adv.wo]at eg
 have b4:SqT K H9 ta _:=SqT.of (s9 _ _ b3)
 have b0:=c5.same s9
 have c9:SqT K H9 wa _:=SqT.of b0.ha
 have a1:SqT K H9 ga _:=SqT.of a1
 have d0:Gp 9000000 9000000 fg:=#[gg.1,gg.2.1.mono #[],gg.2.2.mono #[]]
 have t1:ft.1=ft.2:=by
  have a:=(qM (g:=(1,1)) gt.1 Int.zero_lt_one).mp (by rw[c4,vK];exact Rat.le_refl)
  have b:=(qM (f:=(1,1)) Int.zero_lt_one gt.1).mp (by rw[c4,vK];exact Rat.le_refl)
  simp only[eA,fY]at a b
  omega
 have t2:fg.1*W.2=W.1*fg.2:=by
  have a:=(qM gg.1 w0).mp (by rw[eg];exact Rat.le_refl)
  have b:=(qM w0 gg.1).mp (by rw[eg];exact Rat.le_refl)
  omega
 (dsimp?[Fo])
 refine#[_,b4,_,iU,_,b4,_,iJ,rfl,?_]
 rw[aF (by rw[t1];simp)]
 refine#[_,a1,_,iU,_,c9,_,iJ,_,rfl,_,rfl,.b d0.2.1 c3,_,c9,_,iU,_,a1,_,iJ,_,rfl,_,rfl,.b c2 d0.2.2,?_]
 rw[aF (by simp [t2])]
 have c1:=s8.trans s9
 have d1:=b8.same s9
 (dsimp?[Fp])
 refine#[c,pd,nd,ns,B,A,un,P,F,rfl,d1,b0.hp,ad.op,SqL.of (c1 _ _ R),ps.same c1,b5,ad.adv.gl,λe3 l=>?_]
 refine#[true,rfl,?_]
 rw[aJ rfl]
 have a2:=c1.trans l
 exact#[c,wd,nd,g,wa,ns,B,A,un,Y,F,gs,W,G,rfl,d1.same l,(b0.same l).hw,ad.oy,SqL.of (a2 _ _ R),ps.same a2,d2,(O.trans a2).seq hg,gl,λh v e=>(hG h v e).keep (eI (O.trans a2)),SqT.of (b0.same l).ha,#[w0,c2,c3],ad.adv.nb,λd8 d9=>k d8 ((O.trans a2).trans d9)]
noncomputable def N_law:List PySem.Str:=["_law_script","_law_sizes","_law_cells","_law_goal","_law_handed","_law_found"]
noncomputable def Ls(K:aO):Sp:=λvs H Q _=>∃a ns,vs=[.ref a]/\SqL K H a (List.map V.int ns)/\ns.length<=63/\∀H',Q (.bl true) H'
noncomputable def Wx(K:aO):TS:=(cP (rY (cB (Dl K) [] E0 (aH (aE 5) (aH (aE 1) (aH (aE 2) (aH (aE 3) bE))))) (tOp (rEqD K 1) (aE 4) (aE 3))))
noncomputable def Ww(K:aO):TS:=(cD (cU (cB (Hu K) [] E0 (aH (Bp (eE K "Table") (tO K) [] E0 (aH (tCB (pX K) (aH (aE 1) bE)) (aH (cB (rE K) [] E0 (aH (aE 2) bE)) bE))) (aH (aE 4) bE))) (aZ 5)) (Wx K))
noncomputable def t_law(K:aO):TS:=(cD (cU (cB (Dn K) [] E0 (aH (aE 0) bE)) (jN K 3 (eF (aZ 1) (eF (aZ 2) (eF (aZ 3) jO))))) (cD (cU (tCB (pX K) (aH (aE 3) bE)) (aZ 4)) (Ww K)))
theorem rd_law{K}:RdS K Ls t_law N_law:=by
 intro m H Q E h
 obtain⟨a,ns,rfl,hS,R,q⟩:=h
 rw[show start N_law [V.ref a]=[some (.ref a),none,none,none,none,none]from rfl]
 (dsimp?[t_law])
 refine#[a,ns,rfl,hS,R,λr s c g T B A F S s1 O=>?_]
 refine#[r,rfl,_,SqT.of O.hr,rfl,_,_,rfl,_,_,rfl,_,_,rfl,rfl,?_]
 (dsimp?[pX])
 refine#[F,.inl (SqL.of O.hg),λhl a8=>?_]
 have s2:=aP.upd (o:=HO.lst F) a8
 have a2:(upd S hl (.lst F)) hl=some (.lst F):=aI
 generalize upd S hl (.lst F)=M at s2 a2
 have nd:=mK T.reverse
 obtain⟨_,b6,q8,_,n3⟩:=O.s3.all
 (dsimp?[Ww,Bp,pX])
 refine#[tv T,.inl (SqL.of (s2 _ _ O.hs)),λsl a9=>?_]
 have s3:=aP.upd (o:=HO.lst (tv T)) a9
 have a0:=s2.trans s3
 have a3:(upd M sl (.lst (tv T))) sl=some (.lst (tv T)):=aI
 have a4:=s3 _ _ a2
 generalize upd M sl (.lst (tv T))=U at s3 a0 a3 a4
 have a5:=O.kc.same a0
 refine#[c,dU T.reverse,A,B,rfl,a0 _ _ O.hc,a5.keys,a5.cells nd,nd,#[],λq=>by rw[O.cl];decide,λbd kb G I b0 N cb=>?_]
 have b3:kb.length=(dU T.reverse).length:=by rw[←aA (f:=(·.1)),N,aA,cT]
 intro t dx ht b4 ne
 have X:aP G (upd (upd G dx (.own t)) t (.ins (eE K "Table") dx [])):=(aP.upd b4).put ht
 have t5:(upd (upd G dx (.own t)) t (.ins (eE K "Table") dx [])) t=some (.ins (eE K "Table") dx []):=aI
 generalize (upd (upd G dx (.own t)) t (.ins (eE K "Table") dx []))=w at X t5
 refine#[t,dx,sl,bd,T,kb,A,rfl,t5,SqL.of (X _ _ (I _ _ a3)),#[],O.sz,X _ _ b0,λq J=>(cb q J).same X,λq _=>by rw[O.cl,n3],b3,λC b5 tab=>#[rfl,?_]]
 have p:aP G C:=λb u e=>b5 b u (X b u e) (dE e ht)
 have a1:=(a0.trans I).trans p
 have a6:∀q∈dU T.reverse,∀h,h<T.length->∃v,(A q)[h]?=some v/\En S v (enU S ((A q).getD h .non)):=λq J h hh=>by
  have e:=aD (l:=A q) (i:=h) (by rw[O.cl];omega)
  refine#[_,e,?_]
  rw[aR,e]
  exact((O.en q J _ (aL e)).mono (by decide)).en
 have gen:∀h v,F[h]?=some v->En S v (enU S (F.getD h .non)):=λh v e=>by
  rw[aR,e]
  exact((O.xe v (aL e)).mono (by decide)).en
 have te:TbE K C t T A λq h=>enU S ((A q).getD h .non):=#[tab,O.sz,λq J h hh=>let⟨v,e,n⟩:=a6 q J h hh;#[v,e,n.keep (eI a1)]]
 have a7:=p _ _ (I _ _ a4)
 have gl:F.length=T.length:=by rw[O.xl,n3]
 refine#[t,hl,T,A,_,F,λh=>enU S (F.getD h .non),rfl,te,O.s3,SqL.of a7,gl,λq _=>by rw[O.cl,n3],λh v e=>(gen h v e).keep (eI a1),λv pd k wa P Y W H7 s7 pn wn ad=>?_]
 have Z:=a1.trans s7
 have c6:=a1 _ _ O.hc
 have D:CeD H7 c T B A λq h=>enU S ((A q).getD h .non):=#[Z _ _ O.hc,O.kc.keys,λq J=>(O.kc.cells nd q J).same Z,λq _=>by rw[O.cl,n3],λq J h hh=>let⟨v,e,n⟩:=a6 q J h hh;#[v,e,n.keep (eI Z)],O.sz,q8,b6]
 (dsimp?[Wx,rEqD])
 refine#[v,s,c,g,T,B,A,_,F,pd,k,wa,P,Y,W,_,rfl,ad,SqL.of (Z _ _ O.hs),D,SqL.of (Z _ _ O.hg),gl,λh v e=>(gen h v e).keep (eI Z),λz=>(by rw[z,c6]at pn;cases pn),λz=>(by rw[z,c6]at wn;cases wn),λH8 s8=>#[true,rfl,?_]]
 rw[aJ rfl]
 refine#[true,#[hl,g,F,F,rfl,rfl,.inl #[SqL.of (s8 _ _ (s7 _ _ a7)),SqL.of (s8 _ _ (Z _ _ O.hg)),.inr #[rfl,λ_=>true,λj x y hx d=>?_,by simp]]],q H8]
 rw[hx]at d
 cases d
 obtain⟨a,_,_,rfl,_⟩:=O.xe x (aL hx)
 exact .inl (.inl #[rfl,#[a,rfl],rfl])
noncomputable def top(i:Nat):Stmt:=PySem.Challenge.pw_mixplay_k53_whole_advice_of_three.main.body.getD i (.Pass #[0,0,0,0])
set_option genInjectivity false in
set_option genSizeOf false in
structure Tx(K:aO)(mg:Str->Option Value):Prop where
 f61:Df K mg "_law_numbers" (top 61)
 f65:Df K mg "_law_plays" (top 65)
 f62:Df K mg "_law_divisor" (top 62)
 f63:Df K mg "_law_earning" (top 63)
 f64:Df K mg "_law_way" (top 64)
 f67:Df K mg "_law_drawn" (top 67)
 f16:Df K mg "one_of_each" (top 16)
 f17:Df K mg "in_order" (top 17)
 f20_2:Mf K "Table" "plays" "Table.plays" (jP (top 20) 2)
 f20_1:Mf K "Table" "sizes" "Table.sizes" (jP (top 20) 1)
 f52:Df K mg "breaches" (top 52)
 f7:Df K mg "divisor" (top 7)
 f8:Df K mg "ratio" (top 8)
 f9:Df K mg "plus" (top 9)
 f14:Df K mg "summed" (top 14)
 f11:Df K mg "times" (top 11)
 f20_3:Mf K "Table" "earned" "Table.earned" (jP (top 20) 3)
 f54:Df K mg "goal_of" (top 54)
 f48:Df K mg "least_whole" (top 48)
 f49:Df K mg "lift_of" (top 49)
 f27:Df K mg "cleared" (top 27)
 f10:Df K mg "minus" (top 10)
 f22:Df K mg "joined" (top 22)
 f23:Df K mg "earned_with" (top 23)
 f53:Df K mg "more_by" (top 53)
 f21:Df K mg "rest_of" (top 21)
 f55:Df K mg "more_in" (top 55)
 f56:Df K mg "column_for" (top 56)
 f50:Df K mg "lifted" (top 50)
 f57:Df K mg "row_at" (top 57)
 f13:Df K mg "below" (top 13)
 f25:Df K mg "shared" (top 25)
 f26:Df K mg "plain" (top 26)
 f33:Df K mg "whole" (top 33)
 f37:Df K mg "longest" (top 37)
 f35:Df K mg "column_of" (top 35)
 f36:Df K mg "span" (top 36)
 f34:Df K mg "unit" (top 34)
 f43_0:Mf K "Corner" "__init__" "Corner.__init__" (jP (top 43) 0)
 f38:Df K mg "bits_beyond" (top 38)
 f39:Df K mg "stretched" (top 39)
 f40:Df K mg "shortened" (top 40)
 f41:Df K mg "rounded" (top 41)
 f28:Df K mg "products" (top 28)
 f43_3:Mf K "Corner" "entering" "Corner.entering" (jP (top 43) 3)
 f43_2:Mf K "Corner" "numbers" "Corner.numbers" (jP (top 43) 2)
 f29:Df K mg "is_ahead" (top 29)
 f30:Df K mg "leaving" (top 30)
 f43_4:Mf K "Corner" "leaving_by" "Corner.leaving_by" (jP (top 43) 4)
 f43_1:Mf K "Corner" "bottom" "Corner.bottom" (jP (top 43) 1)
 f43_5:Mf K "Corner" "step_in" "Corner.step_in" (jP (top 43) 5)
 f44:Df K mg "unstopped" (top 44)
 f42:Df K mg "turned_round" (top 42)
 f43_6:Mf K "Corner" "comes_to" "Corner.comes_to" (jP (top 43) 6)
 f43_7:Mf K "Corner" "ends_with" "Corner.ends_with" (jP (top 43) 7)
 f45:Df K mg "last_corner" (top 45)
 f12:Df K mg "over" (top 12)
 f43_8:Mf K "Corner" "spread" "Corner.spread" (jP (top 43) 8)
 f43_9:Mf K "Corner" "xs" "Corner.xs" (jP (top 43) 9)
 f43_11:Mf K "Corner" "ways" "Corner.ways" (jP (top 43) 11)
 f43_10:Mf K "Corner" "ys" "Corner.ys" (jP (top 43) 10)
 f46:Df K mg "best" (top 46)
 f58:Df K mg "advice" (top 58)
 f18:Df K mg "check_sizes" (top 18)
 f19:Df K mg "check_cells" (top 19)
 f20_0:Mf K "Table" "__init__" "Table.__init__" (jP (top 20) 0)
 f75:Df K mg "_law_backwards" (top 75)
 f70:Df K mg "_law_asks" (top 70)
 f60:Df K mg "_law_whole" (top 60)
 f68:Df K mg "_law_list" (top 68)
 f69:Df K mg "_law_added" (top 69)
 f66:Df K mg "_law_put" (top 66)
 f71:Df K mg "_law_lost" (top 71)
 f72:Df K mg "_law_gladly" (top 72)
 f73:Df K mg "_law_none_better" (top 73)
 f74:Df K mg "_law_right" (top 74)
 n_abs:mg "abs"=none
 n_bool:mg "bool"=none
 n_dict:mg "dict"=none
 n_enumerate:mg "enumerate"=none
 n_int:mg "int"=none
 n_isinstance:mg "isinstance"=none
 n_len:mg "len"=none
 n_list:mg "list"=none
 n_max:mg "max"=none
 n_min:mg "min"=none
 n_range:mg "range"=none
 n_reversed:mg "reversed"=none
 n_sum:mg "sum"=none
 n_tuple:mg "tuple"=none
 n_zip:mg "zip"=none
 c_Corner:mg "Corner"=some (.ref (eE K "Corner"))
 c_Table:mg "Table"=some (.ref (eE K "Table"))
 mk_Corner:PySem.W.makesIn K (eE K "Corner")=true/\W.keepIn K (.ref (eE K "Corner"))=true
 ct:xP K
 mk_Table:PySem.W.makesIn K (eE K "Table")=true/\W.keepIn K (.ref (eE K "Table"))=true
 tt:TabK K
 g_BITS:∃t,mg "BITS"=some (.int 40 t)
section
variable{P:Program}{w:World}{K:aO}{mg:Str->Option Value}{base:Heap}
theorem Vz(T:Tx K mg):Ok P w K mg base CX0 1 "_law_numbers" (wW K):=T.f61.ok λR h=>#[yT K,Vq h,(aU (sK R (fS rfl T.n_range (aC pV aN)) (λ_ _ _ _=>aS)) (aU (fA R (fS rfl T.n_range (aC (cQ (Sq rfl) rfl T.n_max Mg (aC pV (aC (cQ (Sn rfl) rfl T.n_min Me (aC (cQ cW rfl T.n_len fX (aC pV aN)) (aC aS aN))) aN))) aN)) (gN R) (aU (sA R aS) (aU (gE (cV Ec (cQ cW rfl T.n_len fX (aC pV aN)) aS (dB _)) (bA (sA R (cC kB (iL pV (cC kB pV (cQ (Sn rfl) rfl T.n_min Me (aC (cQ cW rfl T.n_len fX (aC pV aN)) (aC aS aN))))) (cC jR (cC Uf aS aS) aS)))) eL) (aU (sA R (cC kB pV pV)) (bA (Cy (cC kB (cC jR (cC jR (cC dZ (iL pV pV) aS) pV) (cC dZ pV pV)) (cC jR (cC Uf aS aS) aS)) (Lx pV pV yJ))))))) (bA (cE pV))))]
theorem jJ0(T:Tx K mg):Ok P w K mg base CX0 1 "_law_plays" (Dm K):=T.f65.ok λR h=>#[Hg K,jJj h,(aU (sA R (kS (aC (fJ aN) aN))) (aU (fA R (dQ pV) (gN R) (aU (sA R (kS aN)) (aU (fA R (dQ pV) (gN R) (bA (sA R (cC nX pV (kA R (fS rfl T.n_range (aC pV aN)) (λ_ _ _ _=>(cC vT pV (fJ (aC pV aN))))))))) (bA (sA R pV))))) (bA (cE pV))))]
theorem wZ(T:Tx K mg):Ok P w K mg base CX0 1 "_law_divisor" (jG K):=T.f62.ok λR h=>#[zB K,Vs h,(aU (sA R (cQ yM rfl T.n_abs Mh (aC pV aN))) (aU (sA R (cQ yM rfl T.n_abs Mh (aC pV aN))) (aU (wA (cV Ec pV aS (dB _)) (bA (ps_par (i:=0) (j:=1) rfl (by rw[R.nn];exact R.nd) rfl rfl (by decide) rfl rfl (aC pV (aC (cC kB pV pV) aN)) rfl))) (bA (cE pV)))))]
theorem Gi(T:Tx K mg):Ok P w K mg base CX0 2 "_law_earning" (qG K):=T.f63.ok λR h=>#[zA K,Vr h,(aU (gE (cV Ed pV aS (dB _)) (bA (cE (fJ (aC (cC nA (cC kB (cC kB (cC dZ pV aS) aS) aS) aS) (aC aS aN))))) eL) (aU (gE (cV Ed pV aS (dB _)) (bA (cE (fJ (aC (cC nA (cC kB (cC kB (cC dZ pV aS) aS) aS) aS) (aC aS aN))))) eL) (aU (sA R (cC nA (cC kB pV (cC jR (cC dZ aS (cC Uf aS aS)) aS)) (cC Uf aS aS))) (aU (gE (cV Ed pV aS (dB _)) (bA (sA R (cC nA (cC kB (cC kB (cC dZ pV aS) aS) aS) aS))) eL) (aU (sA R (cC jR aS (cC kB (cC kB (cC dZ pV aS) aS) aS))) (aU (sA R (c0 (wZ T) R.r (aC pV (aC pV aN)))) (bA (cE (fJ (aC (cC nK pV pV) (aC (cC nK pV pV) aN)))))))))))]
theorem jWm(T:Tx K mg):Ok P w K mg base CX0 1 "_law_way" (Na K):=T.f64.ok λR h=>#[Uq K,jWa h,(aU (gE (PW.pt (Ub (cV Ed (cC kB pV aS) aS (dB _)) (Ky (cV Ec pV aS (dB _))))) (bA (cE aS)) eL) (bA (cE (cC kB pV aS))))]
theorem jJ1(T:Tx K mg):Ok P w K mg base CX0 3 "_law_drawn" (Dn K):=T.f67.ok λR h=>#[Hh K,jJk h,(aU (sA R (c0 (Vz T) R.r (aC pV (aC aS aN)))) (aU (sK R (fS rfl T.n_range (aC aS aN)) (λ_ _ _ _=>(cC jR aS (cC kB (iL pV pV) aS)))) (aU (sA R (c0 (jJ0 T) R.r (aC pV aN))) (aU (sA R Ev) (aU (fA R (fS rfl T.n_range (aC (cQ cW rfl T.n_len fX (aC pV aN)) aN)) (gN R) (bA (Kz (mW R.r) pV (iL pV pV) (kA R (fS rfl T.n_range (aC aS aN)) (λ_ _ _ _=>(c0 (Gi T) R.r (aC (iL pV (cC jR (cC jR aS (cC dZ aS pV)) pV)) (aC (c0 (jWm T) R.r (aC (iL pV aS) (aC (cQ cW rfl T.n_len fX (aC pV aN)) aN))) aN))))) rfl))) (aU (sK R (fS rfl T.n_range (aC aS aN)) (λ_ _ _ _=>(c0 (Gi T) R.r (aC (iL pV (cC jR aS pV)) (aC (iL (kS (aC aS (aC aS (aC aS aN)))) (cC kB (iL pV aS) aS)) aN))))) (bA (cE (fJ (aC pV (aC pV (aC pV aN))))))))))))]
theorem Pj(T:Tx K mg):Ok P w K mg base CX0 1 "one_of_each" (rB K):=T.f16.ok λR h=>#[sS K,Ox h,(aU (sA R (kS (aC (fJ aN) aN))) (aU (fA R (dQ pV) (gN R) (aU (sA R (kS aN)) (aU (fA R (dQ pV) (gN R) (bA (sE (jZi PySem.F.plainAttrs_list PySem.F.slot_list_extend PySem.F.type_list_extend Rt pV (aC (kA R (dQ pV) (λ_ _ _ _=>(cC vT pV (fJ (aC pV aN))))) aN))))) (bA (sA R pV))))) (bA (cE pV))))]
theorem Js(T:Tx K mg):Ok P w K mg base CX0 2 "in_order" (sI K):=T.f17.ok λR h=>#[Dd K,Yk h,(bA (cE (c0 (Pj T) R.r (aC (kA R (dQ pV) (λ_ _ _ _=>(jZ0 rfl T.n_list rfl T.n_range rfl pV))) aN))))]
theorem Pr(T:Tx K mg):OkM P w K mg base CX0 3 (eE K "Table") "plays" (rK K):=T.f20_2.ok λR h=>#[tI K,Pg T.tt h,(bA (cE (c0 (Js T) R.r (aC (fV pV rfl) aN))))]
theorem Pq(T:Tx K mg):OkM P w K mg base CX0 1 (eE K "Table") "sizes" (rJ K):=T.f20_1.ok λR h=>#[tH K,Pf T.tt h,(bA (cE (mP jH rfl T.n_list nG (aC (fV pV rfl) aN))))]
theorem Ys(T:Tx K mg):Ok P w K mg base CX0 2 "breaches" (zP K):=T.f52.ok λR h=>#[vV K,Yn h,(aU (sA R (kS aN)) (aU (fA R (Ei rfl T.n_enumerate (m0 pV T.tt.cl (Pq T) R.r)) (gN2 R) (bA (fA R (fS rfl T.n_range (aC pV aN)) (gN R) (bA (sE (jZi PySem.F.plainAttrs_list PySem.F.slot_list_extend PySem.F.type_list_extend Rt pV (aC (kI R (fS rfl T.n_range (aC pV aN)) (λ_ _ _ _=>(cV oY pV pV (dB _))) (λ_ _ _ _=>(fJ (aC pV (aC pV (aC pV aN)))))) aN))))))) (bA (cE pV))))]
theorem Dr(T:Tx K mg):Ok P w K mg base CX0 1 "divisor" (lD K):=T.f7.ok λR h=>#[Hj K,jJn h,(aU (sA R (cQ yM rfl T.n_abs Mh (aC pV aN))) (aU (sA R (cQ yM rfl T.n_abs Mh (aC pV aN))) (aU (wA (cV oY pV aS (dB _)) (aU (sA R (cC kB pV pV)) (aU (sA R pV) (bA (sA R pV))))) (bA (cE pV)))))]
theorem qQ(T:Tx K mg):Ok P w K mg base CX0 2 "ratio" (nH K):=T.f8.ok λR h=>#[Kq K,jWV h,(aU (gE (cV Ed pV aS (dB _)) (bA nJ) eL) (aU (sA R (c0 (Dr T) R.r (aC pV (aC pV aN)))) (aU (gE (cV lQ pV aS (dB _)) (bA (sA R (lZ jJ pV))) eL) (bA (cE (fJ (aC (cC nK pV pV) (aC (cC nK pV pV) aN))))))))]
theorem jZ6(T:Tx K mg):Ok P w K mg base CX0 3 "plus" (Kt K):=T.f9.ok λR h=>#[Zj K,rd_plus h,(bA (cE (c0 (qQ T) R.r (aC (cC jR (cC dZ (iT pV aS) (iT pV aS)) (cC dZ (iT pV aS) (iT pV aS))) (aC (cC dZ (iT pV aS) (iT pV aS)) aN)))))]
theorem jYd(T:Tx K mg):Ok P w K mg base CX0 4 "summed" (Hq K):=T.f14.ok λR h=>#[Mo K,jX9 h,(aU (sA R (fJ (aC aS (aC aS aN)))) (aU (fA R (dQ pV) (gN R) (bA (sA R (c0 (jZ6 T) R.r (aC pV (aC pV aN)))))) (bA (cE pV))))]
theorem Ex(T:Tx K mg):Ok P w K mg base CX0 3 "times" (tX K):=T.f11.ok λR h=>#[Um K,jWW h,(bA (cE (c0 (qQ T) R.r (aC (cC dZ (iT pV aS) (iT pV aS)) (aC (cC dZ (iT pV aS) (iT pV aS)) aN)))))]
theorem xG(T:Tx K mg):OkM P w K mg base CX0 1 (eE K "Table") "earned" (mH K):=T.f20_3.ok λR h=>#[rA K,Kl T.tt h,(aU (fA R (Ei rfl T.n_enumerate (fV pV rfl)) (gN2 R) (bA (gE (PW.pt (mV (cV lQ (iT pV pV) aS (dB _)) (pQ (cV op_ge (iT pV pV) pV (dB _))))) (bA nJ) eL))) (bA (cE (mP jH rfl T.n_list nG (aC (lL (mW R.r) (fV pV rfl) pV (λ_ _=>rfl)) aN)))))]
theorem jJ2(T:Tx K mg):Ok P w K mg base CX0 5 "goal_of" (Dp K):=T.f54.ok λR h=>#[Aw K,jJm h,(bA (cE (c0 (jYd T) R.r (aC (kG R (nW rfl T.n_zip (aC pV (aC (m1 pV T.tt.cl (xG T) R.r (aC pV aN)) aN))) (λ_ _ _ _=>(c0 (Ex T) R.r (aC pV (aC pV aN))))) aN))))]
theorem Pk(T:Tx K mg):Ok P w K mg base CX0 1 "least_whole" (rC K):=T.f48.ok λR h=>#[sT K,Oy h,(bA (cE (cQ (Ie rfl) rfl T.n_min Me (aC (kA R (dQ pV) (λ_ _ _ _=>(cC nK (iT pV aS) (iT pV aS)))) aN))))]
theorem jJx(T:Tx K mg):Ok P w K mg base CX0 2 "lift_of" (Dj K):=T.f49.ok λR h=>#[Hd K,jJd h,(bA (cE (fJ (aC (cC nA aS (cQ (Ie rfl) rfl T.n_min Me (aC (kA R (dQ pV) (λ_ _ _ _=>(c0 (Pk T) R.r (aC pV aN)))) aN))) (aC aS aN)))))]
theorem Of(T:Tx K mg):Ok P w K mg base CX0 2 "cleared" (vX K):=T.f27.ok λR h=>#[Hk K,jJo h,(aU (sA R aS) (aU (fA R (dQ pV) (gN R) (bA (sA R (cC dZ pV (cC nK (iT pV aS) (c0 (Dr T) R.r (aC pV (aC (iT pV aS) aN)))))))) (bA (cE (fJ (aC pV (aC (kA R (dQ pV) (λ_ _ _ _=>(cC dZ (iT pV aS) (cC nK pV (iT pV aS))))) aN)))))))]
theorem Xc(T:Tx K mg):Ok P w K mg base CX0 3 "minus" (Et K):=T.f10.ok λR h=>#[Up K,jWQ h,(bA (cE (c0 (qQ T) R.r (aC (cC nA (cC dZ (iT pV aS) (iT pV aS)) (cC dZ (iT pV aS) (iT pV aS))) (aC (cC dZ (iT pV aS) (iT pV aS)) aN)))))]
theorem jYg(T:Tx K mg):Ok P w K mg base CX0 1 "joined" (Ht K):=T.f22.ok λR h=>#[Mw K,jYU h,(bA (cE (cC vT (cC vT (kP Ak pV mD (mC pV)) (fJ (aC pV aN))) (kP Ak pV (mC pV) mD))))]
theorem Ae(T:Tx K mg):Ok P w K mg base CX0 2 "earned_with" (nO K):=T.f23.ok λR h=>#[oT K,Pb h,(bA (cE (iL (m1 pV T.tt.cl (xG T) R.r (aC (c0 (jYg T) R.r (aC pV (aC pV (aC pV aN)))) aN)) pV)))]
theorem jJw(T:Tx K mg):Ok P w K mg base CX0 4 "more_by" (Di K):=T.f53.ok λR h=>#[Hb K,jJb h,(aU (sA R (iT pV aS)) (bA (cE (c0 (Xc T) R.r (aC (c0 (Ae T) R.r (aC pV (aC pV (aC pV (aC (iT pV aS) aN))))) (aC (c0 (Ae T) R.r (aC pV (aC pV (aC pV (aC (iT pV aS) aN))))) aN))))))]
theorem jJu(T:Tx K mg):Ok P w K mg base CX0 1 "rest_of" (Dg K):=T.f21.ok λR h=>#[Gz K,jJQ h,(bA (cE (cC vT (kP Ak pV mD (mC pV)) (kP Ak pV (mC (cC jR pV aS)) mD))))]
theorem jJv(T:Tx K mg):Ok P w K mg base CX0 5 "more_in" (Dh K):=T.f55.ok λR h=>#[Ha K,jJa h,(aU (gE (cV oY (iT pV (iT pV aS)) (iT pV aS) (dB _)) (bA (cE (fJ (aC aS (aC aS aN))))) eL) (bA (cE (c0 (jJw T) R.r (aC pV (aC (c0 (jJu T) R.r (aC pV (aC (iT pV aS) aN))) (aC pV aN)))))))]
theorem Qj(T:Tx K mg):Ok P w K mg base CX0 6 "column_for" (tM K):=T.f56.ok λR h=>#[wQ K,Qg h,(bA (cE (c0 (Of T) R.r (aC (cC nX (kA R (dQ pV) (λ_ _ _ _=>(c0 (jJv T) R.r (aC pV (aC pV (aC pV aN)))))) (kS (aC (fJ (aC aS (aC aS aN))) (aC pV aN)))) aN))))]
theorem jYe(T:Tx K mg):Ok P w K mg base CX0 4 "lifted" (Hr K):=T.f50.ok λR h=>#[Ms K,jYX h,(bA (cE (kA R (dQ pV) (λ_ _ _ _=>(c0 (jZ6 T) R.r (aC pV (aC pV aN)))))))]
theorem Rq(T:Tx K mg):Ok P w K mg base CX0 1 "row_at" (Ay K):=T.f57.ok λR h=>#[Mr K,jYZ h,(bA (cE (kA R (dQ pV) (λ_ _ _ _=>(fJ (aC (iL (iT pV aS) pV) (aC aS aN)))))))]
theorem jWo(T:Tx K mg):Ok P w K mg base CX0 1 "below" (Nc K):=T.f13.ok λR h=>#[Ut K,jWc h,(bA (cE (vS lQ (cC dZ (iT pV aS) (iT pV aS)) (cC dZ (iT pV aS) (iT pV aS)) (dB _))))]
theorem Rp(T:Tx K mg):Ok P w K mg base CX0 2 "shared" (Ax K):=T.f25.ok λR h=>#[Mp K,jYJ h,(aU (sA R aS) (aU (fA R (dQ pV) (gN R) (aU (sA R (c0 (Dr T) R.r (aC pV (aC pV aN)))) (bA (gE (cV Ed pV aS (dB _)) (bA (cE pV)) eL)))) (bA (cE pV))))]
theorem jWl(T:Tx K mg):Ok P w K mg base CX0 3 "plain" (Mz K):=T.f26.ok λR h=>#[Uo K,jWU h,(aU (sA R (c0 (Rp T) R.r (aC pV aN))) (aU (gE (cV lQ pV aS (dB _)) (bA (cE (mP jH rfl T.n_list nG (aC pV aN)))) eL) (bA (cE (kA R (dQ pV) (λ_ _ _ _=>(cC nK pV pV)))))))]
theorem Ni(T:Tx K mg):Ok P w K mg base CX0 4 "whole" (yH K):=T.f33.ok λR h=>#[Ul K,jWY h,(aU (sA R (c0 (Of T) R.r (aC pV aN))) (bA (cE (fJ (aC (c0 (qQ T) R.r (aC (iT pV aS) (aC (cQ (Sq rfl) rfl T.n_max Mg (aC (c0 (Rp T) R.r (aC (iT pV aS) aN)) (aC aS aN))) aN))) (aC (c0 (jWl T) R.r (aC (iT pV aS) aN)) aN))))))]
theorem Oe(T:Tx K mg):Ok P w K mg base CX0 1 "longest" (vW K):=T.f37.ok λR h=>#[Hc K,jJc h,(bA (cE (cQ (So rfl) rfl T.n_max Mg (aC (kA R (dQ pV) (λ_ _ _ _=>(pe_bm0 PySem.F.plainAttrs_int PySem.F.slot_int_bit_length PySem.F.type_int_bit_length jXY pV))) aN))))]
theorem nL(T:Tx K mg):Ok P w K mg base CX0 1 "column_of" (kH K):=T.f35.ok λR h=>#[zG K,Vt h,(bA (cE (kA R (dQ pV) (λ_ _ _ _=>(iL pV pV)))))]
theorem jZ5(T:Tx K mg):Ok P w K mg base CX0 1 "span" (Kr K):=T.f36.ok λR h=>#[Zi K,rd_span h,(bA (cE (cC jR aS (cQ (Sm rfl) rfl T.n_sum bt_sum (aC (kA R (dQ pV) (λ_ _ _ _=>(cQ yM rfl T.n_abs Mh (aC pV aN)))) aN)))))]
theorem ok_unit(T:Tx K mg):Ok P w K mg base CX0 1 "unit" (Uv K):=T.f34.ok λR h=>#[Zh K,rd_unit h,(bA (cE (kA R (fS rfl T.n_range (aC pV aN)) (λ_ _ _ _=>(Ng (cV Ed pV pV (dB _)) aS aS)))))]
theorem rM(T:Tx K mg):OkM P w K mg base CX0 2 (eE K "Corner") "__init__" (jW K):=T.f43_0.ok λR h=>#[tK K,Pi T.ct h,(aU (yD pV (kA R (fS rfl T.n_range (aC (cC nA (cQ cW rfl T.n_len fX (aC (iL pV aS) aN)) aS) aN)) (λ_ _ _ _=>(c0 (nL T) R.r (aC pV (aC pV aN))))) rfl) (aU (yD pV (cC nX (kA R (dQ (fV pV rfl)) (λ_ _ _ _=>(c0 (jZ5 T) R.r (aC (kP Al pV mD (mC (lZ jJ aS))) aN)))) (kA R (dQ (kP Al pV mD (mC (lZ jJ aS)))) (λ_ _ _ _=>(c0 (jZ5 T) R.r (aC (kS (aC aS aN)) aN))))) rfl) (aU (yD pV (kG R (Ei rfl T.n_enumerate pV) (λ_ _ _ _=>(cC nX (c0 (ok_unit T) R.r (aC (cQ cW rfl T.n_len fX (aC pV aN)) (aC pV aN))) (kS (aC (iL pV (lZ jJ aS)) aN))))) rfl) (bA (yD pV (kA R (fS rfl T.n_range (aC (cC nA (cQ cW rfl T.n_len fX (aC pV aN)) aS) aN)) (λ_ _ _ _=>(cC jR (cQ cW rfl T.n_len fX (aC (fV pV rfl) aN)) pV))) rfl)))))]
theorem Pp(T:Tx K mg):Ok P w K mg base CX0 1 "bits_beyond" (rH K):=T.f38.ok λR h=>#[tF K,Pe h,(bA (cE (pe_maxD rfl rfl T.n_max (aC (jYc (N:=tR) (xs:=["number","long"]) (ys:=[]) (caps:=[]) #[by decide+kernel,rfl,by decide+kernel,by decide+kernel,rfl,by decide+kernel,rfl] R.sc R.nn R.calm (nW rfl T.n_zip (aC pV (aC pV aN))) (λ_ _ _ _=>Gs (n:=2) rfl (iW (pA (i:=0) (by decide+kernel) rfl (by decide+kernel)) (iW (pA (i:=1) (by decide+kernel) rfl (by decide+kernel)) An))) (λ_ _ _ _=>(cV oY pV aS (dB _))) (λ_ _ _ _=>(cC nA (pe_bm0 PySem.F.plainAttrs_int PySem.F.slot_int_bit_length PySem.F.type_int_bit_length jXY pV) pV))) aN) aS)))]
theorem Qi(T:Tx K mg):Ok P w K mg base CX0 1 "stretched" (tL K):=T.f39.ok λR h=>#[wC K,Qf h,(aU (gE (cV lQ pV aS (dB _)) (bA nJ) eL) (bA (cE (Ng (cV Ec pV aS (dB _)) (cC jZ3 pV pV) (cC jZ2 pV (lZ jJ pV))))))]
theorem Vx(T:Tx K mg):Ok P w K mg base CX0 2 "stretched" (wU K):=T.f39.ok λR h=>#[yR K,Vo h,(aU (gE (cV lQ pV aS (dB _)) (bA (cE (lZ jJ (c0 (Qi T) R.r (aC (lZ jJ pV) (aC pV aN)))))) eL) (bA (cE (Ng (cV Ec pV aS (dB _)) (cC jZ3 pV pV) (cC jZ2 pV (lZ jJ pV))))))]
theorem Vy(T:Tx K mg):Ok P w K mg base CX0 3 "shortened" (wV K):=T.f40.ok λR h=>#[yS K,Vp h,(bA (cE (kG R (nW rfl T.n_zip (aC pV (aC pV aN))) (λ_ _ _ _=>(c0 (Vx T) R.r (aC pV (aC (cC nA pV pV) aN)))))))]
theorem jJt(T:Tx K mg):Ok P w K mg base CX0 4 "rounded" (De K):=T.f41.ok λR h=>#[Gy K,jJU h,(aU (sA R (kA R (dQ pV) (λ_ _ _ _=>(c0 (Oe T) R.r (aC (kP Al pV mD (mC (lZ jJ aS))) aN))))) (aU (sA R (kA R (fS rfl T.n_range (aC (cQ cW rfl T.n_len fX (aC (iL pV aS) aN)) aN)) (λ_ _ _ _=>(c0 (Pp T) R.r (aC (c0 (nL T) R.r (aC pV (aC pV aN))) (aC pV aN)))))) (bA (cE (kG R (nW rfl T.n_zip (aC pV (aC pV aN))) (λ_ _ _ _=>(c0 (Vy T) R.r (aC pV (aC (cC nA pV pV) (aC pV aN))))))))))]
theorem Jr(T:Tx K mg):Ok P w K mg base CX0 1 "products" (sH K):=T.f28.ok λR h=>#[Da K,Yh h,(bA (cE (cQ (Sm rfl) rfl T.n_sum bt_sum (aC (kG R (nW rfl T.n_zip (aC pV (aC pV aN))) (λ_ _ _ _=>(cC dZ pV pV))) aN))))]
theorem mO(T:Tx K mg):OkM P w K mg base CX0 2 (eE K "Corner") "entering" (iX K):=T.f43_3.ok λR h=>#[nR K,Dx T.ct h,(aU (sA R (iL (fV pV rfl) (lZ jJ aS))) (aU (sA R (cC nX (kA R (dQ (fV pV rfl)) (λ_ _ _ _=>(c0 (Jr T) R.r (aC pV (aC pV aN))))) (kP Al pV mD (mC (cQ cW rfl T.n_len fX (aC (fV pV rfl) aN)))))) (aU (sA R qP) (aU (fA R (Ei rfl T.n_enumerate pV) (gN2 R) (bA (gE (PW.pt (Ub (cV lQ pV aS (dB _)) (Ky (PW.pt (mV (cV Gu pV qP (dB _)) (pQ (cV lQ (cC dZ pV (iL (fV pV rfl) pV)) (cC dZ (iL pV pV) (iL (fV pV rfl) pV)) (dB _)))))))) (bA (sA R pV)) eL))) (bA (cE pV))))))]
theorem kY(T:Tx K mg):OkM P w K mg base CX0 2 (eE K "Corner") "numbers" (iI K):=T.f43_2.ok λR h=>#[oN K,Go T.ct h,(aU (gE (cV lQ pV (cQ cW rfl T.n_len fX (aC (fV pV rfl) aN)) (dB _)) (bA (cE (kA R (dQ (fV pV rfl)) (λ_ _ _ _=>(c0 (Jr T) R.r (aC (iL (fV pV rfl) pV) (aC pV aN))))))) eL) (bA (cE (c0 (nL T) R.r (aC (fV pV rfl) (aC (cC nA pV (cQ cW rfl T.n_len fX (aC (fV pV rfl) aN))) aN))))))]
theorem Yr(T:Tx K mg):Ok P w K mg base CX0 1 "is_ahead" (zO K):=T.f29.ok λR h=>#[Dc K,Yj h,(aU (fA R (dQ pV) (gN R) (aU (sA R (cC dZ (iL pV pV) (iL pV pV))) (aU (sA R (cC dZ (iL pV pV) (iL pV pV))) (bA (gE (cV oY pV pV (dB _)) (bA (cE (vS lQ pV pV (dB _)))) eL))))) (bA (cE qN)))]
theorem jJy(T:Tx K mg):Ok P w K mg base CX0 2 "leaving" (Dk K):=T.f30.ok λR h=>#[He K,jJe h,(aU (sA R qP) (aU (fA R (Ei rfl T.n_enumerate pV) (gN2 R) (bA (gE (PW.pt (Ub (cV Ec (iL pV pV) aS (dB _)) (Ky (PW.pt (mV (cV Gu pV qP (dB _)) (pQ (mZ (c0 (Yr T) R.r (aC pV (aC (iL pV pV) (aC pV (aC pV aN)))))))))))) (bA (sA R pV)) eL))) (bA (cE pV))))]
theorem pP(T:Tx K mg):OkM P w K mg base CX0 3 (eE K "Corner") "leaving_by" (jI K):=T.f43_4.ok λR h=>#[lW K,Ah T.ct h,(aU (sG R (nW rfl T.n_zip (aC (fV pV rfl) (aC pV aN))) (λ_ _ _ _=>(cC nX pV (kS (aC pV aN))))) (aU (sA R (cQ cW rfl T.n_len fX (aC (fV pV rfl) aN))) (bA (cE (c0 (jJy T) R.r (aC pV (aC (cC jR pV aS) (aC (cC nX (kS (aC (cC jR pV aS) aN)) (jZ0 rfl T.n_list rfl T.n_range rfl pV)) aN))))))))]
theorem lP(T:Tx K mg):OkM P w K mg base CX0 1 (eE K "Corner") "bottom" (iS K):=T.f43_1.ok λR h=>#[pU K,Ij T.ct h,(bA (cE (iL (iL (fV pV rfl) (lZ jJ aS)) (lZ jJ aS))))]
theorem sN(T:Tx K mg):OkM P w K mg base CX0 2 (eE K "Corner") "step_in" (kX K):=T.f43_5.ok λR h=>#[oM K,Gn T.ct h,(aU (sA R (m0 pV T.ct.cl (lP T) R.r)) (aU (sA R (iL (fV pV rfl) pV)) (aU (sA R (kS aN)) (aU (fA R (nW rfl T.n_zip (aC (fV pV rfl) (aC pV aN))) (gN2 R) (bA (sE (jZi PySem.F.plainAttrs_list PySem.F.slot_list_append PySem.F.type_list_append jYk pV (aC (kG R (nW rfl T.n_zip (aC pV (aC pV aN))) (λ_ _ _ _=>(cC nK (cC nA (cC dZ pV (iL pV pV)) (cC dZ pV pV)) pV))) aN))))) (aU (Cy pV (Lx pV pV yJ)) (aU (yD pV pV rfl) (bA (Cy pV (Lx (fV pV rfl) pV yJ)))))))))]
theorem Gh(T:Tx K mg):Ok P w K mg base CX0 4 "unstopped" (qF K):=T.f44.ok λR h=>#[yQ K,Vn h,(aU (sA R (m0 pV T.ct.cl (mO T) R.r)) (aU (wA (cV jZ4 pV qP (dB _)) (aU (sA R (m1 pV T.ct.cl (kY T) R.r (aC pV aN))) (aU (sA R (m1 pV T.ct.cl (pP T) R.r (aC pV aN))) (aU (gE (cV Gu pV qP (dB _)) (bA (cE pV)) eL) (aU (sE (m1 pV T.ct.cl (sN T) R.r (aC pV (aC pV (aC pV aN))))) (bA (sA R (m0 pV T.ct.cl (mO T) R.r)))))))) (bA (cE qP))))]
theorem xE(T:Tx K mg):Ok P w K mg base CX0 1 "turned_round" (mF K):=T.f42.ok λR h=>#[qY K,Kk h,(bA (cE (kA R (dQ pV) (λ_ _ _ _=>(lZ jJ pV)))))]
theorem Dz(T:Tx K mg):OkM P w K mg base CX0 3 (eE K "Corner") "comes_to" (mN K):=T.f43_6.ok λR h=>#[nS K,Dy T.ct h,(aU (sA R (cQ cW rfl T.n_len fX (aC (fV pV rfl) aN))) (aU (sKI R (fS rfl T.n_range (aC (cQ cW rfl T.n_len fX (aC pV aN)) aN)) (λ_ _ _ _=>(cV Vw (cC jR pV pV) pV (by with_unfolding_all rfl))) (λ_ _ _ _=>pV)) (aU (fA R (dQ (kI R (dQ pV) (λ_ _ _ _=>(cV lQ pV pV (dB _))) (λ_ _ _ _=>pV))) (gN R) (aU (sA R (m1 pV T.ct.cl (kY T) R.r (aC pV aN))) (aU (sKI R (dQ pV) (λ_ _ _ _=>(cV oY (iL pV pV) aS (dB _))) (λ_ _ _ _=>pV)) (aU (gE (qO (jWe pV (λ_=>rfl))) (bA (cE qN)) eL) (aU (sE (m1 pV T.ct.cl (sN T) R.r (aC pV (aC pV (aC (iL pV aS) aN))))) (bA (sE (jZi PySem.F.plainAttrs_list PySem.F.slot_list_remove PySem.F.type_list_remove jYj pV (aC (iL pV aS) aN))))))))) (aU (gE (cV lQ (m0 pV T.ct.cl (lP T) R.r) aS (dB _)) (bA (yD pV (kA R (dQ (fV pV rfl)) (λ_ _ _ _=>(c0 (xE T) R.r (aC pV aN)))) rfl)) eL) (bA (cE (vS op_ge (cQ (Ie rfl) rfl T.n_min Me (aC (c0 (nL T) R.r (aC (kP Al (fV pV rfl) mD (mC (lZ jJ aS))) (aC (lZ jJ aS) aN))) aN)) aS (dB _))))))))]
theorem Bo(T:Tx K mg):OkM P w K mg base CX0 4 (eE K "Corner") "ends_with" (lX K):=T.f43_7.ok λR h=>#[kJ K,Bm T.ct h,(aU (gE (cV Gu pV qP (dB _)) (bA (cE (vS Gu (m0 pV T.ct.cl (mO T) R.r) qP (dB _)))) eL) (aU (sA R (m1 pV T.ct.cl (kY T) R.r (aC pV aN))) (bA (cE (Ue (vS lQ (iL pV (lZ jJ aS)) aS (dB _)) (Ud (vS Gu (m1 pV T.ct.cl (pP T) R.r (aC pV aN)) qP (dB _))))))))]
theorem Pl(T:Tx K mg):Ok P w K mg base CX0 5 "last_corner" (rD K):=T.f45.ok λR h=>#[sU K,Oz T.ct h,(aU (sA R (jWi rfl T.g_BITS)) (aU (wA (cV lQ pV (cQ (So rfl) rfl T.n_max Mg (aC (kA R (dQ pV) (λ_ _ _ _=>(c0 (Oe T) R.r (aC pV aN)))) aN)) (dB _)) (aU (sA R (mk0 T.mk_Corner (rM T) R.r T.c_Corner (aC (c0 (jJt T) R.r (aC pV (aC pV aN))) aN))) (aU (sA R (c0 (Gh T) R.r (aC pV aN))) (aU (sA R (mk0 T.mk_Corner (rM T) R.r T.c_Corner (aC pV aN))) (aU (gE (PW.pt (Ub (mZ (m1 pV T.ct.cl (Dz T) R.r (aC (fV pV rfl) aN))) (Ky (mZ (m1 pV T.ct.cl (Bo T) R.r (aC pV aN)))))) (bA (cE (fJ (aC pV (aC pV aN))))) eL) (bA (sA R (cC dZ aS pV)))))))) (aU (sA R (mk0 T.mk_Corner (rM T) R.r T.c_Corner (aC pV aN))) (aU (sA R (c0 (Gh T) R.r (aC pV aN))) (bA (cE (fJ (aC pV (aC pV aN)))))))))]
theorem jZ7(T:Tx K mg):Ok P w K mg base CX0 3 "over" (Ku K):=T.f12.ok λR h=>#[Zk K,rd_over h,(bA (cE (c0 (qQ T) R.r (aC (cC dZ (iT pV aS) (iT pV aS)) (aC (cC dZ (iT pV aS) (iT pV aS)) aN)))))]
theorem vD(T:Tx K mg):OkM P w K mg base CX0 3 (eE K "Corner") "spread" (lO K):=T.f43_8.ok λR h=>#[pT K,Ii T.ct h,(aU (sK R (dQ (fV pV rfl)) (λ_ _ _ _=>(fJ (aC aS (aC aS aN))))) (aU (fA R (nW rfl T.n_zip (aC pV (aC (fV pV rfl) aN))) (gN2 R) (bA (gE (cV lQ pV (cQ cW rfl T.n_len fX (aC pV aN)) (dB _)) (bA (Cy (c0 (qQ T) R.r (aC pV (aC (m0 pV T.ct.cl (lP T) R.r) aN))) (Lx pV pV yJ))) eL))) (bA (cE pV))))]
theorem Wb(T:Tx K mg):OkM P w K mg base CX0 4 (eE K "Corner") "xs" (wY K):=T.f43_9.ok λR h=>#[zM K,Vv T.ct h,(bA (cE (m1 pV T.ct.cl (vD T) R.r (aC (c0 (nL T) R.r (aC (fV pV rfl) (aC (lZ jJ aS) aN))) aN))))]
theorem Pt(T:Tx K mg):OkM P w K mg base CX0 4 (eE K "Corner") "ways" (rL K):=T.f43_11.ok λR h=>#[tJ K,Ph T.ct h,(aU (sA R (m1 pV T.ct.cl (vD T) R.r (aC (kA R (dQ (m1 pV T.ct.cl (kY T) R.r (aC pV aN))) (λ_ _ _ _=>(lZ jJ pV))) aN))) (aU (gE (cV lQ pV (cQ cW rfl T.n_len fX (aC pV aN)) (dB _)) (bA (Cy (fJ (aC aS (aC aS aN))) (Lx pV pV yJ))) eL) (bA (cE pV))))]
theorem Wa(T:Tx K mg):OkM P w K mg base CX0 3 (eE K "Corner") "ys" (wX K):=T.f43_10.ok λR h=>#[zL K,Vu T.ct h,(bA (cE (kA R (dQ (kP Al (iL (fV pV rfl) (lZ jJ aS)) mD (mC (cQ cW rfl T.n_len fX (aC (fV pV rfl) aN))))) (λ_ _ _ _=>(c0 (qQ T) R.r (aC pV (aC (m0 pV T.ct.cl (lP T) R.r) aN)))))))]
theorem ok_best(T:Tx K mg):Ok P w K mg base CX0 6 "best" (Uw K):=T.f46.ok λR h=>#[Zl K,rd_best h,(aU (fA R (dQ pV) (gN R) (bA (gE (mZ (c0 (jWo T) R.r (aC pV (aC (fJ (aC aS (aC aS aN))) aN)))) (bA nJ) eL))) (aU (sK R (dQ pV) (λ_ _ _ _=>(c0 (Ni T) R.r (aC pV aN)))) (aU (sA R (c0 (Ni T) R.r (aC (kG R (nW rfl T.n_zip (aC pV (aC pV aN))) (λ_ _ _ _=>(c0 (Ex T) R.r (aC pV (aC (iT pV aS) aN))))) aN))) (aU (sA R (c0 (Ni T) R.r (aC pV aN))) (aU (sG R (nW rfl T.n_zip (aC pV (aC (iT pV aS) aN))) (λ_ _ _ _=>(cC nX (iT pV aS) (kS (aC pV aN))))) (aU (sA R (c0 (Pl T) R.r (aC (cC nX pV (kS (aC (cC nX (c0 (xE T) R.r (aC (iT pV aS) aN)) (kS (aC aS aN))) aN))) aN))) (aU (sK R (dQ (m0 (iT pV aS) T.ct.cl (Wb T) R.r)) (λ_ _ _ _=>(c0 (jZ7 T) R.r (aC pV (aC (iT pV aS) aN))))) (aU (gE (cV jZ4 (iT pV aS) qP (dB _)) (bA (cE (fJ (aC pe_str (aC pV (aC (m1 (iT pV aS) T.ct.cl (Pt T) R.r (aC (iT pV aS) aN)) aN)))))) eL) (bA (cE (fJ (aC pe_str (aC pV (aC (kG R (nW rfl T.n_zip (aC (m0 (iT pV aS) T.ct.cl (Wa T) R.r) (aC pV aN))) (λ_ _ _ _=>(c0 (jZ7 T) R.r (aC (c0 (Ex T) R.r (aC pV (aC (iT pV aS) aN))) (aC (iT pV aS) aN))))) aN))))))))))))))]
theorem jYh(T:Tx K mg):Ok P w K mg base CX0 7 "advice" (Hu K):=T.f58.ok λR h=>#[Er K,jYQ h,(aU (sA R (m0 pV T.tt.cl (Pr T) R.r)) (aU (sA R (c0 (Ys T) R.r (aC pV aN))) (aU (sK R (dQ pV) (λ_ _ _ _=>(c0 (jJ2 T) R.r (aC pV (aC pV (aC pV aN)))))) (aU (sA R (c0 (jJx T) R.r (aC (kS (aC pV aN)) aN))) (aU (sA R (kG R (nW rfl T.n_zip (aC pV (aC (c0 (jYe T) R.r (aC pV (aC pV aN))) aN))) (λ_ _ _ _=>(c0 (Qj T) R.r (aC pV (aC pV (aC pV (aC pV aN)))))))) (aU (sK R (fS rfl T.n_range (aC (cC jR (cQ cW rfl T.n_len fX (aC pV aN)) aS) aN)) (λ_ _ _ _=>(c0 (Rq T) R.r (aC pV (aC pV aN))))) (aU (sA R (c0 (ok_best T) R.r (aC pV (aC (cC nX (kA R (dQ pV) (λ_ _ _ _=>(fJ (aC aS (aC aS aN))))) (kS (aC (fJ (aC aS (aC aS aN))) aN))) (aC (c0 (Rq T) R.r (aC pV (aC (lZ jJ aS) aN))) aN))))) (aU (sA R Ev) (aU (fA R (pi_zip3 rfl T.n_zip (aC pV (aC pV (aC (iT pV aS) aN)))) (Gs (n:=3) rfl (iW (gN R) (iW (gN R) (iW (gN R) An)))) (bA (Kz (mW R.r) pV pV (c0 (Ex T) R.r (aC pV (aC (fJ (aC (iT pV aS) (aC aS aN))) aN))) rfl))) (bA (cE (fJ (aC pV (aC (pe_dzip R.r.units rfl T.n_dict rfl T.n_zip rfl (aC pV (aC (iT pV aS) aN))) (aC (c0 (Xc T) R.r (aC (iL (iT pV aS) (lZ jJ aS)) (aC pV aN))) aN)))))))))))))))]
theorem Pn(T:Tx K mg):Ok P w K mg base CX0 1 "check_sizes" (rF K):=T.f18.ok λR h=>#[sY K,Pc h,(aU (gE (PW.pt (mV (cV lQ (cQ cW rfl T.n_len fX (aC pV aN)) aS (dB _)) (pQ (cV Ec (cQ cW rfl T.n_len fX (aC pV aN)) aS (dB _))))) (bA nJ) eL) (bA (fA R (dQ pV) (gN R) (bA (gE (PW.pt (mV (cV lQ pV aS (dB _)) (pQ (cV Ec pV aS (dB _))))) (bA nJ) eL)))))]
theorem Po(T:Tx K mg):Ok P w K mg base CX0 1 "check_cells" (rG K):=T.f19.ok λR h=>#[sZ K,Pd h,(aU (fA R (dQ pV) (gN R) (aU (gE (pt_cmp (Rn (mW R.r) pV pV)) (bA nJ) eL) (bA (gE (cV oY (cQ cW rfl T.n_len fX (aC (lL (mW R.r) pV pV (λ_ _=>rfl)) aN)) pV (dB _)) (bA nJ) eL)))) (bA (gE (cV oY (cQ Ig rfl T.n_len fX (aC pV aN)) (cQ cW rfl T.n_len fX (aC pV aN)) (dB _)) (bA nJ) eL)))]
theorem Qk(T:Tx K mg):OkM P w K mg base CX0 3 (eE K "Table") "__init__" (tO K):=T.f20_0.ok λR h=>#[wT K,Qh T.tt h,(aU (sE (c0 (Pn T) R.r (aC pV aN))) (aU (sA R (c0 (Js T) R.r (aC pV aN))) (aU (sE (c0 (Po T) R.r (aC pV (aC pV (aC (cQ cW rfl T.n_len fX (aC pV aN)) aN))))) (aU (yD pV (mP jH rfl T.n_list nG (aC pV aN)) rfl) (aU (yD pV Ev rfl) (bA (fA R (dQ pV) (gN R) (bA (Kz (mW R.r) (fV pV rfl) pV (mP jH rfl T.n_list nG (aC (lL (mW R.r) pV pV (λ_ _=>rfl)) aN)) rfl)))))))))]
theorem Pm(T:Tx K mg):Ok P w K mg base CX0 1 "_law_backwards" (rE K):=T.f75.ok λR h=>#[sW K,Pa h,(aU (sA R Ev) (aU (fA R (pi_rev rfl T.n_reversed (pe_keys rfl T.n_list rfl pV)) (gN R) (bA (Kz (mW R.r) pV pV (mP jH rfl T.n_list nG (aC (lL (mW R.r) pV pV (λ_ _=>rfl)) aN)) rfl))) (bA (cE pV))))]
theorem jYf(T:Tx K mg):Ok P w K mg base CX0 1 "_law_asks" (Hs K):=T.f70.ok λR h=>#[Mv K,jYV h,(aU (sA R (kS aN)) (aU (fA R (fS rfl T.n_range (aC (cQ cW rfl T.n_len fX (aC pV aN)) aN)) (gN R) (bA (fA R (fS rfl T.n_range (aC (iL pV pV) aN)) (gN R) (bA (sA R (cC nX pV (kI R (fS rfl T.n_range (aC (iL pV pV) aN)) (λ_ _ _ _=>(cV oY pV pV (dB _))) (λ_ _ _ _=>(fJ (aC pV (aC pV (aC pV aN)))))))))))) (bA (cE pV))))]
theorem vY(T:Tx K mg):Ok P w K mg base CX0 1 "_law_whole" (lB K):=T.f60.ok λR h=>#[Av K,jJh h,(bA (cE (Ue (cQ Nw rfl T.n_isinstance kR (aC pV (aC (Ao rfl T.n_int bt_int rfl) aN))) (Ud (pe_not (cQ Nw rfl T.n_isinstance kR (aC pV (aC (Ao rfl T.n_bool bt_bool rfl) aN))))))))]
theorem Rs(T:Tx K mg):Ok P w K mg base CX0 2 "_law_list" (Ba K):=T.f68.ok λR h=>#[Mu K,jYW h,(aU (gE (PW.pt (mV (qO (mZ (cQ jVU rfl T.n_isinstance kR (aC pV (aC (Ao rfl T.n_dict jXn rfl) aN))))) (pQ (cV oY (cQ Ig rfl T.n_len fX (aC pV aN)) (cQ jY2 rfl T.n_len fX (aC pV aN)) (dB _))))) (bA (cE qN)) eL) (aU (Lu (fA R (Lw pV) (gN R) (aU (gE (pt_cmp (Rn (mW R.r) pV pV)) (bA (cE qN)) eL) (aU (sA R (lL (mW R.r) pV pV (λ_ _=>rfl))) (aU (gE (PW.pt (mV (qO (mZ (cQ jVV rfl T.n_isinstance kR (aC pV (aC (Ao rfl T.n_tuple Nx rfl) aN))))) (mV (cV oY (cQ cW rfl T.n_len fX (aC pV aN)) aS (dB _)) (mV (qO (mZ (c0 (vY T) R.r (aC (iT pV aS) aN)))) (pQ (qO (mZ (c0 (vY T) R.r (aC (iT pV aS) aN))))))))) (bA (cE qN)) eL) (bA (gE (PW.pt (mV (cV lQ (iT pV aS) aS (dB _)) (mV (cV lQ (iT pV aS) aS (dB _)) (pQ (cV oY (c0 (wZ T) R.r (aC (iT pV aS) (aC (iT pV aS) aN))) aS (dB _)))))) (bA (cE qN)) eL))))))) (bA (cE qN))))]
theorem qV(T:Tx K mg):Ok P w K mg base CX0 1 "_law_added" (lC K):=T.f69.ok λR h=>#[Hi K,jJl h,(aU (sA R aS) (aU (sA R aS) (aU (fA R (dQ pV) (gN2 R) (aU (sA R (cC jR (cC dZ (cC dZ pV (iT pV aS)) (iT pV aS)) (cC dZ (cC dZ (iT pV aS) (iT pV aS)) pV))) (bA (sA R (cC dZ (cC dZ pV (iT pV aS)) (iT pV aS)))))) (bA (cE (fJ (aC pV (aC pV aN))))))))]
theorem jWn(T:Tx K mg):Ok P w K mg base CX0 1 "_law_put" (Nb K):=T.f66.ok λR h=>#[Ur K,jWb h,(bA (cE (cC vT (cC vT (kP Ak pV mD (mC pV)) (fJ (aC pV aN))) (kP Ak pV (mC (cC jR pV aS)) mD))))]
theorem Rr(T:Tx K mg):Ok P w K mg base CX0 2 "_law_lost" (Az K):=T.f71.ok λR h=>#[Mt K,jYY h,(aU (sA R (iL (lL (mW R.r) pV pV (λ_ _=>rfl)) (iT pV aS))) (aU (sA R (iL (lL (mW R.r) pV (c0 (jWn T) R.r (aC pV (aC (iT pV aS) (aC (iT pV aS) aN)))) (λ_ _=>rfl)) (iT pV aS))) (bA (cE (fJ (aC (cC nA (cC dZ (iT pV aS) (iT pV aS)) (cC dZ (iT pV aS) (iT pV aS))) (aC (cC dZ (iT pV aS) (iT pV aS)) aN)))))))]
theorem Yq(T:Tx K mg):Ok P w K mg base CX0 3 "_law_gladly" (zN K):=T.f72.ok λR h=>#[Db K,Yi h,(aU (fA R (dQ pV) (gN R) (aU (Lu (sKI R (Lw pV) (λ_ _ _ _=>(cV Ed (iT pV (iT pV aS)) (iT pV aS) (dB _))) (λ_ _ _ _=>(fJ (aC (lL (mW R.r) pV pV (λ_ _=>rfl)) (aC (c0 (Rr T) R.r (aC pV (aC pV (aC pV aN)))) aN)))))) (bA (gE (cV lQ (iT (c0 (qV T) R.r (aC pV aN)) aS) aS (dB _)) (bA (cE qN)) eL)))) (bA (cE qN)))]
theorem Ik(T:Tx K mg):Ok P w K mg base CX0 3 "_law_none_better" (oO K):=T.f73.ok λR h=>#[pS K,Ih h,(aU (Lu (fA R (Lw pV) (gN R) (aU (sA R (jZz rfl T.n_list rfl T.n_zip rfl (aC pV (aC (lL (mW R.r) pV pV (λ_ _=>rfl)) aN)))) (aU (sA R (cC nX pV (kI R (dQ pV) (λ_ _ _ _=>(cV Ed (iT pV (iT pV aS)) (iT pV aS) (dB _))) (λ_ _ _ _=>(fJ (aC (lL (mW R.r) pV pV (λ_ _=>rfl)) (aC (c0 (Rr T) R.r (aC pV (aC pV (aC pV aN)))) aN))))))) (aU (sA R (c0 (qV T) R.r (aC pV aN))) (bA (gE (cV Ec (cC dZ (iT pV aS) (iT pV aS)) (cC dZ (iT pV aS) (iT pV aS)) (dB _)) (bA (cE qN)) eL))))))) (bA (cE qN)))]
theorem jJz(T:Tx K mg):Ok P w K mg base CX0 4 "_law_right" (Dl K):=T.f74.ok λR h=>#[Hf K,jJi h,(aU (sA R (c0 (jYf T) R.r (aC pV aN))) (aU (gE (PW.pt (mV (qO (mZ (cQ Sr rfl T.n_isinstance kR (aC pV (aC (Ao rfl T.n_tuple Nx rfl) aN))))) (pQ (cV oY (cQ cW rfl T.n_len fX (aC pV aN)) aS (dB _))))) (bA (cE qN)) eL) (aU (Cy pV (Gs (n:=3) rfl (iW (gN R) (iW (gN R) (iW (gN R) An))))) (aU (gE (PW.pt (mV (qO (mZ (c0 (Rs T) R.r (aC pV (aC pV aN))))) (mV (qO (mZ (c0 (Rs T) R.r (aC pV (aC pV aN))))) (mV (qO (mZ (cQ Sr rfl T.n_isinstance kR (aC pV (aC (Ao rfl T.n_tuple Nx rfl) aN))))) (pQ (cV oY (cQ cW rfl T.n_len fX (aC pV aN)) aS (dB _))))))) (bA (cE qN)) eL) (aU (gE (PW.pt (mV (qO (mZ (c0 (vY T) R.r (aC (iT pV aS) aN)))) (mV (qO (mZ (c0 (vY T) R.r (aC (iT pV aS) aN)))) (mV (cV lQ (iT pV aS) aS (dB _)) (pQ (cV oY (c0 (wZ T) R.r (aC (iT pV aS) (aC (iT pV aS) aN))) aS (dB _))))))) (bA (cE qN)) eL) (aU (Lu (sA R (c0 (qV T) R.r (aC (kA R (Lw pV) (λ_ _ _ _=>(fJ (aC (lL (mW R.r) pV pV (λ_ _=>rfl)) (aC (fJ (aC aS (aC aS aN))) aN))))) aN)))) (aU (Lu (sA R (c0 (qV T) R.r (aC (kA R (Lw pV) (λ_ _ _ _=>(fJ (aC (lL (mW R.r) pV pV (λ_ _=>rfl)) (aC (c0 (qV T) R.r (aC (jZz rfl T.n_list rfl T.n_zip rfl (aC pV (aC (lL (mW R.r) pV pV (λ_ _=>rfl)) aN))) aN)) aN))))) aN)))) (aU (gE (PW.pt (mV (cV oY (iT pV aS) (iT pV aS) (dB _)) (pQ (cV oY (cC dZ (iT pV aS) (iT pV aS)) (cC dZ (iT pV aS) (iT pV aS)) (dB _))))) (bA (cE qN)) eL) (bA (cE (Ue (c0 (Yq T) R.r (aC pV (aC pV (aC pV aN)))) (Ud (c0 (Ik T) R.r (aC pV (aC pV (aC pV (aC pV (aC pV aN))))))))))))))))))]
theorem law_fn(T:Tx K mg){f:Addr}{fd:FuncData}(F:Bk K "law" "law" (top 76) .none f fd):Bl P w K mg base CX0 8 f fd ["_law_script"] (Ls K):=F.fn λR h=>#[t_law K,rd_law h,(aU (Cy (c0 (jJ1 T) R.r (aC pV aN)) (Gs (n:=3) rfl (iW (gN R) (iW (gN R) (iW (gN R) An))))) (aU (sA R (mP jH rfl T.n_list nG (aC pV aN))) (aU (sA R (c0 (jYh T) R.r (aC (mk0 T.mk_Table (Qk T) R.r T.c_Table (aC (mP jH rfl T.n_list nG (aC pV aN)) (aC (c0 (Pm T) R.r (aC pV aN)) aN))) (aC pV aN)))) (bA (cE (Ue (c0 (jJz T) R.r (aC pV (aC pV (aC pV (aC pV aN))))) (Ud (vS (op_eqD 1 (iB (fT (by decide) _) R.r.units)) pV pV (dB _)))))))))]
end
theorem CorK_mk(y:W.nsIn K mainGlobals "Corner"=some (some (.ref C)))(pg:PySem.W.plainGet K C Str.empty=true)(hd:PySem.W.hasDictIn K C=true)(po:PySem.W.plainOver K C=true)(sa:W.findIn K (.ref C) "__setattr__"=some (some (.builtin "object.__setattr__")))(b:W.findIn K (.ref C) "begun"=some none)(c:W.findIn K (.ref C) "spans"=some none)(d:W.findIn K (.ref C) "kept"=some none)(a:W.findIn K (.ref C) "inside"=some none):xP K:=
 #[by rw[nE y];exact#[pg,hd,po,sa],by rw[nE y];exact b,by rw[nE y];exact c,by rw[nE y];exact d,by rw[nE y];exact a]
theorem TabK_mk(y:W.nsIn K mainGlobals "Table"=some (some (.ref C)))(pg:PySem.W.plainGet K C Str.empty=true)(hd:PySem.W.hasDictIn K C=true)(po:PySem.W.plainOver K C=true)(sa:W.findIn K (.ref C) "__setattr__"=some (some (.builtin "object.__setattr__")))(b:W.findIn K (.ref C) "many"=some none)(a:W.findIn K (.ref C) "cells"=some none):TabK K:=
 #[by rw[nE y];exact#[pg,hd,po,sa],by rw[nE y];exact b,by rw[nE y];exact a]
theorem fin{l:PySem.W.OpenLaw}{w:World}{mg:Str->Option Value}{y:Addr}(b:mg "law"=some (.ref y))(T:Tx K mg)(Z:∃f fd,Bk K "law" "law" (top 76) .none f fd/\mg "law"=some (.ref f)):
  ∃fd:FuncData,(∀(s:Shared)(v:Value),BindsTo s fd #[[v],[]] [("_law_script",v)])/\∀base:Heap,K.In base->base.Ns mainGlobals mg->Bl l.prog w K mg base CX0 8 y fd ["_law_script"] (Ls K):=by
 obtain⟨f,fd,F,hf⟩:=Z
 rw[b]at hf
 cases hf
 have c:=F
 obtain⟨X,d,kV,i,z,C,a,ct,M,rfl,e,p⟩:=F.ex
 exact#[_,λs v=>.of_eq rfl,λbase _ _=>law_fn T c]
theorem walk{l:PySem.W.OpenLaw}{q:Program}{j:List Str}{v:(Str->Option Value)->Heap->Prop}{X:World->Heap->Prop}{d:DefRec}{K:Params->aO}(R:l.most=some 63)(I:d.params.defaults=[])
  (r:∀(w:World)(h:Heap),X w h->(K w.params).In h)
  (F:∀(w:World)(mg:Str->Option Value)(y:Addr)(h:Heap),(K w.params).In h->h.Ns mainGlobals mg->mg d.name=some (.ref y)->
   ∃fd:FuncData,(∀(s:Shared)(u:Value),BindsTo s fd #[[u],[]] [("_law_script",u)])/\∀base:Heap,(K w.params).In base->base.Ns mainGlobals mg->Bl l.prog w (K w.params) mg base CX0 8 y fd ["_law_script"] (Ls (K w.params))):
  PySem.W.WalkO q j v X l.row.toRowW d [] (λf m=>PySem.call f m):=
 L2.walk_of (n:=63) (k:=8) (x:="_law_script") (CX:=λ_=>CX0) (sp:=λw=>Ls (K w.params)) R (by decide) I #[rfl,by decide,by decide] r F (λ_ _ a ns Y _ P=>#[a,ns,rfl,P,Y,λ_=>rfl]) λ_ _ _ _ _ z=>z
end My
end
set_option Elab.async true
namespace PySem.Challenge.cw_mixplay_k53_whole_advice_of_three_holds
def tw2173955715489121885:=0
def tw11250600907815939595:=0
def tw17245355406162092878:=0
def tw17837150808690516544:=0
def tw8294524779910346534:=0
def tw6084968591177170517:=0
def tw8456503254750356589:=0
def tw52286149407768803:=0
def tw16473254661820873029:=0
def tw16025618067468612562:=0
def tw11202798517178951457:=0
def tw6594585058992940238:=0
def tw13945268025727197177:=0
def tw2041542741119313614:=0
def tw6484014160392955430:=0
def tw6792728836018891603:=0
def tw1248325449409138828:=0
def tw11062997989490796452:=0
def tw2427971075409758465:=0
def tw8963323549669125466:=0
def tw1944669727242734888:=0
def tw704878472488276344:=0
def tw7588878709403815264:=0
def tw9503024534545398347:=0
def tw14891661660373116376:=0
def tw847502366115890324:=0
def tw4716593961821364152:=0
def tw11745121479747402807:=0
def tw12870727973446660985:=0
def tw11268326582891078593:=0
def tw15187658339857525536:=0
def tw9862770117012031579:=0
def tw16241257095821525439:=0
def tw2297210879453163218:=0
def tw13871469609568809727:=0
def tw13438983542493159176:=0
def tw11717930842863014125:=0
def tw14990853213990144702:=0
def tw6279956605229315560:=0
def tw13072679855745213644:=0
def tw1424279159411023835:=0
def tw17605105661887749249:=0
def tw681296492512879141:=0
def tw13537171329391131799:=0
def tw14936861754906272482:=0
def tw6540781789720718475:=0
def tw10124759780936252975:=0
def tw15358546669534127885:=0
def tw14237828583986527477:=0
def tw10841699314379935458:=0
def tw5563900179176732624:=0
def tw8644624344172617107:=0
def tw15213825953231718180:=0
def tw7137721158006753630:=0
def tw8947518951653524237:=0
def tw3683497275850603890:=0
def tw3968350769591087555:=0
def tw2794228193653410941:=0
def tw5268301022592890864:=0
def tw367221004878044101:=0
def tw3916219062417986637:=0
def tw6755877067398622517:=0
def tw4983632054528332683:=0
def tw423531857373862219:=0
def tw1315249752756056095:=0
def tw1704136549677113072:=0
def tw15449158663934457866:=0
def tw12003820537100815506:=0
def tw13417961610595255556:=0
def tw16499014315037847908:=0
def tw4548591695502770917:=0
def tw7895606538507944149:=0
def tw3371680450262486622:=0
def tw7736455420290690902:=0
def tw6165387637382508035:=0
def tw7772010765763392287:=0
def tw1980713150436949087:=0
def tw13136512988629985948:=0
def tw11491919979002250748:=0
def tw688672477904631457:=0
def tw18076296896271443353:=0
def tw2749493672155113214:=0
def tw12958908203355222104:=0
def tw3823991817728245556:=0
def tw10227538415269064244:=0
def tw7987128963760025178:=0
def tw4171647923878548754:=0
def tw16465311359488550158:=0
def tw16353871828461911380:=0
def tw8016612447761078539:=0
def tw8729873753249484761:=0
def tw7772316184817983524:=0
def tw3833790384710202251:=0
def tw4898647722533163380:=0
def tw17153706953110144160:=0
def tw15207108250131595444:=0
def tw11400554959103154:=0
def tw12272483532286642305:=0
def tw16463649099877542044:=0
def tw5700850903182803795:=0
def tw14222689511192771970:=0
def tw5846007917166411672:=0
def tw3546289163231707076:=0
def tw14784952538727375512:=0
def tw15959232617391692416:=0
def tw4074051535268369888:=0
def tw15527826544979189290:=0
def tw4079363398471708429:=0
def tw11925913620871168436:=0
def tw8578818781654554522:=0
def tw3686860470578006267:=0
def tw15012540119078245468:=0
def tw10595320856562785729:=0
def tw9115753400457690895:=0
def tw5164860441357892613:=0
def tw4913667746086789726:=0
def tw7771504938366711997:=0
def tw10151536248551611827:=0
def tw16098468627024837386:=0
def tw14881887904516419496:=0
def tw11913196461241580232:=0
def tw10399168588722465864:=0
def tw11994839521401606858:=0
def tw11229975684090387692:=0
def tw66846387397348715:=0
def tw2925539042618738673:=0
def tw9847336999736833795:=0
def tw11255823709772426957:=0
def tw2641512842407507603:=0
def tw360329643880581551:=0
def tw5129313087333495924:=0
def tw17669954135252897879:=0
def tw1742740165169349610:=0
def tw14436794571688483567:=0
def tw13416881349286059603:=0
def tw500978880893600909:=0
def tw16369560042236391999:=0
def tw9509783605395375040:=0
def tw4457343322582794889:=0
def tw14795218664693720752:=0
def tw2685536200708096441:=0
def tw6394718539415504222:=0
def tw741392259698722767:=0
def tw6949890299492819987:=0
def tw5603726167586268775:=0
def tw15767907509556619376:=0
def tw14671649748824380793:=0
def tw12745649131845898307:=0
def tw1925427440410009073:=0
def tw11317951445766714961:=0
def tw2465779669254633161:=0
def tw1949696542781228322:=0
def tw9087728190235666330:=0
def tw4144985176761591960:=0
def tw17928023381866164671:=0
def tw15839394530212249417:=0
def tw8868411048302496945:=0
def tw13153338183222672795:=0
def tw6806355452249061788:=0
def tw13897414793846743804:=0
def tw10995306394799320333:=0
def tw8031518368752114067:=0
def tw1556825789725979468:=0
def tw12898315266838095861:=0
def tw3123308821620636952:=0
def tw4425853527173627003:=0
def tw18177386479182719615:=0
def tw14726283737170129142:=0
def tw4691534043037126490:=0
def tw3793798292042060427:=0
def tw10002607438912396022:=0
def tw2967240376475325948:=0
def tw11866807710815687500:=0
def tw3531174486062892766:=0
def tw14823126475280636357:=0
def tw1542675948729904238:=0
def tw2754405030553963626:=0
def tw15766069988975935223:=0
def tw296779905254375267:=0
def tw5518529653540252323:=0
def tw17701955480809035408:=0
def tw10382354882163673558:=0
def tw5294188713822731153:=0
def tw9322447142467723824:=0
def tw11792646277242965385:=0
def tw16140868664886216780:=0
def tw7794342446019394033:=0
def tw17307052017684761514:=0
def tw5020926027236742570:=0
def tw2738710213725256057:=0
def tw15852802280167876114:=0
def tw12874870123896396084:=0
def tw14603647075887098266:=0
def tw16362376989318138725:=0
def tw13786484068794835180:=0
def tw8376564649489771455:=0
def tw3972167787675194749:=0
def tw15882359854857010343:=0
def tw14397875947105420186:=0
def tw15433339528146221365:=0
def tw960507253602454270:=0
def tw4221575328681210886:=0
def tw2545917713006452613:=0
def tw11690858973282009670:=0
def tw12942876853059264281:=0
def tw11989606423287418713:=0
def tw18278134682762915954:=0
def tw5723133322330050852:=0
def tw4445072853193278639:=0
def tw14736793146195327859:=0
def tw8103614740349486778:=0
def tw5480666779884345683:=0
def tw15942989818704298525:=0
def tw10628130372686650774:=0
def tw9542244085208866049:=0
def tw11777237203744705828:=0
def tw14586177068836028349:=0
def tw6221194710891622672:=0
def tw11999104020607083660:=0
def tw13749174889530217477:=0
def tw13767640439171446904:=0
def tw3790650257814803078:=0
def tw12210144129486874436:=0
def tw981390671657791116:=0
def tw14502159542105979915:=0
def tw17324060447652963379:=0
def tw16808549346541808350:=0
def tw16570309202987988199:=0
def tw11328183390514144328:=0
def tw12178798027531598350:=0
end PySem.Challenge.cw_mixplay_k53_whole_advice_of_three_holds
open PySem PySem.W PyProof.Rows
set_option maxRecDepth 100000 in
set_option maxHeartbeats 0 in
theorem PySem.Challenge.cw_mixplay_k53_whole_advice_of_three_holds : PySem.Challenge.rw_mixplay_k53_whole_advice_of_three.Holds := by
  w_on; o_law; z_head; (case hw => w_witness2)
  k_fill
  refine L2.walk_x (fun _ => rfl) (My.walk (l := PySem.Challenge.rw_mixplay_k53_whole_advice_of_three) rfl rfl (fun w h Y => Y) ?F)
  case F =>
    intro w mg fa h KX G hmg
    refine' My.fin hmg ?T (L2.law_mk KX G ?z1 ?z2 ?z3 ?z4)
    (case z1 => k_is)
    (case z2 => k_is)
    (case z3 => k_is)
    (case z4 => k_is)
    constructor
    all_goals first
      | (refine' L2.Df.mk' KX G ?a ?l ?c ?k; (case a => k_is); (case l => k_is); (case c => k_is); (case k => k_is))
      | (refine' L2.Df.mkD KX G ?a ?l ?c ?k ?d ?e ?b; (case a => k_is); (case l => k_is); (case c => k_is); (case k => k_is); (case d => k_is); (case e => rfl); (case b => first | exact fun _ _ _ _ _ _ => L2.ar4 fun _ _ _ _ => ⟨_, rfl, rfl⟩ | exact fun _ _ _ _ _ _ => L2.ar2 fun _ _ => ⟨_, rfl, rfl⟩))
      | (refine' L2.Mf.mk' ?y ?a ?i ?l ?c ?k; (case y => k_is); (case a => k_is); (case i => k_is); (case l => k_is); (case c => k_is); (case k => k_is))
      | (refine' PySem.W.mg_none_of KX G ?z; (case z => k_is))
      | (refine' L2.cls_mk KX G ?y; (case y => k_is))
      | (refine' L2.mkc_mk ?y ?a ?b; (case y => k_is); (case a => k_is); (case b => k_is))
      | (refine' L2.gi_mk KX G ?z; (case z => k_is))
      | (refine' My.CorK_mk ?y ?g ?d ?o ?s ?n0 ?n1 ?n2 ?n3; (case y => k_is); (case g => k_is); (case d => k_is); (case o => k_is); (case s => k_is); (case n0 => k_is); (case n1 => k_is); (case n2 => k_is); (case n3 => k_is))
      | (refine' My.TabK_mk ?y ?g ?d ?o ?s ?n0 ?n1; (case y => k_is); (case g => k_is); (case d => k_is); (case o => k_is); (case s => k_is); (case n0 => k_is); (case n1 => k_is))

