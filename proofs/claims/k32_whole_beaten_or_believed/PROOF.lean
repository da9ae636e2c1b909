import PyProof.Rows.All
import Wide.All
import OpenK.AllK
import Wide.FinOn
import Lean
import PyProof.EqAt
import PyProof.EqKinds
import PyProof.TupleCall
import PySem.Challenge.RW_mixplay_k32_whole_beaten_or_believed
set_option Elab.async false
set_option linter.all false
set_option maxRecDepth 100000
section
set_option compiler.extract_closed false
abbrev sL'(p:Lean.Name)(s:String):Array Lean.Ident:=s.splitOn.toArray.map λs=>Lean.mkIdent (p++s.toName)
local macro_rules|`(command|def$i$b:bracketedBinder*:$t$v:declVal)=>`(command|theorem$i$b*:$t$v)
local macro_rules|`(command|def$i$b:bracketedBinder*:$t:ident$v:declVal)=>`(command|noncomputable def$i$b*:$t$v)
local macro_rules|`(command|def$i$b:bracketedBinder*:Prop$v:declVal)=>`(command|noncomputable def$i$b*:Prop$v)
local macro_rules|`(#[$xs,*])=>`(⟨$xs,*⟩)
local macro_rules|`(#[])=>`(by lia)
namespace L2
open PySem PySem.Spec PyProof.Rows
variable{A:Around}{C a:Addr}{E Q:Value->Shared->Prop}{H:Hp}{K:aQ}{M:Model}{N ps:List Str}{P:Program}{X:Cx}{Z:St}{base h:Heap}{c e:Expr}{d:Type}{f:CmpOp}{g:TG}{i j k t':Nat}{mg:Str->Option Value}{o:HO}{pl:Sem Bool}{pos:Pos}{s:Shared}{tb:TS}{u:Value}{us:List Value}{v:V}{vs xs:List V}{x:Str}
noncomputable abbrev LS:=List Str
noncomputable abbrev hU:=List (List (Int×Int))
noncomputable abbrev fV:=List (Int×Int)
noncomputable abbrev fP:=List (List Nat)
noncomputable abbrev aQ:=PySem.W.Frag
abbrev aD:=@List.getElem?_eq_getElem
abbrev aJ:=@List.getD_eq_getElem?_getD
abbrev aI:=@List.mem_of_getElem?
abbrev aW:=@Option.some.inj
abbrev bE:=@Heap.get?_push_of_some
abbrev aB:=@List.length_map
abbrev aC:=@wpAny_bind
abbrev aS:=@wpAny_pure
abbrev aU:=@Nat.le_refl
abbrev aX:=@List.map_append
abbrev aF:=@if_neg
abbrev aK:=@if_pos
abbrev bH:=@Heap.lt_size
abbrev bJ:=@List.size_toArray
abbrev bK:=@List.length_append
abbrev aZ:=@List.getElem?_map
abbrev bI:=@Option.join_some
abbrev cW:=@List.append_nil
abbrev bU:=@List.getElem?_append_right
abbrev bZ:=@List.getElem?_append_left
abbrev bL:=@Int.mul_pos
abbrev cX:=@List.map_nil
abbrev bV:=@List.map_cons
abbrev bR:=@Nat.ne_of_lt
abbrev cM:=@List.length_reverse
abbrev cL:=@Nat.lt_of_lt_of_le
abbrev bO:=@List.mem_cons_of_mem
abbrev bT:=@Bool.false_ne_true
abbrev bW:=@Int.le_of_lt
abbrev cB:=@List.mem_cons_self
abbrev cC:=@List.getElem?_eq_none
abbrev cI:=@Nat.le_trans
abbrev cQ:=@Int.natAbs_mul
abbrev bY:=@List.take_length
abbrev dA:=@List.getElem?_of_mem
abbrev dF:=@List.length_cons
abbrev bX:=@Heap.get?_push_size
abbrev fG:=@Heap.get?_update_other
abbrev dH:=@decide_eq_true_eq
abbrev cZ:=@Int.mul_zero
abbrev cA:=@Int.toNat_natCast
abbrev cJ:=@List.getElem_mem
abbrev eJ:=@Nat.two_pow_pos
abbrev aO:=@List.getElem?_eq_some_iff
abbrev cV:=@List.mem_map
abbrev dD:=@List.mem_append
abbrev eW:=@List.mem_cons
abbrev cP:=@List.mem_singleton
abbrev gG:=@List.mem_range
abbrev cN:=@List.length_take
abbrev gM:=@List.map_congr_left
abbrev dI:=@List.mem_append_right
abbrev iF:=@List.mem_append_left
abbrev dQ:=@PyProof.Rows.callWith_type1
abbrev gI:=@Int.mul_comm
abbrev fK:=@Int.mul_one
abbrev gH:=@Int.zero_mul
abbrev fF:=@Int.one_mul
abbrev iH:=@Int.mul_assoc
abbrev eX:=@Int.zero_add
abbrev fB:=@Nat.lt_irrefl
abbrev fE:=@Nat.not_lt_zero
abbrev eP:=@Nat.mul_le_mul
abbrev iQ:=@Nat.mul_le_mul_right
abbrev eE:=@Nat.pow_le_pow_right
abbrev jG:=@Int.dvd_trans
abbrev dZ:=@Int.mul_nonneg
abbrev dU:=@Int.eq_of_mul_eq_mul_right
abbrev eV:=@Rat.intCast_mul
abbrev eK:=@Rat.mul_le_mul_of_nonneg_right
abbrev iI:=@Rat.le_of_mul_le_mul_right
abbrev iU:=@List.length_drop
abbrev iB:=@List.length_range
abbrev jT:=@Nat.sub_self
abbrev eC:=@Nat.zero_le
abbrev jL:=@Nat.lt_of_le_of_lt
abbrev jA:=@Nat.le_add_right
abbrev gR:=@Nat.lt_succ_self
noncomputable abbrev Key:=Sum Int Str
noncomputable def Rt:Key->Value->Bool
 | .inl k,v=>Value.isInt k v
 | .inr x,v=>Value.isStrOf x v
noncomputable def keyH(w:World):Key->Int
 | .inl k=>hashInt k
 | .inr x=>hashStr w x
def jJ:∀{k:Key}{v:Value},Rt k v=true->(∃i t,k=Sum.inl i/\v=Value.int i t)∨(∃x t,k=Sum.inr x/\v=Value.str x t)
 | .inl i,v,h=>by
  obtain⟨t,e⟩:=Value.isInt_shape (k:=i) (v:=v) h;exact .inl #[i,t,rfl,e]
 | .inr x,v,h=>by
  obtain⟨t,e⟩:=Value.isStrOf_shape (x:=x) (v:=v) h;exact .inr #[x,t,rfl,e]
def jWy(i:Int)(t:Tok):Rt (.inl i) (.int i t)=true:=by simp [Rt,Value.isInt]
def jWx(x:Str)(t:Tok):Rt (.inr x) (.str x t)=true:=by simp [Rt,Value.isStrOf]
def key_ll(a b:Int):decide ((Sum.inl a:Key)=Sum.inl b)=(a==b):=by
 by_cases e:a=b
 .subst e;simp
 .have h:¬(Sum.inl a:Key)=Sum.inl b:=λq=>e (Sum.inl.inj q);rw[decide_eq_false h];exact(beq_eq_false_iff_ne.mpr e).symm
def key_rr(a b:Str):decide ((Sum.inr a:Key)=Sum.inr b)=decide (a=b):=by
 by_cases e:a=b
 .subst e;simp
 .have h:¬(Sum.inr a:Key)=Sum.inr b:=λq=>e (Sum.inr.inj q);rw[decide_eq_false h,decide_eq_false e]
def key_lr(a:Int)(b:Str):decide ((Sum.inl a:Key)=Sum.inr b)=false:=decide_eq_false (λq=>nomatch q)
def key_rl(a:Str)(b:Int):decide ((Sum.inr a:Key)=Sum.inl b)=false:=decide_eq_false (λq=>nomatch q)
noncomputable def jP(prog:Program)(w:World):PySem.KeyKind prog w Key where
 is:=Rt
 hash:=keyH w
 inj:=λv a b ha hb=>by
  rcases jJ ha with⟨i,t,rfl,rfl⟩|⟨x,t,rfl,rfl⟩
  .rcases jJ hb with⟨j,u,rfl,e⟩|⟨y,u,rfl,e⟩
   .injection e with e1 _;rw[e1]
   .exact nomatch e
  .rcases jJ hb with⟨j,u,rfl,e⟩|⟨y,u,rfl,e⟩
   .exact nomatch e
   .injection e with e1 _;rw[e1]
 byValue:=λk v h=>by
  rcases jJ h with⟨i,t,rfl,rfl⟩|⟨x,t,rfl,rfl⟩<;>rfl
 pyHash:=λhv h=>by
  rcases jJ hv with⟨i,t,rfl,rfl⟩|⟨x,t,rfl,rfl⟩
  .exact wpAny_pyHash_int h
  .exact wpAny_pyHash_str h
 eqBool:=λhu hv h=>by
  rcases jJ hu with⟨i,t,rfl,rfl⟩|⟨x,t,rfl,rfl⟩
  .rcases jJ hv with⟨j,u,rfl,rfl⟩|⟨y,u,rfl,rfl⟩
   .rw[key_ll]at h;exact wpAny_eqBool_int h
   .rw[key_lr]at h;exact SeqAt.EqAt.int_str i t y u _ _ _ _ h
  .rcases jJ hv with⟨j,u,rfl,rfl⟩|⟨y,u,rfl,rfl⟩
   .rw[key_rl]at h;exact SeqAt.EqAt.str_int x t j u _ _ _ _ h
   .rw[key_rr]at h;exact wpAny_eqBool_str h
 «strs»:=λk x t v h=>by
  rcases jJ h with⟨i,u,rfl,e⟩|⟨y,u,rfl,e⟩
  .exact nomatch e
  .injection e with e1 _;subst e1;cases v<;>rfl
def jJU(prog:Program)(w:World)(i:Int)(t:Tok):(jP prog w).is (.inl i) (.int i t)=true:=jWy i t
def jJV(prog:Program)(w:World)(x:Str)(t:Tok):(jP prog w).is (.inr x) (.str x t)=true:=jWx x t
inductive V where
 |non |bl (b:Bool)|int (i:Int)|str (x:Str)|byt (b:Array UInt8)|flt (b:UInt64)|ref (a:Addr)|ty (n:String)
 deriving DecidableEq
noncomputable def fU:V->Value->Prop
 | .non,u=>u=Value.none
 | .bl b,u=>u=Value.bool b
 | .int i,u=>∃t,u=Value.int i t
 | .str x,u=>∃t,u=Value.str x t
 | .byt b,u=>∃t,u=Value.bytes b t
 | .flt b,u=>∃t,u=Value.float b t
 | .ref a,u=>u=Value.ref a
 | .ty n,u=>u=Value.type n
noncomputable abbrev fL:List V->List Value->Prop:=Paired fU
def fL.length(r:fL xs us):xs.length=us.length:=Paired.length r
def fL.get:∀{xs:List V}{us:List Value}{i:Nat}{x:V},fL xs us->xs[i]?=some x->∃u,us[i]?=some u/\fU x u
 |_,_,_,_,.nil,e=>by simp at e
 |_,_,0,_,.cons r _,e=>by simp at e;subst e;exact#[_,rfl,r]
 |_,_,i+1,x,.cons _ t,e=>by
  obtain⟨u,h1,h2⟩:=fL.get (i:=i) (x:=x) t (by simpa using e);exact#[u,by simpa using h1,h2]
def fL.set{x:V}(r:fU x u):∀{xs:List V}{us:List Value}(i:Nat),fL xs us->fL (xs.set i x) (us.set i u)
 |_,_,_,.nil=>.nil
 |_,_,0,.cons _ t=>.cons r t
 |_,_,i+1,.cons q t=>.cons q (fL.set r i t)
def fL.append:∀{xs ys:List V}{us Z:List Value},fL xs us->fL ys Z->fL (xs++ys) (us++Z)
 |_,_,_,_,.nil,s=>s
 |_,_,_,_,.cons r t,s=>.cons r (fL.append t s)
def fL.take:∀{xs:List V}{us:List Value}(n:Nat),fL xs us->fL (xs.take n) (us.take n)
 |_,_,0,_=>.nil
 |_,_,_+1,.nil=>.nil
 |_,_,n+1,.cons r t=>.cons r (fL.take n t)
def fL.drop:∀{xs:List V}{us:List Value}(n:Nat),fL xs us->fL (xs.drop n) (us.drop n)
 |_,_,0,r=>r
 |_,_,_+1,.nil=>.nil
 |_,_,n+1,.cons _ t=>fL.drop n t
noncomputable def Ci:Option V->Option Value->Prop
 |some v,some u=>fU v u
 |none,none=>True
 |_,_=>False
noncomputable def KV{d:Type}:List (d×V)->List (d×Value)->Prop:=Paired fun(p:d×V)(q:d×Value)=>p.1=q.1/\fU p.2 q.2
noncomputable def kV:Key->V
 | .inl i=>.int i
 | .inr x=>.str x
inductive HO where
 /--a list -/
 |lst (xs:List V)
 /--a tuple (never changes)-/
 |tup (xs:List V)
 /--a dict whose keys are ints and texts;one whose keys are tuples of ints and texts (the empty one is both)-/
 |dK (kvs:List (Key×V))|dT (kvs:List (List Key×V))
 /--a set of ints:its members,its size -/
 |set (S:Int->Bool) (n:Nat)
 /--an instance of the class at C,its dict at dx,its attributes -/
 |ins (C dx:Addr) (fs:List (Str×V))
 /--the dict of the instance at x -/
 |own (x:Addr)
 /--the dict of an exception -/
 |xd (fs:List (Str×V))
 /--a bound method,f of x -/
 |met (f x:Addr)
 /--a range object lo,lo+1,.. below hi -/
 |rng (lo hi:Int)
 /--a thing that is known to the object (the script;a dict while a loop walks it):read,never written while it is so -/
 |frz (o:Obj) (u:HO)
 /--a code object's table -/
 |tbl (ps:Array Value)
 /--any other thing,by what is true of its one object (a def of one's own:SetO a S n:=HO.ext λh=>..)-/
 |ext (φ:Heap->Prop)
noncomputable abbrev Hp:=Addr->Option HO
def upd(H:Hp)(a:Addr)(o:HO):Hp:=λb=>if b=a then some o else H b
def aL:upd H a o a=some o:=by unfold upd;rw[aK rfl]
def cK{b:Addr}(h:b≠a):upd H a o b=H b:=by unfold upd;rw[aF h]
def kS{b:Addr}{u:HO}(h:H a=some o)(h':H b=some u)(d:o≠u):a≠b:=by
 intro e;subst e;rw[h]at h';exact d (aW h')
def dW{b:Addr}(h:H a=some o)(h':H b=none):a≠b:=by
 intro e;subst e;rw[h]at h';cases h'
section
variable(P:Program)(w:World)
noncomputable def iR(H:Hp)(h:Heap)(a:Addr):HO->Prop
 | .lst xs=>xs.length<=sizeLine/\∃(G:List Value)(n:Nat),fL xs G/\h.get? a=some { cls:=.type "list",data:=.seq G.toArray n }
 | .tup xs=>xs.length<=sizeLine/\∃G:List Value,fL xs G/\IsTup h a G.toArray
 | .dK kvs=>kvs.length<=sizeLine/\(a==sysModules)=false/\∃vs,KV kvs vs/\h.DictOf (jP P w) a vs
 | .dT kvs=>kvs.length<=sizeLine/\(a==sysModules)=false/\∃xs:List (List Key×Addr×Value),
   Paired (fun(p:List Key×V)(q:List Key×Addr×Value)=>p.1=q.1/\H q.2.1=some (.tup (p.1.map kV))/\fU p.2 q.2.2) kvs xs/\
   ∃o es ep,h.get? a=some o/\o.ExactDict/\o.data=.dict es ep/\es.toList=xs.map (entryOfKey (tupleKind (jP P w)))/\(xs.map (·.1)).Nodup
 | .set S n=>h.SetOf (intKind P w) a S n
 | .ins C dx fs=>H dx=some (.own a)/\fs.length<=1000/\dx≠a/\h.get? a=some (PySem.W.instObj C dx)/\
   ∃B,h.Ns1 dx B/\(∀f,Ci (fs.lookup f) (B f))/\PySem.Within B (fs.map (·.1))
 | .own _=>∃o,h.get? a=some o
 | .xd fs=>∃B,h.Ns1 a B/\∀f,Ci (fs.lookup f) (B f)
 | .rng lo hi=>∃t u v,h.get? a=some { cls:=.type "range",data:=.fields (List.toArray [.int lo t,.int hi u,.int 1 v]) }
 | .frz o u=>h.get? a=some o/\iR H h a u
 | .tbl ps=>h.get? a=some { cls:=.none,data:=.fields ps }
 | .met f x=>h.get? a=some (PySem.W.methodObj (.ref f) (.ref x))
 | .ext φ=>φ h/\(∃o,h.get? a=some o)/\∀h1 h2:Heap,φ h1->(∀o,h1.get? a=some o->h2.get? a=some o)->φ h2
def HOk(H:Hp)(h:Heap):Prop:=∀a o,H a=some o->iR P w H h a o
end
section
variable{P:Program}{w:World}{H H':Hp}{h h':Heap}{a:Addr}{o:HO}
def iR.lt(x:iR P w H h a o):a<h.objs.size:=by
 cases o with
 |lst xs=>obtain⟨_,_,_,_,e⟩:=x;exact bH e
 |tup xs=>obtain⟨_,_,_,p⟩:=x;exact p.lt
 |dK kvs=>obtain⟨_,_,_,_,o,_,_,e,_⟩:=x;exact bH e
 |dT kvs=>obtain⟨_,_,_,_,o,_,_,e,_⟩:=x;exact bH e
 |set S n=>obtain⟨o,_,_,_,e,_⟩:=x;exact bH e
 |ins C dx fs=>obtain⟨_,_,_,e,_⟩:=x;exact bH e
 |own y=>obtain⟨_,e⟩:=x;exact bH e
 |xd fs=>obtain⟨_,⟨_,_,_,e,_⟩,_⟩:=x;exact bH e
 |rng lo hi=>obtain⟨_,_,_,e⟩:=x;exact bH e
 |frz ob u=>obtain⟨e,_⟩:=x;exact bH e
 |tbl ps=>exact bH (show h.get? a=some _ from x)
 |met f y=>exact bH (show h.get? a=some _ from x)
 |ext φ=>obtain⟨_,⟨_,e⟩,_⟩:=x;exact bH e
def Paired.mapP{c:Type}{F G:d->c->Prop}:∀{e:List d}{g:List c},Paired F e g->(∀a b,F a b->G a b)->Paired G e g
 |_,_,.nil,_=>.nil
 |_,_,.cons r t,f=>.cons (f _ _ r) (Paired.mapP t f)
def iR.stay(x:iR P w H h a o)(k:∀b u,(b=a∨H b=some (.own a))->h.get? b=some u->h'.get? b=some u)
  (D:∀b,H b=some (.own a)->H' b=some (.own a)) (g:∀b F,H b=some (.tup F)->H' b=some (.tup F)):iR P w H' h' a o:=by
 induction o with
 |lst F=>obtain⟨z,G,n,r,e⟩:=x;exact#[z,G,n,r,k _ _ (.inl rfl) e]
 |tup F=>obtain⟨z,G,r,ob,e,c⟩:=x;exact#[z,G,r,ob,k _ _ (.inl rfl) e,c]
 |dK kvs=>obtain⟨z,y,j,r,ob,N,Q,e,c⟩:=x;exact#[z,y,j,r,ob,N,Q,k _ _ (.inl rfl) e,c]
 |dT kvs=>
  obtain⟨z,y,F,r,ob,N,Q,e,c⟩:=x;exact#[z,y,F,Paired.mapP r λp q z=>#[z.1,g _ _ z.2.1,z.2.2],ob,N,Q,k _ _ (.inl rfl) e,c]
 |set S n=>obtain⟨ob,N,Q,t,e,c⟩:=x;exact#[ob,N,Q,t,k _ _ (.inl rfl) e,c]
 |ins C dx fs=>
  obtain⟨d,z,ne,e,B,⟨Z,N,Q,i,c⟩,r⟩:=x;exact#[D _ d,z,ne,k _ _ (.inl rfl) e,B,#[Z,N,Q,k _ _ (.inr d) i,c],r]
 |own y=>obtain⟨ob,e⟩:=x;exact#[ob,k _ _ (.inl rfl) e]
 |xd fs=>obtain⟨B,⟨Z,N,Q,e,c⟩,r⟩:=x;exact#[B,#[Z,N,Q,k _ _ (.inl rfl) e,c],r]
 |rng lo hi=>obtain⟨t,u,v,e⟩:=x;exact#[t,u,v,k _ _ (.inl rfl) e]
 |frz ob u ih=>obtain⟨e,q⟩:=x;exact#[k _ _ (.inl rfl) e,ih q]
 |tbl ps=>
  have e:h.get? a=some { cls:=.none,data:=.fields ps }:=x;show h'.get? a=some { cls:=.none,data:=.fields ps };exact k a _ (.inl rfl) e
 |met f y=>
  have e:h.get? a=some (PySem.W.methodObj (.ref f) (.ref y)):=x;show h'.get? a=some (PySem.W.methodObj (.ref f) (.ref y));exact k a _ (.inl rfl) e
 |ext φ=>obtain⟨p,⟨o,e⟩,st⟩:=x;exact#[st _ _ p λo q=>k _ _ (.inl rfl) q,#[o,k _ _ (.inl rfl) e],st]
def HOk.lt(x:HOk P w H h)(e:H a=some o):a<h.objs.size:=(x a o e).lt
def HOk.fresh(x:HOk P w H h)(e:h.objs.size<=a):H a=none:=by
 cases q:H a with
 |none=>rfl
 |some u=>exact absurd (cL (x.lt q) e) (fB _)
def HOk.kept(x:HOk P w H h)(k:∀b u,h.get? b=some u->h'.get? b=some u):HOk P w H h':=λa o e=>
 (x a o e).stay (λb u _ q=>k b u q) (λ_ q=>q) λ_ _ q=>q
def HOk.laid(x:HOk P w H h)(k:∀b u,h.get? b=some u->h'.get? b=some u)(hp:h.objs.size<=a)(new:iR P w (upd H a o) h' a o):HOk P w (upd H a o) h':=λb u e=>by
 have hn:=x.fresh hp;by_cases hb:b=a
 .subst hb;rw[aL]at e;cases e;exact new
 .rw[cK hb]at e;exact(x b u e).stay (λc v _ q=>k c v q) (λc q=>by rw[cK (dW q hn)];exact q) λc F q=>by rw[cK (dW q hn)];exact q
end
def Rd(H:Hp)(a:Addr)(u:HO):Prop:=H a=some u∨∃o,H a=some (.frz o u)
def Rd.ok{w:World}{u:HO}(r:Rd H a u)(x:HOk P w H h):iR P w H h a u:=by
 rcases r with r |⟨o,r⟩
 .exact x a u r
 .obtain⟨_,q⟩:=x a _ r;exact q
noncomputable def Mut:Option HO->Prop
 |some (.lst _)=>True
 |some (.dK _)=>True
 |some (.dT _)=>True
 |some (.set _ _)=>True
 |some (.ins _ _ _)=>True
 |some (.ext _)=>True
 |_=>False
section
variable{P:Program}{w:World}{H:Hp}{h h':Heap}{x e:Addr}{o':HO}
def HOk.write(ok:HOk P w H h)(mu:Mut (H x))(l:e=x∨H e=some (.own x))(k:∀b u,b≠e->h.get? b=some u->h'.get? b=some u)(f:∃u,h'.get? e=some u)
  (new:iR P w (upd H x o') h' x o'):HOk P w (upd H x o') h':=λb u q=>by
 have a:∀c y,H c=some (.own y)->c≠x:=λc y r z=>by subst z;rw[r]at mu;exact mu
 have g:∀c F,H c=some (.tup F)->c≠x:=λc F r z=>by subst z;rw[r]at mu;exact mu
 by_cases hb:b=x
 .subst hb;rw[aL]at q;cases q;exact new
 .rw[cK hb]at q;by_cases d:b=e
  .have Z:H b=some (.own x):=by
    rcases l with z |z
    .exact absurd (d.trans z) hb
    .rw[d];exact z
   rw[q]at Z;cases Z;obtain⟨v,hv⟩:=f;exact#[v,by rw[d];exact hv]
  .refine(ok b u q).stay (λc v hc r=>k c v ?_ r) (λc r=>by rw[cK (a c b r)];exact r) λc F r=>by rw[cK (g c F r)];exact r
   rcases hc with rfl |hc
   .exact d
   .rintro rfl;rcases l with z |z
    .exact a c b hc z
    .rw[hc]at z;cases z;exact hb rfl
end
structure Un(fs ex:List Addr)(H H':Hp)(h h':Heap):Prop where
 keep:∀b o,h.get? b=some o->H b=none->b∉fs->b∉ex->h'.get? b=some o
 slot:∀b o,h.get? b=some o->H b=none->b∈fs->b∉ex->∃sl,h'.get? b=some { o with slots:=sl }
 free:∀b o,h.get? b=some o->H b=none->b∉ex->H' b=none
 there:∀b o,h.get? b=some o->b∉ex->∃o',h'.get? b=some o'
 tups:∀b xs,H b=some (.tup xs)->H' b=some (.tup xs)
 frzs:∀b o u,H b=some (.frz o u)->H' b=some (.frz o u)
 tbls:∀b ps,H b=some (.tbl ps)->∃Fb,H' b=some (.tbl (ps++Fb))
section
variable{fs fs' ex ex':List Addr}{H H1 H2:Hp}{h h1 h2 h':Heap}{a x e:Addr}{o:HO}
def Un.any(u:Un fs ex H H1 h h1){b:Addr}{ob:Obj}(q:h.get? b=some ob)(n:H b=none)(hx:b∉ex):∃sl,h1.get? b=some { ob with slots:=sl }:=by
 by_cases hb:b∈fs
 .exact u.slot b ob q n hb hx
 .exact#[ob.slots,u.keep b ob q n hb hx]
def Un.kept(k:∀b u,h.get? b=some u->h'.get? b=some u):Un fs ex H H h h':=
 #[λb ob q _ _ _=>k b ob q,λb ob q _ _ _=>#[ob.slots,k b ob q],λ_ _ _ n _=>n,λb ob q _=>#[ob,k b ob q],λ_ _ q=>q,λ_ _ _ q=>q,λ_ R q=>#[(List.toArray []),by rw[q];simp]]
def Un.refl:Un fs ex H H h h:=Un.kept λ_ _ q=>q
def Un.laid(k:∀b u,h.get? b=some u->h'.get? b=some u)(hp:h.objs.size<=a)(hn:H a=none):Un fs ex H (upd H a o) h h' where
 keep:=λb u q _ _ _=>k b u q
 slot:=λb u q _ _ _=>#[u.slots,k b u q]
 free:=λb u q n _=>by rw[cK (bR (cL (bH q) hp))];exact n
 there:=λb u q _=>#[u,k b u q]
 tups:=λb F q=>by rw[cK (dW q hn)];exact q
 frzs:=λb u F q=>by rw[cK (dW q hn)];exact q
 tbls:=λb R q=>#[(List.toArray []),by rw[cK (dW q hn),q];simp]
def Un.write(mu:Mut (H x))(l:e=x∨H e=some (.own x))(k:∀b u,b≠e->h.get? b=some u->h'.get? b=some u)(f:∃u,h'.get? e=some u):Un fs ex H (upd H x o) h h':=by
 have hx:∀b,H b=none->b≠x:=λb n z=>by subst z;rw[n]at mu;exact mu
 have hb:∀b,H b=none->b≠e:=λb n z=>by
  subst z;rcases l with r |r
  .exact hx b n r
  .rw[n]at r;cases r
 have hm:∀b u,H b=some u->¬Mut (some u)->b≠x:=λb u q y z=>by subst z;rw[q]at mu;exact y mu
 refine#[λb u q n _ _=>k b u (hb b n) q,λb u q n _ _=>#[u.slots,k b u (hb b n) q],λb u q n _=>by rw[cK (hx b n)];exact n,λb u q _=>?_,
  λb F q=>by rw[cK (hm b _ q λz=>z)];exact q,λb u F q=>by rw[cK (hm b _ q λz=>z)];exact q,λb R q=>#[(List.toArray []),by rw[cK (hm b _ q λz=>z),q];simp]]
 by_cases d:b=e
 .subst d;exact f
 .exact#[u,k b u d q]
end
noncomputable def trk(h:Heap)(H:Hp):List Addr:=(List.range h.objs.size).filter λa=>(H a).isSome
def Uk(h:Heap)(H:Hp):Heap:=PySem.W.hideAll h (trk h H)
def jW5(h:Heap)(H:Hp):(Uk h H).objs.size=h.objs.size:=PySem.W.hideAll_size _ _
def jV9{b:Addr}{o:Obj}(e:h.get? b=some o)(n:H b=none):(Uk h H).get? b=some o:=
 PySem.W.hideAll_get _ e λhm=>by
  have q:(H b).isSome=true:=(List.mem_filter.mp hm).2;rw[n]at q;simp at q
def of_hidT{b:Addr}{o:Obj}(e:(Uk h H).get? b=some o):h.get? b=some o/\H b=none:=by
 have M:h.get? b=some o:=PySem.W.of_hideAll (trk h H) e;refine#[M,?_];cases q:H b with
 |none=>rfl
 |some x=>
  have hm:b∈trk h H:=List.mem_filter.mpr #[gG.mpr (bH M),by simp [q]];have z:(Uk h H).get? b=none:=PySem.W.hideAll_none (trk h H) hm;rw[z]at e;cases e
structure Mod(K:aQ)(mg:Str->Option Value)(base:Heap):Prop where
 kin:K.In base
 glob:base.Ns mainGlobals mg
 blt:∃mb,base.Ns builtinsNs mb/\∀x:Str,x≠ "__name__"->mb x=bootBuiltins x
 nolimit:base.NoLimit
structure Cx where
 prog:Program
 w:World
 K:aQ
 mg:Str->Option Value
 base:Heap
 A:Around
 N:List Str
 s₀:Shared
 H₀:Hp
 env:Env
 outer:List Env
 stack:List Env
 ex:List Addr
 fn:Str->Bool
 calm:Bool
 pn:List (Addr×Obj)
 xe:Value->Shared->Prop
noncomputable def frs(l:List Env):List Addr:=l.filterMap (·.frame)
noncomputable abbrev Cx.fs(X:Cx):List Addr:=frs X.outer
def Vis(sc:Scope)(x:Str):Prop:=sc.names.lookup x=some .local∨sc.names.lookup x=some .cell∨sc.names.lookup x=some .free
def Loc(sc:Scope)(x:Str):Prop:=sc.names.lookup x=some .local∨sc.names.lookup x=some .cell
def Look(env:Env)(h:Heap)(m:Str->Option Value)(x:Str)(u:Value):Prop:=
 (env.kindOf x=some .local/\m x=some u)∨((env.kindOf x=some .cell∨env.kindOf x=some .free)/\∃c,env.cells.lookup x=some c/\h.IsCell c (some u))
structure Cx.Ok(X:Cx):Prop where
 mod:Mod X.K X.mg X.base
 kind:X.env.scope.kind=.function
 glob:X.env.globals=mainGlobals
 blt:X.env.builtins=builtinsNs
 above:X.s₀.heap.objs.size<=X.env.locals
 inj:∀x y c,X.env.cells.lookup x=some c->X.env.cells.lookup y=some c->x=y
 has:∀x,(X.env.kindOf x=some .cell∨X.env.kindOf x=some .free)->∃c,X.env.cells.lookup x=some c
 cab:∀x c,X.fn x=true->X.env.cells.lookup x=some c->X.s₀.heap.objs.size<=c
 hd:X.calm=true->X.A.handled=none
 frames:X.A.frames=some X.stack
 stk:X.stack=X.outer∨(X.stack=X.env::X.outer/\X.env.frame=some X.env.locals)
 exf:∀b∈X.ex,b≠X.env.locals/\∀x c,X.env.cells.lookup x=some c->c≠b
 bs:∀b o,X.base.get? b=some o->X.s₀.heap.get? b=some o/\X.H₀ b=none
 bsz:X.base.objs.size<=X.s₀.heap.objs.size
 noex:∀b o,X.base.get? b=some o->b∉X.ex
 exfs:∀b∈X.ex,b∉X.fs
 funs:X.s₀.heap.FunFrames X.base X.outer
 frf:∀b∈X.fs,X.H₀ b=none
structure Inv(X:Cx)(pins:List (Addr×Obj))(σ:List (Option V))(H:Hp)(s:Shared):Prop where
 ok:X.Ok
 os:s.os=X.s₀.os
 bare:AllBare s.gens
 base:Un X.fs X.ex X.H₀ H X.s₀.heap s.heap
 loc:∃m,s.heap.Ns X.env.locals m/\∀(i:Nat)(x:Str)(v:V),X.N[i]?=some x->σ[i]?=some (some v)->Vis X.env.scope x->∃u,fU v u/\Look X.env s.heap m x u
 cell:∀x c,X.env.cells.lookup x=some c->∃v,s.heap.IsCell c v
 free:H X.env.locals=none
 freeC:∀x c,X.env.cells.lookup x=some c->H c=none
 pin:∀p∈X.pn++pins,s.heap.get? p.1=some p.2/\H p.1=none/\p.1≠X.env.locals/\p.1∉X.fs/\∀v,p.2.data≠.cell v
 hok:HOk X.prog X.w H s.heap
 len:σ.length=X.N.length
section
variable{X:Cx}{pins:List (Addr×Obj)}{σ:List (Option V)}{H H':Hp}{s:Shared}{h':Heap}
def Cx.Ok.nofr(ok:X.Ok){b:Addr}{o:Obj}(e:X.base.get? b=some o):b∉X.fs:=λhb=>by
 have:=(ok.funs.mem hb).1;rw[e]at this;cases this
def Inv.bs(I:Inv X pins σ H s):∀b o,X.base.get? b=some o->s.heap.get? b=some o/\H b=none:=λb o e=>
 #[I.base.keep b o (I.ok.bs b o e).1 (I.ok.bs b o e).2 (I.ok.nofr e) (I.ok.noex b o e),I.base.free b o (I.ok.bs b o e).1 (I.ok.bs b o e).2 (I.ok.noex b o e)]
def Inv.bk(I:Inv X pins σ H s):∀b o,X.base.get? b=some o->s.heap.get? b=some o:=λb o e=>(I.bs b o e).1
def Inv.mod(I:Inv X pins σ H s):Mod X.K X.mg X.base:=I.ok.mod
def Inv.kIn(I:Inv X pins σ H s):X.K.In s.heap:=I.ok.mod.kin.keeps I.bk
def Inv.lt(I:Inv X pins σ H s):X.env.locals<s.heap.objs.size:=let⟨_,hn,_⟩:=I.loc;hn.lt
def Inv.sz(I:Inv X pins σ H s):X.s₀.heap.objs.size<=s.heap.objs.size:=cI I.ok.above (Nat.le_of_lt I.lt)
def Inv.nofs(I:Inv X pins σ H s)(h:s.heap.objs.size<=a):a∉X.fs:=λhb=>by
 obtain⟨_,o,D,_⟩:=I.ok.funs.mem hb;exact absurd (cL (bH D) (cI I.sz h)) (fB _)
def Inv.cne(I:Inv X pins σ H s):∀x c,X.env.cells.lookup x=some c->c≠X.env.locals:=λx c e z=>by
 obtain⟨v,o,D,hd⟩:=I.cell x c e;obtain⟨m,⟨O,N,Q,j,d,_⟩,_⟩:=I.loc;rw[z,j]at D;cases D;rw[d]at hd;cases hd
def Inv.funs(I:Inv X pins σ H s):s.heap.FunFrames X.base X.outer:=by
 have all:∀(l:List Env),(∀b∈frs l,b∈X.fs)->X.s₀.heap.FunFrames X.base l->s.heap.FunFrames X.base l:=by
  intro l
  induction l with
  |nil=>intro _ _;trivial
  |cons env r ih=>
   rintro hs ⟨hk,⟨L,o,hf,hn,D,hd⟩,hr⟩;have C:L∈X.fs:=hs L (by unfold frs;rw[List.filterMap_cons,hf];exact cB);obtain⟨sl,e⟩:=I.base.slot L o D (I.ok.frf L C) C λz=>I.ok.exfs L z C;exact#[hk,#[L,_,hf,hn,e,hd],ih (λb hb=>hs b (by unfold frs;rw[List.filterMap_cons,hf];exact bO _ hb)) hr]
 exact all X.outer (λ_ hb=>hb) I.ok.funs
def Inv.stack(I:Inv X pins σ H s):s.heap.FunFrames X.base X.stack:=by
 rcases I.ok.stk with e |⟨e,hf⟩
 .rw[e];exact I.funs
 .rw[e];obtain⟨m,hn,_⟩:=I.loc;refine .cons (by rw[I.ok.kind];decide) hf hn ?_ I.funs;exact Heap.get?_none_of_le (cI I.ok.bsz I.ok.above)
def Inv.stkSub(I:Inv X pins σ H s):∀b∈frs X.stack,b∈X.env.locals::X.fs:=λb hb=>by
 rcases I.ok.stk with e |⟨e,hf⟩
 .rw[e]at hb;exact bO _ hb
 .rw[e]at hb;unfold frs at hb;rw[List.filterMap_cons,hf]at hb;exact hb
def Inv.stkFree(I:Inv X pins σ H s):∀b∈frs X.stack,H b=none:=λb hb=>by
 rcases eW.mp (I.stkSub b hb)with e |hb
 .rw[e];exact I.free
 .obtain⟨_,o,D,_⟩:=I.ok.funs.mem hb;exact I.base.free b o D (I.ok.frf b hb) λz=>I.ok.exfs b z hb
def Inv.step{g':Array GenState}{d':Drawn}{ch:List Addr}(I:Inv X pins σ H s)
  (a:∀b∈ch,(b∈X.ex∨X.s₀.heap.objs.size<=b)/\b≠X.env.locals/\(∀x c,X.env.cells.lookup x=some c->c≠b)/\∀p∈X.pn++pins,p.1≠b)
  (keep:∀b o,b≠X.env.locals->b∉X.fs->b∉ch->s.heap.get? b=some o->H b=none->h'.get? b=some o)
  (slot:∀b o,b≠X.env.locals->b∈X.fs->b∉ch->s.heap.get? b=some o->H b=none->∃sl,h'.get? b=some { o with slots:=sl }) (free:∀b o,b∉ch->s.heap.get? b=some o->H b=none->H' b=none)
  (there:∀b o,b∉ch->s.heap.get? b=some o->∃O,h'.get? b=some O)
  (tups:∀b F,H b=some (.tup F)->H' b=some (.tup F)) (frzs:∀b o u,H b=some (.frz o u)->H' b=some (.frz o u)) (tbls:∀b R,H b=some (.tbl R)->∃Fb,H' b=some (.tbl (R++Fb)))
  (ns:∀m,s.heap.Ns X.env.locals m->h'.Ns X.env.locals m) (hok:HOk X.prog X.w H' h') (hg:AllBare g'):
  Inv X pins σ H' { s with heap:=h',gens:=g',drawn:=d',toks:=t' }:=by
 have t:∀b o,X.s₀.heap.get? b=some o->b≠X.env.locals:=λb o e=>bR (cL (bH e) I.ok.above);have h:∀b o,X.s₀.heap.get? b=some o->b∉X.ex->b∉ch:=λb o e hx hb=>by
  rcases(a b hb).1 with z |z
  .exact hx z
  .exact absurd (cL (bH e) z) (fB _)
 have f:∀x c,X.env.cells.lookup x=some c->∀v,s.heap.IsCell c v->h'.IsCell c v:=λx c e v#[o,D,hd]=>by
  have g:c∉ch:=λz=>(a c z).2.2.1 x c e rfl;by_cases hc:c∈X.fs
  .obtain⟨sl,q⟩:=slot c o (I.cne x c e) hc g D (I.freeC x c e);exact#[_,q,hd]
  .exact#[o,keep c o (I.cne x c e) hc g D (I.freeC x c e),hd]
 refine#[I.ok,I.os,hg,#[λb o e n hb hx=>?_,λb o e n hb hx=>?_,λb o e n hx=>?_,λb o e hx=>?_,λb F e=>tups b F (I.base.tups b F e),λb o F e=>frzs b o F (I.base.frzs b o F e),λb R e=>?_],?_,λx c e=>?_,?_,λx c e=>?_,λp hp=>?_,hok,I.len]
 .exact keep b o (t b o e) hb (h b o e hx) (I.base.keep b o e n hb hx) (I.base.free b o e n hx)
 .obtain⟨sl,e1⟩:=I.base.slot b o e n hb hx;obtain⟨j,C⟩:=slot b _ (t b o e) hb (h b o e hx) e1 (I.base.free b o e n hx);exact#[j,C]
 .obtain⟨O,e1⟩:=I.base.there b o e hx;exact free b O (h b o e hx) e1 (I.base.free b o e n hx)
 .obtain⟨O,e1⟩:=I.base.there b o e hx;exact there b O (h b o e hx) e1
 .obtain⟨m1,e1⟩:=I.base.tbls b R e;obtain⟨m2,C⟩:=tbls b _ e1;exact#[m1++m2,by rw[C,Array.append_assoc]]
 .obtain⟨m,hn,S⟩:=I.loc;refine#[m,ns m hn,λi x v e1 C T=>?_];obtain⟨u,r,l⟩:=S i x v e1 C T;refine#[u,r,?_];rcases l with l |⟨k,c,e,z⟩
  .exact .inl l
  .exact .inr #[k,c,e,f x c e _ z]
 .obtain⟨v,z⟩:=I.cell x c e;exact#[v,f x c e v z]
 .obtain⟨m,⟨o,_,_,D,_⟩,_⟩:=I.loc;exact free _ o (λz=>(a _ z).2.1 rfl) D I.free
 .obtain⟨v,o,D,hd⟩:=I.cell x c e;exact free c o (λz=>(a c z).2.2.1 x c e rfl) D (I.freeC x c e)
 .obtain⟨e,n,ne,G,d⟩:=I.pin p hp;have g:p.1∉ch:=λz=>(a p.1 z).2.2.2 p hp rfl;exact#[keep p.1 p.2 ne G g e n,free p.1 p.2 g e n,ne,G,d]
def Inv.un(I:Inv X pins σ H s)(u:Un X.fs [] H H' s.heap h')(hok:HOk X.prog X.w H' h'):Inv X pins σ H' { s with heap:=h',toks:=t' }:=by
 obtain⟨m,⟨o,N,Q,D,r⟩,_⟩:=id I.loc;obtain⟨sl,C⟩:=u.any D I.free (by simp);exact I.step (g':=s.gens) (d':=s.drawn) (ch:=[]) (λ_ z=>nomatch z) (λb o _ hb _ e n=>u.keep b o e n hb (by simp)) (λb o _ hb _ e n=>u.slot b o e n hb (by simp)) (λb o _ e n=>u.free b o e n (by simp)) (λb o _ e=>u.there b o e (by simp)) u.tups u.frzs u.tbls (λk hm=>by
  obtain⟨O,f,y,j,P⟩:=hm;rw[D]at j;cases j;exact#[_,f,y,C,P]) hok I.bare
def Inv.call{g':Array GenState}{d':Drawn}{ch:List Addr}(I:Inv X pins σ H s)(u:Un (frs X.stack) ch H H' s.heap h')(hok:HOk X.prog X.w H' h')(hg:AllBare g')
  (a:∀b∈ch,(b∈X.ex∨X.s₀.heap.objs.size<=b)/\b≠X.env.locals/\(∀x c,X.env.cells.lookup x=some c->c≠b)/\∀p∈X.pn++pins,p.1≠b):
  Inv X pins σ H' { s with heap:=h',gens:=g',drawn:=d',toks:=t' }:=by
 obtain⟨m,⟨o,N,Q,D,r⟩,_⟩:=id I.loc;obtain⟨sl,C⟩:=u.any D I.free λz=>(a _ z).2.1 rfl;exact I.step (ch:=ch) a (λb o C hb hc e n=>u.keep b o e n (λz=>(eW.mp (I.stkSub b z)).elim C hb) hc) (λb o _ _ hc e n=>u.any e n hc) (λb o hc e n=>u.free b o e n hc) (λb o hc e=>u.there b o e hc) u.tups u.frzs u.tbls (λk hm=>by
  obtain⟨O,f,y,j,P⟩:=hm;rw[D]at j;cases j;exact#[_,f,y,C,P]) hok hg
def Inv.turned{U:Addr}(I:Inv X pins σ H s)(k:∀b o,b≠U->s.heap.get? b=some o->h'.get? b=some o)(hn:H U=none)(C:U≠X.env.locals)
  (h1:U∈X.ex∨X.s₀.heap.objs.size<=U) (h2:∀x c,X.env.cells.lookup x=some c->c≠U) (d:∀p∈X.pn++pins,p.1≠U):Inv X pins σ H { s with heap:=h',toks:=t' }:=by
 have a:∀b u,H b=some u->b≠U:=λb u e z=>by rw[z,hn]at e;cases e
 refine I.step (g':=s.gens) (d':=s.drawn) (ch:=[U]) (λb hb=>?_) (λb o _ _ hc e _=>k b o (λz=>hc (by simp [z])) e) (λb o _ _ hc e _=>#[o.slots,k b o (λz=>hc (by simp [z])) e]) (λ_ _ _ _ n=>n)
  (λb o hc e=>#[o,k b o (λz=>hc (by simp [z])) e]) (λ_ _ e=>e) (λ_ _ _ e=>e) (λb R e=>#[(List.toArray []),by rw[e];simp]) (λm hm=>?_) (λb u e=>?_) I.bare
 .have e:b=U:=by simpa using hb
  subst e;exact#[h1,C,h2,d]
 .obtain⟨o,N,Q,D,r⟩:=hm;exact#[o,N,Q,k _ o (Ne.symm C) D,r]
 .refine(I.hok b u e).stay (λc v hc q=>k c v ?_ q) (λ_ q=>q) λ_ _ q=>q;rcases hc with z |z
  .rw[z];exact a b u e
  .exact a c _ z
def Inv.tok(I:Inv X pins σ H s)(t:Nat):Inv X pins σ H { s with toks:=t }:=I.un (h':=s.heap) (t':=t) Un.refl I.hok
def Inv.kept(I:Inv X pins σ H s)(k:∀b u,s.heap.get? b=some u->h'.get? b=some u):Inv X pins σ H { s with heap:=h',toks:=t' }:=I.un (Un.kept k) (I.hok.kept k)
def Inv.laid(I:Inv X pins σ H s)(k:∀b u,s.heap.get? b=some u->h'.get? b=some u)(hp:s.heap.objs.size<=a)(new:iR X.prog X.w (upd H a o) h' a o):
  Inv X pins σ (upd H a o) { s with heap:=h',toks:=t' }:=I.un (Un.laid k hp (I.hok.fresh hp)) (I.hok.laid k hp new)
def Inv.write{x e:Addr}(I:Inv X pins σ H s)(mu:Mut (H x))(l:e=x∨H e=some (.own x))(k:∀b u,b≠e->s.heap.get? b=some u->h'.get? b=some u)(f:∃u,h'.get? e=some u)
  (new:iR X.prog X.w (upd H x o) h' x o):Inv X pins σ (upd H x o) { s with heap:=h',toks:=t' }:=I.un (Un.write mu l k f) (I.hok.write mu l k f new)
def Inv.pins_of{a:List (Addr×Obj)}(I:Inv X pins σ H s)(h:∀p∈a,s.heap.get? p.1=some p.2/\H p.1=none/\p.1≠X.env.locals/\p.1∉X.fs/\∀v,p.2.data≠.cell v):Inv X a σ H s:=
 #[I.ok,I.os,I.bare,I.base,I.loc,I.cell,I.free,I.freeC,λp hp=>(dD.mp hp).elim (λz=>I.pin p (iF _ z)) (h p),I.hok,I.len]
def Yr(K:N.Nodup)(a:N[i]?=some x)(b:N[j]?=some x):i=j:=by
 obtain⟨h1,e1⟩:=aO.mp a;obtain⟨h2,C⟩:=aO.mp b;exact(List.getElem_inj K).mp (e1.trans C.symm)
def Ss{Q:Unit->Shared->Prop}(I:Inv X pins σ H s)(K:X.N.Nodup)(hi:X.N[i]?=some x)(hx:Loc X.env.scope x)(r:fU v u)
  (h:∀R,Inv X pins (σ.set i (some v)) H R->(∃a,Heap.SameBut a s.heap R.heap/\(a=X.env.locals∨X.env.cells.lookup x=some a))->Q () R) (hf:X.fn x=true∨X.env.scope.names.lookup x=some .local:=by first |exact .inl rfl |exact .inr rfl |assumption):wpAny M A (storeName X.env x u) Q E s:=by
 obtain⟨m,hn,S⟩:=id I.loc;have a2:(X.env.scope.kind== .class||(X.env.scope.kind== .module&&X.env.locals !=X.env.globals))=false:=by rw[I.ok.kind];rfl
 have a0:i<σ.length:=by rw[I.len];exact(aO.mp hi).1
 have cne:=I.cne;have f:∀{a:Addr}{h':Heap},(∃o,s.heap.get? a=some o/\H a=none)->Heap.SameBut a s.heap h'->HOk X.prog X.w H h':=fun{a h'} ha hs b ob e=>by
  obtain⟨_,_,B⟩:=ha;refine(I.hok b ob e).stay (λc D hc q=>(hs.2 c ?_).trans q) (λ_ q=>q) λ_ _ q=>q;rintro rfl;rcases hc with rfl |hc
  .rw[B]at e;cases e
  .rw[B]at hc;cases hc
 rcases hx with hk |hk
 .refine wpAny_storeName_local hk hn (λh' F hs=>?_) a2;obtain⟨oL,_,_,a6,_⟩:=id hn;refine h _ #[I.ok,I.os,I.bare,#[λb o e n hb hx=>?_,λb o e n hb hx=>?_,I.base.free,λb o e hx=>?_,I.base.tups,I.base.frzs,I.base.tbls],#[_,F,λj y t e1 C T=>?_],λy c e=>?_,I.free,I.freeC,λp hp=>?_,f #[oL,a6,I.free] hs,by simpa using I.len] #[_,hs,.inl rfl]
  .exact(hs.2 b (bR (cL (bH e) I.ok.above))).trans (I.base.keep b o e n hb hx)
  .obtain⟨sl,e1⟩:=I.base.slot b o e n hb hx;exact#[sl,(hs.2 b (bR (cL (bH e) I.ok.above))).trans e1]
  .obtain⟨O,e1⟩:=I.base.there b o e hx;exact#[O,(hs.2 b (bR (cL (bH e) I.ok.above))).trans e1]
  .by_cases hj:j=i
   .subst hj;rw[hi]at e1;cases e1;rw[List.getElem?_set_self a0]at C;cases C;exact#[u,r,.inl #[hk,by simp]]
   .rw[List.getElem?_set_ne (Ne.symm hj)]at C;obtain⟨Y,P,q⟩:=S j y t e1 C T;refine#[Y,P,?_];rcases q with⟨k,e⟩|⟨k,c,e,z⟩
    .refine .inl #[k,?_];have:y≠x:=λe=>hj (Yr K e1 (e▸hi));simp [this,e]
    .exact .inr #[k,c,e,z.sameBut hs (cne y c e)]
  .obtain⟨D,z⟩:=I.cell y c e;exact#[D,z.sameBut hs (cne y c e)]
  .obtain⟨e,n,ne,G,d⟩:=I.pin p hp;exact#[(hs.2 p.1 ne).trans e,n,ne,G,d]
 .have a1:X.fn x=true:=by
   rcases hf with z |z
   .exact z
   .rw[z]at hk;cases hk
  obtain⟨c,hc⟩:=I.ok.has x (.inl hk);obtain⟨D,z⟩:=I.cell x c hc;refine wpAny_storeName_cell I.ok.kind hk hc z (λh' g hs=>?_);obtain⟨U,a3,a4⟩:=id z;refine h { s with heap:=h' } #[I.ok,I.os,I.bare,#[λb o e n hb hx=>?_,λb o e n hb hx=>?_,I.base.free,λb o e hx=>?_,I.base.tups,I.base.frzs,I.base.tbls],#[m,hn.sameBut hs (Ne.symm (cne x c hc)),λj y t e1 C T=>?_],λy J e=>?_,I.free,I.freeC,λp hp=>?_,f #[U,a3,I.freeC x c hc] hs,by simpa using I.len] #[c,hs,.inr hc]
  .exact(hs.2 b (bR (cL (bH e) (I.ok.cab x c a1 hc)))).trans (I.base.keep b o e n hb hx)
  .obtain⟨sl,e1⟩:=I.base.slot b o e n hb hx;exact#[sl,(hs.2 b (bR (cL (bH e) (I.ok.cab x c a1 hc)))).trans e1]
  .obtain⟨O,e1⟩:=I.base.there b o e hx;exact#[O,(hs.2 b (bR (cL (bH e) (I.ok.cab x c a1 hc)))).trans e1]
  .by_cases hj:j=i
   .subst hj;rw[hi]at e1;cases e1;rw[List.getElem?_set_self a0]at C;cases C;exact#[u,r,.inr #[.inl hk,c,hc,g]]
   .rw[List.getElem?_set_ne (Ne.symm hj)]at C;obtain⟨Y,P,q⟩:=S j y t e1 C T;refine#[Y,P,?_];rcases q with q |⟨k,J,e,z'⟩
    .exact .inl q
    .refine .inr #[k,J,e,z'.sameBut hs ?_];rintro rfl;exact hj (Yr K e1 (I.ok.inj _ _ _ e hc▸hi))
  .by_cases a5:J=c
   .subst a5;exact#[_,g]
   .obtain⟨w2,l⟩:=I.cell y J e;exact#[w2,l.sameBut hs a5]
  .obtain⟨e,n,ne,G,d⟩:=I.pin p hp;refine#[(hs.2 p.1 ?_).trans e,n,ne,G,d];intro q;rw[q,a3]at e;have Z:U=p.2:=aW e;exact d D (by rw[←Z];exact a4)
def Fv{Q:Unit->Shared->Prop}(I:Inv X pins σ H s)(K:X.N.Nodup)(hi:X.N[i]?=some x)(hx:Loc X.env.scope x)(r:fU v u)
  (h:∀R,Inv X pins (σ.set i (some v)) H R->Q () R) (hf:X.fn x=true∨X.env.scope.names.lookup x=some .local:=by first |exact .inl rfl |exact .inr rfl |assumption):wpAny M A (storeName X.env x u) Q E s:=
 Ss I K hi hx r (λR c _=>h R c) hf
def Inv.call'{R:Shared}{ch:List Addr}(I:Inv X pins σ H s)(D:R.os=s.os)(u:Un (frs X.stack) ch H H' s.heap R.heap)(hok:HOk X.prog X.w H' R.heap)(hg:AllBare R.gens)
  (a:∀b∈ch,(b∈X.ex∨X.s₀.heap.objs.size<=b)/\b≠X.env.locals/\(∀x c,X.env.cells.lookup x=some c->c≠b)/\∀p∈X.pn++pins,p.1≠b):Inv X pins σ H' R:=by
 obtain⟨h',d,t,J,O⟩:=R;have e:O=s.os:=D;subst e;exact I.call (g':=d) (t':=J) (d':=t) u hok hg a
end
noncomputable abbrev XK:=Value->Option Addr->Hp->Prop
noncomputable abbrev St:=List (Option V)
noncomputable abbrev VK:=V->Hp->Prop
noncomputable abbrev TE:=St->Hp->VK->Prop
noncomputable abbrev TT:=St->Hp->(Bool->Hp->Prop)->Prop
noncomputable abbrev TA:=St->Hp->(List V->Hp->Prop)->Prop
structure vH where
 nx:St->Hp->Prop
 rt:VK
 bk:St->Hp->Prop:=λ_ _=>False
 ct:St->Hp->Prop:=λ_ _=>False
noncomputable abbrev TS:=vH->St->Hp->Prop
def EP(X:Cx)(B:List (Addr×Obj))(Z:St)(Q:VK)(u:Value)(R:Shared):Prop:=∃v O,Inv X B Z O R/\fU v u/\Q v O
def TP(X:Cx)(B:List (Addr×Obj))(Z:St)(Q:Bool->Hp->Prop)(b:Bool)(R:Shared):Prop:=∃O,Inv X B Z O R/\Q b O
def AP(X:Cx)(B:List (Addr×Obj))(Z:St)(Q:List V->Hp->Prop)(us:List Value)(R:Shared):Prop:=∃vs O,Inv X B Z O R/\fL vs us/\Q vs O
def SP(X:Cx)(B:List (Addr×Obj))(D:vH)(f:Flow)(R:Shared):Prop:=
 match f with
 | .next=>∃F O,Inv X B F O R/\D.nx F O
 | .brk=>∃F O,Inv X B F O R/\D.bk F O
 | .cont=>∃F O,Inv X B F O R/\D.ct F O
 | .ret u=>∃v F O,Inv X B F O R/\fU v u/\D.rt v O
def PE(X:Cx)(e:Expr)(t:TE):Prop:=
 ∀(B:List (Addr×Obj))(s:Shared)(Z:St)(H:Hp)(Q:VK),Inv X B Z H s->t Z H Q->wpAny (model X.prog X.w) X.A (eval e X.env) (EP X B Z Q) X.xe s
def PT(X:Cx)(e:Expr)(t:TT):Prop:=
 ∀(B:List (Addr×Obj))(s:Shared)(Z:St)(H:Hp)(Q:Bool->Hp->Prop),Inv X B Z H s->t Z H Q->wpAny (model X.prog X.w) X.A (isTrue e X.env (eval e X.env)) (TP X B Z Q) X.xe s
def PW(X:Cx)(e:Expr)(t:TT):Prop:=
 ∀(f:Sem Value)(B:List (Addr×Obj))(s:Shared)(Z:St)(H:Hp)(Q:Bool->Hp->Prop),Inv X B Z H s->t Z H Q->wpAny (model X.prog X.w) X.A (isTrue e X.env f) (TP X B Z Q) X.xe s
def PW.pt{t:TT}(h:PW X e t):PT X e t:=h _
def PA(X:Cx)(es:List Expr)(t:TA):Prop:=
 ∀(pos:Pos)(B:List (Addr×Obj))(s:Shared)(Z:St)(H:Hp)(Q:List V->Hp->Prop),Inv X B Z H s->t Z H Q->wpAny (model X.prog X.w) X.A (spliced (backTo pos (starEach es X.env))) (AP X B Z Q) X.xe s
def PS(X:Cx)(st:Stmt)(t:TS):Prop:=
 ∀(B:List (Addr×Obj))(s:Shared)(Z:St)(H:Hp)(D:vH),Inv X B Z H s->t D Z H->wpAny (model X.prog X.w) X.A (exec st X.env) (SP X B D) X.xe s
def PSs(X:Cx)(st:List Stmt)(t:TS):Prop:=
 ∀(B:List (Addr×Obj))(s:Shared)(Z:St)(H:Hp)(D:vH),Inv X B Z H s->t D Z H->wpAny (model X.prog X.w) X.A (execs st X.env) (SP X B D) X.xe s
def thn{t:Sem d}{Q f:d->Shared->Prop}(h:wpAny M A t Q E s)(H:∀a s,Q a s->f a s):wpAny M A t f E s:=wpAny_mono h H λ_ _ x=>x
def thE{X:Cx}{M:Model}{A:Around}{E:Value->Shared->Prop}{s:Shared}{O:St}{B:List (Addr×Obj)}{t:Sem Value}{Q:V->Hp->Prop}{g:Value->Shared->Prop}(h:wpAny M A t (EP X B O Q) E s)(f:∀v s x Z,Inv X B O Z s->fU x v->Q x Z->g v s):wpAny M A t g E s:=thn h λv s ⟨x,Z,p,q,r⟩=>f v s x Z p q r
def thF{X:Cx}{M:Model}{A:Around}{E:Value->Shared->Prop}{s:Shared}{O:St}{B:List (Addr×Obj)}{t:Sem (List Value)}{Q:List V->Hp->Prop}{g:List Value->Shared->Prop}(h:wpAny M A t (AP X B O Q) E s)(f:∀v s x Z,Inv X B O Z s->fL x v->Q x Z->g v s):wpAny M A t g E s:=thn h λv s ⟨x,Z,p,q,r⟩=>f v s x Z p q r
def thT{X:Cx}{M:Model}{A:Around}{E:Value->Shared->Prop}{s:Shared}{O:St}{B:List (Addr×Obj)}{t:Sem Bool}{Q:Bool->Hp->Prop}{g:Bool->Shared->Prop}(h:wpAny M A t (TP X B O Q) E s)(f:∀v s Z,Inv X B O Z s->Q v Z->g v s):wpAny M A t g E s:=thn h λv s ⟨Z,p,r⟩=>f v s Z p r
section
variable{X:Cx}
def exI(x:V)(k:Int->Prop):Prop:=match x with
 | .int i=>k i
 |x=>∃i,x=.int i/\k i
def exB(x:V)(k:Bool->Prop):Prop:=match x with
 | .bl i=>k i
 |x=>∃i,x=.bl i/\k i
def exR(x:V)(k:Addr->Prop):Prop:=match x with
 | .ref i=>k i
 |x=>∃i,x=.ref i/\k i
def gB{i:Int}{k:Int->Prop}:exI (.int i) k=k i:=rfl
def gC{i:Bool}{k:Bool->Prop}:exB (.bl i) k=k i:=rfl
def gA{i:Addr}{k:Addr->Prop}:exR (.ref i) k=k i:=rfl
def gZ{x:V}{k:Int->Prop}:exI x k=∃i,x=.int i/\k i:=by
 cases x<;>first |rfl |exact propext #[λh=>#[_,rfl,h],fun⟨_,e,h⟩=>by cases e;exact h]
def kR{x:V}{k:Bool->Prop}:exB x k=∃i,x=.bl i/\k i:=by
 cases x<;>first |rfl |exact propext #[λh=>#[_,rfl,h],fun⟨_,e,h⟩=>by cases e;exact h]
def iM{x:V}{k:Addr->Prop}:exR x k=∃i,x=.ref i/\k i:=by
 cases x<;>first |rfl |exact propext #[λh=>#[_,rfl,h],fun⟨_,e,h⟩=>by cases e;exact h]
def jUU{x:V}{k g:Int->Prop}(h:exI x k)(m:∀i,k i->g i):exI x g:=by
 rw[gZ]at h⊢;obtain⟨i,e,h⟩:=h;exact#[i,e,m i h]
def aE(i:Nat):TE:=λZ H Q=>match Z[i]? with |some (some v)=>Q v H |_=>False
def tC(v:V):TE:=λ_ H Q=>Q v H
def pe_var(K:X.N[i]?=some x)(hv:Vis X.env.scope x)(hd:(x==("__debug__":Str))=false:=by decide)(p:(x==("__classdict__":Str))=false:=by decide):PE X (.Name x pos) (aE i):=by
 intro B s Z H Q I h;have h:∃v,Z[i]?=some (some v)/\Q v H:=by
  unfold aE at h;split at h
  .exact#[_,‹_›,h]
  .exact h.elim
 obtain⟨v,e,h⟩:=h;obtain⟨m,hn,S⟩:=I.loc;obtain⟨u,r,l⟩:=S i x v K e hv;have fin:EP X B Z Q u s:=#[v,H,I,r,h];rcases l with⟨hk,hm⟩|⟨hk,c,hc,k⟩
 .exact wpAny_Name (wpAny_loadName_local I.ok.kind hk hn hm fin) hd
 .rcases hk with hk |hk
  .exact wpAny_Name (wpAny_loadName_cell I.ok.kind hk hc k fin) hd
  .exact wpAny_Name (wpAny_loadName_free I.ok.kind hk hc k fin p) hd
def aV{i j pos}:PE X (.Constant (.int i) j pos) (tC (.int i)):=λ_ _ _ H _ I h=>wpAny_Constant_int #[.int i,H,I.tok _,#[_,rfl],h]
def tW{b j pos}:PE X (.Constant (.bool b) j pos) (tC (.bl b)):=λ_ _ _ H _ I h=>Constant_bool #[.bl b,H,I,rfl,h]
def pN{j pos}:PE X (.Constant .none j pos) (tC .non):=λ_ _ _ H _ I h=>Constant_none #[.non,H,I,rfl,h]
def Il{x j pos}:PE X (.Constant (.str x) j pos) (tC (.str x)):=λ_ _ _ H _ I h=>Calls.Constant_str #[.str x,H,I.tok _,#[_,rfl],h]
def Gl(X:Cx)(x:Str):Prop:=X.env.kindOf x=some .globalImplicit
def Wa{B:List (Addr×Obj)}(I:Inv X B Z H s)(hg:Gl X x)(hm:X.mg x=some u)(h:Q u s)
  (hd:(x==("__debug__":Str))=false:=by decide):wpAny (model X.prog X.w) X.A (eval (.Name x pos) X.env) Q E s:=
 Calls.Name_function_global I.ok.kind hg (Calls.loadGlobal_global (by rw[I.ok.glob];exact I.mod.glob.keeps I.bk) hm h) hd
def pO{B:List (Addr×Obj)}(I:Inv X B Z H s)(hg:Gl X x)(hm:X.mg x=none)(hv:bootBuiltins x=some u)(h:Q u s)
  (hn:x≠ "__name__":=by decide) (hd:(x==("__debug__":Str))=false:=by decide):wpAny (model X.prog X.w) X.A (eval (.Name x pos) X.env) Q E s:=by
 obtain⟨U,h1,h2⟩:=I.mod.blt;exact Calls.Name_function_global I.ok.kind hg (Calls.loadGlobal_builtin (by rw[I.ok.glob];exact I.mod.glob.keeps I.bk) hm (by rw[I.ok.blt];exact h1.keeps I.bk) ((h2 x hn).trans hv) h) hd
def pe_glob(hg:Gl X x)(hm:X.mg x=some u)(r:fU v u)(hd:(x==("__debug__":Str))=false:=by decide):PE X (.Name x pos) (tC v):=
 λ_ _ _ H _ I h=>Wa I hg hm #[v,H,I,r,h] hd
def sD(hg:Gl X x)(hm:X.mg x=none)(hv:bootBuiltins x=some u)(r:fU v u)(hn:x≠ "__name__":=by decide)(hd:(x==("__debug__":Str))=false:=by decide):PE X (.Name x pos) (tC v):=
 λ_ _ _ H _ I h=>pO I hg hm hv #[v,H,I,r,h] hn hd
variable{a b:Expr}{ta tb:TE}{pos:Pos}
def PC(X:Cx)(f:CmpOp)(a b:Expr)(t:TE):Prop:=
 ∀(B:List (Addr×Obj))(s:Shared)(Z:St)(H:Hp)(Q:VK),Inv X B Z H s->t Z H Q->
  wpAny (model X.prog X.w) X.A (eval a X.env) (λv J=>wpAny (model X.prog X.w) X.A (eval b X.env) (λu g=>wpAny (model X.prog X.w) X.A (compareOp f v u) (EP X B Z Q) X.xe g) X.xe J) X.xe s
def tB(t:TE):TT:=λZ H Q=>t Z H λx U=>∃c,x=.bl c/\Q c U
def pt_cmp{t:TE}(h:PC X f a b t)(h1:behindInMarks f b=false:=by first |exact nobehind _ (by decide) (by decide)|rfl):PT X (.Compare a [f] [b] pos) (tB t):=by
 intro B s Z H Q I hw;refine wpAny_isTrue_Compare1 (thn (h B s Z H _ I hw) λv M h1=>thn h1 λu P h2=>thn h2 λc N#[x,U,O,e,q1]=>?_) h1;obtain⟨d,rfl,q⟩:=q1;cases e;exact wpAny_truthy_bool #[U,O,q]
def mP{t:TE}(h:PE X e t)(l:∀f,isTrue e X.env f=(do let v ←f;standAt e.pos;holding [v] (truthy v)):=by intro _;rfl):PT X e (tB t):=by
 intro B s Z H Q I hw;refine isTrue_plain (thE (h B s Z H _ I hw) λv M x U O c q1=>?_) (l _);obtain⟨d,rfl,q⟩:=q1;cases c;exact wpAny_truthy_bool #[U,O,q]
variable{tA tB':TT}{rest:List Expr}
def Ih(t u:TT):TT:=λZ H Q=>t Z H λc U=>if c=true then u Z U Q else Q false U
def tOr(t u:TT):TT:=λZ H Q=>t Z H λc U=>if c=true then Q true U else u Z U Q
def zC(t:TT):TT:=λZ H Q=>t Z H λc U=>Q (!c) U
def Fk(ha:PT X a tA):PW X (.BoolOp .And [a] pos) tA:=by
 intro d B s Z H Q I h;refine isTrue_and (thn (ha B s Z H Q I h) λc M e=>?_);cases c with
 |true=>exact isTrue_and_nil e
 |false=>exact e
def pM(ha:PT X a tA):PW X (.BoolOp .Or [a] pos) tA:=by
 intro d B s Z H Q I h;refine isTrue_or (thn (ha B s Z H Q I h) λc M e=>?_);cases c with
 |false=>exact isTrue_or_nil e
 |true=>exact e
def Nc(ha:PT X a tA)(hb:PW X (.BoolOp .And (b::rest) pos) tB'):PW X (.BoolOp .And (a::b::rest) pos) (Ih tA tB'):=by
 intro d B s Z H Q I h;refine isTrue_and (thT (ha B s Z H _ I h) λc M U O q1=>?_);cases c with
 |true=>exact hb d B M Z U Q O q1
 |false=>exact#[U,O,q1]
def qU(ha:PT X a tA)(hb:PW X (.BoolOp .Or (b::rest) pos) tB'):PW X (.BoolOp .Or (a::b::rest) pos) (tOr tA tB'):=by
 intro d B s Z H Q I h;refine isTrue_or (thT (ha B s Z H _ I h) λc M U O q1=>?_);cases c with
 |true=>exact#[U,O,q1]
 |false=>exact hb d B M Z U Q O q1
def qX(ha:PT X a tA):PT X (.UnaryOp .Not a pos) (zC tA):=by
 intro B s Z H Q I h;exact isTrue_not (ha B s Z H (λc U=>Q (!c) U) I h)
def xR(ta tb:TE):TE:=λZ H Q=>ta Z H λx U=>∃c,x=.bl c/\if c=true then tb Z U Q else Q (.bl false) U
def tOrV(ta tb:TE):TE:=λZ H Q=>ta Z H λx U=>∃c,x=.bl c/\if c=true then Q (.bl true) U else tb Z U Q
def Fe(ta:TE):TE:=λZ H Q=>ta Z H λx U=>∃c,x=.bl c/\Q (.bl (!c)) U
def Uw{op}{t:TE}(h:PE X a t):PE X (.BoolOp op [a] pos) t:=λB s Z H Q I hw=>BoolOp_one (h B s Z H Q I hw)
def Ux(ha:PE X a ta)(hb:PE X (.BoolOp .And (b::rest) pos) tb):PE X (.BoolOp .And (a::b::rest) pos) (xR ta tb):=by
 intro B s Z H Q I h;refine BoolOp_and (thE (ha B s Z H _ I h) λv M x U O d q1=>?_);obtain⟨c,rfl,q1⟩:=q1;cases d;refine wpAny_truthy_bool ?_;cases c with
 |true=>exact hb B M Z U Q O q1
 |false=>exact#[.bl false,U,O,rfl,q1]
def pe_not(ha:PE X a ta):PE X (.UnaryOp .Not a pos) (Fe ta):=by
 intro B s Z H Q I h;refine UnaryOp_ (thE (ha B s Z H _ I h) λv M x U O d q1=>?_);obtain⟨c,rfl,q1⟩:=q1;cases d;exact not_of (wpAny_truthy_bool #[.bl (!c),U,O,rfl,q1])
def tIf(t:TT)(ta tb:TE):TE:=λZ H Q=>t Z H λc U=>if c=true then ta Z U Q else tb Z U Q
def Of(hc:PT X c tA)(ha:PE X a ta)(hb:PE X b tb):PE X (.IfExp c a b pos) (tIf tA ta tb):=by
 intro B s Z H Q I h;refine wpAny_IfExp (thT (hc B s Z H _ I h) λd M U O q1=>?_);cases d with
 |true=>exact ha B M Z U Q O q1
 |false=>exact hb B M Z U Q O q1
end
def SqL(K:aQ)(H:Hp)(a:Addr)(xs:List V):Prop:=
 Rd H a (.lst xs)∨
  ∃(o:Obj)(G:Array Value)(n:Nat),K.lookup a=some o/\o.cls=.type "list"/\o.dict=none/\o.data=.seq G n/\G.size<=sizeLine/\fL xs G.toList
def SqT(K:aQ)(H:Hp)(a:Addr)(xs:List V):Prop:=
 Rd H a (.tup xs)∨
  ∃(o:Obj)(G:Array Value)(n:Nat),K.lookup a=some o/\o.cls=.type "tuple"/\o.data=.seq G n/\G.size<=sizeLine/\fL xs G.toList
noncomputable def absV:Value->Option V
 | .none=>some .non
 | .bool b=>some (.bl b)
 | .int i _=>some (.int i)
 | .str x _=>some (.str x)
 | .bytes b _=>some (.byt b)
 | .float b _=>some (.flt b)
 | .ref a=>some (.ref a)
 | .type n=>some (.ty n)
 |_=>none
def fU.abs{x:V}(r:fU x u):absV u=some x:=by
 cases x with
 |non=>cases r;rfl
 |bl _=>cases r;rfl
 |int _=>obtain⟨t,rfl⟩:=r;rfl
 |str _=>obtain⟨t,rfl⟩:=r;rfl
 |byt _=>obtain⟨t,rfl⟩:=r;rfl
 |flt _=>obtain⟨t,rfl⟩:=r;rfl
 |ref _=>cases r;rfl
 |ty _=>cases r;rfl
def fU.inj{x y:V}{u:Value}(r:fU x u)(q:fU y u):x=y:=aW (r.abs.symm.trans q.abs)
def fL.inj:∀{xs ys:List V}{us:List Value},fL xs us->fL ys us->xs=ys
 |_,_,_,.nil,.nil=>rfl
 |_,_,_,.cons r t,.cons r' t'=>by rw[r.inj r',fL.inj t t']
section
variable{X:Cx}{pins:List (Addr×Obj)}{σ:St}{H:Hp}{s:Shared}{a:Addr}{xs ys:List V}
def SqL.of(h:H a=some (.lst xs)):SqL K H a xs:=.inl (.inl h)
def SqT.of(h:H a=some (.tup xs)):SqT K H a xs:=.inl (.inl h)
def Inv.list(I:Inv X pins σ H s)(h:SqL X.K H a xs):∃G:List Value,fL xs G/\PlainL s.heap a G.toArray/\xs.length<=sizeLine:=by
 rcases h with h |⟨o,G,n,hk,hc,hd,hs,hz,r⟩
 .obtain⟨z,G,n,r,e⟩:=h.ok I.hok;exact#[G,r,#[_,n,e,rfl,rfl,rfl],z]
 .refine#[G.toList,r,#[o,n,I.kIn a o hk,hc,hd,by simpa using hs],?_];have e:=r.length;simp only[Array.length_toList]at e;lia
def Inv.tuple(I:Inv X pins σ H s)(h:SqT X.K H a xs):∃G:List Value,fL xs G/\IsTup s.heap a G.toArray/\xs.length<=sizeLine:=by
 rcases h with h |⟨o,G,n,hk,hc,hs,hz,r⟩
 .obtain⟨z,G,r,p⟩:=h.ok I.hok;exact#[G,r,p,z]
 .refine#[G.toList,r,#[o,I.kIn a o hk,hc,n,by simpa using hs],?_];have e:=r.length;simp only[Array.length_toList]at e;lia
def Inv.list_inj(I:Inv X pins σ H s)(h:SqL X.K H a xs)(h':SqL X.K H a ys):xs=ys:=by
 obtain⟨G,r,⟨o,n,e,_,_,d⟩,_⟩:=I.list h;obtain⟨b,P,⟨O,g,M,_,_,t⟩,_⟩:=I.list h';rw[e]at M;cases M;rw[d]at t;injection t with d1 _;have:G=b:=by simpa using congrArg Array.toList d1
 subst this;exact r.inj P
end
noncomputable abbrev Cx.wish(X:Cx)(E:Value->Shared->Prop):Cx:={ X with xe:=E }
noncomputable abbrev Cx.nox(X:Cx):Cx:=X.wish λ_ _=>False
def Cx.Ok.wish(ok:X.Ok)(E:Value->Shared->Prop):(X.wish E).Ok:=
 #[ok.mod,ok.kind,ok.glob,ok.blt,ok.above,ok.inj,ok.has,ok.cab,ok.hd,ok.frames,ok.stk,ok.exf,ok.bs,ok.bsz,ok.noex,ok.exfs,ok.funs,ok.frf]
theorem Cx.Ok.unwish(ok:(X.wish E).Ok):X.Ok:=
 #[ok.mod,ok.kind,ok.glob,ok.blt,ok.above,ok.inj,ok.has,ok.cab,ok.hd,ok.frames,ok.stk,ok.exf,ok.bs,ok.bsz,ok.noex,ok.exfs,ok.funs,ok.frf]
section
variable{X:Cx}{pins:List (Addr×Obj)}{σ:St}{H:Hp}{s:Shared}{E:Value->Shared->Prop}
def Inv.wish(I:Inv X pins σ H s)(E:Value->Shared->Prop):Inv (X.wish E) pins σ H s:=#[I.ok.wish E,I.os,I.bare,I.base,I.loc,I.cell,I.free,I.freeC,I.pin,I.hok,I.len]
def Inv.unwish(I:Inv (X.wish E) pins σ H s):Inv X pins σ H s:=#[I.ok.unwish,I.os,I.bare,I.base,I.loc,I.cell,I.free,I.freeC,I.pin,I.hok,I.len]
def SP.unwish{D:vH}{f:Flow}{R:Shared}(h:SP (X.wish E) pins D f R):SP X pins D f R:=by
 cases f with
 |next=>obtain⟨F,O,I,q⟩:=h;exact#[F,O,I.unwish,q]
 |brk=>obtain⟨F,O,I,q⟩:=h;exact#[F,O,I.unwish,q]
 |cont=>obtain⟨F,O,I,q⟩:=h;exact#[F,O,I.unwish,q]
 |ret u=>obtain⟨v,F,O,I,r,q⟩:=h;exact#[v,F,O,I.unwish,r,q]
def PSs.nox{st:List Stmt}{t:TS}(h:PSs X.nox st t):PSs X st t:=λpins s σ H D I hw=>
 wpAny_mono (h pins s σ H D (I.wish _) hw) (λ_ _ q=>q.unwish) λ_ _ z=>False.elim z
end
section
variable{X:Cx}{st:Stmt}{rest:List Stmt}{t u:TS}{e:Expr}{te:TE}{pos:Pos}
def eA:TS:=λD Z H=>D.nx Z H
def cE(t u:TS):TS:=λD Z H=>t { D with nx:=u D } Z H
def dO:PSs X [] eA:=λ_ _ Z H _ I h=>wpAny_execs_nil #[Z,H,I,h]
def aR(h1:PS X st t)(h2:PSs X rest u):PSs X (st::rest) (cE t u):=by
 intro B s Z H D I h;refine wpAny_execs_cons (thn (h1 B s Z H { D with nx:=u D } I h) λf M q=>?_);cases f with
 |next=>
  obtain⟨F,O,c,q⟩:=q;exact h2 B M F O D c q
 |ret v=>exact q
 |brk=>exact q
 |cont=>exact q
def aY(h1:PS X st t):PSs X [st] t:=by
 intro B s Z H D I h;refine wpAny_execs_cons (thn (h1 B s Z H D I h) λf M q=>?_);cases f with
 |next=>exact wpAny_execs_nil q
 |ret v=>exact q
 |brk=>exact q
 |cont=>exact q
def Inv.quiet{B:List (Addr×Obj)}(I:Inv X B Z H s):interactive X.env=false:=by simp [interactive,I.ok.kind]
def mE(te:TE):TS:=λD Z H=>te Z H λ_ U=>D.nx Z U
def oQ(l:PE X e te)(hs:swapsWith e none pos.line X.env=pure false:=by rfl):PS X (.Expr e pos) (mE te):=by
 intro B s Z H D I h;exact wpAny_Expr_any (thE (l B s Z H _ I h) λv M x U O d q1=>#[Z,U,O,q1]) I.quiet hs
def cT(te:TE):TS:=λD Z H=>te Z H D.rt
def cF(l:PE X e te):PS X (.Return (some e) pos) (cT te):=by
 intro B s Z H D I h;exact wpAny_Return_some (thE (l B s Z H _ I h) λv M x U O d q1=>#[x,Z,U,O,d,q1])
def fX(c:TT)(t u:TS):TS:=λD Z H=>c Z H λb U=>if b=true then t D Z U else u D Z U
def fH{a b:List Stmt}{m:TT}(hc:PT X c m)(ha:PSs X a t)(hb:PSs X b u):PS X (.If c a b pos) (fX m t u):=by
 intro B s Z H D I h;refine wpAny_If (thT (hc B s Z H _ I h) λd M U O q1=>?_);cases d with
 |true=>exact ha B M Z U D O q1
 |false=>exact hb B M Z U D O q1
def jN:TS:=λ_ _ _=>False
def nG:PS X st jN:=λ_ _ _ _ _ _ h=>h.elim
def jWf{a:List Stmt}:PSs X a jN:=λ_ _ _ _ _ _ h=>h.elim
end
noncomputable abbrev TG:=V->St->Hp->(St->Hp->Prop)->Prop
noncomputable abbrev TGs:=List V->St->Hp->(St->Hp->Prop)->Prop
def PG(X:Cx)(a:Expr)(t:TG):Prop:=
 ∀(B:List (Addr×Obj))(s:Shared)(Z:St)(H:Hp)(v:V)(u:Value)(Q:St->Hp->Prop),Inv X B Z H s->fU v u->t v Z H Q->
  wpAny (model X.prog X.w) X.A (assign a X.env u) (λ_ R=>∃F O,Inv X B F O R/\Q F O) X.xe s
def PGs(X:Cx)(a:List Expr)(t:TGs):Prop:=
 ∀(B:List (Addr×Obj))(s:Shared)(Z:St)(H:Hp)(vs:List V)(us:List Value)(Q:St->Hp->Prop),Inv X B Z H s->fL vs us->t vs Z H Q->
  wpAny (model X.prog X.w) X.A (assignInOrder ((assignEach a X.env).map (·.2)) us) (λ_ R=>∃F O,Inv X B F O R/\Q F O) X.xe s
noncomputable abbrev TSet:=V->V->V->Hp->(Hp->Prop)->Prop
def PSet(X:Cx)(t:TSet):Prop:=
 ∀(B:List (Addr×Obj))(s:Shared)(Z:St)(H:Hp)(o i v:V)(J f u:Value)(Q:Hp->Prop),Inv X B Z H s->fU o J->fU i f->fU v u->t o i v H Q->
  wpAny (model X.prog X.w) X.A (setItem J f u) (λ_ R=>∃O,Inv X B Z O R/\Q O) X.xe s
section
variable{X:Cx}{pos:Pos}
def bA(i:Nat):TG:=λv Z H Q=>Q (Z.set i (some v)) H
def jX0(K:X.N.Nodup)(hi:X.N[i]?=some x)(hx:Loc X.env.scope x)(hf:X.fn x=true∨X.env.scope.names.lookup x=some .local:=by first |exact .inl rfl |exact .inr rfl |assumption):PG X (.Name x pos) (bA i):=by
 intro B s Z H v u Q I r h;exact wpAny_assign_Name (Fv I K hi hx r (λR c=>#[_,H,c,h]) hf)
def jW:TGs:=λvs Z H Q=>vs=[]/\Q Z H
def eL(t:TG)(u:TGs):TGs:=λvs Z H Q=>∃v r,vs=v::r/\t v Z H λF O=>u r F O Q
def Vs:PGs X [] jW:=by
 rintro B s Z H j k Q I r ⟨e,h⟩;subst e;cases r;exact assignInOrder_nil #[Z,H,I,h]
def tX{es:List Expr}{t:TG}{u:TGs}(h1:PG X e t)(h2:PGs X es u)
  (hs:(assignEach (e::es) X.env).map (·.2)=assign e X.env::(assignEach es X.env).map (·.2):=by rfl):PGs X (e::es) (eL t u):=by
 rintro B s Z H j k Q I r ⟨v,a,e1,h⟩;subst e1;cases r with
 |cons r rr=>
  rw[hs];refine assignInOrder_cons (thn (h1 B s Z H _ _ _ I r h) λ_ M#[g,U,O,q1]=>?_);exact h2 B M g U _ _ Q O rr q1
def jV(K:aQ)(n:Nat)(t:TGs):TG:=λv Z H Q=>∃a xs,v=.ref a/\SqT K H a xs/\xs.length=n/\t xs Z H Q
def jJt{es:List Expr}{t:TGs}{n:Nat}(hc:X.calm=true)(h:PGs X es t)
  (hn:(assignEach es X.env).length=n:=by rfl) (d:(assignEach es X.env).findIdx? (·.1)=none:=by rfl):PG X (.Tuple es k pos) (jV X.K n t):=by
 rintro B s Z H v u Q I r ⟨a,F,e1,T,S,hw⟩;subst e1;cases r;obtain⟨G,D,y,hz⟩:=I.tuple T;refine assign_Tuple_tuple (I.ok.hd hc) y (by simp [hn,←S,D.length]) d λY hx=>?_;have O:Inv X B Z H { s with heap:=Y }:=I.kept (t':=s.toks) λb o e=>hx b o (bR (bH e)) e;exact h B _ Z H F _ Q O (by simpa using D) hw
def Dm(c ti:TE)(t:TSet):TG:=λv Z H Q=>c Z H λo U=>ti Z U λi j=>t o i v j λY=>Q Z Y
def Du{o i:Expr}{c ti:TE}{t:TSet}(D:PE X o c)(hi:PE X i ti)(hs:PSet X t)
  (ha:∀v,assign (.Subscript o i pos) X.env v=(do
   let J ←holding [v] (eval o X.env);let f ←holding [v,J] (eval i X.env)
   standAt pos
   holding [v,J,f] (setItem J f v)
   release [v,J,f] []):=by intro _;rfl):PG X (.Subscript o i pos) (Dm c ti t):=by
 intro B s Z H v u Q I r h;rw[ha];refine aC (wpAny_holding (thE (D B s Z H _ I h) λJ M x U O d q1=>?_));refine aC (wpAny_holding (thE (hi B M Z U _ O q1) λf P y j a b p=>?_));refine aC (wpAny_standAt (aC (wpAny_holding (thn (hs B P Z j x y v J f u _ a d b r p) λ_ N#[Y,z,q]=>?_))));exact wpAny_release #[Z,Y,z,q]
def cS(o:TE)(g:TG):TS:=λD Z H=>o Z H λx U=>g x Z U D.nx
def vJ{r:Expr}{o:TE}(l:PE X e o)(hg:PG X r g)(hs:swapsWithSole [r] e pos.line X.env=pure false:=by rfl)(hw:swappedStores [r] e X.env=pure none:=by rfl)
  (h1:(assignEach [r] X.env).map (·.2)=[assign r X.env]:=by rfl):PS X (.Assign [r] e pos) (cS o g):=by
 intro B s Z H D I h;refine wpAny_Assign_stores (thE (l B s Z H _ I h) λv M x U O d q1=>?_) hs hw;rw[h1];exact thn (hg B M Z U x v _ O d q1) λ_ P q=>q
def ps_set{o:TE}{a:Pos}(K:X.N.Nodup)(hi:X.N[i]?=some x)(hx:Loc X.env.scope x)(l:PE X e o)(hs:swapsWith e (some (.Name x a)) pos.line X.env=pure false:=by rfl)(hf:X.fn x=true∨X.env.scope.names.lookup x=some .local:=by first |exact .inl rfl |exact .inr rfl |assumption):
  PS X (.Assign [.Name x a] e pos) (cS o (bA i)):=by
 intro B s Z H D I h;refine wpAny_Assign_Name (thE (l B s Z H _ I h) λv M y U O d q1=>?_) hs;exact Fv O K hi hx d (λP t=>#[_,U,t,q1]) hf
def Xf(i j:Nat)(c:TA):TS:=λD Z H=>c Z H λvs U=>∃v w,vs=[v,w]/\D.nx ((Z.set i (some v)).set j (some w)) U
def ps_par{y:Str}{a b:Expr}{c:TA}{n r pt:Pos}{kt k2 pt2}(hc:X.calm=true)(K:X.N.Nodup)(hi:X.N[i]?=some x)(G:X.N[j]?=some y)(l:i≠j)
  (hx:X.env.scope.names.lookup x=some .local) (hy:X.env.scope.names.lookup y=some .local) (ha:PA X [a,b] c)
  (hw:swappedStores [.Tuple [.Name x n,.Name y r] kt pt] (.Tuple [a,b] k2 pt2) X.env=pure (some [x,y]))
  (hs:swapsWithSole [.Tuple [.Name x n,.Name y r] kt pt] (.Tuple [a,b] k2 pt2) pos.line X.env=pure false:=by rfl):
  PS X (.Assign [.Tuple [.Name x n,.Name y r] kt pt] (.Tuple [a,b] k2 pt2) pos) (Xf i j c):=by
 intro B s Z H D I h;rw[exec_Assign_arm];refine aC (wpAny_standAt ?_);rw[hs];refine aC (aS ?_);rw[aF (by decide)];refine aC (Tuple_ (thF (ha _ B s Z H _ I h) λk M Q U O d q1=>?_));obtain⟨v,w,e1,q1⟩:=q1;subst e1;obtain⟨F,u,rfl,J,C⟩:∃F u,k=[F,u]/\fU v F/\fU w u:=by
  cases d with
  |cons p q=>
   cases q with
   |cons p' q'=>
    cases q';exact#[_,_,rfl,p,p']
 refine wpAny_newObj_type ?_ (by show 2<=sizeLine;decide);have t:Inv X B Z U { M with heap:=M.heap.push { cls:=.type "tuple",data:=.seq [F,u].toArray } }:=O.kept (t':=M.toks) λb o e=>bE _ e;rw[hw];refine aC (aS ?_);show wpAny (model X.prog X.w) X.A (do rule "assign.swapped-stores";let g ←unpackItems (.ref M.heap.objs.size) 2 none;assignInOrder [λv=>bindName X.env y v,λv=>bindName X.env x v] g.reverse;pure Flow.next) _ _ _;refine aC (wpAny_rule (aC (unpackItems_tuple (items:=(List.toArray [F,u])) (I.ok.hd hc) (IsTup.new M.heap _) λY m=>?_)));have z:=t.kept (h':=Y) (t':=M.toks) λb o e=>m b o (bR (bH e)) e;show wpAny _ _ (assignInOrder [λv=>bindName X.env y v,λv=>bindName X.env x v] [u,F]>>=λ_=>pure Flow.next) _ _ _;refine aC (assignInOrder_cons (wpAny_bindName (Fv z K G (.inl hy) C (λP S=>?_) (.inr hy))));refine assignInOrder_cons (wpAny_bindName (Fv S K hi (.inl hx) J (λR f=>assignInOrder_nil (aS ?_)) (.inr hx)));rw[List.set_comm _ _ (Ne.symm l)]at f;exact#[_,U,f,q1]
end
section
variable{X:Cx}{pos:Pos}
def zO(c:TT)(tb:TS):TS:=λD Z H=>∃W:Nat->St->Hp->Prop,(∃m,W m Z H)/\∀m Z H,W m Z H->
 c Z H λb U=>if b=true then ∃N:St->Hp->Prop,(∀F O,N F O->∃k,k<m/\W k F O)/\tb { D with nx:=N,ct:=N,bk:=D.nx } Z U else D.nx Z U
def jVp{a:List Stmt}{m:TT}(hp:PassesOwn (model X.prog X.w) X.A X.env X.xe)(hc:PT X c m)(hb:PSs X a tb):PS X (.While c a [] pos) (zO m tb):=by
 rintro B s Z H D I ⟨W,⟨m0,d⟩,turn⟩;refine wpAny_While (codeAny_whileLoop (λn R=>∃F O,Inv X B F O R/\W n F O) ?_ m0 #[Z,H,I,d]);rintro n M ⟨g,U,i,x⟩;refine wpAny_passesOwn hp (thn (hc B M g U _ i (turn n g U x)) λb P#[j,t,p]=>?_);cases b with
 |true=>
  obtain⟨N,K,p⟩:=p;rw[aK rfl];refine wpAny_passesOwn hp (thn (hb B P g j _ t p) λf o q=>?_);cases f with
  |next=>
   obtain⟨l,Y,z,u⟩:=q;obtain⟨k,hm,e⟩:=K l Y u;exact#[k,hm,l,Y,z,e]
  |cont=>
   obtain⟨l,Y,z,u⟩:=q;obtain⟨k,hm,e⟩:=K l Y u;exact#[k,hm,l,Y,z,e]
  |brk=>exact q
  |ret v=>exact q
 |false=>
  rw[aF bT];exact wpAny_execs_nil #[g,j,t,p]
end
structure It where
 go:Nat->Hp->Prop
 yld:Nat->Hp->V->Hp->Prop
 stop:Nat->Hp->Prop
def Uq(X:Cx)(B:List (Addr×Obj))(H:Hp)(b:Addr):Prop:=
 H b=none/\b≠X.env.locals/\b∉X.fs/\(b∈X.ex∨X.s₀.heap.objs.size<=b)/\(∀x c,X.env.cells.lookup x=some c->c≠b)/\∀p∈X.pn++B,p.1≠b
def Inv.fpOk{B:List (Addr×Obj)}{O:Hp}{b:Addr}(I:Inv X B Z H s)(hb:s.heap.objs.size<=b)(hn:O b=none):Uq X B O b:=by
 refine#[hn,Nat.ne_of_gt (cL I.lt hb),I.nofs hb,.inr (cI I.sz hb),λx c e z=>?_,λp hp z=>?_]
 .obtain⟨v,q⟩:=I.cell x c e;exact absurd (cL q.lt (by rw[z];exact hb)) (fB _)
 .exact absurd (cL (bH (I.pin p hp).1) (by rw[z];exact hb)) (fB _)
structure Um(P:Program)(w:World)(K:aQ)(tg:Expr)(J:It)(fp:List Addr)(it:Addr)(tn:Nat->Heap->Prop):Prop where
 mem:it∈fp
 obj:∀i h,tn i h->∀b∈fp,∃o,h.get? b=some o/\∀v,o.data≠.cell v
 keep:∀i h h',tn i h->(∀b∈fp,∀o,h.get? b=some o->h'.get? b=some o)->tn i h'
 item:∀(X:Cx),X.prog=P->X.w=w->X.K=K->X.calm=true->∀(i:Nat)(pins:List (Addr×Obj))(s:Shared)(σ:St)(H:Hp)(E:Value->Shared->Prop),Inv X pins σ H s->(∀b∈fp,Uq X pins H b)->tn i s.heap->J.go i H->
  wpAny (model P w) X.A (pyNext (.ref it)) (λr s1=>∃u,r=some u/\
   wpAny (model P w) X.A (letOwnedTupleGo tg (.ref it) u) (λ_ s2=>∃x H',Inv X pins σ H' s2/\fU x u/\J.yld i H x H'/\tn (i+1) s2.heap/\∀b∈fp,H' b=none) E s1) E s
 done:∀(X:Cx),X.prog=P->X.w=w->X.K=K->X.calm=true->∀(i:Nat)(pins:List (Addr×Obj))(s:Shared)(σ:St)(H:Hp)(E:Value->Shared->Prop),Inv X pins σ H s->(∀b∈fp,Uq X pins H b)->tn i s.heap->J.stop i H->
  wpAny (model P w) X.A (pyNext (.ref it)) (λr s1=>r=none/\Inv X pins σ H s1) E s
 self:∀(A:Around)(i:Nat)(s:Shared)(Q:Value->Shared->Prop)(E:Value->Shared->Prop),tn i s.heap->Q (.ref it) s->wpAny (model P w) A (pyIter (.ref it)) Q E s
noncomputable abbrev TI:=St->Hp->(It->Hp->Prop)->Prop
def PIE(X:Cx)(B:List (Addr×Obj))(Z:St)(r:Expr)(R:It->Hp->Prop)(d:Value)(P:Shared):Prop:=
 ∃(U:Addr)(a:List Addr)(c:Nat->Heap->Prop)(J:It)(O:Hp),d=.ref U/\Inv X B Z O P/\Um X.prog X.w X.K r J a U c/\c 0 P.heap/\(∀b∈a,Uq X B O b)/\R J O
def PI(X:Cx)(r y:Expr)(q:TI):Prop:=
 ∀(B:List (Addr×Obj))(s:Shared)(Z:St)(H:Hp)(R:It->Hp->Prop),Inv X B Z H s->q Z H R->
  wpAny (model X.prog X.w) X.A (eval y X.env) (λv M=>wpAny (model X.prog X.w) X.A (pyIter v) (PIE X B Z r R) X.xe M) X.xe s
def go_of{r:Expr}{U:Addr}{o:Obj}{n:String}{vs:Array Value}{Q:Unit->Shared->Prop}(D:s.heap.get? U=some o)(hc:o.cls=.type n)(hd:o.data=.fields vs)
  (hn:["enumerate","zip","dict_itemiterator","dict_reverseitemiterator","odict_iterator","itertools.zip_longest","itertools.pairwise"].contains n=false) (H:Q () s):wpAny M A (letOwnedTupleGo r (.ref U) u) Q E s:=by
 unfold letOwnedTupleGo;cases r<;>first
  |exact aS H
  | (cases u<;>first
    |exact aS H
    | (refine aC (wpAny_load D ?_)
       rw[hc,hd];show wpAny M A (if(["enumerate","zip","dict_itemiterator","dict_reverseitemiterator","odict_iterator","itertools.zip_longest","itertools.pairwise"].contains n&&vs[0]?==some (rawInt _))=true then _ else _) Q E s;rw[aF (by intro h;rw[hn,Bool.false_and]at h;cases h)];exact aS H))
def Itl(K:aQ)(a:Addr):It:=
 #[λi H=>∃xs x,SqL K H a xs/\xs[i]?=some x,λi H x O=>O=H/\∀xs,SqL K H a xs->xs[i]?=some x,λi H=>∃xs,SqL K H a xs/\xs.length<=i]
def Itr(lo:Int)(n:Nat):It:=#[λi _=>i<n,λi H x O=>O=H/\x=.int (lo+i),λi _=>n<=i]
def jY5{w:World}{r:Expr}(a U:Addr):Um P w K r (Itl K a) [U] U (λi h=>h.IsListIter U a i) where
 mem:=by simp
 obj:=λi h st b hb=>by
  have e:b=U:=by simpa using hb
  subst e;obtain⟨o,e,c,d⟩:=st;exact#[o,e,λv z=>by rw[d]at z;cases z]
 keep:=λi h Y st k=>st.at λo e=>k U (by simp) o e
 item:=by
  intro X R hw A hc i B s Z H E I hf st hg;subst R hw A;obtain⟨F,x,T,hx⟩:=hg;obtain⟨G,D,p,hz⟩:=I.list T;obtain⟨u,hu,N⟩:=D.get hx;obtain⟨f0,m,g,y,Q,J⟩:=hf U (by simp);refine wpAny_pyNext_list_item st p.isList (x:=u) (by simpa using hu) λY f sb=>?_;have O:Inv X B Z H { s with heap:=Y }:=I.turned (t':=s.toks) (λb o hb e=>(sb.2 b hb).trans e) f0 m y Q J;obtain⟨o,e,c,d⟩:=id f;exact#[u,rfl,go_of (s:={ s with heap:=Y }) e c d (by decide) #[x,H,O,N,#[rfl,λj hy=>by rw[I.list_inj hy T];exact hx],f,λb hb=>(hf b hb).1]]
 done:=by
  intro X R hw A hc i B s Z H E I hf st hg;subst R hw A;obtain⟨F,T,hx⟩:=hg;obtain⟨G,D,p,hz⟩:=I.list T;obtain⟨f0,m,g,y,Q,J⟩:=hf U (by simp);have S:=D.length;exact wpAny_pyNext_list_end (I.ok.hd hc) st p.isList (by simp;lia) λY M=>#[rfl,I.turned (t':=s.toks) (λb o hb e=>M b o hb e) f0 m y Q J]
 self:=λ_ _ _ _ _ st h=>wpAny_pyIter_listiter st h
def jZZ{w:World}{r:Expr}(U:Addr)(lo:Int)(n:Nat):Um P w K r (Itr lo n) [U] U (λi h=>IsRangeIter h U (lo+(i:Nat)*1) ((n:Int)-(i:Nat)) 1) where
 mem:=by simp
 obj:=λi h st b hb=>by
  have e:b=U:=by simpa using hb
  subst e;exact#[_,st,λv z=>by
   have T:Data.fields _=Data.cell v:=z;cases T]
 keep:=λi h Y st k=>k U (by simp) _ st
 item:=by
  intro X R hw A hc i B s Z H E I hf st hg;subst R hw A;obtain⟨f0,m,F,y,Q,J⟩:=hf U (by simp);have W:=Walks.range (prog:=X.prog) (w:=X.w) (I.ok.hd hc) U lo 1 n;refine W.item i s _ _ hg st λv Y tk hv f a=>?_;obtain⟨t,rfl⟩:=hv;have O:Inv X B Z H { s with heap:=Y,toks:=tk }:=I.turned (λb o hb e=>a b o (by simpa using hb) e) f0 m y Q J;refine#[_,rfl,go_of (s:={ s with heap:=Y,toks:=tk }) (n:="range_iterator") f rfl rfl (by decide) #[.int (lo+i),H,O,#[t,?_],#[rfl,rfl],f,λb hb=>(hf b hb).1]];rw[fK]
 done:=by
  intro X R hw A hc i B s Z H E I hf st hg;subst R hw A;obtain⟨f0,m,F,y,Q,J⟩:=hf U (by simp);exact wpAny_pyNext_range_end (I.ok.hd hc) st (by have:n<=i:=hg;lia) λY M=>#[rfl,I.turned (t':=s.toks) (λb o hb e=>M b o hb e) f0 m y Q J]
 self:=λ_ _ _ _ _ st h=>wpAny_pyIter_rangeiter st h
section
variable{X:Cx}{tg:Expr}
def cU(K:aQ)(g:TE):TI:=λZ H R=>g Z H λx U=>exR x λa=>(∃xs,SqL K U a xs)/\R (Itl K a) U
def dN{l:Expr}{g:TE}(S:PE X l g):PI X tg l (cU X.K g):=by
 intro B s Z H R I h;refine thE (S B s Z H _ I h) λv M x U O d q1=>?_;obtain⟨a,e,⟨F,T⟩,q⟩:=Eq.mp iM q1;subst e;cases d;obtain⟨G,D,p,hz⟩:=O.list T;refine wpAny_pyIter_list p.isList ?_;refine#[M.heap.objs.size,[M.heap.objs.size],_,_,U,rfl,O.kept (t':=M.toks) λb o e=>bE _ e,jY5 a _,#[_,bX _ rfl,rfl,rfl],λb hb=>?_,q];have e:b=M.heap.objs.size:=by simpa using hb
 subst e;exact O.fpOk (aU _) (O.hok.fresh (aU _))
def jVn{B:List (Addr×Obj)}{R:It->Hp->Prop}{lo hi:Int}{t u v:Tok}{tk:Nat}(I:Inv X B Z H s)(h1:-(2^62)<=lo)(h2:lo<2^62)(a:-(2^62)<=hi)(c:hi<2^62)
  (q:R (Itr lo (hi-lo).toNat) H):wpAny (model X.prog X.w) X.A (pyIter (.ref s.heap.objs.size)) (PIE X B Z tg R) E { s with heap:=s.heap.push { cls:=.type "range",data:=.fields (List.toArray [.int lo t,.int hi u,.int 1 v]) },toks:=tk }:=by
 refine wpAny_pyIter_range (IsRange.new ..) (small_one h1 h2 a c) ?_;have O:Inv X B Z H { s with heap:=s.heap.push { cls:=.type "range",data:=.fields (List.toArray [.int lo t,.int hi u,.int 1 v]) },toks:=tk }:=I.kept λb o e=>bE _ e;refine#[(s.heap.push { cls:=.type "range",data:=.fields (List.toArray [.int lo t,.int hi u,.int 1 v]) }).objs.size,[(s.heap.push { cls:=.type "range",data:=.fields (List.toArray [.int lo t,.int hi u,.int 1 v]) }).objs.size],_,_,H,rfl,
  O.kept (t':=tk) λb o e=>bE _ e,jZZ _ lo (hi-lo).toNat,?_,λb hb=>?_,q]
 .have e1:lo+((0:Nat):Int)*1=lo:=by simp
  have C:(((hi-lo).toNat:Nat):Int)-((0:Nat):Int)=Builtin.Range.rangeSize lo hi 1:=by rw[rangeSize_one];split<;>lia
  show IsRangeIter _ _ (lo+((0:Nat):Int)*1) ((((hi-lo).toNat:Nat):Int)-((0:Nat):Int)) 1;rw[e1,C];exact bX _ rfl
 .have e:b=(s.heap.push { cls:=.type "range",data:=.fields (List.toArray [.int lo t,.int hi u,.int 1 v]) }).objs.size:=by simpa using hb
  subst e;exact O.fpOk (aU _) (O.hok.fresh (aU _))
def iE(c:TA):TI:=λZ H R=>c Z H λvs U=>∃j:Int,vs=[.int j]/\-(2^62)<=j/\j<2^62/\R (Itr 0 j.toNat) U
def gU{a:Expr}{c:TA}{p:Pos}(hg:Gl X "range")(hm:X.mg "range"=none)(ha:PA X [a] c)(hs:starEach [a] X.env=[(false,eval a X.env)]:=by rfl):PI X tg (.Call (.Name "range" p) [a] [] pos) (iE c):=by
 intro B s Z H R I h;refine Call_ (pO I hg hm boot_range (dQ (thF (ha pos B s Z H _ I h) λk M f U O d q1=>?_) hs rfl));obtain⟨j,e,q1,b,q⟩:=q1;subst e;cases d with
 |cons r rr=>
  cases rr;obtain⟨t,rfl⟩:=r;exact call_range_1 (jVn O #[] #[] q1 b (by simpa using q))
def gD(q:TI)(g:TG)(tb:TS):TS:=λD Z H=>q Z H λJ U=>∃W:Nat->Nat->St->Hp->Prop,(∃m,W 0 m Z U)/\∀i m Z H,W i m Z H->
 (J.stop i H/\D.nx Z H)∨(J.go i H/\∃N:St->Hp->Prop,(∀F O,N F O->∃k,k<m/\W (i+1) k F O)/\∀x O,J.yld i H x O->g x Z O λc j=>tb { D with nx:=N,ct:=N,bk:=D.nx } c j)
noncomputable def Uv(a:List Addr)(h:Heap):List (Addr×Obj):=a.filterMap λb=>(h.get? b).map λo=>(b,o)
def oC{a:List Addr}{b:Addr}{o:Obj}(hb:b∈a)(e:h.get? b=some o):(b,o)∈Uv a h:=List.mem_filterMap.mpr #[b,hb,by rw[e];rfl]
def jWr{a:List Addr}{p:Addr×Obj}(hp:p∈Uv a h):p.1∈a/\h.get? p.1=some p.2:=by
 obtain⟨b,hb,e⟩:=List.mem_filterMap.mp hp;cases q:h.get? b with
 |none=>rw[q]at e;cases e
 |some o=>
  rw[q]at e;have M:(b,o)=p:=aW e;subst M;exact#[hb,q]
def Inv.pinned{B:List (Addr×Obj)}{a:List Addr}(I:Inv X B Z H s)(hf:∀b∈a,Uq X B H b)(D:∀b∈a,∃o,s.heap.get? b=some o/\∀v,o.data≠.cell v):Inv X (B++Uv a s.heap) Z H s:=
 I.pins_of λp hp=>(dD.mp hp).elim (λz=>I.pin p (dI _ z)) λz=>by
  obtain⟨hb,e⟩:=jWr z;obtain⟨f0,m,F,_⟩:=hf p.1 hb;obtain⟨o,M,d⟩:=D p.1 hb;rw[e]at M;cases M;exact#[e,f0,m,F,d]
def Inv.unpinned{B pl:List (Addr×Obj)}(I:Inv X (B++pl) Z H s):Inv X B Z H s:=I.pins_of λp hp=>I.pin p (dI _ (iF _ hp))
def ps_for{y:Expr}{a2:List Stmt}{q:TI}(hp:PassesOwn (model X.prog X.w) X.A X.env X.xe)(hc:X.calm=true)(hi:PI X tg y q)(hg:PG X tg g)(hb:PSs X a2 tb)
  (hs:∀x,foldedSetIterable y X.env x=pure x:=by intro _;rfl):PS X (.For tg y a2 [] pos) (gD q g tb):=by
 intro B s Z H D I h;refine wpAny_For (thn (hi B s Z H _ I h) λv M h1=>thn h1 λa9 P h2=>?_) hs;obtain⟨U,a,tn,J,j,e,t,T,a5,f2,W,⟨m0,w0⟩,turn⟩:=h2;subst e
 --what stays true of the iterator's objects through the loop
 have a0:∀{O:Hp},(∀b∈a,O b=none)->∀b∈a,Uq X B O b:=λhn b hb=>#[hn b hb,(f2 b hb).2];refine codeAny_forLoop_any (λn R=>∃i F O,Inv X B F O R/\tn i R.heap/\(∀b∈a,O b=none)/\W i n F O) ?_ m0 #[0,Z,j,t,a5,λb hb=>(f2 b hb).1,w0];rintro n s3 ⟨i,l,Y,z,a3,a4,w3⟩;rcases turn i n l Y w3 with⟨stop,qn⟩|⟨go,N,K,step⟩
 .refine wpAny_passesOwn hp (thn (T.done X rfl rfl rfl hc i B s3 l Y X.xe z (a0 a4) a3 stop) λr G#[hr,S]=>?_);subst hr;exact wpAny_execs_nil #[l,Y,S,qn]
 .refine wpAny_passesOwn hp (thn (T.item X rfl rfl rfl hc i B s3 l Y X.xe z (a0 a4) a3 go) λr G#[u,hr,h4]=>?_);subst hr;refine wpAny_passesOwn hp (thn h4 λ_ s5#[x,H5,I5,r5,y5,p,a6]=>?_);have a7:=I5.pinned (a0 a6) (T.obj _ _ p);refine wpAny_passesOwn hp (thn (hg _ s5 l H5 x u _ a7 r5 (step x H5 y5)) λ_ s6#[a8,H6,I6,q6]=>?_);refine wpAny_passesOwn hp (thn (hb _ s6 a8 H6 _ I6 q6) λf s7 q7=>?_);have a1:∀{c:St}{C:Hp},Inv X (B++Uv a s5.heap) c C s7->N c C->∃m,m<n/\∃i F O,Inv X B F O s7/\tn i s7.heap/\(∀b∈a,O b=none)/\W i m F O:=fun{c C} Q n7=>by
   obtain⟨k,hm,w7⟩:=K c C n7;refine#[k,hm,i+1,c,C,Q.unpinned,T.keep _ _ _ p λb hb o e=>(Q.pin (b,o) (dI _ (dI _ (oC hb e)))).1,λb hb=>?_,w7];obtain⟨o,e,d⟩:=T.obj _ _ p b hb;exact(Q.pin (b,o) (dI _ (dI _ (oC hb e)))).2.1
  cases f with
  |next=>obtain⟨c,C,Q,n7⟩:=q7;exact a1 Q n7
  |cont=>obtain⟨c,C,Q,n7⟩:=q7;exact a1 Q n7
  |brk=>obtain⟨c,C,Q,q7⟩:=q7;exact#[c,C,Q.unpinned,q7]
  |ret v=>obtain⟨x7,c,C,Q,r7,q7⟩:=q7;exact#[x7,c,C,Q.unpinned,r7,q7]
end
def iA{D:vH}(d:Nat->St->Hp->Prop)(h0:d 0 Z H)(S:∀i Z H,i<=xs.length->d i Z H->SqL K H a xs)
  (hs:∀i x Z H,xs[i]?=some x->d i Z H->g x Z H λc j=>tb { D with nx:=d (i+1),ct:=d (i+1),bk:=D.nx } c j) (hd:∀Z H,d xs.length Z H->D.nx Z H):
  ∃W:Nat->Nat->St->Hp->Prop,(∃m,W 0 m Z H)/\∀i m Z H,W i m Z H->
   ((Itl K a).stop i H/\D.nx Z H)∨((Itl K a).go i H/\∃N:St->Hp->Prop,(∀F O,N F O->∃k,k<m/\W (i+1) k F O)/\∀x O,(Itl K a).yld i H x O->g x Z O λc j=>tb { D with nx:=N,ct:=N,bk:=D.nx } c j):=by
 refine#[λi m Z H=>m=xs.length-i/\i<=xs.length/\d i Z H,#[xs.length,by simp,eC _,h0],?_];rintro i m Z H ⟨rfl,hi,p⟩;have q:=S i Z H hi p;by_cases f:i<xs.length
 .refine .inr #[#[xs,xs[i],q,by simp [f]],d (i+1),λF O o=>#[xs.length-(i+1),#[],rfl,f,o],λx O y=>?_];obtain⟨e,y⟩:=y;subst e;exact hs i x Z _ (y xs q) p
 .have e:i=xs.length:=#[];subst e;exact .inl #[#[xs,q,aU _],hd Z H p]
def qR{lo:Int}{n:Nat}{D:vH}(d:Nat->St->Hp->Prop)(h0:d 0 Z H)
  (hs:∀i Z H,i<n->d i Z H->g (.int (lo+i)) Z H λc j=>tb { D with nx:=d (i+1),ct:=d (i+1),bk:=D.nx } c j) (hd:∀Z H,d n Z H->D.nx Z H):
  ∃W:Nat->Nat->St->Hp->Prop,(∃m,W 0 m Z H)/\∀i m Z H,W i m Z H->
   ((Itr lo n).stop i H/\D.nx Z H)∨((Itr lo n).go i H/\∃N:St->Hp->Prop,(∀F O,N F O->∃k,k<m/\W (i+1) k F O)/\∀x O,(Itr lo n).yld i H x O->g x Z O λc j=>tb { D with nx:=N,ct:=N,bk:=D.nx } c j):=by
 refine#[λi m Z H=>m=n-i/\i<=n/\d i Z H,#[n,by simp,eC _,h0],?_];rintro i m Z H ⟨rfl,hi,p⟩;by_cases f:i<n
 .refine .inr #[f,d (i+1),λF O o=>#[n-(i+1),#[],rfl,f,o],λx O y=>?_];obtain⟨e,y⟩:=y;subst e y;exact hs i Z _ f p
 .have e:i=n:=#[];subst e;exact .inl #[aU _,hd Z H p]
def Nl{c:TT}{D:vH}(d:St->Hp->Prop)(a:St->Hp->Nat)(h0:d Z H)
  (hs:∀Z H,d Z H->c Z H λb U=>if b=true then tb { D with nx:=λF O=>d F O/\a F O<a Z H,ct:=λF O=>d F O/\a F O<a Z H,bk:=D.nx } Z U else D.nx Z U)
  (mono:∀Z H Q f,(∀b U,Q b U->f b U)->c Z H Q->c Z H f):zO c tb D Z H:=by
 refine#[λm Z H=>m=a Z H/\d Z H,#[_,rfl,h0],?_];rintro m Z H ⟨rfl,p⟩;refine mono Z H _ _ (λb U q=>?_) (hs Z H p);cases b with
 |true=>exact#[_,λF O#[o,l]=>#[_,l,rfl,o],q]
 |false=>exact q
noncomputable abbrev R2:=V->V->Hp->VK->Prop
def OpR(X:Cx)(f:Value->Value->Sem Value)(r:R2):Prop:=
 ∀(B:List (Addr×Obj))(s:Shared)(Z:St)(H:Hp)(x y:V)(v u:Value)(Q:VK),Inv X B Z H s->fU x v->fU y u->r x y H Q->
  wpAny (model X.prog X.w) X.A (f v u) (EP X B Z Q) X.xe s
def UnR(X:Cx)(f:Value->Sem Value)(r:V->Hp->VK->Prop):Prop:=
 ∀(B:List (Addr×Obj))(s:Shared)(Z:St)(H:Hp)(x:V)(v:Value)(Q:VK),Inv X B Z H s->fU x v->r x H Q->
  wpAny (model X.prog X.w) X.A (f v) (EP X B Z Q) X.xe s
def qA(X:Cx)(f:Value)(r:List V->Hp->VK->Prop):Prop:=
 ∀(B:List (Addr×Obj))(s:Shared)(Z:St)(H:Hp)(xs:List V)(us:List Value)(Q:VK),Inv X B Z H s->fL xs us->r xs H Q->
  wpAny (model X.prog X.w) X.A (call f us) (EP X B Z Q) X.xe s
def TruR(X:Cx)(r:V->Hp->(Bool->Hp->Prop)->Prop):Prop:=
 ∀(B:List (Addr×Obj))(s:Shared)(Z:St)(H:Hp)(x:V)(v:Value)(Q:Bool->Hp->Prop),Inv X B Z H s->fU x v->r x H Q->
  wpAny (model X.prog X.w) X.A (truthy v) (TP X B Z Q) X.xe s
def tOp(r:R2)(c tb:TE):TE:=λZ H Q=>c Z H λx U=>tb Z U λy j=>r x y j Q
def tUn(r:V->Hp->VK->Prop)(c:TE):TE:=λZ H Q=>c Z H λx U=>r x U Q
def rI(C:Int->Int->Prop)(g:Int->Int->V):R2:=λx y H Q=>exI x λi=>exI y λj=>C i j/\Q (g i j) H
def rI0(g:Int->Int->V):R2:=λx y H Q=>exI x λi=>exI y λj=>Q (g i j) H
noncomputable def rU(g:Int->V):V->Hp->VK->Prop:=λx H Q=>exI x λi=>Q (g i) H
section
variable{X:Cx}{a b c:Expr}{ta tb tc:TE}{pos:Pos}
def binT(ha:PE X a ta)(hb:PE X b tb){B:List (Addr×Obj)}{R:V->V->Hp->Prop}(I:Inv X B Z H s)
  (h:ta Z H λx U=>tb Z U λy j=>R x y j) {f:Value->Value->Sem Value}
  (hf:∀v u P x y j,Inv X B Z j P->fU x v->fU y u->R x y j->wpAny (model X.prog X.w) X.A (f v u) Q X.xe P):
  wpAny (model X.prog X.w) X.A (eval a X.env) (λv J=>wpAny (model X.prog X.w) X.A (eval b X.env) (λu g=>wpAny (model X.prog X.w) X.A (f v u) Q X.xe g) X.xe J) X.xe s:=by
 refine thE (ha B s Z H _ I h) λv M x U O d q1=>?_;refine thE (hb B M Z U _ O q1) λu P y j t N p=>?_;exact hf v u P x y j t d N p
def bQ{f:Operator}{r:R2}(D:OpR X (binaryOp f) r)(ha:PE X a ta)(hb:PE X b tb):PE X (.BinOp a f b pos) (tOp r ta tb):=by
 intro B s Z H Q I h;exact wpAny_BinOp (binT ha hb I h λv u P x y j t R m q=>D B P Z j x y v u Q t R m q)
def nA{f:UnaryOp}{r:V->Hp->VK->Prop}(D:UnR X (unaryOp f) r)(ha:PE X a ta):PE X (.UnaryOp f a pos) (tUn r ta):=by
 intro B s Z H Q I h;exact UnaryOp_ (thE (ha B s Z H _ I h) λv M x U O d q1=>D B M Z U x v Q O d q1)
def opI{f:Value->Value->Sem Value}{C:Int->Int->Prop}{g:Int->Int->Int}
  (d:∀(i j:Int)(t u:Tok)(s:Shared)(Q:Value->Shared->Prop)(E:Value->Shared->Prop),C i j->Q (.int (g i j) s.toks) { s with toks:=s.toks+1 }->wpAny (model X.prog X.w) X.A (f (.int i t) (.int j u)) Q E s):
  OpR X f (rI C λi j=>.int (g i j)):=by
 intro B s Z H x y v u Q I R m h;obtain⟨i,rfl,h1⟩:=Eq.mp gZ h;obtain⟨j,rfl,hc,q⟩:=Eq.mp gZ h1;obtain⟨t,rfl⟩:=R;obtain⟨J,rfl⟩:=m;exact d i j t J s _ _ hc #[.int (g i j),H,I.tok _,#[_,rfl],q]
def opI0{f:Value->Value->Sem Value}{g:Int->Int->Int}
  (d:∀(i j:Int)(t u:Tok)(s:Shared)(Q:Value->Shared->Prop)(E:Value->Shared->Prop),Q (.int (g i j) s.toks) { s with toks:=s.toks+1 }->wpAny (model X.prog X.w) X.A (f (.int i t) (.int j u)) Q E s):
  OpR X f (rI0 λi j=>.int (g i j)):=by
 intro B s Z H x y v u Q I R m h;obtain⟨i,rfl,h1⟩:=Eq.mp gZ h;obtain⟨j,rfl,q⟩:=Eq.mp gZ h1;obtain⟨t,rfl⟩:=R;obtain⟨J,rfl⟩:=m;exact d i j t J s _ _ #[.int (g i j),H,I.tok _,#[_,rfl],q]
def opB0{f:Value->Value->Sem Value}{g:Int->Int->Bool}
  (d:∀(i j:Int)(t u:Tok)(s:Shared)(Q:Value->Shared->Prop)(E:Value->Shared->Prop),Q (.bool (g i j)) s->wpAny (model X.prog X.w) X.A (f (.int i t) (.int j u)) Q E s):
  OpR X f (rI0 λi j=>.bl (g i j)):=by
 intro B s Z H x y v u Q I R m h;obtain⟨i,rfl,h1⟩:=Eq.mp gZ h;obtain⟨j,rfl,q⟩:=Eq.mp gZ h1;obtain⟨t,rfl⟩:=R;obtain⟨J,rfl⟩:=m;exact d i j t J s _ _ #[.bl (g i j),H,I,rfl,q]
def CDiv(i j:Int):Prop:=0<j/\j<1073741824
def CPow(i j:Int):Prop:=0<=j/\j<=1000000/\i.natAbs<2^64
def gS:OpR X (binaryOp .Add) (rI0 λi j=>.int (i+j)):=opI0 λ_ _ _ _ _ _ _ q=>add_int q
def mR:OpR X (binaryOp .Sub) (rI0 λi j=>.int (i-j)):=opI0 λ_ _ _ _ _ _ _ q=>sub_int q
def Bp:OpR X (binaryOp .FloorDiv) (rI CDiv λi j=>.int (i/j)):=opI λi j _ _ _ _ _ hc q=>by
 have h1:(0:Int)<j:=hc.1;have h2:j<1073741824:=hc.2;exact floordiv_int #[] (by rw[Int.fdiv_eq_ediv_of_nonneg i #[]];exact q) (.inl (PyProof.noPylong_small #[]))
def gF:OpR X (binaryOp .Mod) (rI (λ_ j=>0<j) λi j=>.int (i%j)):=opI λi j _ _ _ _ _ hc q=>by
 have h1:(0:Int)<j:=hc;exact mod_int' #[] (by rw[Int.fmod_eq_emod_of_nonneg i #[]];exact q)
def Ip:OpR X (binaryOp .Pow) (rI CPow λi j=>.int (i^j.toNat)):=opI λ_ _ _ _ _ _ _ hc q=>pow_int_small hc.1 hc.2.1 hc.2.2 q
def unI{f:Value->Sem Value}{g:Int->Int}
  (d:∀(i:Int)(t:Tok)(s:Shared)(Q:Value->Shared->Prop)(E:Value->Shared->Prop),Q (.int (g i) s.toks) { s with toks:=s.toks+1 }->wpAny (model X.prog X.w) X.A (f (.int i t)) Q E s):
  UnR X f (rU λi=>.int (g i)):=by
 intro B s Z H x v Q I R h;obtain⟨i,rfl,q⟩:=Eq.mp gZ h;obtain⟨t,rfl⟩:=R;exact d i t s _ _ #[.int (g i),H,I.tok _,#[_,rfl],q]
def jX:UnR X (unaryOp .USub) (rU λi=>.int (-i)):=unI λ_ _ _ _ _ q=>neg_int q
end
noncomputable def scal:V->V->Bool
 | .non,.non=>true | .non,.int _=>true | .int _,.non=>true | .non,.bl _=>true | .bl _,.non=>true | .non,.str _=>true | .str _,.non=>true
 | .int _,.int _=>true | .bl _,.bl _=>true | .str _,.str _=>true | .byt _,.byt _=>true
 | .int _,.str _=>true | .str _,.int _=>true | .bl _,.str _=>true | .str _,.bl _=>true
 |_,_=>false
def rEq:R2:=λx y H Q=>scal x y=true/\Q (.bl (decide (x=y))) H
def iN{i j:Int}:scal (.int i) (.int j)=true:=rfl
def rNe:R2:=λx y H Q=>scal x y=true/\Q (.bl (!decide (x=y))) H
def jYl{i j:Int}:decide (V.int i=V.int j)=(i==j):=by
 rw[Bool.eq_iff_iff];simp
def dec_bl{i j:Bool}:decide (V.bl i=V.bl j)=(i==j):=by
 rw[Bool.eq_iff_iff];simp
def jYk{i j:Str}:decide (V.str i=V.str j)=(i==j):=by
 rw[Bool.eq_iff_iff];simp
def jYm{i j:Array UInt8}:decide (V.byt i=V.byt j)=(i.toList==j.toList):=by
 rw[Bool.eq_iff_iff];cases i;cases j;simp
section
variable{X:Cx}{a b c:Expr}{ta tb tc:TE}{pos:Pos}
def gO{B:List (Addr×Obj)}{Q:VK}{k g:Bool}(I:Inv X B Z H s)(q:Q (.bl k) H)(e:k=g):EP X B Z Q (.bool g) s:=by
 subst e;exact#[.bl k,H,I,rfl,q]
def qW:OpR X (compareOp .Eq) rEq:=by
 rintro B s Z H x y v u Q I R m ⟨hs,q⟩;cases x with
 |non=>
  cases R;cases y with
  |non=>cases m;exact PySem.EqNone.eq_none_none (gO I q (by simp))
  |bl j=>cases m;exact PySem.EqNone.eq_none_bool (gO I q (by simp))
  |int j=>obtain⟨J,rfl⟩:=m;exact PySem.EqNone.eq_none_int (gO I q (by simp))
  |str j=>obtain⟨J,rfl⟩:=m;exact PySem.EqNone.eq_none_str (gO I q (by simp))
  |_=>exact absurd (show false=true from hs) bT
 |bl i=>
  cases R;cases y with
  |non=>cases m;exact PySem.EqNone.eq_bool_none (gO I q (by simp))
  |bl j=>cases m;exact eq_bool (gO I q dec_bl)
  |str j=>obtain⟨J,rfl⟩:=m;exact PySem.EqMixed.eq_bool_str (gO I q (by simp))
  |_=>exact absurd (show false=true from hs) bT
 |int i=>
  obtain⟨t,rfl⟩:=R;cases y with
  |non=>cases m;exact PySem.EqNone.eq_int_none (gO I q (by simp))
  |int j=>obtain⟨J,rfl⟩:=m;exact eq_int (gO I q jYl)
  |str j=>obtain⟨J,rfl⟩:=m;exact PySem.EqMixed.eq_int_str (gO I q (by simp))
  |_=>exact absurd (show false=true from hs) bT
 |str i=>
  obtain⟨t,rfl⟩:=R;cases y with
  |non=>cases m;exact PySem.EqNone.eq_str_none (gO I q (by simp))
  |bl j=>cases m;exact PySem.EqMixed.eq_str_bool (gO I q (by simp))
  |int j=>obtain⟨J,rfl⟩:=m;exact PySem.EqMixed.eq_str_int (gO I q (by simp))
  |str j=>obtain⟨J,rfl⟩:=m;exact eq_str (gO I q jYk)
  |_=>exact absurd (show false=true from hs) bT
 |byt i=>
  obtain⟨t,rfl⟩:=R;cases y with
  |byt j=>obtain⟨J,rfl⟩:=m;exact PySem.W.eq_bytes (gO I q jYm)
  |_=>exact absurd (show false=true from hs) bT
 |_=>cases y<;>exact absurd (show false=true from hs) bT
def rY:OpR X (compareOp .NotEq) rNe:=by
 rintro B s Z H x y v u Q I R m ⟨hs,q⟩;cases x with
 |non=>
  cases R;cases y with
  |non=>cases m;exact PySem.EqNone.ne_none_none (gO I q (by simp))
  |bl j=>cases m;exact PySem.EqNone.ne_none_bool (gO I q (by simp))
  |int j=>obtain⟨J,rfl⟩:=m;exact PySem.EqNone.ne_none_int (gO I q (by simp))
  |str j=>obtain⟨J,rfl⟩:=m;exact PySem.EqNone.ne_none_str (gO I q (by simp))
  |_=>exact absurd (show false=true from hs) bT
 |bl i=>
  cases R;cases y with
  |non=>cases m;exact PySem.EqNone.ne_bool_none (gO I q (by simp))
  |bl j=>cases m;exact ne_bool (gO I q (congrArg not dec_bl))
  |str j=>obtain⟨J,rfl⟩:=m;exact PySem.EqMixed.ne_bool_str (gO I q (by simp))
  |_=>exact absurd (show false=true from hs) bT
 |int i=>
  obtain⟨t,rfl⟩:=R;cases y with
  |non=>cases m;exact PySem.EqNone.ne_int_none (gO I q (by simp))
  |int j=>obtain⟨J,rfl⟩:=m;exact ne_int (gO I q (congrArg not jYl))
  |str j=>obtain⟨J,rfl⟩:=m;exact PySem.EqMixed.ne_int_str (gO I q (by simp))
  |_=>exact absurd (show false=true from hs) bT
 |str i=>
  obtain⟨t,rfl⟩:=R;cases y with
  |non=>cases m;exact PySem.EqNone.ne_str_none (gO I q (by simp))
  |bl j=>cases m;exact PySem.EqMixed.ne_str_bool (gO I q (by simp))
  |int j=>obtain⟨J,rfl⟩:=m;exact PySem.EqMixed.ne_str_int (gO I q (by simp))
  |str j=>obtain⟨J,rfl⟩:=m;exact ne_str (gO I q (congrArg not jYk))
  |_=>exact absurd (show false=true from hs) bT
 |byt i=>
  obtain⟨t,rfl⟩:=R;cases y with
  |byt j=>obtain⟨J,rfl⟩:=m;exact PySem.W.ne_bytes (gO I q (congrArg not jYm))
  |_=>exact absurd (show false=true from hs) bT
 |_=>cases y<;>exact absurd (show false=true from hs) bT
def lB:OpR X (compareOp .Lt) (rI0 λi j=>.bl (decide (i<j))):=opB0 λ_ _ _ _ _ _ _ q=>lt_int q
def op_le:OpR X (compareOp .LtE) (rI0 λi j=>.bl (decide (i<=j))):=opB0 λ_ _ _ _ _ _ _ q=>le_int q
def Cn:OpR X (compareOp .Gt) (rI0 λi j=>.bl (decide (j<i))):=opB0 λ_ _ _ _ _ _ _ q=>gt_int q
def op_ge:OpR X (compareOp .GtE) (rI0 λi j=>.bl (decide (j<=i))):=opB0 λ_ _ _ _ _ _ _ q=>ge_int q
def Dv:OpR X (compareOp .Is) (λx y H Q=>y=.non/\Q (.bl (decide (x=.non))) H):=by
 rintro B s Z H x y v u Q I R m ⟨rfl,q⟩;cases m;refine is_none_gen (gO I q ?_);cases x<;>first
  | (cases R;rfl)
  | (obtain⟨t,rfl⟩:=R;rfl)
def jX4:OpR X (compareOp .IsNot) (λx y H Q=>y=.non/\Q (.bl (!decide (x=.non))) H):=by
 rintro B s Z H x y v u Q I R m ⟨rfl,q⟩;cases m;refine isnot_none_gen (gO I q ?_);cases x<;>first
  | (cases R;rfl)
  | (obtain⟨t,rfl⟩:=R;rfl)
def dE(b:Expr)(h:f≠.In:=by decide)(h2:f≠.NotIn:=by decide):behindInMarks f b=false:=by
 have e1:(f==CmpOp.In)=false:=by cases f<;>first |rfl |exact absurd rfl h
 have C:(f==CmpOp.NotIn)=false:=by cases f<;>first |rfl |exact absurd rfl h2
 cases b<;>simp [behindInMarks,e1,C]
def oR{r:R2}(D:OpR X (compareOp f) r)(ha:PE X a ta)(hb:PE X b tb)(hm:behindInMarks f b=false):PE X (.Compare a [f] [b] pos) (tOp r ta tb):=by
 intro B s Z H Q I h;exact wpAny_Compare1 (binT ha hb I h λv u P x y j t R m q=>D B P Z j x y v u Q t R m q) hm
def dB(t:TE):TT:=λZ H Q=>t Z H λx O=>exB x λk=>Q k O
def cR{r:R2}(D:OpR X (compareOp f) r)(ha:PE X a ta)(hb:PE X b tb)(hm:behindInMarks f b=false):PT X (.Compare a [f] [b] pos) (dB (tOp r ta tb)):=by
 intro B s Z H Q I h;refine wpAny_isTrue_Compare1 (thE (ha B s Z H _ I h) λv M x U O d q1=>thE (hb B M Z U _ O q1) λu P y j t i p=>
  thn (D B P Z j x y v u _ t d i p) λc N#[z,Y,l,g,q]=>?_) hm
 obtain⟨k,e,q⟩:=Eq.mp kR q;subst e;cases g;exact wpAny_truthy_bool #[Y,l,q]
def TruV(K:aQ)(x:V)(H:Hp)(k:Bool):Prop:=
 match x with
 | .non=>k=false
 | .bl b=>k=b
 | .int i=>k=(i !=0)
 | .str y=>y.length<=sizeLine/\k=((y.length:Int) !=0)
 | .byt y=>y.size<=sizeLine/\k=((y.size:Int) !=0)
 | .ref p=>(∃xs,SqL K H p xs/\k= !xs.isEmpty)∨(∃xs,SqT K H p xs/\k= !xs.isEmpty)∨∃kvs,H p=some (.dK kvs)/\k= !kvs.isEmpty
 |_=>False
def jXe{kvs:List (d×V)}{vs:List (d×Value)}(r:KV kvs vs):(!vs.isEmpty)= !kvs.isEmpty:=by
 cases r<;>rfl
def Pm{G:List Value}(r:fL xs G):(!G.toArray.isEmpty)= !xs.isEmpty:=by
 cases r<;>simp
def Nd:(sizeLine:Nat)<2^63:=by rw[sizeLine_eq];decide
def tru_ok:TruR X (λx H Q=>∃k,TruV X.K x H k/\Q k H):=by
 rintro B s Z H x v Q I R ⟨k,e,q⟩;have S:=Nd;have hs:sizeLine=16777216:=sizeLine_eq;cases x with
 |non=>
  cases R;have M:k=false:=e;subst M;exact truthy_none #[H,I,q]
 |bl b=>
  cases R;have M:k=b:=e;subst M;exact wpAny_truthy_bool #[H,I,q]
 |int i=>
  obtain⟨t,rfl⟩:=R;have M:k=(i !=0):=e;subst M;exact PySem.P.truthy_int #[H,I,q]
 |str y=>
  obtain⟨t,rfl⟩:=R;obtain⟨hy,M⟩:y.length<=sizeLine/\k=((y.length:Int) !=0):=e;subst M;exact PySem.P.truthy_str #[] #[H,I.tok _,q]
 |byt y=>
  obtain⟨t,rfl⟩:=R;obtain⟨hy,M⟩:y.size<=sizeLine/\k=((y.size:Int) !=0):=e;subst M;exact PySem.W.truthy_bytes #[] #[H,I.tok _,q]
 |ref p=>
  cases R;have M:(∃F,SqL X.K H p F/\k= !F.isEmpty)∨(∃F,SqT X.K H p F/\k= !F.isEmpty)∨∃J,H p=some (.dK J)/\k= !J.isEmpty:=e;rcases M with⟨F,hx,M⟩|⟨F,hx,M⟩|⟨J,hx,M⟩
  .subst M;obtain⟨G,r,f,hz⟩:=I.list hx;have C:=r.length;exact wpAny_truthy_list f.isList (by simp only[bJ];lia) #[H,I.tok _,by rw[Pm r];exact q]
  .subst M;obtain⟨G,r,f,hz⟩:=I.tuple hx;have C:=r.length;exact truthy_tuple f (by simp only[bJ];lia) #[H,I.tok _,by rw[Pm r];exact q]
  .subst M;obtain⟨hz,d,j,r,m⟩:J.length<=sizeLine/\(p==sysModules)=false/\∃j,KV J j/\s.heap.DictOf (jP X.prog X.w) p j:=I.hok p _ hx;have C:J.length=j.length:=Paired.length r;exact wpAny_truthy_dict d m #[] #[H,I.tok _,by rw[jXe r];exact q]
 |_=>exact(show False from e).elim
def jVo(ha:PE X a ta)(l:∀f,isTrue a X.env f=(do let v ←f;standAt a.pos;holding [v] (truthy v))):
  PT X a (λZ H Q=>ta Z H λx O=>∃k,TruV X.K x O k/\Q k O):=by
 intro B s Z H Q I h;exact isTrue_plain (thE (ha B s Z H _ I h) λv M x U e d q1=>tru_ok B M Z U x v Q e d q1) (l _)
def zI{x:V}(r:fL [x] us):∃u,us=[u]/\fU x u:=by
 cases r with
 |cons r1 r2=>cases r2;exact#[_,rfl,r1]
def Mt{x y:V}(r:fL [x,y] us):∃u D,us=[u,D]/\fU x u/\fU y D:=by
 cases r with
 |cons r1 r2=>
  cases r2 with
  |cons r3 r4=>cases r4;exact#[_,_,rfl,r1,r3]
def zY:qA X (.builtin "abs") (λF H Q=>∃i,F=[.int i]/\Q (.int (if i<0 then -i else i)) H):=by
 rintro B s Z H F k Q I r ⟨i,rfl,q⟩;obtain⟨u,rfl,t,rfl⟩:=zI r;exact call_abs_int λu tk=>#[.int (if i<0 then -i else i),H,I.tok _,#[_,rfl],q]
def Tk(hc:X.calm=true):qA X (.builtin "max") (λF H Q=>∃i j,F=[.int i,.int j]/\Q (.int (if j>i then j else i)) H):=by
 rintro B s Z H F d Q I r ⟨i,j,rfl,q⟩;obtain⟨u,D,rfl,⟨t,rfl⟩,⟨J,rfl⟩⟩:=Mt r;refine max_two_ints (I.ok.hd hc) λY tk k=>#[_,H,I.kept k,?_,q];by_cases A:j>i
 .rw[aK A,aK A];exact#[_,rfl]
 .rw[aF A,aF A];exact#[_,rfl]
def Tj(hc:X.calm=true):qA X (.builtin "min") (λF H Q=>∃i j,F=[.int i,.int j]/\Q (.int (if j<i then j else i)) H):=by
 rintro B s Z H F d Q I r ⟨i,j,rfl,q⟩;obtain⟨u,D,rfl,⟨t,rfl⟩,⟨J,rfl⟩⟩:=Mt r;refine min_two_ints (I.ok.hd hc) λY tk k=>#[_,H,I.kept k,?_,q];by_cases A:j<i
 .rw[aK A,aK A];exact#[_,rfl]
 .rw[aF A,aF A];exact#[_,rfl]
end
structure ObjM(h:Heap)(x dx C:Addr)(mA:Str->Option Value):Prop where
 obj:h.get? x=some (PySem.W.instObj C dx)
 ns:h.Ns1 dx mA
 ne:dx≠x
def jWu{w:Addr}{B:Str->Option Value}(n:h.Ns1 w B):∃Z,h.get? w=some Z/\∀b,PySem.W.lookIn b Z=some (B b):=by
 obtain⟨o,N,Q,D,hd,hk,_,hm⟩:=n;refine#[o,D,λb=>?_];have e:=hm b;unfold nsFind findBy at e;rw[←Array.find?_toList]at e;unfold PySem.W.lookIn;rw[hd];dsimp only;split
 .rename_i y q
  rw[q]at e;exact congrArg some e
 .rename_i q
  rw[q]at e;have a:N.toList.any (·.refKey)=false:=by
   rw[List.any_eq_false];intro y hy;obtain⟨z,t,d⟩:=hk y (Array.mem_toList_iff.mp hy);simp [DictEntry.refKey,d]
  have c:¬N.toList.any (·.refKey)=true:=by rw[a];exact bT
  rw[aF c];exact congrArg some e
def ObjM.look{x w:Addr}{B:Str->Option Value}(I:ObjM h x w C B):∃Z,PySem.W.InstAt h x (PySem.W.instObj C w) C (some Z)/\∀b,PySem.W.lookIn b Z=some (B b):=
 let⟨Z,ho,hl⟩:=jWu I.ns
 #[Z,#[I.obj,rfl,rfl,ho],hl]
section
variable{prog:Program}{w:World}{A:Around}{E:Value->Shared->Prop}{s:Shared}{K:aQ}{x dx C f:Addr}{mA:Str->Option Value}{name:Str}{v:Value}
def get_map{b:Bool}(X:K.In s.heap)(I:ObjM s.heap x dx C mA)(hg:PySem.W.plainGet K C name=true)(P:PySem.W.hasDictIn K C=true)
  (ha:PySem.W.findIn K (.ref C) name=some none) (hv:mA name=some v) (a:PySem.W.handedIn v=true) (h:Q v { s with toks:=s.toks+1 }):
  wpAny (model prog w) A (getAttr (.ref x) name b) Q E s:=by
 obtain⟨Z,J,S⟩:=I.look;exact PySem.W.get_value X J (PySem.W.plainGet_of hg).1 (PySem.W.findObj_own P ha rfl (by rw[S,hv])) a h
def jUZ{Q:Value×List Value->Shared->Prop}(X:K.In s.heap)(I:ObjM s.heap x dx C mA)(hg:PySem.W.plainGet K C name=true)
  (hf:PySem.W.findIn K (.ref C) name=some (some (.ref f))) (y:PySem.W.isFn K (.ref f)=true) (hv:mA name=none) (h:Q (.ref f,[.ref x]) s):
  wpAny (model prog w) A (getMethod (.ref x) name pl) Q E s:=by
 obtain⟨Z,J,S⟩:=I.look;exact PySem.W.method_fn X J (PySem.W.plainGet_of hg).1 (PySem.W.plainGet_of hg).2 hf (beq_iff_eq.mp y) (by show(PySem.W.lookIn name Z).map (·.isSome)=some false;rw[S,hv];rfl) h
def set_map{ns:List Str}{Q:Unit->Shared->Prop}(X:K.In s.heap)(I:ObjM s.heap x dx C mA)
  (hs:PySem.W.findIn K (.ref C) "__setattr__"=some (some (.builtin "object.__setattr__"))) (hp:PySem.W.plainOver K C=true) (n:PySem.W.takerIn K C name=some none) (P:PySem.W.hasDictIn K C=true)
  (hw:PySem.Within mA ns) (hsz:ns.length<=sizeLine)
  (h:∀Y,ObjM Y x dx C (λy=>if y=name then some v else mA y)->Heap.SameBut dx s.heap Y->Q () { s with heap:=Y,toks:=s.toks+2 }):
  wpAny (model prog w) A (setAttr (.ref x) name v) Q E s:=by
 obtain⟨Z,J,S⟩:=I.look;refine PySem.W.set_plain X J hs (PySem.W.osa_open (s:={ s with toks:=s.toks+1 }) (r:=none) X J hp n λb=>?_);obtain⟨t,hc,d⟩:=PySem.W.any_some P;have hx:s.heap.get? x=some #[.ref C,some dx,.plain,(List.toArray [])]:=I.obj;refine aC (aS (aC (aC (wpAny_loadPart hx (aC (PySem.W.Looks.here (s:={ s with toks:=s.toks+1 }) (PySem.W.looks_clsIn X hc) ?_))))));rw[d];refine aS (a:=some dx) (aC (aS (aC ?_)));refine wpAny_nsSet1 (s:={ s with toks:=s.toks+1 }) I.ns λY c m=>?_;obtain⟨e,k,l,g,i,j⟩:=c.count (PySem.Within.cons name v hw);refine aC (wpAny_lookBehind g (by rw[i];exact pastItsLine_dict (cI j (by rw[dF];lia))) ?_);exact aS (h _ #[(m.2 _ (Ne.symm I.ne)).trans I.obj,c,I.ne] m)
def jV2{R:Result->Shared->Prop}{vs:List Value}{i:List (Str×Value)}(X:K.In s.heap)(hm:PySem.W.makesIn K C=true)
  (hi:PySem.W.findIn K (.ref C) "__init__"=some (some (.ref f))) (hf:PySem.W.typeIn K (.ref f)=some (.type "function"))
  (h:codeAny (model prog w) (A.under (.builtin "type.__call__" #[.ref C::vs,i])) (.call (.ref f) #[.ref (s.heap.objs.size+1)::vs,i]) (PySem.W.InitBack (s.heap.objs.size+1) R)
   { s with heap:=(s.heap.push PySem.W.emptyDict).push (PySem.W.instObj C s.heap.objs.size) }):
  codeAny (model prog w) A (.call (.ref C) #[vs,i]) R s:=by
 obtain⟨P,g,d,t,os⟩:=s;exact PySem.W.make_core (PySem.W.makes_of X hm) (PySem.W.looks_findIn X hi) (λself=>PySem.W.bind_fn X self hf) (.inl rfl) h
end
noncomputable def gX(f:Str)(v:V):List (Str×V)->List (Str×V)
 | []=>[(f,v)]
 | (g,x)::r=>if g=f then(g,v)::r else(g,x)::gX f v r
def lF(f g:Str)(v:V):∀fs:List (Str×V),(gX f v fs).lookup g=if g=f then some v else fs.lookup g
 | []=>by
  show List.lookup g [(f,v)]=_;by_cases h:g=f
  .have hb:(g==f)=true:=beq_iff_eq.mpr h;simp only[List.lookup,hb,aK h]
  .have hb:(g==f)=false:=beq_eq_false_iff_ne.mpr h;simp only[List.lookup,hb,aF h]
 | (k,x)::r=>by
  have m:=lF f g v r;rw[show gX f v ((k,x)::r)=(if k=f then(k,v)::r else(k,x)::gX f v r)from rfl];by_cases hk:k=f
  .rw[aK hk];by_cases h:g=k
   .have hb:(g==k)=true:=beq_iff_eq.mpr h;simp only[List.lookup,hb,aK (h.trans hk)]
   .have hb:(g==k)=false:=beq_eq_false_iff_ne.mpr h;simp only[List.lookup,hb,aF (λe:g=f=>h (e.trans hk.symm))]
  .rw[aF hk];by_cases h:g=k
   .have hb:(g==k)=true:=beq_iff_eq.mpr h;simp only[List.lookup,hb,aF (λe:g=f=>hk (h.symm.trans e))]
   .have hb:(g==k)=false:=beq_eq_false_iff_ne.mpr h;simp only[List.lookup,hb];exact m
def Jw(f:Str)(v:V):∀fs:List (Str×V),f∈(gX f v fs).map (·.1)/\∀g,g∈fs.map (·.1)->g∈(gX f v fs).map (·.1)
 | []=>#[by simp [gX],λg h=>by simp at h]
 | (k,x)::r=>by
  obtain⟨S,m⟩:=Jw f v r;rw[show gX f v ((k,x)::r)=(if k=f then(k,v)::r else(k,x)::gX f v r)from rfl];by_cases hk:k=f
  .rw[aK hk];subst hk;exact#[by simp,λg h=>by simpa using h]
  .rw[aF hk];refine#[?_,λg h=>?_]
   .rw[bV];exact bO _ S
   .rw[bV]at h⊢;rcases eW.mp h with e |e
    .exact eW.mpr (.inl e)
    .exact bO _ (m g e)
def Lb(f:Str)(v:V):∀fs:List (Str×V),(gX f v fs).length<=fs.length+1
 | []=>by simp [gX]
 | (k,x)::r=>by
  have m:=Lb f v r;rw[show gX f v ((k,x)::r)=(if k=f then(k,v)::r else(k,x)::gX f v r)from rfl];by_cases hk:k=f
  .rw[aK hk,dF,dF];lia
  .rw[aF hk,dF,dF];lia
def Ci.some_of{o:Option Value}(r:Ci (some v) o):∃u,o=some u/\fU v u:=by
 cases o with
 |none=>exact(show False from r).elim
 |some u=>exact#[u,rfl,r]
def Ci.none_of{o:Option Value}(r:Ci none o):o=none:=by
 cases o with
 |none=>rfl
 |some u=>exact(show False from r).elim
def jW6(r:fU v u):PySem.W.handedIn u=true:=by
 cases v with
 |non=>cases(show u=Value.none from r);rfl
 |bl b=>cases(show u=Value.bool b from r);rfl
 |int i=>obtain⟨t,e⟩:=(show ∃t,u=Value.int i t from r);cases e;rfl
 |str x=>obtain⟨t,e⟩:=(show ∃t,u=Value.str x t from r);cases e;rfl
 |byt b=>obtain⟨t,e⟩:=(show ∃t,u=Value.bytes b t from r);cases e;rfl
 |flt b=>obtain⟨t,e⟩:=(show ∃t,u=Value.float b t from r);cases e;rfl
 |ref a=>cases(show u=Value.ref a from r);rfl
 |ty n=>cases(show u=Value.type n from r);rfl
section
variable{P:Program}{w:World}{H H':Hp}{h h':Heap}{a C dx:Addr}{fs fs':List (Str×V)}
def Ml(hok:HOk P w H h)(e:H a=some (.ins C dx fs)):∃B,ObjM h a dx C B/\(∀f,Ci (fs.lookup f) (B f))/\PySem.Within B (fs.map (·.1))/\fs.length<=1000/\H dx=some (.own a):=by
 obtain⟨d,z,ne,ob,B,n,r,q⟩:=(show iR P w H h a (.ins C dx fs)from hok a _ e);exact#[B,#[ob,n,ne],r,q,z,d]
end
structure Cls(K:aQ)(C:Addr):Prop where
 pg:PySem.W.plainGet K C Str.empty=true
 hd:PySem.W.hasDictIn K C=true
 po:PySem.W.plainOver K C=true
 sa:PySem.W.findIn K (.ref C) "__setattr__"=some (some (.builtin "object.__setattr__"))
def Cls.get{K:aQ}{C:Addr}(c:Cls K C)(f:Str):PySem.W.plainGet K C f=true:=c.pg
def pP(K:aQ)(C:Addr)(f:Str):Prop:=PySem.W.findIn K (.ref C) f=some none
def pP.taker{f:Str}(n:pP K C f):PySem.W.takerIn K C f=some none:=by
 unfold PySem.W.takerIn;rw[show PySem.W.findIn K (.ref C) f=some none from n];rfl
structure Meth(K:aQ)(C:Addr)(m:Str)(f:Addr):Prop where
 at_:PySem.W.findIn K (.ref C) m=some (some (.ref f))
 fn:PySem.W.isFn K (.ref f)=true
 kp:PySem.W.keepIn K (.ref f)=true
section
variable{X:Cx}{pins:List (Addr×Obj)}{σ:St}{H:Hp}{s:Shared}{a C dx:Addr}{fs:List (Str×V)}{f:Str}{v:V}{A:Around}{E:Value->Shared->Prop}
def jXf{b:Bool}(I:Inv X pins σ H s)(e:H a=some (.ins C dx fs))(c:Cls X.K C)(n:pP X.K C f)(l:fs.lookup f=some v)
  (h:∀u R,Inv X pins σ H R->fU v u->Q u R):wpAny (model X.prog X.w) A (getAttr (.ref a) f b) Q E s:=by
 obtain⟨B,O,r,_,_,_⟩:=Ml I.hok e;obtain⟨u,hu,N⟩:=Ci.some_of (v:=v) (o:=B f) (by rw[←l];exact r f);exact get_map I.kIn O (c.get f) c.hd n hu (jW6 N) (h u _ (I.tok _) N)
def Po{m:Str}{g:Addr}{Q:Value×List Value->Shared->Prop}(I:Inv X pins σ H s)(e:H a=some (.ins C dx fs))(c:Cls X.K C)(k:Meth X.K C m g)(l:fs.lookup m=none)
  (h:Q (.ref g,[.ref a]) s):wpAny (model X.prog X.w) A (getMethod (.ref a) m pl) Q E s:=by
 obtain⟨B,O,r,_,_,_⟩:=Ml I.hok e;have hn:B m=none:=Ci.none_of (by rw[←l];exact r m);exact jUZ I.kIn O (c.get m) k.at_ k.fn hn h
def jZY{y:V}{Q:Unit->Shared->Prop}(I:Inv X pins σ H s)(e:H a=some (.ins C dx fs))(c:Cls X.K C)(n:pP X.K C f)(S:fs.length<1000)(m:fU y u)
  (h:∀R,Inv X pins σ (upd H a (.ins C dx (gX f y fs))) R->Q () R):wpAny (model X.prog X.w) A (setAttr (.ref a) f u) Q E s:=by
 obtain⟨B,O,r,i,_,D⟩:=Ml I.hok e;have hz:(fs.map (·.1)).length<=sizeLine:=by rw[aB,sizeLine_eq];lia
 refine set_map I.kIn O c.sa c.po n.taker c.hd i hz λY d sb=>h _ ?_;have hd:∃o,Y.get? dx=some o:=let⟨o,_,_,e',_⟩:=d.ns;#[o,e'];refine I.write (x:=a) (e:=dx) (by rw[e];exact True.intro) (.inr D) (λb q hb z=>(sb.2 b hb).trans z) hd ?_;refine#[by rw[cK O.ne];exact D,?_,O.ne,d.obj,_,d.ns,λg=>?_,λg hg=>?_]
 .have:=Lb f y fs;lia
 .show Ci ((gX f y fs).lookup g) (if g=f then some u else B g);rw[lF];by_cases q:g=f
  .rw[aK q,aK q];exact m
  .rw[aF q,aF q];exact r g
 .by_cases q:g=f
  .rw[q];exact(Jw f y fs).1
  .refine(Jw f y fs).2 g (i g λz=>hg ?_);show(if g=f then some u else B g)=none;rw[aF q];exact z
def Inv.made(I:Inv X pins σ H s):Inv X pins σ (upd (upd H s.heap.objs.size (.own (s.heap.objs.size+1))) (s.heap.objs.size+1) (.ins C s.heap.objs.size []))
  { s with heap:=(s.heap.push PySem.W.emptyDict).push (PySem.W.instObj C s.heap.objs.size) }:=by
 have e1:(s.heap.push PySem.W.emptyDict).get? s.heap.objs.size=some PySem.W.emptyDict:=bX s.heap rfl;have c:((s.heap.push PySem.W.emptyDict).push (PySem.W.instObj C s.heap.objs.size)).get? (s.heap.objs.size+1)=some (PySem.W.instObj C s.heap.objs.size):=by
  have:=bX (s.heap.push PySem.W.emptyDict) (o:=PySem.W.instObj C s.heap.objs.size) rfl;rwa [Heap.size_push]at this
 have T:(s.heap.push PySem.W.emptyDict).Ns s.heap.objs.size (λ_=>none):=#[PySem.W.emptyDict,(List.toArray []),_,e1,rfl,(λe l=>absurd l (by simp)),λ_=>rfl];have O:=I.laid (a:=s.heap.objs.size) (o:=.own (s.heap.objs.size+1)) (h':=s.heap.push PySem.W.emptyDict) (t':=s.toks) (λb u q=>bE _ q) (aU _) #[_,e1];refine O.laid (a:=s.heap.objs.size+1) (o:=.ins C s.heap.objs.size []) (t':=s.toks) (λb u q=>bE _ q) (Nat.le_of_eq (Heap.size_push _ _)) ?_;have ne:s.heap.objs.size≠s.heap.objs.size+1:=bR (gR _);refine#[by rw[cK ne,aL],eC _,ne,c,λ_=>none,(Heap.Ns1.of_empty T).at λo q=>bE _ q,λ_=>True.intro,λy hy=>absurd rfl hy]
def attr_of{prog:Program}{w:World}{env:Env}{f:Str}{s:Shared}(hb:attributeBase e f env (eval e env)=eval e env)
  (h:wpAny (model prog w) A (eval e env) (λo J=>wpAny (model prog w) A (getAttr o f true) Q E J) E s):wpAny (model prog w) A (eval (.Attribute e f pos) env) Q E s:=
 Attribute_any_ h (by rw[arm_eval_Attribute,hb])
end
def gW(K:aQ)(c:TE)(f:Str):TE:=λZ H Q=>c Z H λx U=>exR x λa=>∃C w fs v,U a=some (.ins C w fs)/\Cls K C/\pP K C f/\fs.lookup f=some v/\Q v U
def zE(K:aQ)(c tv:TE)(f:Str):TS:=λD Z H=>tv Z H λy U=>c Z U λx j=>exR x λa=>∃C w fs,j a=some (.ins C w fs)/\Cls K C/\pP K C f/\fs.length<1000/\
 D.nx Z (upd j a (.ins C w (gX f y fs)))
section
variable{X:Cx}{o e value:Expr}{f:Str}{pos pos' tpos:Pos}{ta tv:TE}
def gQ(b:PE X e ta)(hb:attributeBase e f X.env (eval e X.env)=eval e X.env):PE X (.Attribute e f pos) (gW X.K ta f):=by
 intro B s Z H Q I h;refine attr_of hb (thE (b B s Z H _ I h) λu M x U O R q0=>?_);obtain⟨a,ex,C,w,fs,v,Y,c,n,l,q⟩:=Eq.mp iM q0;subst ex;obtain rfl:u=Value.ref a:=R;exact jXf O Y c n l λd P t N=>#[v,U,t,N,q]
def zQ(ha:PE X o ta)(hv:PE X value tv)(hs:swapsWith value (some (.Attribute o f pos')) pos.line X.env=pure false):PS X (.Assign [.Attribute o f pos'] value pos) (zE X.K ta tv f):=by
 intro B s Z H D I h;refine plainObj_wpAny_Assign_Attribute (thE (hv B s Z H _ I h) λu M y U O m q=>thE (ha B M Z U _ O q) λJ P x j t R q0=>?_) hs;obtain⟨a,ex,C,w,fs,Y,c,n,l,p⟩:=Eq.mp iM q0;subst ex;obtain rfl:J=Value.ref a:=R;exact jZY t Y c n l m λN z=>#[Z,_,z,p]
end
section
variable{X:Cx}{pins:List (Addr×Obj)}{σ:St}{H:Hp}{s:Shared}{A:Around}{E:Value->Shared->Prop}{Q:Value->Shared->Prop}{c:Value}{b:Bool}
inductive Ln (K:aQ) (H:Hp):V->Value->Prop where
 |non:Ln K H .non (.type "NoneType")
 |bl (x:Bool):Ln K H (.bl x) (.type "bool")
 |int (i:Int):Ln K H (.int i) (.type "int")
 |str (x:Str):Ln K H (.str x) (.type "str")
 |flt (x:UInt64):Ln K H (.flt x) (.type "float")
 |lst {a:Addr} {xs:List V} (e:H a=some (.lst xs)):Ln K H (.ref a) (.type "list")
 |frz {a:Addr} {o:Obj} {xs:List V} (e:H a=some (.frz o (.lst xs))):Ln K H (.ref a) (.type "list")
 |tup {a:Addr} {xs:List V} (e:H a=some (.tup xs)):Ln K H (.ref a) (.type "tuple")
 |dK {a:Addr} {kvs:List (Key×V)} (e:H a=some (.dK kvs)):Ln K H (.ref a) (.type "dict")
 |dT {a:Addr} {kvs:List (List Key×V)} (e:H a=some (.dT kvs)):Ln K H (.ref a) (.type "dict")
 |ins {a C dx:Addr} {fs:List (Str×V)} (e:H a=some (.ins C dx fs)) (cl:Cls K C) (ha:PySem.W.findIn K (.ref C) "__class__"=some (some (.builtin "object.__class__")))
   (hn:PySem.W.specialIn K (.builtin "object.__class__") "__get__"=some (some (.builtin "getset_descriptor.__get__"))) (htk:PySem.W.takesIn K (.builtin "object.__class__")=some true)
   (hm:PySem.W.mroIn K C (.type "object")=some true):Ln K H (.ref a) (.ref C)
def oA{x:V}{t:Value}(I:Inv X pins σ H s)(R:fU x u)(l:Ln X.K H x t)(e:PySem.W.kitOne X.K t c=some b)(h:∀tk,Q (.bool b) { s with toks:=tk }):
  wpAny (model X.prog X.w) A (call (.builtin "isinstance") [u,c]) Q E s:=by
 cases l with
 |non=>cases(show u=Value.none from R);exact PySem.W.kia_one PySem.W.kitx_none I.kIn True.intro e (λz=>nomatch z) h
 |bl y=>cases(show u=Value.bool y from R);exact PySem.W.kia_one PySem.W.kitx_bool I.kIn True.intro e (λz=>nomatch z) h
 |int i=>obtain⟨t,q⟩:=(show ∃t,u=Value.int i t from R);cases q;exact PySem.W.kia_one PySem.W.kitx_int I.kIn True.intro e (λz=>nomatch z) h
 |str y=>obtain⟨t,q⟩:=(show ∃t,u=Value.str y t from R);cases q;exact PySem.W.kia_one PySem.W.kitx_str I.kIn True.intro e (λz=>nomatch z) h
 |flt y=>obtain⟨t,q⟩:=(show ∃t,u=Value.float y t from R);cases q;exact PySem.W.kia_one PySem.W.kitx_float I.kIn True.intro e (λz=>nomatch z) h
 |@lst a F ea=>
  cases(show u=Value.ref a from R);obtain⟨_,_,n,_,h1⟩:=(show iR X.prog X.w H s.heap a (.lst F)from I.hok a _ ea);exact PySem.W.kia_one PySem.W.kitx_list I.kIn #[_,h1,rfl] e (λz=>nomatch z) h
 |@frz a ob F ea=>
  cases(show u=Value.ref a from R);obtain⟨_,_,_,n,_,h1⟩:=(show iR X.prog X.w H s.heap a (.frz ob (.lst F))from I.hok a _ ea);exact PySem.W.kia_one PySem.W.kitx_list I.kIn #[_,h1,rfl] e (λz=>nomatch z) h
 |@tup a F ea=>
  cases(show u=Value.ref a from R);obtain⟨_,_,_,p⟩:=(show iR X.prog X.w H s.heap a (.tup F)from I.hok a _ ea);obtain⟨o,h1,h2,_⟩:=p;exact PySem.W.kia_one PySem.W.kitx_tuple I.kIn #[o,h1,h2] e (λz=>nomatch z) h
 |@dK a kvs ea=>
  cases(show u=Value.ref a from R);obtain⟨_,_,j,_,p⟩:=(show iR X.prog X.w H s.heap a (.dK kvs)from I.hok a _ ea);obtain⟨o,N,d,h1,h2,_⟩:=p;exact PySem.W.kia_one PySem.W.kitx_dict I.kIn #[o,h1,h2.1] e (λz=>nomatch z) h
 |@dT a kvs ea=>
  cases(show u=Value.ref a from R);obtain⟨_,_,F,_,o,N,d,h1,h2,_⟩:=(show iR X.prog X.w H s.heap a (.dT kvs)from I.hok a _ ea);exact PySem.W.kia_one PySem.W.kitx_dict I.kIn #[o,h1,h2.1] e (λz=>nomatch z) h
 |@ins a C dx fs ea cl ha hn htk hm=>
  cases(show u=Value.ref a from R);obtain⟨B,O,_⟩:=Ml I.hok ea;obtain⟨Z,J,_⟩:=O.look;exact PySem.W.kia_one (PySem.W.kitx_own (cl.get _) cl.hd ha hn htk hm) I.kIn J e (λz=>nomatch z) h
end
structure mN(k:Nat)(A:Around):Prop where
 hd:A.handled=none
 dp:A.depth+3*k+5<recursionLimit
 un:A.units+16*k+200<cLine
def mN.mono(r:mN k A)(h:j<=k):mN j A:=#[r.hd,by have:=r.dp;lia,by have:=r.un;lia]
def mN.deeper(r:mN (k+1) A)(env:Env):mN k (A.deeper env):=
 #[r.hd,by have:=r.dp;show A.depth+1+3*k+5<_;lia,by have:=r.un;show A.units+3+16*k+200<_;lia]
def jZ8{i:List (Str×Value)}:(A.under (.builtin "type.__call__" #[.ref C::us,i])).depth=A.depth+1:=by
 first |rfl |simp [Around.under,Code.weight,Code.isCreation,Code.isGuard,Code.isCaller,Code.frames,Code.isFrame,guardIds]
def jZ7{i:List (Str×Value)}:(A.under (.builtin "type.__call__" #[.ref C::us,i])).units=A.units+1:=by
 first |rfl |simp [Around.under,Code.cUnits,Code.frames,Code.isFrame]
def mN.make(r:mN (k+1) A)(C:Addr)(us:List Value)(i:List (Str×Value)):mN k (A.under (.builtin "type.__call__" #[.ref C::us,i])):=
 #[r.hd,by have:=r.dp;rw[jZ8];lia,by have:=r.un;rw[jZ7];lia]
def mN.depth(r:mN k A):A.depth<recursionLimit:=by have:=r.dp;lia
def mN.units(r:mN k A):A.units+64<cLine:=by have:=r.un;lia
def bG:TA:=λ_ H Q=>Q [] H
def aH(c:TE)(a:TA):TA:=λZ H Q=>c Z H λx U=>a Z U λxs j=>Q (x::xs) j
section
variable{X:Cx}{e:Expr}{es:List Expr}{te:TE}{t:TA}{pos:Pos}
def aN:PA X [] bG:=λ_ _ _ _ H Q I h=>Calls.spliced_nil #[[],H,I,.nil,h]
def aA(ha:PE X e te)(hr:PA X es t)(hs:starEach (e::es) X.env=(false,eval e X.env)::starEach es X.env:=by rfl):PA X (e::es) (aH te t):=by
 intro pos B s Z H Q I h;rw[hs];show wpAny _ _ (spliced ((false,eval e X.env)::backTo pos (starEach es X.env))) _ _ s;refine Calls.spliced_cons (thE (ha B s Z H _ I h) λu M x U O d q1=>?_);exact thF (hr pos B M Z U _ O q1) λk P F j a N p=>#[x::F,j,a,.cons d N,p]
def iW(t:TA):TE:=λZ H Q=>t Z H λxs U=>xs.length<=sizeLine/\∀p,U p=none->Q (.ref p) (upd U p (.tup xs))
def mB(t:TA):TE:=λZ H Q=>t Z H λxs U=>xs.length<=sizeLine/\∀p,U p=none->Q (.ref p) (upd U p (.lst xs))
def gE{x1}(h:PA X es t):PE X (.Tuple es x1 pos) (iW t):=by
 intro B s Z H Q I T;refine wpAny_Tuple_spliced (thn (h pos B s Z H _ I T) λk M#[F,U,O,r,z,q]=>#[by rw[←r.length];exact z,?_]);have hf:U M.heap.objs.size=none:=O.hok.fresh (aU _);refine#[.ref M.heap.objs.size,upd U M.heap.objs.size (.tup F),O.laid (t':=M.toks) (λb u e=>bE _ e) (aU _) ?_,rfl,q _ hf];exact#[z,k,r,#[_,bX _ rfl,rfl,_,rfl]]
def iK(h:PA X es t):PE X (.List es pos) (mB t):=by
 intro B s Z H Q I T;refine wpAny_List_spliced (thn (h pos B s Z H _ I T) λk M#[F,U,O,r,z,q]=>#[by rw[←r.length];exact z,?_]);have hf:U M.heap.objs.size=none:=O.hok.fresh (aU _);refine#[.ref M.heap.objs.size,upd U M.heap.objs.size (.lst F),O.laid (t':=M.toks) (λb u e=>bE _ e) (aU _) ?_,rfl,q _ hf];exact#[z,k,0,r,bX _ rfl]
end
noncomputable abbrev Sp:=List V->Hp->VK->XK->Prop
noncomputable abbrev CXT:=List Env->Hp->Shared->XK->Value->Shared->Prop
structure Env0(P:Program)(w:World)(K:aQ)(mg:Str->Option Value)(base:Heap)(A:Around)(outer:List Env)(s:Shared)(H:Hp):Prop where
 frames:A.frames=some outer
 mod:Mod K mg base
 bs:∀b o,base.get? b=some o->s.heap.get? b=some o/\H b=none
 bsz:base.objs.size<=s.heap.objs.size
 funs:s.heap.FunFrames base outer
 frf:∀b∈frs outer,H b=none
 hok:HOk P w H s.heap
 bare:AllBare s.gens
def CE(outer:List Env)(P:Program)(w:World)(H:Hp)(s:Shared)(Q:VK)(u:Value)(R:Shared):Prop:=
 ∃v O,R.os=s.os/\AllBare R.gens/\Un (frs outer) [] H O s.heap R.heap/\HOk P w O R.heap/\fU v u/\Q v O
def CR(CX:CXT)(outer:List Env)(P:Program)(w:World)(H:Hp)(s:Shared)(Q:VK)(E:XK)(r:Result)(R:Shared):Prop:=
 match r with
 | .ok (.ret u)=>CE outer P w H s Q u R
 | .ok _=>False
 | .error e=>CX outer H s E e R
structure zH(P:Program)(w:World)(K:aQ)(mg:Str->Option Value)(base:Heap)(CX:CXT)(k:Nat)(f:Addr)(fd:FuncData)(ps:List Str)(sp:Sp):Prop where
 len:∀vs H Q E,sp vs H Q E->vs.length=ps.length
 run:∀(A:Around)(outer:List Env)(s:Shared)(H:Hp)(args:Args)(us:List Value)(vs:List V)(Q:VK)(E:XK),mN k A->Env0 P w K mg base A outer s H->BindsTo s fd args (ps.zip us)->fL vs us->sp vs H Q E->
  codeAny (model P w) A (.call (.ref f) args) (CR CX outer P w H s Q E) s
def Env0.make{w:World}{outer:List Env}(e:Env0 P w K mg base A outer s H)(C:Addr)(us:List Value)(i:List (Str×Value)):
  Env0 P w K mg base (A.under (.builtin "type.__call__" #[.ref C::us,i])) outer s H:=#[by first |exact e.frames |(simpa [Around.under,Code.envs,Code.isFrame,pushEnvs]using e.frames),e.mod,e.bs,e.bsz,e.funs,e.frf,e.hok,e.bare]
section
variable{X:Cx}{pins:List (Addr×Obj)}{σ:St}{H:Hp}{s s':Shared}
def Inv.env0(I:Inv X pins σ H s):Env0 X.prog X.w X.K X.mg X.base X.A X.stack s H:=
 #[I.ok.frames,I.ok.mod,I.bs,cI I.ok.bsz I.sz,I.stack,I.stkFree,I.hok,I.bare]
def Inv.after{Q:VK}(I:Inv X pins σ H s)(h:CE X.stack X.prog X.w H s Q u s'):EP X pins σ Q u s':=by
 obtain⟨v,O,os,bare,un,hok,r,q⟩:=h;obtain⟨P,g,d,t,a⟩:=s';obtain rfl:a=s.os:=os;exact#[v,O,I.call (h':=P) (g':=g) (d':=d) (t':=t) (ch:=[]) un hok bare (λb z=>absurd z (by simp)),r,q]
end
def cD(sp:Sp)(b:List V)(E:XK)(t:TA):TE:=λZ H Q=>t Z H λvs U=>sp (vs++b) U Q E
def fN(C:Addr)(m:Str)(sp:Sp)(b:List V)(E:XK)(c:TE)(t:TA):TE:=λZ H Q=>c Z H λx U=>exR x λa=>∃w fs,U a=some (.ins C w fs)/\fs.lookup m=none/\
 t Z U λvs j=>sp (x::(vs++b)) j Q E
def Cm(C:Addr)(sp:Sp)(b:List V)(E:XK)(t:TA):TE:=λZ H Q=>t Z H λvs U=>∀x w,U x=none->U w=none->w≠x->
 sp (.ref x::(vs++b)) (upd (upd U w (.own x)) x (.ins C w [])) (λv j=>v=.non/\Q (.ref x) j) E
def nU(K:aQ)(fd:FuncData)(ps:List Str)(a:List Value):Prop:=
 ∀(s:Shared)(us:List Value),K.In s.heap->(us++a).length=ps.length->BindsTo s fd #[us,[]] (ps.zip (us++a))
def nU.all{fd:FuncData}(h:∀k:List Value,k.length=ps.length->bindArgs fd #[k,[]]=pure (ps.zip k)):nU K fd ps []:=λs k _ S=>by
 rw[cW]at S⊢;exact .of_eq (h k S)
def Dy(CX:CXT)(X:Cx)(E:XK):Prop:=∀(B:List (Addr×Obj))(Z:St)(H:Hp)(s:Shared)(e:Value)(R:Shared),Inv X B Z H s->CX X.stack H s E e R->X.xe e R
section
variable{X:Cx}{CX:CXT}{k:Nat}{f C:Addr}{fd:FuncData}{ps:List Str}{sp:Sp}{dvs:List V}{ds:List Value}{E:XK}{x m:Str}{p pos apos:Pos}{e o:Expr}{es:List Expr}{ta:TE}{t:TA}
def jJr{B:List (Addr×Obj)}{Q:VK}(F:zH X.prog X.w X.K X.mg X.base CX k f fd ps sp)(hr:mN k X.A)(hb:nU X.K fd ps ds)(hd:fL dvs ds)(hx:Dy CX X E)
  (I:Inv X B Z H s) (r:fL vs us) (h:sp (vs++dvs) H Q E):wpAny (model X.prog X.w) X.A (call (.ref f) us) (EP X B Z Q) X.xe s:=by
 have N:fL (vs++dvs) (us++ds):=r.append hd;have S:(us++ds).length=ps.length:=by rw[←N.length];exact F.len _ _ _ _ h
 refine wpAny_call (codeAny_mono (F.run X.A X.stack s H #[us,[]] (us++ds) (vs++dvs) Q E hr I.env0 (hb s us I.kIn S) N h) λr R T=>?_);cases r with
 |error e=>exact hx B Z H s e R I T
 |ok fl=>
  cases fl with
  |ret u=>exact I.after T
  |next=>exact False.elim T
  |brk=>exact False.elim T
  |cont=>exact False.elim T
def jX1(F:zH X.prog X.w X.K X.mg X.base CX k f fd ps sp)(hr:mN k X.A)(hg:Gl X x)(hm:X.mg x=some (.ref f))(hk:PySem.W.keepIn X.K (.ref f)=true)(hb:nU X.K fd ps ds)(hd:fL dvs ds)(hx:Dy CX X E)
  (ha:PA X (e::es) t) (a:(x==("__debug__":Str))=false:=by decide) (l:starEach (e::es) X.env=(false,eval e X.env)::starEach es X.env:=by rfl) (hpl:(backTo pos (starEach es X.env)).any (·.1)=false:=by rfl):
  PE X (.Call (.Name x p) (e::es) [] pos) (cD sp dvs E t):=by
 intro B s Z H Q I h;refine wpAny_Call_Name_kw (Wa I hg hm ?_ a);refine PySem.W.callWith_K (h₀:=X.base) I.ok.mod.kin hk (thF (ha pos B s Z H _ I h) λb M j U O r q=>#[O.kIn,?_]) l hpl;exact jJr F hr hb hd hx O r q
def pe_meth(g:PE X o ta)(c:Cls X.K C)(hm:Meth X.K C m f)(F:zH X.prog X.w X.K X.mg X.base CX k f fd ps sp)(hr:mN k X.A)(hb:nU X.K fd ps ds)(hd:fL dvs ds)(hx:Dy CX X E)(ha:PA X (e::es) t)
  (d:starEach (e::es) X.env=(false,eval e X.env)::starEach es X.env:=by rfl) (hpl:(backTo pos (starEach es X.env)).any (·.1)=false:=by rfl)
  (y:eval (.Call (.Attribute o m apos) (e::es) [] pos) X.env=(do
   let J ←eval o X.env
   standAt apos.atName
   let(f,first) ←holding [J] (getMethod J m pl)
   callWith pos f first (backTo pos (starEach (e::es) X.env)) (backToKw pos (keywordEach [] X.env))):=by rfl):
  PE X (.Call (.Attribute o m apos) (e::es) [] pos) (fN C m sp dvs E ta t):=by
 intro B s Z H Q I h;refine PySem.W.methodCall_KW (pl:=pl) (thE (g B s Z H _ I h) λu M x U O R q0=>?_) y;obtain⟨a,ex,z,fs,Y,l,q⟩:=Eq.mp iM q0;subst ex;obtain rfl:u=Value.ref a:=R;refine Po O Y c hm l ?_;refine PySem.W.callWith_K (first:=[.ref a]) (h₀:=X.base) I.ok.mod.kin hm.kp (thF (ha pos B M Z U _ O q) λi P n j b r v=>#[b.kIn,?_]) d hpl
 exact jJr (us:=.ref a::i) (vs:=.ref a::n) F hr hb hd hx b (.cons rfl r) v
def jVs(b:PE X o ta)(c:Cls X.K C)(hm:Meth X.K C m f)(F:zH X.prog X.w X.K X.mg X.base CX k f fd ps sp)(hr:mN k X.A)(hb:nU X.K fd ps ds)(hd:fL dvs ds)(hx:Dy CX X E)
  (y:eval (.Call (.Attribute o m apos) [] [] pos) X.env=(do
   let J ←eval o X.env
   standAt apos.atName
   let(f,first) ←holding [J] (getMethod J m pl)
   callWith pos f first (backTo pos (starEach [] X.env)) (backToKw pos (keywordEach [] X.env))):=by rfl):
  PE X (.Call (.Attribute o m apos) [] [] pos) (fN C m sp dvs E ta bG):=by
 intro B s Z H Q I h;refine PySem.W.methodCall_KW (pl:=pl) (thE (b B s Z H _ I h) λu M x U O R q0=>?_) y;obtain⟨a,ex,d,fs,Y,l,q⟩:=Eq.mp iM q0;subst ex;obtain rfl:u=Value.ref a:=R;refine Po O Y c hm l ?_;exact PySem.W.callWith_K0 (first:=[.ref a]) O.kIn hm.kp (jJr (us:=[.ref a]) (vs:=[.ref a]) F hr hb hd hx O (.cons rfl .nil) q)
structure Mk(K:aQ)(C f:Addr):Prop where
 makes:PySem.W.makesIn K C=true
 init:PySem.W.findIn K (.ref C) "__init__"=some (some (.ref f))
 fn:PySem.W.isFn K (.ref f)=true
 kp:PySem.W.keepIn K (.ref C)=true
def jVd{B:List (Addr×Obj)}{Q:VK}(M:Mk X.K C f)(F:zH X.prog X.w X.K X.mg X.base CX k f fd ps sp)(hr:mN (k+1) X.A)(hb:nU X.K fd ps ds)(hd:fL dvs ds)
  (hx:Dy CX X E) (I:Inv X B Z H s) (r:fL vs us)
  (h:∀x b,H x=none->H b=none->b≠x->sp (.ref x::(vs++dvs)) (upd (upd H b (.own x)) x (.ins C b [])) (λv j=>v=.non/\Q (.ref x) j) E):
  wpAny (model X.prog X.w) X.A (call (.ref C) us) (EP X B Z Q) X.xe s:=by
 have T:=h (s.heap.objs.size+1) s.heap.objs.size (I.hok.fresh (Nat.le_succ _)) (I.hok.fresh (aU _)) (bR (gR _));have c:=Inv.made (C:=C) I;have N:fL (V.ref (s.heap.objs.size+1)::(vs++dvs)) (Value.ref (s.heap.objs.size+1)::(us++ds)):=.cons rfl (r.append hd);have S:(Value.ref (s.heap.objs.size+1)::us++ds).length=ps.length:=by
  have e:=N.length;rw[F.len _ _ _ _ T]at e;exact e.symm
 refine wpAny_call (jV2 (f:=f) I.kIn M.makes M.init (beq_iff_eq.mp M.fn) (codeAny_mono (F.run _ X.stack _ _ #[Value.ref (s.heap.objs.size+1)::us,[]] (Value.ref (s.heap.objs.size+1)::(us++ds)) _ _ E (hr.make C us [])
  (c.env0.make C us []) (hb _ (Value.ref (s.heap.objs.size+1)::us) c.kIn S) N T) λr R n=>?_))
 cases r with
 |error e=>exact hx B Z _ _ e R c n
 |ok fl=>
  cases fl with
  |ret u=>
   obtain⟨v,O,z,D,a,q⟩:=c.after n;subst a;exact#[D,#[V.ref (s.heap.objs.size+1),O,z,rfl,q]]
  |next=>exact False.elim n
  |brk=>exact False.elim n
  |cont=>exact False.elim n
def pe_make(M:Mk X.K C f)(F:zH X.prog X.w X.K X.mg X.base CX k f fd ps sp)(hr:mN (k+1) X.A)(hg:Gl X x)(hm:X.mg x=some (.ref C))(hb:nU X.K fd ps ds)(hd:fL dvs ds)(hx:Dy CX X E)
  (ha:PA X (e::es) t) (a:(x==("__debug__":Str))=false:=by decide) (l:starEach (e::es) X.env=(false,eval e X.env)::starEach es X.env:=by rfl) (hpl:(backTo pos (starEach es X.env)).any (·.1)=false:=by rfl):
  PE X (.Call (.Name x p) (e::es) [] pos) (Cm C sp dvs E t):=by
 intro B s Z H Q I h;refine wpAny_Call_Name_kw (Wa I hg hm ?_ a);refine PySem.W.callWith_K (h₀:=X.base) I.ok.mod.kin M.kp (thF (ha pos B s Z H _ I h) λb c j U O r q=>#[O.kIn,?_]) l hpl;exact jVd M F hr hb hd hx O r q
end
structure vR(N P:List Str)(sc:Scope):Prop where
 kind:sc.kind=.function
 co:sc.isCoroutine=false
 gen:sc.isGenerator=false
 nd:N.Nodup
 pre:N.take P.length=P
 par:∀x∈P,sc.names.lookup x=some .local∨sc.names.lookup x=some .cell
 nofree:∀y∈sc.names,y.2≠.free
def Tm{a:Str->Option NameKind}{x:Str}:∀{binds:List (Str×Value)}{m:Str->Option Value},(∀v,(x,v)∉binds)->bindL a binds m x=m x
 | [],_,_=>rfl
 | (n,v)::r,m,h=>by
  unfold bindL;rw[Tm λw hw=>h w (bO _ hw)];split
  .have:x≠n:=by rintro rfl;exact h v cB
   simp [this]
  .rfl
def To{a:Str->Option NameKind}{x:Str}:∀{binds:List (Str×Value)}{m:Str->Option Value},(∀v,(x,v)∉binds)->bindC a binds m x=m x
 | [],_,_=>rfl
 | (n,v)::r,m,h=>by
  unfold bindC;rw[To λw hw=>h w (bO _ hw)];split
  .rfl
  .have:x≠n:=by rintro rfl;exact h v cB
   simp [this]
def Tn{a:Str->Option NameKind}{x:Str}{v:Value}:∀{P:List Str}{vs:List Value}{i:Nat}{m:Str->Option Value},P.Nodup->P[i]?=some x->vs[i]?=some v->a x=some .local->
  bindL a (P.zip vs) m x=some v
 | [],_,_,_,_,h,_,_=>by simp at h
 |_::_,[],_,_,_,_,h,_=>by simp at h
 |p::P,w::vs,0,m,nd,h1,h2,hk=>by
  simp at h1 h2;subst h1;subst h2;show bindL a ((p,w)::P.zip vs) m p=_;unfold bindL;rw[Tm λv hv=>(List.nodup_cons.mp nd).1 (List.of_mem_zip hv).1,aK hk];simp
 |p::P,w::vs,i+1,m,nd,h1,h2,hk=>by
  show bindL a ((p,w)::P.zip vs) m x=_;unfold bindL;exact Tn (i:=i) (List.nodup_cons.mp nd).2 (by simpa using h1) (by simpa using h2) hk
def Tp{a:Str->Option NameKind}{x:Str}{v:Value}:∀{P:List Str}{vs:List Value}{i:Nat}{m:Str->Option Value},P.Nodup->P[i]?=some x->vs[i]?=some v->a x≠some .local->
  bindC a (P.zip vs) m x=some v
 | [],_,_,_,_,h,_,_=>by simp at h
 |_::_,[],_,_,_,_,h,_=>by simp at h
 |p::P,w::vs,0,m,nd,h1,h2,hk=>by
  simp at h1 h2;subst h1;subst h2;show bindC a ((p,w)::P.zip vs) m p=_;unfold bindC;rw[To λv hv=>(List.nodup_cons.mp nd).1 (List.of_mem_zip hv).1,aF hk];simp
 |p::P,w::vs,i+1,m,nd,h1,h2,hk=>by
  show bindC a ((p,w)::P.zip vs) m x=_;unfold bindC;exact Tp (i:=i) (List.nodup_cons.mp nd).2 (by simpa using h1) (by simpa using h2) hk
def start(N:List Str)(vs:List V):St:=vs.map some++List.replicate (N.length-vs.length) none
noncomputable def Xg(CX:CXT)(P:Program)(w:World)(K:aQ)(mg:Str->Option Value)(base:Heap)(N:List Str)(g:Str)(d:Scope)(f:Addr)(t:Value)(A:Around)(outer:List Env)(s:Shared)(H:Hp)(E:XK):Cx where
 prog:=P
 w:=w
 K:=K
 mg:=mg
 base:=base
 A:=A.deeper (envOfC g d s.heap.objs.size f t)
 N:=N
 s₀:=s
 H₀:=H
 env:=envOfC g d s.heap.objs.size f t
 outer:=outer
 stack:=envOfC g d s.heap.objs.size f t::outer
 ex:=[]
 calm:=true
 fn:=λ_=>true
 pn:=[]
 xe:=λe R=>wpAny (model P w) (A.deeper (envOfC g d s.heap.objs.size f t)) (leaving (envOfC g d s.heap.objs.size f t) e) (λ_ a=>CX outer H s E e a) (λM a=>CX outer H s E M a) R
def Yz{sc:Scope}{n:Nat}(h:sc.names.lookup x=some .cell):∃c,(cellsFrom n sc.names []).lookup x=some c:=by
 have q:=PySem.W.cellsFrom_some sc.names n [] (.inl h);exact Option.isSome_iff_exists.mp q
def jW4{CX:CXT}{w:World}{g:Str}{d:Scope}{f:Addr}{t:Value}{outer:List Env}{M:Shared}{E:XK}
  (S:vR N ps d) (hd:A.handled=none) (m:Env0 P w K mg base A outer s H) (o:vs.length=ps.length) (r:fL vs us)
  (x:InCallC s s.heap.objs.size (bindL (envOfC g d s.heap.objs.size f t).kindOf (ps.zip us) λ_=>none) (cellsFrom (s.heap.objs.size+1) d.names []) (bindC (envOfC g d s.heap.objs.size f t).kindOf (ps.zip us) λ_=>none) M):
  Inv (Xg CX P w K mg base N g d f t A outer s H E) [] (start N vs) H M:=by
 have hpl:ps.length<=N.length:=by have:=congrArg List.length S.pre;rw[cN]at this;lia
 obtain⟨h1,tk,rfl,hk⟩:=x.done;have j:∀b:Addr,b∉(Xg CX P w K mg base N g d f t A outer s H E).ex:=λb z=>absurd (show b∈([]:List Addr)from z) (by simp);refine#[#[m.mod,S.kind,rfl,rfl,aU _,λy z c h1 h2=>?_,λy hy=>?_,λy c _ h=>?_,λ_=>hd,Around.frames_deeper m.frames,.inr #[rfl,rfl],λb z=>absurd z (j b),m.bs,m.bsz,λb _ _=>j b,λb z=>absurd z (j b),m.funs,m.frf],
  rfl,m.bare,Un.kept hk,#[_,x.toInCall.ns,λi y v h1 h2 R=>?_],λy c h=>#[_,x.cell y c h],m.hok.fresh (aU _),λy c h=>?_,λp hp=>absurd (show p∈([]:List (Addr×Obj))from hp) (by simp),m.hok.kept hk,?_]
 .exact name_of_addr x.apart (PySem.mem_of_lookup h1) (PySem.mem_of_lookup h2)
 .have hy:d.names.lookup y=some .cell∨d.names.lookup y=some .free:=hy;rcases hy with hy |hy
  .exact Yz hy
  .exact absurd rfl (S.nofree _ (PySem.mem_of_lookup hy))
 .exact Nat.le_of_lt (x.above y c (PySem.mem_of_lookup h))
 .have hi:i<vs.length:=by
   unfold start at h2;by_cases hi:i<vs.length
   .exact hi
   .rw[bU (by simpa using hi)]at h2;rw[List.getElem?_replicate]at h2;split at h2<;>cases h2
  have ha:vs[i]?=some v:=by
   unfold start at h2;rw[bZ (by simpa using hi),aZ]at h2;cases e:vs[i]? with
   |none=>rw[e]at h2;cases h2
   |some a=>rw[e]at h2;cases h2;rfl
  obtain⟨u,hu,D⟩:=r.get ha;have hp:ps[i]?=some y:=by
   rw[←S.pre,List.getElem?_take_of_lt #[]];exact h1
  have l:ps.Nodup:=by rw[←S.pre];exact S.nd.sublist (List.take_sublist _ _)
  refine#[u,D,?_];rcases S.par y (aI hp)with k |k
  .exact .inl #[k,Tn l hp hu k]
  .obtain⟨c,e⟩:=Yz (n:=s.heap.objs.size+1) k;refine .inr #[.inl k,c,e,?_];have q:=x.cell y c e;rw[Tp l hp hu (by show d.names.lookup y≠_;rw[k];decide)]at q;exact q
 .exact m.hok.fresh (Nat.le_of_lt (x.above y c (PySem.mem_of_lookup h)))
 .unfold start;show _=N.length;rw[bK,aB,List.length_replicate];lia
def fn_of{CX:CXT}{w:World}{f:Addr}{name g:Str}{h:Arguments}{a:List Stmt}{d:Scope}{dV kV i z cdv ct U:Value}{j Z:Option Addr}
  {G:Array (Option Value)} {sp:Sp} (lk:K.lookup f=some #[U,Z,.func (PySem.W.fnOf name g h a d dV kV i z j cdv ct),G]) (p:PySem.W.codeIn K cdv g=true) (S:vR N ps d)
  (len:∀vs H Q E,sp vs H Q E->vs.length=ps.length)
  (C:∀(A:Around)(outer:List Env)(s:Shared)(H:Hp)(vs:List V)(Q:VK)(E:XK),mN k (A.deeper (envOfC g d s.heap.objs.size f cdv))->sp vs H Q E->
   ∃t,PSs (Xg CX P w K mg base N g d f cdv A outer s H E) a t/\t { nx:=λ_ O=>Q .non O,rt:=Q } (start N vs) H):
  zH P w K mg base CX (k+1) f (PySem.W.fnOf name g h a d dV kV i z j cdv ct) ps sp:=by
 refine#[len,λA outer s H c us vs Q E hr m hb r B=>?_];have hl:=len _ _ _ _ B;have X:K.In s.heap:=m.mod.kin.keeps λb o e=>(m.bs b o e).1;have lim:s.heap.NoLimit:=m.mod.nolimit.keeps λb o e=>(m.bs b o e).1;have Y:∀y∈ps.zip us,d.names.lookup y.1=some .local∨(d.names.lookup y.1=some .cell/\((cellsFrom (s.heap.objs.size+1) d.names []).lookup y.1).isSome=true):=fun⟨n,v⟩ hy=>by
  rcases S.par n (List.of_mem_zip hy).1 with q |q
  .exact .inl q
  .exact .inr #[q,PySem.W.cellsFrom_some _ _ _ (.inl q)]
 refine codeAny_call_function hr.depth (X _ _ lk) rfl S.co S.gen rfl (PySem.W.codeRec_of X p) (hb _ _ _ _ ?_);refine wpAny_newFunctionEnv_cells S.kind Y λenv l M x=>?_;subst l;refine#[lim.keeps x.toInCall.keep,codeAny_func ?_];obtain⟨t,ht,T⟩:=C A outer s H vs Q E (hr.deeper _) B;have I:Inv (Xg CX P w K mg base N g d f cdv A outer s H E) [] (start N vs) H M:=jW4 S hr.hd m hl r x;refine wpAny_mono (ht [] M (start N vs) H _ I T) (λfl R hs=>?_) λe R hs=>hs;have fin:∀{F:St}{O:Hp}{v:V}{u:Value},Inv (Xg CX P w K mg base N g d f cdv A outer s H E) [] F O R->fU v u->Q v O->CE outer P w H s Q u R:=
  fun{F O v u} J D q=>#[v,O,J.os,J.bare,J.base,J.hok,D,q]
 cases fl with
 |ret u=>
  obtain⟨v,F,O,J,D,q⟩:=hs;exact fin J D q
 |next=>
  obtain⟨F,O,J,q⟩:=hs;exact fin (v:=V.non) (u:=Value.none) J rfl q
 |brk=>
  obtain⟨_,_,_,q⟩:=hs;exact False.elim q
 |cont=>
  obtain⟨_,_,_,q⟩:=hs;exact False.elim q
section
variable{X:Cx}{x:Str}{p pos:Pos}{e:Expr}{es:List Expr}{t:TA}{id T:String}{r:List V->Hp->VK->Prop}
def tCB(r:List V->Hp->VK->Prop)(t:TA):TE:=λZ H Q=>t Z H λvs U=>r vs U Q
def cH(hc:qA X (.builtin id) r)(hg:Gl X x)(hm:X.mg x=none)(hv:bootBuiltins x=some (.builtin id))(ha:PA X (e::es) t)(hn:x≠ "__name__":=by decide)(a:(x==("__debug__":Str))=false:=by decide)
  (l:starEach (e::es) X.env=(false,eval e X.env)::starEach es X.env:=by rfl) (hpl:(backTo pos (starEach es X.env)).any (·.1)=false:=by rfl):PE X (.Call (.Name x p) (e::es) [] pos) (tCB r t):=by
 intro B s Z H Q I h;refine wpAny_Call_Name_kw (pO I hg hm hv ?_ hn a);exact PyProof.Rows.callWith_builtin1 (thF (ha pos B s Z H _ I h) λk M j U O d q1=>hc B M Z U j k Q O d q1) l hpl
def nZ(hc:qA X (.type T) r)(hg:Gl X x)(hm:X.mg x=none)(hv:bootBuiltins x=some (.type T))(ha:PA X (e::es) t)(hn:x≠ "__name__":=by decide)(a:(x==("__debug__":Str))=false:=by decide)
  (l:starEach (e::es) X.env=(false,eval e X.env)::starEach es X.env:=by rfl) (hpl:(backTo pos (starEach es X.env)).any (·.1)=false:=by rfl):PE X (.Call (.Name x p) (e::es) [] pos) (tCB r t):=by
 intro B s Z H Q I h;refine wpAny_Call_Name_kw (pO I hg hm hv ?_ hn a);exact dQ (thF (ha pos B s Z H _ I h) λk M j U O d q1=>hc B M Z U j k Q O d q1) l hpl
end
end L2
namespace HT
open PySem PyProof.Rows
section
open PySem.SeqAt
open PySem.AutoSeq1 (wpAny_loadPart')
open PySem.MeetsSeq PySem.MeetsSeq2 PySem.MeetsSeq3
end
section
variable{prog:Program}{w:World}{A:Around}{E:Value->Shared->Prop}{s:Shared}
def cat_tup{t b:Addr}{vs Z:List Value}{Q:Value->Shared->Prop}(y:IsTup s.heap t vs.toArray)(hb:IsTup s.heap b Z.toArray)(hv:vs≠[])
  (h1:Z=[]->Q (.ref t) s) (h2:Z≠[]->Q (.ref s.heap.objs.size) { s with heap:=s.heap.push { cls:=.type "tuple",data:=.seq (vs++Z).toArray } })
  (hsz:vs.length+Z.length<=sizeLine):wpAny (model prog w) A (binaryOp .Add (.ref t) (.ref b)) Q E s:=by
 obtain⟨⟨r,f,k,sl⟩,D,hc,n,hd⟩:=id y;obtain⟨⟨o,i,j,c⟩,l,g,n2,z⟩:=id hb;simp only at hc hd g z;subst hc hd g z;have e:vs.toArray++Z.toArray=(vs++Z).toArray:=by simp
 by_cases hw:Z=[]
 .exact concat_meets #[_,D,rfl] #[_,l,rfl] noFill_tuple_add seq_tuple_add PySem.F.slot_tuple_add PySem.F.entry_tuple_add (PySem.F.args_tuple_add_2 _ _)
   (tuple_addW1 t b vs.toArray Z.toArray n n2 f i sl c (by simpa using hv) (by simp [hw])) #[D,l,h1 hw]
 .refine concat_meets #[_,D,rfl] #[_,l,rfl] noFill_tuple_add seq_tuple_add PySem.F.slot_tuple_add PySem.F.entry_tuple_add (PySem.F.args_tuple_add_2 _ _)
   (tuple_addW2 t b vs.toArray Z.toArray n n2 f i sl c (by simpa using hv) (by simpa using hw) (by rw[List.size_toArray,List.size_toArray];exact hsz)) #[D,l,?_]
  rw[e];exact h2 hw
noncomputable def sIx(n d:Nat):Option Int->Nat
 |none=>d
 |some v=>if v<0 then(v+(n:Int)).toNat else min v.toNat n
def sIx_none(n d:Nat):sIx n d none=d:=rfl
def sIx_nat(n d k:Nat):sIx n d (some (k:Int))=min k n:=by
 show(if(k:Int)<0 then((k:Int)+(n:Int)).toNat else min (k:Int).toNat n)=min k n;rw[if_neg #[],Int.toNat_natCast]
def sIx_le(n d:Nat)(hd:d<=n)(o:Option Int):sIx n d o<=n:=by
 cases o with
 |none=>exact hd
 |some v=>
  show(if v<0 then(v+(n:Int)).toNat else min v.toNat n)<=n;by_cases hv:v<0
  .rw[if_pos hv];lia
  .rw[if_neg hv];exact Nat.min_le_right _ _
def jYq(v:Int)(n d:Nat):(if v<0 then max (v+(n:Int)) 0 else min v (n:Int))=((sIx n d (some v):Nat):Int):=by
 show(if v<0 then max (v+(n:Int)) 0 else min v (n:Int))=(((if v<0 then(v+(n:Int)).toNat else min v.toNat n):Nat):Int);by_cases hv:v<0
 .simp only[if_pos hv];lia
 .simp only[if_neg hv];lia
def jXo(lo hi:Option Int)(n:Nat):Builtin.Slice.sliceAdjust lo hi 1 (n:Int)=(((sIx n 0 lo:Nat):Int),((sIx n n hi:Nat):Int)):=by
 have h1:¬((1:Int)<0):=#[];unfold Builtin.Slice.sliceAdjust;simp only[h1,if_false];refine Prod.ext ?_ ?_
 .cases lo with
  |none=>rfl
  |some v=>exact jYq v n 0
 .cases hi with
  |none=>rfl
  |some v=>exact jYq v n n
def jZs(i j:Nat):Builtin.Slice.slicePlaces (i:Int) (j:Int) 1=j-i:=by
 unfold Builtin.Slice.slicePlaces;have h1:(1:Int)>0:=#[];simp only[h1,if_true,Int.ediv_one];split<;>lia
def Pd{v:Value}{o:Option Int}{Q:Option Int->Shared->Prop}(p:IsPart v o)(h:Q o s):wpAny (model prog w) A (Builtin.Slice.slicePartIndex v) Q E s:=by
 cases p with
 |none=>exact slicePart_none h
 |int i t=>exact slicePart_int h
def vC{sl:Addr}{c g:Value}{lo hi:Option Int}{n:Nat}{Q:Int×Int×Nat->Shared->Prop}(hs:s.heap.IsSliceOf sl c g .none)(pl:IsPart c lo)(i:IsPart g hi)
  (h:Q (((sIx n 0 lo:Nat):Int),1,sIx n n hi-sIx n 0 lo) s):wpAny (model prog w) A (Builtin.Slice.sliceApplied (.ref sl) (pure (n:Int))) Q E s:=by
 obtain⟨os,d,a,e⟩:=id hs;unfold Builtin.Slice.sliceApplied Builtin.Slice.sliceFields;refine wpAny_bind (wpAny_bind (wpAny_field d e (x:=c) rfl (wpAny_bind (wpAny_field d e (x:=g) rfl (wpAny_bind (wpAny_field d e (x:=.none) rfl (wpAny_pure ?_)))))));refine wpAny_bind (slicePart_none ?_);show wpAny _ _ (if((1:Int)==0)=true then _ else _) _ _ s;rw[if_neg (by decide)];refine wpAny_bind (Pd pl (wpAny_bind (Pd i (wpAny_bind (wpAny_pure ?_)))));show wpAny _ _ (match Builtin.Slice.sliceAdjust lo hi 1 (n:Int)with |(lo,hi)=>pure (lo,(1:Int),Builtin.Slice.slicePlaces lo hi 1)) _ _ s
 rw[jXo lo hi n];show wpAny _ _ (pure (((sIx n 0 lo:Nat):Int),(1:Int),Builtin.Slice.slicePlaces ((sIx n 0 lo:Nat):Int) ((sIx n n hi:Nat):Int) 1)) _ _ s;rw[jZs];exact wpAny_pure h
def jVq(xs:Array Value)(i k:Nat):((List.range k).filterMap fun(m:Nat)=>xs[((i:Int)+(m:Int)*1).toNat]?).toArray=((xs.toList.drop i).take k).toArray:=by
 have e:(fun(m:Nat)=>xs[((i:Int)+(m:Int)*1).toNat]?)=λm=>xs[i+m]?:=by
  funext m
  have:((i:Int)+(m:Int)*1).toNat=i+m:=#[];rw[this]
 rw[e];have:=pick_run xs i k;rw[List.filterMap_map]at this;have C:((λx=>xs[x]?)∘λx=>i+x)=λm=>xs[i+m]?:=rfl;rw[C]at this;rw[this]
def getItem_tuple_cut{t sl:Addr}{items:Array Value}{c g:Value}{lo hi:Option Int}{Q:Value->Shared->Prop}(y:IsTup s.heap t items)(hs:s.heap.IsSliceOf sl c g .none)(pl:IsPart c lo)(i:IsPart g hi)
  (hw:¬(sIx items.size 0 lo=0/\sIx items.size items.size hi=items.size))
  (h:Q (.ref s.heap.objs.size) { s with heap:=s.heap.push { cls:=.type "tuple",data:=.seq ((items.toList.drop (sIx items.size 0 lo)).take (sIx items.size items.size hi-sIx items.size 0 lo)).toArray } })
  (hsz:items.size<=sizeLine):wpAny (model prog w) A (getItem (.ref t) (.ref sl)) Q E s:=by
 have b:sizeOk (.seq ((items.toList.drop (sIx items.size 0 lo)).take (sIx items.size items.size hi-sIx items.size 0 lo)).toArray):=by
  show((items.toList.drop (sIx items.size 0 lo)).take (sIx items.size items.size hi-sIx items.size 0 lo)).toArray.size<=sizeLine;rw[List.size_toArray,List.length_take,List.length_drop,Array.length_toList];lia
 have k:sIx items.size items.size hi<=items.size:=sIx_le _ _ (Nat.le_refl _) hi;obtain⟨os,d,a,e⟩:=id hs;have j:s.TypeIs (.ref sl) "slice":=#[os,d,a];unfold getItem
 try with_reducible refine wpAny_holding ?_
 first |refine wpAny_bind (wpAny_pure ?_)|skip
 refine wpAny_bind (wpAny_sequenceKey y.typeIs (by decide) ?_);refine wpAny_bind (wpAny_callSpecial?_slot (name:=Str.ofString "__getitem__") y.typeIs PyProof.Rows.slot_tuple_getitem
  (wpAny_call_entry PyProof.Rows.slot_tuple_getitem y.typeIs entry_tuple_getitem ?_ (args_tuple_getitem _ _)))
 show wpAny _ _ (Builtin.Tuple.tupleItemsOf (.ref t)>>=_) _ _ s;refine wpAny_bind (tupleItemsOf_ y ?_);refine wpAny_bind (wpAny_typeOf j ?_);rw[if_pos (by decide)];refine wpAny_bind (vC hs pl i ?_);have f:¬((((sIx items.size 0 lo:Nat):Int)==0&&(1:Int)==1&&(sIx items.size items.size hi-sIx items.size 0 lo)==items.size)=true):=by
  intro q;rw[Bool.and_eq_true,Bool.and_eq_true]at q;have q1:((sIx items.size 0 lo:Nat):Int)=0:=eq_of_beq q.1.1;have p:sIx items.size items.size hi-sIx items.size 0 lo=items.size:=eq_of_beq q.2;exact hw #[#[],#[]]
 show wpAny _ _ (if(((sIx items.size 0 lo:Nat):Int)==0&&(1:Int)==1&&(sIx items.size items.size hi-sIx items.size 0 lo)==items.size)=true then _ else _) _ _ s;rw[if_neg f,jVq]
 first
  |exact wpAny_bind (m:=Builtin.Tuple.tupleExact _) (wpAny_newObj_type (wpAny_pure #[_,rfl,wpAny_pure h]) b)
  |exact wpAny_bind (m:=Builtin.Tuple.tupleExact _) (wpAny_newObj_type (wpAny_bind (wpAny_pure (wpAny_pure #[_,rfl,wpAny_pure h]))) b)
  |exact wpAny_bind (wpAny_bind (m:=Builtin.Tuple.tupleExact _) (wpAny_newObj_type (wpAny_pure (wpAny_pure #[_,rfl,wpAny_pure h])) b))
  |exact wpAny_bind (wpAny_bind (m:=Builtin.Tuple.tupleExact _) (wpAny_newObj_type (wpAny_pure #[_,rfl,wpAny_pure h]) b))
end
end HT
namespace L2
open PySem PySem.Spec PyProof.Rows
variable{G:List Value}{s:Shared}{x:V}
noncomputable abbrev TO:=St->Hp->(Option Int->Hp->Prop)->Prop
def PO(X:Cx)(e:Option Expr)(t:TO):Prop:=
 ∀(B:List (Addr×Obj))(s:Shared)(Z:St)(H:Hp)(Q:Option Int->Hp->Prop),Inv X B Z H s->t Z H Q->
  wpAny (model X.prog X.w) X.A (evalPart e X.env) (λu R=>∃o O,Inv X B Z O R/\IsPart u o/\Q o O) X.xe s
def hJ:TO:=λ_ H Q=>Q none H
def mD(t:TE):TO:=λZ H Q=>t Z H λx U=>∃i,x=.int i/\Q (some i) U
section
variable{X:Cx}{e:Expr}{te:TE}{lo hi:Option Expr}{tl th:TO}{pos p2:Pos}
def kU:PO X none hJ:=by
 intro B s Z H Q I h;rw[evalPart_none];exact aS #[none,H,I,.none,h]
def kT(h:PE X e te):PO X (some e) (mD te):=by
 intro B s Z H Q I hw;rw[evalPart_some];refine thE (h B s Z H _ I hw) λu M x U O d q1=>?_;obtain⟨i,rfl,q⟩:=q1;obtain⟨t,rfl⟩:=d;exact#[some i,U,O,.int i t,q]
def SlR(X:Cx)(r:V->Option Int->Option Int->Hp->VK->Prop):Prop:=
 ∀(B:List (Addr×Obj))(s:Shared)(Z:St)(H:Hp)(x:V)(v c g:Value)(lo hi:Option Int)(sl:Addr)(Q:VK),Inv X B Z H s->fU x v->s.heap.IsSliceOf sl c g .none->IsPart c lo->IsPart g hi->r x lo hi H Q->
  ∃T m,typeLookup (.type T) "__getitem__"=pure (some (.builtin m))/\s.TypeIs v T/\wpAny (model X.prog X.w) X.A (getItem v (.ref sl)) (EP X B Z Q) X.xe s
def tSl(r:V->Option Int->Option Int->Hp->VK->Prop)(te:TE)(tl th:TO):TE:=λZ H Q=>te Z H λx U=>tl Z U λl j=>th Z j λu Y=>r x l u Y Q
def jH{r:V->Option Int->Option Int->Hp->VK->Prop}(hr:SlR X r)(a:PE X e te)(S:PO X lo tl)(hu:PO X hi th):PE X (.Subscript e (.Slice lo hi none p2) pos) (tSl r te tl th):=by
 intro B s Z H Q I h;refine Subscript_ (thn (a B s Z H _ I h) λv M#[x,U,O,d,q1]=>?_);refine wpAny_Slice (thn (S B M Z U _ O q1) λc P#[l,j,t,f,p]=>thn (hu B P Z j _ t p) λg N#[u,Y,z,i,k]=>?_);rw[evalPart_none];refine aS ?_;have n:Inv X B Z Y { N with heap:=N.heap.push { cls:=.type "slice",data:=.fields (List.toArray [c,g,.none]) } }:=z.kept (t':=N.toks) λb ob q=>bE _ q;obtain⟨T,m,o,y,hg⟩:=hr B { N with heap:=N.heap.push { cls:=.type "slice",data:=.fields (List.toArray [c,g,.none]) } } Z Y x v c g l u N.heap.objs.size Q n d (Heap.IsSliceOf.new ..) f i k;show wpAny (model X.prog X.w) X.A (subscriptTail e (.Slice lo hi none p2) v (.ref N.heap.objs.size)) (EP X B Z Q) X.xe { N with heap:=N.heap.push { cls:=.type "slice",data:=.fields (List.toArray [c,g,.none]) } };exact tail_any (ops:=[.ref N.heap.objs.size,v]) y o hg (by with_unfolding_all rfl)
noncomputable def mY(xs:List V)(lo hi:Option Int):List V:=(xs.drop (HT.sIx xs.length 0 lo)).take (HT.sIx xs.length xs.length hi-HT.sIx xs.length 0 lo)
def Aw(xs:List V)(lo hi:Option Int):(mY xs lo hi).length<=xs.length:=by
 unfold mY;rw[cN,iU];lia
noncomputable def rSlT(K:aQ):V->Option Int->Option Int->Hp->VK->Prop:=λx lo hi H Q=>∃a xs,x=.ref a/\SqT K H a xs/\
 ¬(HT.sIx xs.length 0 lo=0/\HT.sIx xs.length xs.length hi=xs.length)/\∀p,H p=none->Q (.ref p) (upd H p (.tup (mY xs lo hi)))
def sl_tup:SlR X (rSlT X.K):=by
 rintro B s Z H x v c g lo hi sl Q I R hs f i ⟨a,F,rfl,hx,hw,q⟩;cases R;obtain⟨G,r,y,hz⟩:=I.tuple hx;have C:G.toArray.size=F.length:=by rw[bJ];exact r.length.symm
 refine#["tuple",_,PyProof.Rows.slot_tuple_getitem.lookup,y.typeIs,?_];refine HT.getItem_tuple_cut y hs f i (by rw[C];exact hw) ?_ (by rw[C];exact hz);rw[C];refine#[.ref s.heap.objs.size,_,I.laid (t':=s.toks) (o:=.tup (mY F lo hi)) (λb ob q=>bE _ q) (aU _) ?_,rfl,q _ (I.hok.fresh (aU _))];exact#[cI (Aw F lo hi) hz,_,(r.drop (HT.sIx F.length 0 lo)).take (HT.sIx F.length F.length hi-HT.sIx F.length 0 lo),IsTup.new _ _]
def rCatT(K:aQ):R2:=λx y H Q=>∃a b xs ys,x=.ref a/\y=.ref b/\SqT K H a xs/\SqT K H b ys/\xs≠[]/\xs.length+ys.length<=sizeLine/\
 (ys=[]->Q (.ref a) H)/\(ys≠[]->∀p,H p=none->Q (.ref p) (upd H p (.tup (xs++ys))))
def fL.nil_iff{xs:List V}{us:List Value}(r:fL xs us):us=[]↔xs=[]:=by
 cases r with
 |nil=>simp
 |cons _ _=>simp
def op_catT:OpR X (binaryOp .Add) (rCatT X.K):=by
 rintro B s Z H x y v u Q I R m ⟨a,b,F,f,rfl,rfl,ha,hb,hx,hz,q1,p⟩;cases R;cases m;obtain⟨G,d,p1,_⟩:=I.tuple ha;obtain⟨c,N,p2,_⟩:=I.tuple hb;refine HT.cat_tup p1 p2 (λz=>hx (d.nil_iff.mp z)) (λz=>#[.ref a,H,I,rfl,q1 (N.nil_iff.mp z)]) (λz=>?_) (by rw[←d.length,←N.length];exact hz);refine#[.ref s.heap.objs.size,_,I.laid (t':=s.toks) (o:=.tup (F++f)) (λb ob q=>bE _ q) (aU _) ?_,rfl,p (λw=>z (N.nil_iff.mpr w)) _ (I.hok.fresh (aU _))];exact#[by rw[bK];exact hz,_,d.append N,IsTup.new _ _]
end
noncomputable def ixN(n:Nat)(i:Int):Option Nat:=if 0<=i then(if i<n then some i.toNat else none)else if -(n:Int)<=i then some (i+n).toNat else none
noncomputable def atI{d:Type}(xs:List d)(i:Int):Option d:=(ixN xs.length i).bind λj=>xs[j]?
def jYU{n:Nat}{i:Int}{j:Nat}(h:ixN n i=some j):seqIndex? i n=some j/\j<n/\-(n:Int)<=i/\i<n:=by
 unfold ixN at h;by_cases B:0<=i
 .rw[aK B]at h;by_cases h1:i<n
  .rw[aK h1]at h;have e:i.toNat=j:=aW h;exact#[by rw[seqIndex_of B h1,e],#[],#[],h1]
  .rw[aF h1]at h;cases h
 .rw[aF B]at h;by_cases h1:-(n:Int)<=i
  .rw[aK h1]at h;have e:(i+n).toNat=j:=aW h;exact#[by rw[seqIndex_neg #[] h1,e],#[],h1,#[]]
  .rw[aF h1]at h;cases h
def jYt{d:Type}{xs:List d}{i:Int}{v:d}(h:atI xs i=some v):∃j,seqIndex? i xs.length=some j/\xs[j]?=some v/\j<xs.length/\-(xs.length:Int)<=i/\i<xs.length:=by
 unfold atI at h;cases e:ixN xs.length i with
 |none=>rw[e]at h;cases h
 |some j=>
  rw[e]at h;obtain⟨h1,h2,R,O⟩:=jYU e;exact#[j,h1,h,h2,R,O]
def fC{d:Type}{xs:List d}{j:Nat}{v:d}(h:xs[j]?=some v):atI xs (j:Int)=some v:=by
 have A:j<xs.length:=(aO.mp h).1;have e:ixN xs.length (j:Int)=some j:=by
  unfold ixN;rw[aK #[],aK #[]];simp
 unfold atI;rw[e];exact h
def Wk(b:Expr):Prop:=∀o i,subscripted b false o i=operate [o,i] (getItem o i)
def IxR(X:Cx)(r:R2):Prop:=
 ∀(d c:Expr)(B:List (Addr×Obj))(s:Shared)(Z:St)(H:Hp)(x y:V)(v u:Value)(Q:VK),Inv X B Z H s->fU x v->fU y u->r x y H Q->
  subscripted c false v u=operate [v,u] (getItem v u)->wpAny (model X.prog X.w) X.A (subscriptTail d c v u) (EP X B Z Q) X.xe s
def MtR(X:Cx)(m:String)(r:V->List V->Hp->VK->Prop):Prop:=
 ∀(B:List (Addr×Obj))(s:Shared)(Z:St)(H:Hp)(x:V)(xs:List V)(v:Value)(us:List Value)(Q:VK),Inv X B Z H s->fU x v->fL xs us->r x xs H Q->
  wpAny (model X.prog X.w) X.A (call (.builtin m) (v::us)) (EP X B Z Q) X.xe s
section
variable{X:Cx}{a b:Expr}{ta tb:TE}{pos:Pos}
def pe_ix{r:R2}(hr:IxR X r)(ha:PE X a ta)(hb:PE X b tb)(hs:Wk b):PE X (.Subscript a b pos) (tOp r ta tb):=by
 intro B s Z H Q I h;exact Subscript_ (binT ha hb I h λv u P x y j t R m q=>hr a b B P Z j x y v u Q t R m q (hs _ _))
def fS(K:aQ):R2:=λx y H Q=>exR x λp=>exI y λi=>∃xs,SqL K H p xs/\∃v,atI xs i=some v/\Q v H
def eZ(K:aQ):R2:=λx y H Q=>exR x λp=>exI y λi=>∃xs,SqT K H p xs/\∃v,atI xs i=some v/\Q v H
def ix_list:IxR X (fS X.K):=by
 intro d c B s Z H x y v u Q I k m h hs;obtain⟨p,rfl,h1⟩:=Eq.mp iM h;obtain⟨i,rfl,F,T,z,l,q⟩:=Eq.mp gZ h1;cases k;obtain⟨t,rfl⟩:=m;obtain⟨G,r,f,hz⟩:=I.list T;obtain⟨j,h1,h2,o,O,n⟩:=jYt l;obtain⟨w,e,C⟩:=r.get h2;have S:=r.length;have hn:=Nd;have fin:EP X B Z Q w s:=#[z,H,I,C,q];by_cases g:0<=i
 .have A:i.toNat=j:=by
   rw[seqIndex_of g n]at h1;exact aW h1
  exact item_listR f.isList g #[] (by rw[A];simpa using e) fin hs
 .have A:(i+(G.toArray.size:Int)).toNat=j:=by
   rw[seqIndex_neg #[] O]at h1;rw[bJ,←S];exact aW h1
  exact subscriptTail_builtinR (x:=w) f.isList.typeIs slot_list_getitem.lookup
   (wpAny_getItem_list_neg (Q:=λr R=>r=w/\EP X B Z Q r R) f.isList #[] (by rw[bJ]<;>lia) #[] (by rw[A];simpa using e) #[rfl,fin]) hs
def ix_tup:IxR X (eZ X.K):=by
 intro d c B s Z H x y v u Q I g m h hs;obtain⟨p,rfl,h1⟩:=Eq.mp iM h;obtain⟨i,rfl,F,T,z,l,q⟩:=Eq.mp gZ h1;cases g;obtain⟨t,rfl⟩:=m;obtain⟨G,r,f,hz⟩:=I.tuple T;obtain⟨j,h1,h2,k,O,n⟩:=jYt l;obtain⟨w,e,C⟩:=r.get h2;have S:=r.length;have hn:=Nd;have fin:EP X B Z Q w s:=#[z,H,I,C,q];exact subscriptTail_builtinR (x:=w) f.typeIs slot_tuple_getitem.lookup
  (getItem_tuple (j:=j) (Q:=λr R=>r=w/\EP X B Z Q r R) f #[] #[] (by rw[bJ,←S];exact h1) (by simpa using e) #[rfl,fin]) hs
def jZ6(G:List Value)(n j:Nat)(u:Value):Obj.mapSeq (·.setIfInBounds j u) { cls:=.type "list",data:=.seq G.toArray n }={ cls:=.type "list",data:=.seq (G.set j u).toArray n }:=by
 simp [Obj.mapSeq]
def Inv.lst{B:List (Addr×Obj)}{Z:St}{H:Hp}{s:Shared}{p:Addr}{xs:List V}(I:Inv X B Z H s)(h:H p=some (.lst xs)):
  ∃(G:List Value)(n:Nat),fL xs G/\s.heap.get? p=some { cls:=.type "list",data:=.seq G.toArray n }/\xs.length<=sizeLine:=by
 obtain⟨z,G,n,r,e⟩:=I.hok p _ h;exact#[G,n,r,e,z]
def Inv.lstUpd{B:List (Addr×Obj)}{Z:St}{H:Hp}{p:Addr}{xs ys:List V}{its':List Value}{n g:Nat}{f:Obj->Obj}(I:Inv X B Z H s)(h:H p=some (.lst xs))
  (D:s.heap.get? p=some { cls:=.type "list",data:=.seq G.toArray n }) (hf:f { cls:=.type "list",data:=.seq G.toArray n }={ cls:=.type "list",data:=.seq its'.toArray g }) (r:fL ys its') (hz:ys.length<=sizeLine) (t:Nat):
  Inv X B Z (upd H p (.lst ys)) { s with heap:=s.heap.update p f,toks:=t }:=by
 have e:(s.heap.update p f).get? p=some { cls:=.type "list",data:=.seq its'.toArray g }:=by
  rw[Heap.get?_update_self f D (by rw[hf]<;>rfl),hf]
 refine I.write (x:=p) (e:=p) (by rw[h];trivial) (.inl rfl) (λb u hb q=>(fG _ _ (Ne.symm hb)).trans q) #[_,e] ?_;exact#[hz,its',g,r,e]
noncomputable def qT:V->V->V->Hp->(Hp->Prop)->Prop:=λo i v H Q=>∃p xs k j,o=.ref p/\i=.int k/\H p=some (.lst xs)/\ixN xs.length k=some j/\Q (upd H p (.lst (xs.set j v)))
def qY:PSet X qT:=by
 rintro B s Z H o i v J f u Q I d e l ⟨p,F,k,j,rfl,rfl,hp,A,q⟩;cases d;obtain⟨t,rfl⟩:=e;obtain⟨G,n,r,D,hz⟩:=I.lst hp;obtain⟨h1,h2,R,O⟩:=jYU A;have S:=r.length;have hn:=Nd;have c:Inv X B Z (upd H p (.lst (F.set j v))) { s with heap:=s.heap.update p (Obj.mapSeq (·.setIfInBounds j u)) }:=
  I.lstUpd hp D (jZ6 G n j u) (r.set l j) (by rw[List.length_set];exact hz) s.toks
 by_cases g:0<=k
 .have hk:k.toNat=j:=by
   rw[seqIndex_of g O]at h1;exact aW h1
  exact PySem.W.ki_setAt D g #[] (by rw[bJ,←S];exact O) (by rw[hk];exact#[_,c,q])
 .have hk:(k+(G.toArray.size:Int)).toNat=j:=by
   rw[seqIndex_neg #[] R]at h1;rw[bJ,←S];exact aW h1
  exact PySem.W.ki_setBack D #[] (by rw[bJ,←S];exact R) #[] (by rw[hk];exact#[_,c,q])
def Wn(lo hi:Option Int)(n:Nat):(sliceBounds lo hi none n).1=((HT.sIx n 0 lo:Nat):Int)/\(sliceBounds lo hi none n).2.1=((HT.sIx n n hi:Nat):Int)/\(sliceBounds lo hi none n).2.2=1:=by
 refine#[?_,?_,rfl]
 .cases lo with
  |none=>simp [sliceBounds,HT.sIx]
  |some i=>
   simp only[sliceBounds,HT.sIx,Option.getD_none,show(1:Int)>0 by decide,if_true];by_cases h:i<0
   .simp only[h,if_true]<;>lia
   .simp only[h,if_false]<;>lia
 .cases hi with
  |none=>simp [sliceBounds,HT.sIx]
  |some i=>
   simp only[sliceBounds,HT.sIx,Option.getD_none,show(1:Int)>0 by decide,if_true];by_cases h:i<0
   .simp only[h,if_true]<;>lia
   .simp only[h,if_false]<;>lia
def Qz(G:List Value)(lo hi:Option Int):slicePick G.toArray lo hi none=((G.drop (HT.sIx G.length 0 lo)).take (HT.sIx G.length G.length hi-HT.sIx G.length 0 lo)).toArray:=by
 obtain⟨h1,h2,R⟩:=Wn lo hi G.toArray.size;unfold slicePick;rw[h1,h2,R];simp only[sliceRange_one,pick_run,bJ]<;>rfl
noncomputable def vG(K:aQ):V->Option Int->Option Int->Hp->VK->Prop:=λx lo hi H Q=>∃a xs,x=.ref a/\SqL K H a xs/\∀p,H p=none->Q (.ref p) (upd H p (.lst (mY xs lo hi)))
def sC:SlR X (vG X.K):=by
 rintro B s Z H x v c g lo hi sl Q I R hs f i ⟨a,F,rfl,hx,q⟩;cases R;obtain⟨G,r,y,hz⟩:=I.list hx;have C:=r.length;refine#["list",_,slot_list_getitem.lookup,y.isList.typeIs,?_];refine wpAny_getItem_list_slice y.isList hs f i .none (by simp) ?_ (by rw[bJ]<;>lia);rw[Qz,←C];refine#[.ref s.heap.objs.size,_,I.laid (t':=s.toks) (o:=.lst (mY F lo hi)) (λb ob q=>bE _ q) (aU _) ?_,rfl,q _ (I.hok.fresh (aU _))];exact#[cI (Aw F lo hi) hz,_,0,(r.drop (HT.sIx F.length 0 lo)).take (HT.sIx F.length F.length hi-HT.sIx F.length 0 lo),bX _ rfl]
noncomputable def Fg:V->Bool
 | .non=>true
 | .bl _=>true
 | .int _=>true
 | .str _=>true
 |_=>false
noncomputable def eqV:V->V->Bool
 | .non,.non=>true
 | .bl a,.bl b=>a==b
 | .bl a,.int b=>(if a then 1 else 0)==b
 | .int a,.bl b=>a==(if b then 1 else 0)
 | .int a,.int b=>a==b
 | .str a,.str b=>a==b
 |_,_=>false
def eqAt_V{A:Around}{y:V}{u v:Value}(m:fU y u)(R:fU x v)(d:Fg y=true)(c:Fg x=true):SeqAt.EqAt A s u v (eqV y x):=by
 cases y with
 |non=>
  cases m;cases x with
  |non=>cases R;exact SeqAt.EqAt.same _
  |bl b=>cases R;exact SeqAt.EqAt.none_bool b
  |int b=>obtain⟨t,rfl⟩:=R;exact SeqAt.EqAt.none_int b t
  |str b=>obtain⟨t,rfl⟩:=R;exact SeqAt.EqAt.none_str b t
  |_=>exact absurd (show false=true from c) bT
 |bl a=>
  cases m;cases x with
  |non=>cases R;exact SeqAt.EqAt.bool_none a
  |bl b=>cases R;exact SeqAt.EqAt.bool_bool a b
  |int b=>obtain⟨t,rfl⟩:=R;exact SeqAt.EqAt.bool_int a b t
  |str b=>obtain⟨t,rfl⟩:=R;exact SeqAt.EqAt.bool_str a b t
  |_=>exact absurd (show false=true from c) bT
 |int a=>
  obtain⟨J,rfl⟩:=m;cases x with
  |non=>cases R;exact SeqAt.EqAt.int_none a J
  |bl b=>cases R;exact SeqAt.EqAt.int_bool a J b
  |int b=>obtain⟨t,rfl⟩:=R;exact SeqAt.EqAt.int_int a J b t
  |str b=>obtain⟨t,rfl⟩:=R;exact SeqAt.EqAt.int_str a J b t
  |_=>exact absurd (show false=true from c) bT
 |str a=>
  obtain⟨J,rfl⟩:=m;cases x with
  |non=>cases R;exact SeqAt.EqAt.str_none a J
  |bl b=>cases R;exact SeqAt.EqAt.str_bool a J b
  |int b=>obtain⟨t,rfl⟩:=R;exact SeqAt.EqAt.str_int a J b t
  |str b=>obtain⟨t,rfl⟩:=R;exact SeqAt.EqAt.str_str a J b t
  |_=>exact absurd (show false=true from c) bT
 |_=>exact absurd (show false=true from d) bT
def eqU(x:V)(u:Value):Bool:=match u with
 | .none=>eqV .non x
 | .bool b=>eqV (.bl b) x
 | .int i _=>eqV (.int i) x
 | .str z _=>eqV (.str z) x
 |_=>false
def eqU_of{y:V}{u:Value}(r:fU y u)(f:Fg y=true):eqU x u=eqV y x:=by
 cases y with
 |non=>cases r;rfl
 |bl b=>cases r;rfl
 |int i=>obtain⟨t,rfl⟩:=r;rfl
 |str z=>obtain⟨t,rfl⟩:=r;rfl
 |_=>exact absurd (show false=true from f) bT
def Wj{x:V}:∀{xs:List V}{us:List Value},fL xs us->xs.all Fg=true->us.any (eqU x)=xs.any λy=>eqV y x
 |_,_,.nil,_=>rfl
 |y::xs,u::us,.cons r t,f=>by
  rw[List.all_cons,Bool.and_eq_true]at f;rw[List.any_cons,List.any_cons,eqU_of r f.1,Wj t f.2]
def Oj{A:Around}{s:Shared}{x:V}{v:Value}(R:fU x v)(c:Fg x=true):∀{xs:List V}{us:List Value},fL xs us->xs.all Fg=true->∀u∈us,SeqAt.EqAt A s u v (eqU x u)
 |_,_,.nil,_=>λu hu=>by cases hu
 |y::xs,u::us,.cons r t,f=>λY hu=>by
  rw[List.all_cons,Bool.and_eq_true]at f;rcases eW.mp hu with rfl |hu
  .rw[eqU_of r f.1];exact eqAt_V r R f.1 c
  .exact Oj R c t f.2 Y hu
def inV(x:V)(xs:List V):Bool:=xs.any λy=>eqV y x
def rIn(K:aQ)(neg:Bool):R2:=λx y H Q=>∃p xs,y=.ref p/\(SqL K H p xs∨SqT K H p xs)/\Fg x=true/\xs.all Fg=true/\Q (.bl (if neg then !inV x xs else inV x xs)) H
def xP:OpR X (compareOp .NotIn) (rIn X.K true):=by
 rintro B s Z H x y v u Q I R m ⟨p,F,rfl,T,c,fs,q⟩;cases m;rcases T with T |T
 .obtain⟨G,r,f,hz⟩:=I.list T;refine SeqAt.notIn_listAt (eqU x) f.isList (λw hw=>Oj R c r fs w (by simpa using hw)) #[.bl _,H,I,rfl,?_];rw[show G.toArray.any (eqU x)=G.any (eqU x) by simp,Wj r fs];exact q
 .obtain⟨G,r,f,hz⟩:=I.tuple T;refine SeqAt.notIn_tupleAt (eqU x) f (λw hw=>Oj R c r fs w (by simpa using hw)) #[.bl _,H,I,rfl,?_];rw[show G.toArray.any (eqU x)=G.any (eqU x) by simp,Wj r fs];exact q
def cO:qA X (.builtin "len") (λF H Q=>∃p v,F=[.ref p]/\(SqL X.K H p v∨SqT X.K H p v)/\Q (.int v.length) H):=by
 rintro B s Z H F k Q I r ⟨p,v,rfl,T,q⟩;obtain⟨u,rfl,R⟩:=zI r;cases R;have hn:=Nd;rcases T with T |T
 .obtain⟨G,P,f,hz⟩:=I.list T;have C:=P.length;exact Calls.call_len_list f.isList (by simp only[bJ]<;>lia) #[.int v.length,H,I.tok _,#[s.toks+1,by rw[bJ,C]],q]
 .obtain⟨G,P,f,hz⟩:=I.tuple T;have C:=P.length;exact len_tuple f (by simp only[bJ]<;>lia) #[.int v.length,H,I.tok _,#[s.toks+1,by rw[bJ,C]],q]
def kD:qA X (.type "list") (λF H Q=>∃p v,F=[.ref p]/\(SqL X.K H p v∨SqT X.K H p v)/\∀l,H l=none->Q (.ref l) (upd H l (.lst v))):=by
 rintro B s Z H F k Q I r ⟨p,v,rfl,T,q⟩;obtain⟨u,rfl,R⟩:=zI r;cases R;have fin:∀(G:List Value),fL v G->v.length<=sizeLine->∀(Y:Heap)(J:Nat),(∀b O,s.heap.get? b=some O->Y.get? b=some O)->
   Y.get? s.heap.objs.size=some { cls:=.type "list",dict:=none,data:=.seq G.toArray J,slots:=(List.toArray []) }->EP X B Z Q (.ref s.heap.objs.size) { s with heap:=Y }:=λG P hz Y J kp e=>
  #[.ref s.heap.objs.size,_,I.laid (t':=s.toks) kp (aU _) (show iR X.prog X.w _ Y _ (.lst v)from#[hz,G,J,P,e]),rfl,q _ (I.hok.fresh (aU _))]
 rcases T with T |T
 .obtain⟨G,P,f,hz⟩:=I.list T;have C:=P.length;obtain⟨o,D,hc,n,hd⟩:=f.isList;exact call_list_seq p (.inl rfl) D hc hd (λY J kp e=>fin G P hz Y J kp e) (by simp only[bJ]<;>lia)
 .obtain⟨G,P,f,hz⟩:=I.tuple T;have C:=P.length;obtain⟨o,D,hc,n,hd⟩:=f;exact call_list_seq p (.inr rfl) D hc hd (λY J kp e=>fin G P hz Y J kp e) (by simp only[bJ]<;>lia)
def tyV(K:aQ)(T:String)(x:V)(H:Hp):Prop:=match x with
 | .str _=>T="str"
 | .int _=>T="int"
 | .ref p=>(T="list"/\∃xs,SqL K H p xs)∨(T="tuple"/\∃o,K.lookup p=some o/\o.cls=.type "tuple"/\o.dict=none)∨
   (T="dict"/\((∃kvs,H p=some (.dK kvs))∨∃kvs,H p=some (.dT kvs)))∨(T="set"/\∃S n,H p=some (.set S n))
 |_=>False
def tyV_is{B:List (Addr×Obj)}{Z:St}{H:Hp}{T:String}{v:Value}(I:Inv X B Z H s)(r:fU x v)(l:tyV X.K T x H):
  s.TypeIs v T/\∀a,v=.ref a->∃ob,s.heap.get? a=some ob/\ob.dict=none:=by
 cases x with
 |str z=>
  obtain⟨t,rfl⟩:=r;cases(show T="str" from l);exact#[typeIs_str s z t,λ_ e=>nomatch e]
 |int i=>
  obtain⟨t,rfl⟩:=r;cases(show T="int" from l);exact#[typeIs_int s i t,λ_ e=>nomatch e]
 |ref p=>
  cases r;rcases l with⟨rfl,F,d⟩|⟨rfl,o,hk,hc,hd⟩|⟨rfl,hk⟩|⟨rfl,S,n,hk⟩
  .obtain⟨G,_,f,_⟩:=I.list d;refine#[f.isList.typeIs,λa e=>?_];cases e;obtain⟨o,n,e,c,hd,_⟩:=f;exact#[o,e,hd]
  .refine#[#[o,I.kIn p o hk,hc],λa e=>?_];cases e;exact#[o,I.kIn _ o hk,hd]
  .have z:∃o,s.heap.get? p=some o/\o.ExactDict:=by
    rcases hk with⟨J,hk⟩|⟨J,hk⟩
    .obtain⟨_,_,_,_,o,_,_,e,ex,_⟩:=I.hok p _ hk;exact#[o,e,ex]
    .obtain⟨_,_,_,_,o,_,_,e,ex,_⟩:=I.hok p _ hk;exact#[o,e,ex]
   obtain⟨o,e,ex⟩:=z;refine#[#[o,e,ex.1],λa C=>?_];cases C;exact#[o,e,ex.2.1]
  .obtain⟨o,_,_,_,e,ex,_⟩:=I.hok p _ hk;refine#[#[o,e,ex.1],λa C=>?_];cases C;exact#[o,e,ex.2.1]
 |_=>exact False.elim l
def tBM0(K:aQ)(T:String)(r:V->List V->Hp->VK->Prop)(c:TE):TE:=λZ H Q=>c Z H λx U=>tyV K T x U/\r x [] U Q
def tBM(K:aQ)(T:String)(r:V->List V->Hp->VK->Prop)(c:TE)(t:TA):TE:=λZ H Q=>c Z H λx U=>tyV K T x U/\t Z U λxs j=>r x xs j Q
variable{o e:Expr}{es:List Expr}{to:TE}{t:TA}{name:Str}{apos cpos:Pos}{T id:String}{r:V->List V->Hp->VK->Prop}
def pe_bm0(c:PlainAttrs T)(slot:Slot T name id)(m:typeOf (.builtin id)=pure (.type "method_descriptor"))(hm:MtR X id r)(D:PE X o to)
  (f:attributeBase o name X.env (eval o X.env)=eval o X.env:=by rfl) (i:(apos.endLine==cpos.line)=true:=by rfl):PE X (.Call (.Attribute o name apos) [] [] cpos) (tBM0 X.K T r to):=by
 intro B s Z H Q I h;refine wpAny_Call_method0_late f i (thE (D B s Z H _ I h) λv M x U O d w=>?_);obtain⟨l,q1⟩:=w;obtain⟨h1,h2⟩:=tyV_is O d l;exact#[T,id,c,slot,m,h1,h2,Calls.callWith_builtin rfl (PySem.evalArgs_none (hm B M Z U x [] v [] Q O d .nil q1))]
def Rs(c:PlainAttrs T)(slot:Slot T name id)(m:typeOf (.builtin id)=pure (.type "method_descriptor"))(hm:MtR X id r)(D:PE X o to)(ha:PA X (e::es) t)
  (f:attributeBase o name X.env (eval o X.env)=eval o X.env:=by rfl)
  (n:((backTo cpos (starEach (e::es) X.env)).all (λx=>!x.1)&&(backToKw cpos (keywordEach [] X.env)).all (λx=>x.1.isSome)
   &&decide ((e::es).length+([]:List Keyword).length+(if([]:List Keyword).isEmpty then 0 else 1)<30))=true:=by rfl)
  (i:(apos.endLine==cpos.line)=true:=by rfl) (hs:starEach (e::es) X.env=(false,eval e X.env)::starEach es X.env:=by rfl) (g:(backTo cpos (starEach es X.env)).any (·.1)=false:=by rfl):
  PE X (.Call (.Attribute o name apos) (e::es) [] cpos) (tBM X.K T r to t):=by
 intro B s Z H Q I h;refine wpAny_Call_method_late f n i rfl (thE (D B s Z H _ I h) λv M x U O d w=>?_);obtain⟨l,q1⟩:=w;obtain⟨h1,h2⟩:=tyV_is O d l;refine#[T,id,c,slot,m,h1,h2,?_];have A:=ha cpos B M Z U _ O q1;rw[hs]at A⊢;refine Calls.callWith_builtin (by show(false||(backTo cpos (starEach es X.env)).any (·.1))=false;rw[g]<;>rfl) (Calls.evalArgs_plain ?_);exact thn A λk P#[q,j,u,N,p]=>hm B P Z j x q v k Q u d N p
end
def MtM(X:Cx)(m:String)(r:V->List V->Hp->VK->Prop):Prop:=
 ∀(B:List (Addr×Obj))(s:Shared)(Z:St)(H:Hp)(x:V)(xs:List V)(v:Value)(us:List Value)(Q:VK),Inv X B Z H s->fU x v->fL xs us->r x xs H Q->
  wpAny (model X.prog X.w) X.A (call (.builtin m) (v::us)) (EP X B Z Q) X.xe s
def fL.one:∀{x:V}{us:List Value},fL [x] us->∃u,us=[u]/\fU x u
 |_,_,.cons r .nil=>#[_,rfl,r]
def fL.eraseIdx:∀{xs:List V}{us:List Value}(i:Nat),fL xs us->fL (xs.eraseIdx i) (us.eraseIdx i)
 |_,_,_,.nil=>.nil
 |_,_,0,.cons _ t=>t
 |_,_,i+1,.cons r t=>.cons r (fL.eraseIdx i t)
def Tc{d:Type}:∀(l:List d)(i:Nat),(l.eraseIdx i).length<=l.length
 | [],_=>aU _
 |_::_,0=>Nat.le_succ _
 |_::r,i+1=>Nat.succ_le_succ (Tc r i)
section
variable{X:Cx}{pins:List (Addr×Obj)}{σ:St}{H:Hp}{s:Shared}{l b:Addr}{xs ys zs:List V}
def Inv.lset{its':List Value}{n:Nat}{f:Array Value->Array Value}{t':Nat}(I:Inv X pins σ H s)(g:H l=some (.lst xs))
  (e:s.heap.get? l=some { cls:=.type "list",data:=.seq G.toArray n }) (hf:f G.toArray=its'.toArray) (hv:fL ys its') (hz:ys.length<=sizeLine):
  Inv X pins σ (upd H l (.lst ys)) { s with heap:=s.heap.update l (Obj.mapSeq f),toks:=t' }:=by
 have q:=PySem.IsL.update e f;rw[hf]at q;refine I.write (x:=l) (e:=l) (by rw[g];exact trivial) (.inl rfl) (λd u hb hu=>(fG s.heap (Obj.mapSeq f) (Ne.symm hb)).trans hu) #[_,q] ?_;exact#[hz,its',_,hv,q]
def Inv.lnew{t':Nat}(I:Inv X pins σ H s)(hv:fL ys G)(hz:ys.length<=sizeLine):
  Inv X pins σ (upd H s.heap.objs.size (.lst ys)) { s with heap:=s.heap.push { cls:=.type "list",data:=.seq G.toArray },toks:=t' }:=
 I.laid (λ_ _ q=>bE _ q) (aU _) #[hz,G,0,hv,bX _ rfl]
def Inv.fresh(I:Inv X pins σ H s):H s.heap.objs.size=none:=I.hok.fresh (aU _)
def Inv.lstM(I:Inv X pins σ H s)(g:H l=some (.lst xs)):xs.length<=sizeLine/\∃(G:List Value)(n:Nat),fL xs G/\xs.length=G.length/\s.heap.get? l=some { cls:=.type "list",data:=.seq G.toArray n }:=by
 obtain⟨z,G,n,r,e⟩:=I.hok l _ g;exact#[z,G,n,r,r.length,e]
def jV0{n:Nat}(h:n<=sizeLine):Builtin.List.listTooLong n=false:=by
 unfold Builtin.List.listTooLong;exact decide_eq_false #[]
end
section
variable{X:Cx}
noncomputable def vM:V->List V->Hp->VK->Prop:=λx vs H Q=>∃l xs y,x=.ref l/\vs=[y]/\H l=some (.lst xs)/\xs.length<sizeLine/\Q .non (upd H l (.lst (xs++ [y])))
def Ju:MtM X "list.append" vM:=by
 rintro B s Z H x j v k Q I R D ⟨l,a,y,rfl,rfl,g,hz,q⟩;cases R;obtain⟨u,rfl,N⟩:=D.one;obtain⟨z,G,n,r,S,e⟩:=I.lstM g;refine call_meets F.slot_list_append #[_,e,rfl] F.entry_list_append (F.args_list_append_2 _ _) (PySem.list_append l G.toArray n u (by rw[bJ];lia)) #[e,?_];refine#[.non,_,I.lset (its':=G++ [u]) g e (by simp) (r.append (.cons N .nil)) ?_,rfl,q];rw[bK,List.length_singleton];lia
noncomputable def jXy:V->List V->Hp->VK->Prop:=λx vs H Q=>∃l b xs J,x=.ref l/\vs=[.ref b]/\H l=some (.lst xs)/\H b=some (.lst J)/\xs.length+J.length<=sizeLine/\Q .non (upd H l (.lst (xs++J)))
def jWt:MtM X "list.extend" jXy:=by
 rintro B s Z H x j v k Q I R D ⟨l,b,f,J,rfl,rfl,g,T,hz,q⟩;cases R;obtain⟨u,rfl,d⟩:=D.one;cases d;obtain⟨z,G,n,r,S,e⟩:=I.lstM g;obtain⟨m,c,n2,N,M,C⟩:=I.lstM T;have i:G.toArray.size+c.toArray.size<=sizeLine:=by rw[bJ,bJ];lia
 have a:¬(!G.toArray.isEmpty&&Builtin.List.listTooLong (G.toArray.size+c.toArray.size))=true:=by
  rw[jV0 i,Bool.and_false];exact bT
 refine call_meets F.slot_list_extend #[_,e,rfl] F.entry_list_extend (F.args_list_extend_2 _ _)
  (AutoSeq1.list_extend_list_list_0 l G.toArray n b c.toArray n2 a (by rw[bJ];lia) #[]) #[e,C,?_]
 refine#[.non,_,I.lset (its':=G++c) g e (by simp) (r.append N) ?_,rfl,q];rw[bK];lia
def sV:R2:=λx y H Q=>∃l b xs J,x=.ref l/\y=.ref b/\H l=some (.lst xs)/\H b=some (.lst J)/\xs.length+J.length<=sizeLine/\∀p,H p=none->Q (.ref p) (upd H p (.lst (xs++J)))
def sX:OpR X (binaryOp .Add) sV:=by
 rintro B s Z H x y v u Q I R m ⟨l,b,F,J,rfl,rfl,g,T,hz,q⟩;cases R;cases m;obtain⟨z,G,n,r,S,e⟩:=I.lstM g;obtain⟨a,c,n2,N,M,C⟩:=I.lstM T;refine PySem.P.add_list e C ?_ (by rw[bJ,bJ];lia);have Y:G.toArray++c.toArray=(G++c).toArray:=by simp
 rw[Y];exact#[.ref _,_,I.lnew (t':=s.toks) (r.append N) (by rw[bK];lia),rfl,q _ I.fresh]
end
end L2
namespace Att
open PySem PySem.W PySem.Calls PyProof.Rows
def Lx{P:Params}{h:Heap}:∀(ns:List Int)(vs:List Value),WellAll P h vs (ns.map WData.int)->IntsAre vs ns:=by
 intro ns
 induction ns with
 |nil=>
  intro vs w;rw[List.map_nil]at w;cases w;exact .nil
 |cons n ns ih=>
  intro vs w;rw[List.map_cons]at w;cases w with
  |cons a b=>
   cases a;exact .cons _ _ (ih _ b)
def jWJ{l:OpenLaw}{n:Nat}(hn:l.most=some n){P:Params}{h:Heap}{c:List WData}{k:List Value}
  (e:l.row.toRowW.claim.pre c=true) (b:WellAll P h k c):
  ∃a j ns,k=[Value.ref a]/\c=[WData.list (ns.map WData.int)]/\h.get? a=some { cls:=.type "list",data:=.seq j.toArray }/\IntsAre j ns/\ns.length<=n:=by
 have f:WShape.hasAll [] c [.list .int]=true:=(pre_splitW e).1;have hc:l.pre.holds [] { args:=c }=true:=(pre_splitW e).2;obtain⟨d,r,rfl,h1,h2⟩:=hasAllW_cons f;obtain rfl:=hasAllW_nil h2;obtain⟨F,rfl,R⟩:=hasW_list h1;obtain⟨ns,rfl⟩:=items_int R;have C:ns.length<=n:=by
  unfold OpenLaw.pre at hc;have O:(WTm.not (.lt (.lit (.int (n:Int))) (.len (.arg 0)))).holds [] { args:=[.list (ns.map .int)] }=true:=by
   have O:=(holds_andW hc).1;rw[hn]at O;exact O
  have I:=condW_of O (w_not (w_lt w_lit (w_len_list (w_arg rfl))));rw[List.length_map]at I;refine Nat.le_of_not_lt λq=>?_;have Z:(n:Int)<((ns.length:Nat):Int):=#[]
  first
   | (rw[decide_eq_true Z]at I;exact absurd I (by decide))
   | (simp at I;lia)
 cases b with
 |cons w1 w2=>
  cases w2;cases w1 with
  |list ho hall=>exact#[_,_,ns,rfl,rfl,ho,Lx ns _ hall,C]
def jWg(l:OpenLaw)(c:List WData):l.row.toRowW.claim.post c (.bool true) c=true:=
 postW_of (r:=l.row.toRowW) (X:=(true==true))
  (show WShape.has [] (.bool true) .bool=true by first |rfl |decide |simp [WShape.has,WShape.arms,WShape.armsAll])
  (show(WTm.eq .res (.lit (.bool true))).value [] { args:=c,res:=some (.bool true),after:=c }=some (.bool (true==true))from w_eq_bool (w_res rfl) w_lit) rfl
def attach_call{l:OpenLaw}{n:Nat}{q:Program}{m:List Str}{Z:(Str->Option Value)->Heap->Prop}{Q:World->Heap->Prop}{d:DefRec}
  (hn:l.most=some n) (M:d.params.defaults=[])
  (call:∀(w:World)(s₀ J:Shared)(mg U:Str->Option Value)(y:Addr)(o:Obj)(z t i:Value)(a:Addr)(vs:List Value)(ns:List Int),
   Ground q m [] Z w s₀ mg U J.heap->Q w J.heap->
   J.heap.get? y=some o->o.data=.func (docDef d.name d.params d.body d.scope z t i)->J.heap.CodeRec t d.name->mg d.name=some (.ref y)->
   J.heap.get? a=some { cls:=.type "list",data:=.seq vs.toArray }->IntsAre vs ns->ns.length<=n->J.gens=(List.toArray [])->
   codeAny (model l.prog w) callerA (.call (.ref y) #[[.ref a],[]]) (λr R=>r=.ok (.ret (.bool true))/\OldK J.heap R.heap/\R.os=J.os/\AllBare R.gens) J):
  WalkO q m Z Q l.row.toRowW d [] (λf vs=>PySem.call f vs):=by
 intro w s₀ J mg U G Y y o z t i h kV D hd p g S hg c k v e j s b u;obtain rfl:h=.none:=Dflts.none g M;obtain rfl:kV=.none:=Dflts.noKw g;obtain⟨a,vs,ns,rfl,rfl,N,A,C⟩:=jWJ hn e b;refine enter_call (codeAny_mono (call w s₀ J mg U y o z t i a vs ns G Y D (fd_plain hd) p S N A C hg) λr R T=>?_);obtain⟨rfl,h2,x,O⟩:=T;exact#[.inl #[.bool true,.bool true,[],rfl,λ_=>rfl,.bool true,jWg l _,λ_=>#[List.Pairwise.nil,λ_ hm=>(nomatch hm)]],h2,x,O]
end Att
namespace L2
open PySem PySem.Spec PyProof.Rows
variable{A:Prop}{H:Hp}{k:Nat}
def Rw:∀{vs:List Value}{ns:List Int},IntsAre vs ns->fL (ns.map V.int) vs
 |_,_,.nil=>.nil
 |_,_,.cons n t h=>.cons #[t,rfl] (Rw h)
def Only(H:Hp):Prop:=∀b,H b=none∨∃o xs,H b=some (.frz o (.lst xs))
def jV4{P:Program}{w:World}{K:aQ}{mg U:Str->Option Value}{CX:CXT}{y a:Addr}{fd:FuncData}{x:Str}{sp:Sp}{J:Shared}{vs:List Value}{ns:List Int}
  (KX:K.In J.heap) (f:J.heap.Ns mainGlobals mg) (hb:J.heap.Ns builtinsNs U) (a2:∀x:Str,x≠ "__name__"->U x=bootBuiltins x) (G:J.heap.NoLimit) (hg:J.gens=(List.toArray []))
  (ha:J.heap.get? a=some { cls:=.type "list",data:=.seq vs.toArray }) (hi:IntsAre vs ns) (S:ns.length<=sizeLine) (hr:mN k callerA)
  (F:∀base:Heap,K.In base->base.Ns mainGlobals mg->zH P w K mg base CX k y fd [x] sp) (p:∀(s:Shared)(u:Value),BindsTo s fd #[[u],[]] [(x,u)])
  (B:∀H:Hp,Only H->SqL K H a (ns.map V.int)->sp [.ref a] H (λv _=>v=.bl true) λ_ _ _=>False)
  (a3:∀H e R,CX [] H J (λ_ _ _=>False) e R->False):
  codeAny (model P w) callerA (.call (.ref y) #[[.ref a],[]]) (λr R=>r=.ok (.ret (.bool true))/\OldK J.heap R.heap/\R.os=J.os/\AllBare R.gens) J:=by
 have D:=Rw hi;have Y:=hi.length
 --from an abstract heap in which nothing but the script may be tracked
 have i:∀H:Hp,Only H->SqL K H a (ns.map V.int)->HOk P w H J.heap->(∀b,H b≠none->b=a)->(H a≠none->K.lookup a=none)->
   codeAny (model P w) callerA (.call (.ref y) #[[.ref a],[]]) (λr R=>r=.ok (.ret (.bool true))/\OldK J.heap R.heap/\R.os=J.os/\AllBare R.gens) J:=by
  intro H hO I hok A hK;have c:∀{b:Addr}{o:Obj},J.heap.get? b=some o->H b=none->(Uk J.heap H).get? b=some o:=λe n=>jV9 e n;have j:∀{b:Addr}{o:Obj}{N:Array DictEntry}{Q:Nat},J.heap.get? b=some o->o.data=.dict N Q->H b=none:=fun{b o N Q} e d=>by
   cases q:H b with
   |none=>rfl
   |some u=>
    have M:b=a:=A b (by rw[q];simp);subst M;rw[ha]at e;cases e;have t:Data.seq vs.toArray _=Data.dict N Q:=d;cases t
  have g:∀{b:Addr}{m:Str->Option Value},J.heap.Ns b m->(Uk J.heap H).Ns b m:=fun{b m}⟨o,N,Q,e,d,r⟩=>#[o,N,Q,c e (j e d),d,r];have a0:K.In (Uk J.heap H):=λb o e=>c (KX b o e) (by
   cases q:H b with
   |none=>rfl
   |some u=>
    have M:b=a:=A b (by rw[q];simp);subst M;rw[hK (by rw[q];simp)]at e;cases e)
  have X:Mod K mg (Uk J.heap H):=#[a0,g f,#[U,g hb,a2],let⟨mc,h1,h2⟩:=G;#[mc,g h1,h2]];have e0:Env0 P w K mg (Uk J.heap H) callerA [] J H:=#[rfl,X,λb o e=>of_hidT e,Nat.le_of_eq (jW5 _ _),trivial,λb hb=>absurd (show b∈([]:List Addr)from hb) (by simp),hok,.of_eq hg];refine codeAny_mono ((F _ a0 (g f)).run callerA [] J H #[[.ref a],[]] [.ref a] [.ref a] _ _ hr e0 (p J (.ref a)) (.cons rfl .nil) (B H hO I)) λr R h=>?_;cases r with
  |error e=>exact(a3 H e R h).elim
  |ok fl=>
   cases fl with
   |next=>exact False.elim h
   |brk=>exact False.elim h
   |cont=>exact False.elim h
   |ret u=>
    obtain⟨v,O,os,bare,un,a1,r',q⟩:=h;have Z:v=.bl true:=q;subst Z;obtain rfl:u=Value.bool true:=r';refine#[rfl,OldK.of_keep λb o e=>?_,os,bare];cases q:H b with
    |none=>exact un.keep b o e q (by intro z;exact absurd (show b∈([]:List Addr)from z) (by simp)) (by simp)
    |some u=>
     rcases hO b with z |⟨ob,xs,z⟩
     .rw[q]at z;cases z
     .have l:=un.frzs b ob _ z;obtain⟨e1,_⟩:=hok b _ z;obtain⟨C,_⟩:=a1 b _ l;rw[e]at e1;cases e1;exact C
 cases hk:K.lookup a with
 |some o=>
  --the script is one of the module's own objects
  have e:=KX a o hk;rw[ha]at e;cases e;refine i (λ_=>none) (λ_=>.inl rfl) (.inr #[_,vs.toArray,_,hk,rfl,rfl,rfl,by rw[bJ,Y];exact S,by simpa using D]) (λb u z=>by have T:(none:Option HO)=some u:=z;cases T) (λb z=>absurd rfl z) λz=>absurd rfl z
 |none=>
  refine i (λb=>if b=a then some (.frz { cls:=.type "list",data:=.seq vs.toArray } (.lst (ns.map V.int)))else none) (λb=>?_) (.inl (.inr #[{ cls:=.type "list",data:=.seq vs.toArray },aK rfl])) (λb u z=>?_) (λb z=>?_) λ_=>hk
  .by_cases hb:b=a
   .exact .inr #[_,_,aK hb]
   .exact .inl (aF hb)
  .by_cases hb:b=a
   .have T:=(aK hb).symm.trans z;cases T;subst hb;exact#[ha,by rw[aB];exact S,vs,_,D,ha]
   .have T:=(aF hb).symm.trans z;cases T
  .by_cases hb:b=a
   .exact hb
   .exact absurd (aF hb) z
def walk_of{l:PySem.W.OpenLaw}{n:Nat}{q:Program}{m:List Str}{Z:(Str->Option Value)->Heap->Prop}{Q:World->Heap->Prop}{d:DefRec}{K:Params->aQ}{CX:World->CXT}{sp:World->Sp}{x:Str}
  (hn:l.most=some n) (c:n<=sizeLine) (M:d.params.defaults=[]) (hr:mN k callerA)
  (hY:∀(w:World)(h:Heap),Q w h->(K w.params).In h)
  (F:∀(w:World)(mg:Str->Option Value)(y:Addr)(h:Heap),(K w.params).In h->h.Ns mainGlobals mg->mg d.name=some (.ref y)->
   ∃fd:FuncData,(∀(s:Shared)(u:Value),BindsTo s fd #[[u],[]] [(x,u)])/\
    ∀base:Heap,(K w.params).In base->base.Ns mainGlobals mg->zH l.prog w (K w.params) mg base (CX w) k y fd [x] (sp w))
  (B:∀(w:World)(H:Hp)(a:Addr)(ns:List Int),ns.length<=n->Only H->SqL (K w.params) H a (ns.map V.int)->sp w [.ref a] H (λv _=>v=.bl true) λ_ _ _=>False)
  (r:∀(w:World)(H:Hp)(s:Shared)(e:Value)(R:Shared),CX w [] H s (λ_ _ _=>False) e R->False):
  PySem.W.WalkO q m Z Q l.row.toRowW d [] (λf j=>PySem.call f j):=by
 refine Att.attach_call hn M λw s₀ J mg U y o z t i a j ns G Y D hd p S N A C hg=>?_;have X:=hY w _ Y;obtain⟨fd,hb,P⟩:=F w mg y _ X G.T.g S;exact jV4 X G.T.g G.T.b G.T.builtins G.T.nolimit hg N A (cI C c) hr P hb (λH O I=>B w H a ns C O I) λH e R=>r w H J e R
def kB(s:Stmt)(j:Nat):Stmt:=match s with
 | .ClassDef _ _ _ body _ _ _ _ _ _ _=>body.getD j (.Pass #[0,0,0,0])
 |_=>.Pass #[0,0,0,0]
def lN(s:Stmt):Arguments:=match s with
 | .FunctionDef _ a _ _ _ _ _ _ _ _=>a
 |_=>{ posonlyargs:=[],args:=[],vararg:=none,kwonlyargs:=[],kw_defaults:=[],kwarg:=none,defaults:=[] }
noncomputable def kW(s:Stmt):List Stmt:=match s with
 | .FunctionDef _ _ b _ _ _ _ _ _ _=>b
 |_=>[]
def eG(s:Stmt):Scope:=match s with
 | .FunctionDef _ _ _ _ _ _ sc _ _ _=>sc
 |_=>{ kind:=.function,names:=[],isGenerator:=false,isCoroutine:=false }
noncomputable abbrev CX0:CXT:=λ_ _ _ _ _ _=>False
noncomputable abbrev E0:XK:=λ_ _ _=>False
def Xm{X:Cx}:Dy CX0 X E0:=λ_ _ _ _ _ _ _ h=>h.elim
def rZ{A:Around}(hr:mN k A):A.units+1<cLine:=jL (Nat.add_le_add_left (by decide:1<=64) _) hr.units
def yV{B:Prop}(h:B):if false=true then A else B:=by
 rw[aF bT];exact h
def iteT{B:Prop}(h:A):if true=true then A else B:=by
 rw[aK rfl];exact h
def mC{c B:Prop} [Decidable c](h1:c->A)(h2:¬c->B):if c then A else B:=by
 by_cases h:c
 .rw[aK h];exact h1 h
 .rw[aF h];exact h2 h
def iteNS{c B:Prop} [Decidable c](hc:c)(h:B):if(!decide c)=true then A else B:=by
 rw[decide_eq_true hc];exact yV h
def aT(H O:Hp):Prop:=∀b o,H b=some o->O b=some o
def aT.refl(H:Hp):aT H H:=λ_ _ h=>h
def aT.trans{U j:Hp}(a:aT H U)(b:aT U j):aT H j:=λc o h=>b c o (a c o h)
def aT.free{O:Hp}(e:aT H O){l:Addr}(h:O l=Option.none):H l=Option.none:=by
 cases q:H l with
 |none=>rfl
 |some o=>
  rw[e l o q]at h;cases h
def aT.seq{K:aQ}{O:Hp}{a:Addr}{xs:List V}(e:aT H O)(h:SqL K H a xs):SqL K O a xs:=by
 rcases h with(h |⟨o,h⟩)|h
 .exact .inl (.inl (e _ _ h))
 .exact .inl (.inr #[o,e _ _ h])
 .exact .inr h
end L2
set_option Elab.async false
set_option linter.all false
set_option maxRecDepth 100000
set_option maxHeartbeats 4000000
namespace L2
open PySem PySem.Spec PyProof.Rows
variable{H O:Hp}{P:Program}{Q:Value->Shared->Prop}{a:Addr}{kvs:List (List Key×V)}{s:Shared}{u:Value}{xs:List (List Key×Addr×Value)}{y:V}
section
variable{κ:Type} [DecidableEq κ]
noncomputable def lZ(kvs:List (κ×V))(k:κ):Option V:=(kvs.find? λM=>decide (M.1=k)).map (·.2)
noncomputable def yU(kvs:List (κ×V))(k:κ)(v:V):List (κ×V):=
 if(kvs.any λM=>decide (M.1=k))=true then kvs.map (λM=>if M.1=k then(M.1,v)else M)else kvs++ [(k,v)]
def kH{p:κ×V}{r:List (κ×V)}{k:κ}(e:p.1=k):lZ (p::r) k=some p.2:=by simp [lZ,List.find?_cons,e]
def kJ{p:κ×V}{r:List (κ×V)}{k:κ}(e:¬p.1=k):lZ (p::r) k=lZ r k:=by simp [lZ,List.find?_cons,e]
def zT(k:κ):∀J:List (κ×V),(J.any λM=>decide (M.1=k))=(lZ J k).isSome
 | []=>rfl
 |p::r=>by
  rw[List.any_cons];by_cases e:p.1=k
  .simp only[kH e,decide_eq_true e,Bool.true_or,Option.isSome_some]
  .rw[kJ e,decide_eq_false e,Bool.false_or];exact zT k r
def Xt(k j:κ)(y:V):∀J:List (κ×V),lZ (J.map λM=>if M.1=k then(M.1,y)else M) j=(lZ J j).map λx=>if j=k then y else x
 | []=>rfl
 |p::r=>by
  have m:=Xt k j y r;rw[bV];by_cases h:p.1=k
  .rw[aK h];by_cases e:p.1=j
   .rw[kH (p:=(p.1,y)) e,kH e,Option.map_some,aK (e.symm.trans h)]
   .rw[kJ (p:=(p.1,y)) e,kJ e,m]
  .rw[aF h];by_cases e:p.1=j
   .rw[kH (p:=p) e,kH e,Option.map_some,aF (λz=>h (e.trans z))]
   .rw[kJ (p:=p) e,kJ e,m]
def Rx(k j:κ)(y:V):∀J:List (κ×V),lZ J k=none->lZ (J++ [(k,y)]) j=if j=k then some y else lZ J j
 | [],_=>by
  by_cases e:k=j
  .rw[aK e.symm];exact kH (p:=(k,y)) e
  .rw[aF (λz=>e z.symm)];exact kJ (p:=(k,y)) e
 |p::r,hn=>by
  rw[List.cons_append];have hk:¬p.1=k:=λz=>by rw[kH z]at hn;cases hn
  rw[kJ hk]at hn;have m:=Rx k j y r hn;by_cases e:p.1=j
  .rw[kH e,kH e,aF (λz=>hk (e.trans z))]
  .rw[kJ e,kJ e,m]
def Nm(kvs:List (κ×V))(k j:κ)(y:V):lZ (yU kvs k y) j=if j=k then some y else lZ kvs j:=by
 unfold yU;by_cases a:(kvs.any λM=>decide (M.1=k))=true
 .rw[aK a,Xt];rw[zT]at a;by_cases e:j=k
  .obtain⟨x,hx⟩:=Option.isSome_iff_exists.mp a;rw[aK e,e,hx,Option.map_some,aK rfl]
  .rw[aF e];cases lZ kvs j with
   |none=>rfl
   |some x=>rw[Option.map_some,aF e]
 .rw[aF a];refine Rx k j y kvs ?_;rw[zT]at a;cases q:lZ kvs k with
  |none=>rfl
  |some x=>rw[q]at a;exact(a rfl).elim
def Av(kvs:List (κ×V))(k:κ)(v:V):(yU kvs k v).length<=kvs.length+1:=by
 unfold yU;split
 .rw[aB];lia
 .rw[bK,dF,List.length_nil];lia
def zW{kvs:List (κ×V)}{k:κ}(v:V)(h:lZ kvs k=none):yU kvs k v=kvs++ [(k,v)]:=by
 unfold yU;rw[zT,h];exact aF (by decide)
def Ci.isSome_eq{o:Option V}{u:Option Value}(r:Ci o u):o.isSome=u.isSome:=by
 cases o with
 |none=>cases u with
  |none=>rfl
  |some _=>exact(show False from r).elim
 |some _=>cases u with
  |none=>exact(show False from r).elim
  |some _=>rfl
def KV.val{kvs:List (κ×V)}{vs:List (κ×Value)}(r:KV kvs vs)(k:κ):Ci (lZ kvs k) (valueAt vs k):=by
 unfold KV at r
 induction r with
 |nil=>exact True.intro
 |@cons p q ps qs h t ih=>
  obtain⟨h1,h2⟩:=h;by_cases e:p.1=k
  .have M:q.1=k:=h1.symm.trans e;have b:valueAt (q::qs) k=some q.2:=by simp [valueAt,List.find?_cons,M]
   rw[kH e,b];exact h2
  .have M:¬q.1=k:=λz=>e (h1.trans z);have b:valueAt (q::qs) k=valueAt qs k:=by simp [valueAt,List.find?_cons,M]
   rw[kJ e,b];exact ih
def KV.any{kvs:List (κ×V)}{vs:List (κ×Value)}(r:KV kvs vs)(k:κ):(kvs.any λM=>decide (M.1=k))=vs.any λM=>decide (M.1=k):=by
 unfold KV at r
 induction r with
 |nil=>rfl
 |cons h t ih=>rw[List.any_cons,List.any_cons,ih,h.1]
def KV.repl{kvs:List (κ×V)}{vs:List (κ×Value)}(r:KV kvs vs)(k:κ)(m:fU y u):
  KV (kvs.map λM=>if M.1=k then(M.1,y)else M) (vs.map λM=>if M.1=k then(M.1,u)else M):=by
 unfold KV at r⊢
 induction r with
 |nil=>exact .nil
 |@cons p q ps qs h t ih=>
  rw[bV,bV];refine .cons ?_ ih;obtain⟨h1,h2⟩:=h;by_cases e:p.1=k
  .rw[aK e,aK (h1.symm.trans e)];exact#[h1,m]
  .rw[aF e,aF (λz=>e (h1.trans z))];exact#[h1,h2]
def KV.put{kvs:List (κ×V)}{vs:List (κ×Value)}(r:KV kvs vs)(k:κ)(m:fU y u):KV (yU kvs k y) (stored vs k u):=by
 unfold yU stored;rw[r.any k];by_cases e:(vs.any λM=>decide (M.1=k))=true
 .rw[aK e,aK e];exact r.repl k m
 .rw[aF e,aF e];exact Paired.snoc r #[rfl,m]
def KV.length{kvs:List (κ×V)}{vs:List (κ×Value)}(r:KV kvs vs):kvs.length=vs.length:=Paired.length r
end
def jXp{w:World}{k:Key}(r:fU (kV k) u):(jP P w).is k u=true:=by
 cases k with
 |inl i=>obtain⟨t,e⟩:=(show ∃t,u=Value.int i t from r);subst e;exact jJU P w i t
 |inr x=>obtain⟨t,e⟩:=(show ∃t,u=Value.str x t from r);subst e;exact jJV P w x t
def Td{P:Program}{w:World}:∀{ks:List Key}{us:List Value},fL (ks.map kV) us->ItemsAre (jP P w) ks us
 | [],_,r=>by rw[cX]at r;cases r;exact .nil
 |k::ks,_,r=>by
  rw[bV]at r;cases r with
  |cons h t=>exact .cons (jXp h) (Td t)
noncomputable abbrev KT(H:Hp):List (List Key×V)->List (List Key×Addr×Value)->Prop:=Paired λp q=>p.1=q.1/\H q.2.1=some (.tup (p.1.map kV))/\fU p.2 q.2.2
def KT.val(r:KT H kvs xs)(k:List Key):Ci (lZ kvs k) ((atKey xs k).map (·.2)):=by
 induction r with
 |nil=>exact True.intro
 |@cons p q ps qs h t ih=>
  obtain⟨h1,_,h2⟩:=h;by_cases e:p.1=k
  .have M:q.1=k:=h1.symm.trans e;have b:atKey (q::qs) k=some q.2:=by simp [atKey,List.find?_cons,M]
   rw[kH e,b];exact h2
  .have M:¬q.1=k:=λz=>e (h1.trans z);have b:atKey (q::qs) k=atKey qs k:=by simp [atKey,List.find?_cons,M]
   rw[kJ e,b];exact ih
def KT.repl(r:KT H kvs xs)(k:List Key)(m:fU y u):
  KT H (kvs.map λM=>if M.1=k then(M.1,y)else M) (xs.map (putAt k u)):=by
 induction r with
 |nil=>exact .nil
 |@cons p q ps qs h t ih=>
  rw[bV,bV];refine .cons ?_ ih;obtain⟨h1,h2,R⟩:=h;unfold putAt;by_cases e:p.1=k
  .rw[aK e,aK (h1.symm.trans e)];exact#[h1,h2,m]
  .rw[aF e,aF (λz=>e (h1.trans z))];exact#[h1,h2,R]
def KT.put(r:KT H kvs xs)(k:List Key){b:Addr}(hb:H b=some (.tup (k.map kV)))(m:fU y u):
  KT H (yU kvs k y) (storedH xs k b u):=by
 have e:(kvs.any λM=>decide (M.1=k))=(atKey xs k).isSome:=by
  rw[zT,(r.val k).isSome_eq,Option.isSome_map]
 unfold yU storedH;rw[e];by_cases q:(atKey xs k).isSome=true
 .rw[aK q,aK q];exact r.repl k m
 .rw[aF q,aF q];exact Paired.snoc r #[rfl,hb,m]
def KT.keeps(r:KT H kvs xs)(y:∀b v,H b=some (.tup v)->O b=some (.tup v)):KT O kvs xs:=
 Paired.mapP r λ_ _ z=>#[z.1,y _ _ z.2.1,z.2.2]
section
variable{P:Program}{w:World}{H:Hp}{h:Heap}{a:Addr}
def rd_of{u:HO}(ok:HOk P w H h)(e:Rd H a u):iR P w H h a u:=e.ok ok
def Xp{kvs:List (Key×V)}(ok:HOk P w H h)(e:Rd H a (.dK kvs)):kvs.length<=sizeLine/\(a==sysModules)=false/\∃j,KV kvs j/\h.DictOf (jP P w) a j:=
 show iR P w H h a (.dK kvs)from rd_of ok e
def dk_of{kvs:List (Key×V)}(ok:HOk P w H h)(e:H a=some (.dK kvs)):kvs.length<=sizeLine/\(a==sysModules)=false/\∃j,KV kvs j/\h.DictOf (jP P w) a j:=Xp ok (.inl e)
def Ng{ks:List Key}(ok:HOk P w H h)(e:H a=some (.tup (ks.map kV))):(tupleKind (jP P w)).is h ks a:=by
 obtain⟨_,G,r,o,h1,h2,n,R⟩:=(show iR P w H h a (.tup (ks.map kV))from ok a _ e);exact#[o,G.toArray,n,h1,h2,R,by simpa using Td r]
def Xo(ok:HOk P w H h)(e:Rd H a (.dT kvs)):kvs.length<=sizeLine/\(a==sysModules)=false/\
  ∃F,KT H kvs F/\h.DictOfH (tupleKind (jP P w)) a F:=by
 obtain⟨z,y,F,r,o,N,Q,h1,h2,R,O,I⟩:=(show iR P w H h a (.dT kvs)from rd_of ok e);refine#[z,y,F,r,o,N,Q,h1,h2,R,O,λx hx=>?_,I];have all:∀{l:List (List Key×V)}{m:List (List Key×Addr×Value)},KT H l m->∀x∈m,(tupleKind (jP P w)).is h x.1 x.2.1:=by
  intro l m q
  induction q with
  |nil=>intro x hx;exact nomatch hx
  |@cons p q ps qs hq t ih=>
   intro x hx;rcases eW.mp hx with e |hx
   .subst e;exact Ng ok (by rw[←hq.1];exact hq.2.1)
   .exact ih x hx
 exact all r x hx
def dt_of(ok:HOk P w H h)(e:H a=some (.dT kvs)):kvs.length<=sizeLine/\(a==sysModules)=false/\
  ∃F,KT H kvs F/\h.DictOfH (tupleKind (jP P w)) a F:=Xo ok (.inl e)
end
def Ij(H:Hp)(a:Addr)(y:V)(r:Option V):Prop:=
 (∃kvs k,Rd H a (.dK kvs)/\y=kV k/\r=lZ kvs k)∨∃kvs k b,Rd H a (.dT kvs)/\y=.ref b/\H b=some (.tup (k.map kV))/\r=lZ kvs k
def DPut(H:Hp)(a:Addr)(y v:V)(O:Hp):Prop:=
 (∃kvs k,H a=some (.dK kvs)/\y=kV k/\kvs.length<sizeLine/\O=upd H a (.dK (yU kvs k v)))∨
 ∃kvs k b,H a=some (.dT kvs)/\y=.ref b/\H b=some (.tup (k.map kV))/\kvs.length<sizeLine/\O=upd H a (.dT (yU kvs k v))
def Ij.t{b:Addr}{k:List Key}(e:H a=some (.dT kvs))(M:H b=some (.tup (k.map kV))):Ij H a (.ref b) (lZ kvs k):=.inr #[kvs,k,b,.inl e,rfl,M,rfl]
def DPut.t{b:Addr}{k:List Key}{v:V}(e:H a=some (.dT kvs))(M:H b=some (.tup (k.map kV)))(S:kvs.length<sizeLine):
  DPut H a (.ref b) v (upd H a (.dT (yU kvs k v))):=.inr #[kvs,k,b,e,rfl,M,S,rfl]
section
variable{X:Cx}{pins:List (Addr×Obj)}{σ:St}{H:Hp}{s:Shared}{a:Addr}{y v:V}{u r:Value}{o:Option V}{A:Around}{E:Value->Shared->Prop}
def Inv.big(I:Inv X pins σ H s):sysModules<s.heap.objs.size:=by
 have h:mainGlobals<s.heap.objs.size:=(I.mod.glob.keeps I.bk).lt;exact Nat.lt_trans (by decide) h
def jW9(hu:A.units+1<cLine)(I:Inv X pins σ H s)(g:Ij H a y (some v))(m:fU y u)(h:∀D R,Inv X pins σ H R->fU v D->Q D R):
  wpAny (model X.prog X.w) A (getItem (.ref a) u) Q E s:=by
 rcases g with⟨J,k,e,P,l⟩|⟨J,k,b,e,P,M,l⟩
 .subst P;obtain⟨z,hd,j,G,f⟩:=Xp I.hok e;obtain⟨D,hw,C⟩:=Ci.some_of (v:=v) (o:=valueAt j k) (by rw[l];exact G.val k);exact wpAny_getItem_of (jXp m) f.mapOf hw (h D _ (I.tok _) C)
 .subst P;cases(show u=Value.ref b from m);obtain⟨z,hd,F,G,f⟩:=Xo I.hok e;obtain⟨D,hw,C⟩:=Ci.some_of (v:=v) (o:=(atKey F k).map (·.2)) (by rw[l];exact G.val k);obtain⟨p,hp,n⟩:=Option.map_eq_some_iff.mp hw;refine wpAny_getItem_heap (tupleKind_room_in1 hu) (Ng I.hok M) f hp ?_;rw[n];exact h D _ (I.tok _) C
def d_notIn(hu:A.units+1<cLine)(I:Inv X pins σ H s)(g:Ij H a y o)(m:fU y u)(h:∀R,Inv X pins σ H R->Q (.bool (!o.isSome)) R):
  wpAny (model X.prog X.w) A (compareOp .NotIn u (.ref a)) Q E s:=by
 rcases g with⟨J,k,e,P,l⟩|⟨J,k,b,e,P,M,l⟩
 .subst P;obtain⟨z,hd,j,G,f⟩:=Xp I.hok e;refine wpAny_notIn_of (jXp m) hd f.mapOf ?_;rw[←(G.val k).isSome_eq,←l];exact h _ (I.tok _)
 .subst P;cases(show u=Value.ref b from m);obtain⟨z,hd,F,G,f⟩:=Xo I.hok e;refine wpAny_notIn_heap (tupleKind_room_in1 hu) (Ng I.hok M) hd f ?_;have q:=(G.val k).isSome_eq;rw[Option.isSome_map]at q;rw[←q,←l];exact h _ (I.tok _)
def jYn{h':Heap}{t':Nat}{ob:HO}(I:Inv X pins σ H s)(mu:Mut (H a))(hs:Heap.SameBut a s.heap h')(l:∃q,h'.get? a=some q)(new:iR X.prog X.w (upd H a ob) h' a ob):
  Inv X pins σ (upd H a ob) { s with heap:=h',toks:=t' }:=
 I.write (x:=a) (e:=a) mu (.inl rfl) (λb q hb z=>(hs.2 b hb).trans z) l new
def dk_new{w:World}{h':Heap}{kvs:List (Key×V)}{vs:List (Key×Value)}(z:kvs.length<=sizeLine)(hd:(a==sysModules)=false)(G:KV kvs vs)(f:h'.DictOf (jP P w) a vs):
  iR P w O h' a (.dK kvs):=#[z,hd,vs,G,f]
def jW8{Q:Unit->Shared->Prop}(hu:A.units+1<cLine)(I:Inv X pins σ H s)(g:DPut H a y v O)(m:fU y u)(D:fU v r)(h:∀R,Inv X pins σ O R->Q () R):
  wpAny (model X.prog X.w) A (setItem (.ref a) u r) Q E s:=by
 rcases g with⟨J,k,e,P,l,i⟩|⟨J,k,b,e,P,M,l,i⟩
 .subst P i;obtain⟨z,hd,j,G,f⟩:=dk_of I.hok e;have hz:j.length<=sizeLine:=by rw[←G.length];exact z
  have S:(yU J k v).length<=sizeLine:=by have:=Av J k v;lia
  refine wpAny_setItem_pairs (hsz:=hz) (jXp m) f λY d hs=>h _ ?_;have p:∃q,Y.get? a=some q:=let⟨q,_,_,T,_⟩:=d;#[q,T];exact jYn I (by rw[e];exact True.intro) hs p (dk_new S hd (G.put k D) d)
 .subst P i;cases(show u=Value.ref b from m);obtain⟨z,hd,F,G,f⟩:=dt_of I.hok e;have hz:F.length<=sizeLine:=by rw[←Paired.length G];exact z
  have S:(yU J k v).length<=sizeLine:=by have:=Av J k v;lia
  refine wpAny_setItem_heap (hsz:=hz) (tupleKind_room_in1 hu) (Ng I.hok M) f λY d hs=>h _ ?_;obtain⟨q,N,t,T,h2,x,B,_,C⟩:=d;refine jYn I (by rw[e];exact True.intro) hs #[q,T] #[S,hd,_,(G.put k M D).keeps λc K n=>?_,q,N,t,T,h2,x,B,C];rw[cK (kS n e (λz=>nomatch z))]
  exact n
end
def NoSl(i:Expr):Prop:=∀J f,subscripted i false J f=operate [J,f] (getItem J f)
def subD_of{prog:Program}{w:World}{A:Around}{E:Value->Shared->Prop}{env:Env}{d c:Expr}{pos:Pos}{T m:String}
  (S:typeLookup (.type T) "__getitem__"=pure (some (.builtin m))) (hs:NoSl c)
  (h:wpAny (model prog w) A (eval d env) (λo J=>wpAny (model prog w) A (eval c env) (λi g=>g.TypeIs o T/\wpAny (model prog w) A (getItem o i) Q E g) E J) E s):
  wpAny (model prog w) A (eval (.Subscript d c pos) env) Q E s:=by
 refine Subscript_ (wpAny_mono h (λo J a=>wpAny_mono a (λi g j=>?_) λ_ _ x=>x) λ_ _ x=>x);obtain⟨u,j⟩:=j;unfold subscriptTail;refine aC ?_;rw[getitemInPython_of_ne u.not_modules];refine aC (wpAny_specialOf u S ?_);have fin:wpAny (model prog w) A (subscripted c false o i) (λr b=>wpAny (model prog w) A (letTemporaryGo d o r>>=λ_=>pure r) Q E b) E g:=by
  rw[hs o i];exact wpAny_operating (wpAny_mono j (λr b l=>aC (wpAny_letTemporaryGo (aS l))) λ_ _ x=>x)
 first
  |exact aS (aC fin)
  |exact aC (aS (aC fin))
  |exact aC fin
def jJb{X:Cx}{B:List (Addr×Obj)}{Z:St}{o:Option V}(I:Inv X B Z H s)(g:Ij H a y o):s.TypeIs (.ref a) "dict":=by
 rcases g with⟨J,k,e,_,_⟩|⟨J,k,b,e,_,_,_⟩
 .obtain⟨_,_,j,_,f⟩:=Xp I.hok e;exact f.typeIs
 .obtain⟨_,_,F,_,f⟩:=Xo I.hok e;exact f.typeIs
def mZ(q l:TE):TE:=λZ H Q=>q Z H λx U=>l Z U λy j=>∃a v,x=.ref a/\Ij j a y (some v)/\Q v j
def Vj(l q:TE):TE:=λZ H Q=>l Z H λy U=>q Z U λx j=>∃a o,x=.ref a/\Ij j a y o/\Q (.bl (!o.isSome)) j
def Kh(q l tv:TE):TS:=λD Z H=>tv Z H λv U=>q Z U λx j=>l Z j λy Y=>∃a d,x=.ref a/\DPut Y a y v d/\D.nx Z d
section
variable{X:Cx}{o i e value:Expr}{pos pos' tpos:Pos}{td ty tv:TE}
def qI(hu:X.A.units+1<cLine)(D:PE X o td)(hi:PE X i ty)(hs:NoSl i):PE X (.Subscript o i pos) (mZ td ty):=by
 intro B s Z H Q I h;refine subD_of PySem.F.slot_dict_getitem.lookup hs (thE (D B s Z H _ I h) λu M x U O R q1=>thE (hi B M Z U _ O q1) λf P y j t m w=>?_);obtain⟨a,v,ex,g,p⟩:=w;subst ex;obtain rfl:u=Value.ref a:=R;exact#[jJb t g,jW9 hu t g m λb N z C=>#[v,j,z,C,p]]
def jWi(hu:X.A.units+1<cLine)(hi:PE X i ty)(D:PE X o td):PC X .NotIn i o (Vj ty td):=by
 intro B s Z H Q I h;refine thE (hi B s Z H _ I h) λf M y U O m q1=>thE (D B M Z U _ O q1) λu P x j t R w=>?_;obtain⟨a,J,ex,g,p⟩:=w;subst ex;obtain rfl:u=Value.ref a:=R;exact d_notIn hu t g m λN z=>#[.bl (!J.isSome),j,z,rfl,p]
def Vr(hu:X.A.units+1<cLine)(b:PE X o td)(hi:PE X i ty)(hv:PE X value tv)(hs:swapsWith value (some (.Subscript o i pos')) pos.line X.env=pure false):
  PS X (.Assign [.Subscript o i pos'] value pos) (Kh td ty tv):=by
 intro B s Z H D I h;refine wpAny_Assign_Subscript (thE (hv B s Z H _ I h) λr M v U O c q1=>thE (b B M Z U _ O q1) λu P x j t R p=>thE (hi B P Z j _ t p) λf N y Y z m w=>?_) hs;obtain⟨a,d,ex,g,q⟩:=w;subst ex;obtain rfl:u=Value.ref a:=R;exact jW8 hu z g m c λG S=>#[Z,d,S,q]
end
def jUQ{w:World}(h:Heap)(hb:sysModules<h.objs.size):iR P w H (h.push { cls:=.type "dict",data:=.dict (List.toArray []) }) h.objs.size (.dT []):=
 #[eC _,beq_eq_false_iff_ne.mpr (Ne.symm (bR hb)),[],.nil,_,(List.toArray []),0,bX _ rfl,#[rfl,rfl,rfl],rfl,rfl,List.nodup_nil]
def Ds:TE:=λ_ H Q=>∀p,H p=none->Q (.ref p) (upd H p (.dT []))
section
variable{X:Cx}{pos:Pos}
def Og:PE X (.Dict [] [] pos) Ds:=λB s Z H Q I h=>
 wpAny_Dict_empty #[.ref s.heap.objs.size,_,I.laid (a:=s.heap.objs.size) (o:=.dT []) (t':=s.toks) (λ_ _ q=>bE _ q) (aU _) (jUQ s.heap I.big),rfl,h _ (I.hok.fresh (aU _))]
end
def IsD(H:Hp)(a:Addr):Prop:=(∃kvs,Rd H a (.dK kvs))∨∃kvs,Rd H a (.dT kvs)
def isD_at{X:Cx}{B:List (Addr×Obj)}{Z:St}(I:Inv X B Z H s)(d:IsD H a):
  s.TypeIs (.ref a) "dict"/\(∀b,Value.ref a=.ref b->∃ob,s.heap.get? b=some ob/\ob.dict=none)/\(a==sysModules)=false:=by
 rcases d with⟨J,e⟩|⟨J,e⟩
 .obtain⟨_,hd,j,_,f⟩:=Xp I.hok e;refine#[f.typeIs,λb q=>?_,hd];cases q;obtain⟨ob,_,_,h1,h2,_⟩:=f;exact#[ob,h1,h2.2.1]
 .obtain⟨_,hd,F,_,f⟩:=Xo I.hok e;refine#[f.typeIs,λb q=>?_,hd];cases q;obtain⟨ob,_,_,h1,h2,_⟩:=f;exact#[ob,h1,h2.2.1]
end L2
namespace L2
open PySem
variable{H:Hp}{K:aQ}{Z:St}{i j:Int}{m:Nat}{p:Addr}{xs:List V}
def BB(n:Nat)(i:Int):Prop:=i.natAbs<2^n
def Fh(i j:Int):Prop:=∃m n,m+n<=100000000/\((BB m i/\BB n j)∨BB 64 i∨BB 64 j)
def CDivB(_ j:Int):Prop:=j≠0/\BB 9000 j
def hE:R2:=rI0 λi j=>.int (i+j)
def lS:R2:=rI0 λi j=>.int (i-j)
def fO:R2:=rI Fh λi j=>.int (i*j)
def jE:R2:=rI CDivB λi j=>.int (i.fdiv j)
def zL:R2:=rI CDiv λi j=>.int (i/j)
def gP:R2:=rI (λ_ j=>0<j) λi j=>.int (i%j)
def zK:R2:=rI CPow λi j=>.int (i^j.toNat)
noncomputable def jD:V->Hp->VK->Prop:=rU λi=>.int (-i)
def kO:R2:=rI0 λi j=>.bl (decide (i<j))
def rLeI:R2:=rI0 λi j=>.bl (decide (i<=j))
def zF:R2:=rI0 λi j=>.bl (decide (j<i))
def rGeI:R2:=rI0 λi j=>.bl (decide (j<=i))
noncomputable def Ii:List V->Hp->VK->Prop:=λxs H Q=>∃i,xs=[.int i]/\Q (.int (if i<0 then -i else i)) H
noncomputable def iY(K:aQ):List V->Hp->VK->Prop:=λxs H Q=>∃p ys,xs=[.ref p]/\(SqL K H p ys∨SqT K H p ys)/\Q (.int ys.length) H
def isB(x:V)(H:Hp)(T:String)(b:Bool):Prop:=match x with
 | .int _=>(T="int"/\b=true)∨(T="bool"/\b=false)
 | .bl _=>T="bool"/\b=true
 | .ref p=>T="tuple"/\b=true/\∃xs,H p=some (.tup xs)
 |_=>False
noncomputable def Qw:List V->Hp->VK->Prop:=λxs H Q=>∃x T b,xs=[x,.ty T]/\isB x H T b/\Q (.bl b) H
def BB.mono{n:Nat}(h:BB m i)(hm:m<=n):BB n i:=cL h (eE (by decide) hm)
def Fh.l(h:BB 64 i):Fh i j:=#[0,0,by decide,.inr (.inl h)]
def Fh.r(h:BB 64 j):Fh i j:=#[0,0,by decide,.inr (.inr h)]
def aT.tup{K:aQ}{H O:Hp}{a:Addr}{xs:List V}(e:aT H O)(h:SqT K H a xs):SqT K O a xs:=by
 rcases h with(h |⟨o,h⟩)|h
 .exact .inl (.inl (e _ _ h))
 .exact .inl (.inr #[o,e _ _ h])
 .exact .inr h
def Bj{i:Nat}{Q:VK}(h:aE i Z H Q):∃v,Z[i]?=some (some v)/\Q v H:=by
 first
 |exact h
 | (unfold aE at h
    split at h
    .exact#[_,‹_›,h]
    .exact h.elim)
def Bi{i:Nat}{Q:VK}{v:V}(e:Z[i]?=some (some v))(q:Q v H):aE i Z H Q:=by
 first
 |exact#[v,e,q]
 | (unfold aE
    rw[e];exact q)
def aT.upd{o:HO}(h:H p=none):aT H (upd H p o):=λb u e=>by
 rw[cK (dW e h)];exact e
def BB.of_le{n:Nat}(h:BB n j)(S:i.natAbs<=j.natAbs):BB n i:=jL S h
def BB.mul{n:Nat}(hi:BB m i)(A:BB n j):BB (m+n) (i*j):=by
 unfold BB at*;rw[cQ,Nat.pow_add];exact Nat.mul_lt_mul_of_lt_of_lt hi A
def BB.add{n:Nat}(hi:BB n i)(A:BB n j):BB (n+1) (i+j):=by
 unfold BB at*;rw[Nat.pow_succ];lia
def BB.gcd{n:Nat}(A:BB n j)(h0:j≠0):BB n (Int.gcd i j:Nat):=by
 refine A.of_le ?_;rw[Int.natAbs_natCast];exact Int.gcd_le_natAbs_right _ h0
def BB.neg{n:Nat}(h:BB n i):BB n (-i):=by unfold BB at*;rwa [Int.natAbs_neg]
def Fh.b{n:Nat}(hi:BB m i)(A:BB n j)(h:m+n<=100000000:=by decide):Fh i j:=#[m,n,h,.inl #[hi,A]]
def cY(Z:St)(caps:List Nat):St:=caps.map λj=>(Z[j]?).join
def zS(J:It)(Z:St)(caps:List Nat)(o:TE)(U:Hp)(fin:List V->Hp->Prop):Prop:=
 ∃(n:Nat)(W:Nat->List V->Hp->Prop),n<=sizeLine/\W 0 [] U/\∀i ys j,i<=n->ys.length=i->W i ys j->
  (J.stop i j/\fin ys j)∨(i<n/\J.go i j/\∀x Y,J.yld i j x Y->o (some x::cY Z caps) Y λy d=>W (i+1) (ys++ [y]) d)
def dL(q:TI)(caps:List Nat)(o:TE):TE:=λZ H Q=>q Z H λJ U=>zS J Z caps o U λys j=>∀p,j p=none->Q (.ref p) (upd j p (.lst ys))
def Ite(K:aQ)(a:Addr):It:=
 #[λi H=>∃xs x,SqL K H a xs/\xs[i]?=some x,λi H v O=>∃p x,v=.ref p/\H p=none/\O=upd H p (.tup [.int i,x])/\∀xs,SqL K H a xs->xs[i]?=some x,λi H=>∃xs,SqL K H a xs/\xs.length<=i]
def Ff(K:aQ)(g:TE):TI:=λZ H R=>g Z H λx U=>∃a,x=.ref a/\(∃xs,SqL K U a xs)/\R (Ite K a) U
def On{a:Addr}{g:TG}{tb:TS}{D:vH}(d:Nat->St->Hp->Prop)(h0:d 0 Z H)(S:∀i Z H,i<=xs.length->d i Z H->SqL K H a xs)
  (hs:∀i x p Z H,xs[i]?=some x->d i Z H->H p=none->g (.ref p) Z (upd H p (.tup [.int i,x])) λc j=>tb { D with nx:=d (i+1),ct:=d (i+1),bk:=D.nx } c j) (hd:∀Z H,d xs.length Z H->D.nx Z H):
  ∃W:Nat->Nat->St->Hp->Prop,(∃m,W 0 m Z H)/\∀i m Z H,W i m Z H->
   ((Ite K a).stop i H/\D.nx Z H)∨((Ite K a).go i H/\∃N:St->Hp->Prop,(∀F O,N F O->∃k,k<m/\W (i+1) k F O)/\∀x O,(Ite K a).yld i H x O->g x Z O λc j=>tb { D with nx:=N,ct:=N,bk:=D.nx } c j):=by
 refine#[λi m Z H=>m=xs.length-i/\i<=xs.length/\d i Z H,#[xs.length,by simp,eC _,h0],?_];rintro i m Z H ⟨rfl,hi,p⟩;have q:=S i Z H hi p;by_cases f:i<xs.length
 .refine .inr #[#[xs,xs[i],q,by simp [f]],d (i+1),λF O o=>#[xs.length-(i+1),#[],rfl,f,o],λx O y=>?_];obtain⟨s,z,e1,C,T,y⟩:=y;subst e1 T;exact hs i z s Z _ (y xs q) p C
 .have e:i=xs.length:=#[];subst e;exact .inl #[#[xs,q,aU _],hd Z H p]
def dR{a:Addr}{caps:List Nat}{o:TE}{U:Hp}{fin:List V->Hp->Prop}(W:Nat->List V->Hp->Prop)(hz:xs.length<=sizeLine)(h0:W 0 [] U)(S:∀i v H,i<=xs.length->W i v H->SqL K H a xs)
  (hs:∀i x v H,xs[i]?=some x->v.length=i->W i v H->o (some x::cY Z caps) H λy d=>W (i+1) (v++ [y]) d) (hd:∀v H,v.length=xs.length->W xs.length v H->fin v H):zS (Itl K a) Z caps o U fin:=by
 refine#[xs.length,W,hz,h0,λi v j hi hy hw=>?_];have q:=S i v j hi hw;by_cases f:i<xs.length
 .refine .inr #[f,#[xs,xs[i],q,by simp [f]],λx Y y=>?_];obtain⟨e,y⟩:=y;subst e;exact hs i x v _ (y xs q) hy hw
 .have e:i=xs.length:=#[];subst e;exact .inl #[#[xs,q,aU _],hd v j hy hw]
def lE{lo:Int}{n:Nat}{caps:List Nat}{o:TE}{U:Hp}{fin:List V->Hp->Prop}(W:Nat->List V->Hp->Prop)(hz:n<=sizeLine)(h0:W 0 [] U)
  (hs:∀i v H,i<n->v.length=i->W i v H->o (some (.int (lo+i))::cY Z caps) H λy d=>W (i+1) (v++ [y]) d) (hd:∀v H,v.length=n->W n v H->fin v H):zS (Itr lo n) Z caps o U fin:=by
 refine#[n,W,hz,h0,λi v j hi hy hw=>?_];by_cases f:i<n
 .refine .inr #[f,f,λx Y y=>?_];obtain⟨e1,C⟩:=y;subst e1 C;exact hs i v _ f hy hw
 .have e:i=n:=#[];subst e;exact .inl #[aU _,hd v j hy hw]
noncomputable def Ms(K:aQ):List V->Hp->VK->Prop:=λxs H Q=>∃p ns,xs=[.ref p]/\SqL K H p (List.map V.int ns)/\Q (.int ns.sum) H
noncomputable def cMax:List V->Hp->VK->Prop:=λxs H Q=>∃i j,xs=[.int i,.int j]/\Q (.int (if j>i then j else i)) H
noncomputable def cMin:List V->Hp->VK->Prop:=λxs H Q=>∃i j,xs=[.int i,.int j]/\Q (.int (if j<i then j else i)) H
noncomputable def sB(K:aQ):List V->Hp->VK->Prop:=λxs H Q=>∃p ys,xs=[.ref p]/\(SqL K H p ys∨SqT K H p ys)/\∀l,H l=none->Q (.ref l) (upd H l (.lst ys))
def aT.put{O:Hp}{o:HO}(s:aT H O)(h:H p=none):aT H (L2.upd O p o):=λb u e=>by
 rw[cK (dW e h)];exact s b u e
def SqT.off{r:Addr}{ys J:List V}(h:SqT K H p xs)(hr:H r=some (.lst ys)):SqT K (upd H r (.lst J)) p xs:=by
 rcases h with(h |⟨o,h⟩)|h
 .exact .inl (.inl (by rw[cK (kS h hr (by intro z;cases z))];exact h))
 .exact .inl (.inr #[o,by rw[cK (kS h hr (by intro z;cases z))];exact h])
 .exact .inr h
end L2
namespace L2
open PySem PySem.Spec PyProof.Rows
variable{i j:Int}
def bt_int:bootBuiltins "int"=some (.type "int"):=by decide+kernel
def bt_bool:bootBuiltins "bool"=some (.type "bool"):=by decide+kernel
def Ou:bootBuiltins "tuple"=some (.type "tuple"):=by decide+kernel
def qK:bootBuiltins "list"=some (.type "list"):=by decide+kernel
def jYs:bootBuiltins "dict"=some (.type "dict"):=by decide+kernel
def Nk:bootBuiltins "abs"=some (.builtin "abs"):=by decide+kernel
def fR:bootBuiltins "len"=some (.builtin "len"):=by decide+kernel
def iV:bootBuiltins "isinstance"=some (.builtin "isinstance"):=by decide+kernel
def Iq:bootBuiltins "max"=some (.builtin "max"):=by decide+kernel
def Nj:bootBuiltins "min"=some (.builtin "min"):=by decide+kernel
def Ni:bootBuiltins "sum"=some (.builtin "sum"):=by decide+kernel
def oX{n:Nat}{k:Int}(h:BB n k):Builtin.Int.intBits k<=n:=by
 unfold Builtin.Int.intBits;split
 .exact eC _
 .rename_i h0
  have hp:k.natAbs≠0:=by simpa using h0
  have h2:=(Nat.log2_lt hp).mpr h;lia
def Fh.ok(h:Fh i j):IntMulOk i j:=by
 obtain⟨m,n,hz,⟨h1,h2⟩|h1 |h1⟩:=h
 .exact IntMulOk.of_le (oX h1) (oX h2) #[]
 .exact .of_left (oX h1)
 .exact .of_right (oX h1)
def noPyB(h:BB 9000 j):Builtin.divisionGoesByPylong i j=false:=by
 refine PyProof.noPylong_of_log2 ?_;by_cases B:j.natAbs=0
 .rw[B];decide+kernel
 .exact(Nat.log2_lt B).mpr h
section
variable{X:Cx}
def eY:OpR X (binaryOp .Mult) fO:=opI λ_ _ _ _ _ _ _ hc q=>mul_int q hc.ok
def hV:OpR X (binaryOp .FloorDiv) jE:=opI λ_ _ _ _ _ _ _ hc q=>floordiv_int hc.1 q (.inl (noPyB hc.2))
def kit_ii(K:aQ):PySem.W.kitOne K (.type "int") (.type "int")=some true:=by rfl
def kit_ib(K:aQ):PySem.W.kitOne K (.type "int") (.type "bool")=some false:=by rfl
def kit_bb(K:aQ):PySem.W.kitOne K (.type "bool") (.type "bool")=some true:=by rfl
def kit_tt(K:aQ):PySem.W.kitOne K (.type "tuple") (.type "tuple")=some true:=by rfl
def Ot:qA X (.builtin "isinstance") Qw:=by
 rintro B s Z H F k Q I r ⟨x,T,b,rfl,hb,q⟩;obtain⟨u,c,rfl,N,a⟩:=Mt r;obtain rfl:c=Value.type T:=a;have fin:∀tk,EP X B Z Q (.bool b) { s with toks:=tk }:=λtk=>#[.bl b,H,I.tok _,rfl,q];cases x with
 |int i=>
  rcases hb with⟨rfl,rfl⟩|⟨rfl,rfl⟩
  .exact oA I N (.int i) (kit_ii _) fin
  .exact oA I N (.int i) (kit_ib _) fin
 |bl i=>
  obtain⟨rfl,rfl⟩:=hb;exact oA I N (.bl i) (kit_bb _) fin
 |ref p=>
  obtain⟨rfl,rfl,F,hp⟩:=hb;exact oA I N (.tup hp) (kit_tt _) fin
 |_=>exact(show False from hb).elim
end
noncomputable def nX(env:Env):List (Str×NameKind)->List (Str×Addr)->List (Str×Addr)
 | [],cs=>cs
 | (n,k)::r,cs=>nX env r (if(k==NameKind.free)=true then(n,(env.cells.lookup n).getD 0)::cs else cs)
def Cz{d:Scope}{env:Env}(h:∀p∈d.names,p.2=.free->∃c,env.cells.lookup p.1=some c):closureFor d env=pure (nX env d.names []):=by
 have go:∀(f:Str×NameKind->List (Str×Addr)->Sem (ForInStep (List (Str×Addr)))),(∀n k w,f (n,k) w=if(k==NameKind.free)=true then(cellOf env n>>=λa=>pure (ForInStep.yield ((n,a)::w)))else pure (ForInStep.yield w))->
   ∀(l:List (Str×NameKind))(w:List (Str×Addr)),(∀p∈l,p.2=.free->∃c,env.cells.lookup p.1=some c)->(forIn l w f:Sem _)=pure (nX env l w):=by
  intro f hf l
  induction l with
  |nil=>intro w _;rfl
  |cons p r ih=>
   intro w S;obtain⟨n,k⟩:=p;have hr:∀p∈r,p.2=.free->∃c,env.cells.lookup p.1=some c:=λp hp=>S p (bO _ hp);rw[List.forIn_cons,hf];by_cases hk:(k==NameKind.free)=true
   .obtain⟨c,hc⟩:=S (n,k) cB (by simpa using hk);have g:env.cells.lookup n=some c:=hc;have e:cellOf env n=pure c:=by unfold cellOf;rw[g]
    rw[aK hk,e,pure_bind,pure_bind];dsimp only;rw[ih _ hr];have C:nX env ((n,k)::r) w=nX env r ((n,c)::w):=by
     show nX env r (if(k==NameKind.free)=true then(n,(env.cells.lookup n).getD 0)::w else w)=_;rw[aK hk,g];rfl
    rw[C]
   .rw[aF hk,pure_bind];dsimp only;rw[ih _ hr];have C:nX env ((n,k)::r) w=nX env r w:=by
     show nX env r (if(k==NameKind.free)=true then(n,(env.cells.lookup n).getD 0)::w else w)=_;rw[aF hk]
    rw[C]
 unfold closureFor;show(forIn d.names [] _>>=λs=>pure s)=_;rw[go _ (λn k w=>by rfl) d.names [] h,pure_bind]
def Pr{env:Env}:∀{l:List (Str×NameKind)}{cs:List (Str×Addr)},(∀p∈l,p.2=.free->∃c,env.cells.lookup p.1=some c)->(∀p∈cs,env.cells.lookup p.1=some p.2)->∀p∈nX env l cs,env.cells.lookup p.1=some p.2
 | [],_,_,h,p,hp=>h p hp
 | (n,k)::r,cs,hl,h,p,hp=>by
  refine Pr (l:=r) (λq T=>hl q (bO _ T)) (λq T=>?_) p hp;by_cases hk:(k==NameKind.free)=true
  .rw[aK hk]at T;rcases eW.mp T with rfl |T
   .obtain⟨c,hc⟩:=hl (n,k) cB (by simpa using hk);have g:env.cells.lookup n=some c:=hc;show env.cells.lookup n=some ((env.cells.lookup n).getD 0);rw[g];rfl
   .exact h q T
  .rw[aF hk]at T;exact h q T
def Lc{env:Env}{y:Str}:∀{l:List (Str×NameKind)}{cs:List (Str×Addr)},y∈cs.map (·.1)->y∈(nX env l cs).map (·.1)
 | [],_,h=>h
 | (n,k)::r,cs,h=>by
  refine Lc (l:=r) ?_;by_cases hk:(k==NameKind.free)=true
  .rw[aK hk];exact bO _ h
  .rw[aF hk];exact h
def Ew{env:Env}{y:Str}:∀{l:List (Str×NameKind)}{cs:List (Str×Addr)},(y,NameKind.free)∈l->y∈(nX env l cs).map (·.1)
 | [],_,h=>nomatch h
 | (n,k)::r,cs,h=>by
  rcases eW.mp h with e |h
  .cases e;refine Lc (l:=r) ?_;rw[aK (by rfl)];exact cB
  .exact Ew (l:=r) h
def tS{d:Type}{y:Str}:∀{l:List (Str×d)},y∈l.map (·.1)->∃c,l.lookup y=some c
 | [],h=>nomatch h
 | (n,c)::r,h=>by
  cases hx:y==n with
  |true=>exact#[c,by simp only[List.lookup_cons,hx]]
  |false=>
   have Y:y∈r.map (·.1):=by
    rcases eW.mp h with e |h
    .have M:y=n:=e;rw[M]at hx;simp at hx
    .exact h
   obtain⟨J,e⟩:=tS Y;exact#[J,by simp only[List.lookup_cons,hx];exact e]
def Hw{env:Env}(hk:env.scope.kind=.function):∀{names:List (Str×NameKind)}{y:Str},names.lookup y=some .free->env.kindOf y=some .cell->
  (names.map fun(n,k)=>if(k==NameKind.free&&env.scope.kind== .function&&env.kindOf n==some .cell)then(n,NameKind.cell)else(n,k)).lookup y=some .cell
 | [],_,h,_=>by simp at h
 | (n,k)::r,y,h,hc=>by
  have m:=@Hw env hk r y;show List.lookup y ((if(k==NameKind.free&&env.scope.kind== .function&&env.kindOf n==some .cell)=true then(n,NameKind.cell)else(n,k))::_)=_;cases hx:y==n with
  |true=>
   simp only[List.lookup_cons,hx]at h;cases h;have e:y=n:=by simpa using hx
   subst e;have a:(NameKind.free==NameKind.free&&env.scope.kind== .function&&env.kindOf y==some .cell)=true:=by rw[hk,hc];rfl
   rw[aK a];simp only[List.lookup_cons,hx]
  |false=>
   simp only[List.lookup_cons,hx]at h;by_cases g:(k==NameKind.free&&env.scope.kind== .function&&env.kindOf n==some .cell)=true
   .rw[aK g];simp only[List.lookup_cons,hx];exact m h hc
   .rw[aF g];simp only[List.lookup_cons,hx];exact m h hc
def Pe{env:Env}:∀{names:List (Str×NameKind)}{y:Str},(∀p∈names,p.2≠.cell)->
  (∃k,(names.map fun(n,k)=>if(k==NameKind.free&&env.scope.kind== .function&&env.kindOf n==some .cell)then(n,NameKind.cell)else(n,k)).lookup y=some k/\(k=.cell∨k=.free))->(y,NameKind.free)∈names
 | [],_,_,⟨_,h,_⟩=>by simp at h
 | (n,k)::r,y,hn,⟨kk,h,hkk⟩=>by
  have h:List.lookup y ((if(k==NameKind.free&&env.scope.kind== .function&&env.kindOf n==some .cell)=true then(n,NameKind.cell)else(n,k))::r.map fun(n,k)=>if(k==NameKind.free&&env.scope.kind== .function&&env.kindOf n==some .cell)then(n,NameKind.cell)else(n,k))=some kk:=h;have m:=@Pe env r y λp hp=>hn p (bO _ hp);cases hx:y==n with
  |true=>
   have e:y=n:=by simpa using hx
   subst e;by_cases g:(k==NameKind.free&&env.scope.kind== .function&&env.kindOf y==some .cell)=true
   .have hf:k=.free:=by
     rw[Bool.and_eq_true,Bool.and_eq_true]at g;simpa using g.1.1
    rw[hf];exact cB
   .rw[aF g]at h;simp only[List.lookup_cons,hx]at h;have C:k=kk:=aW h;subst C;rcases hkk with z |z
    .exact absurd z (hn (y,k) cB)
    .rw[z];exact cB
  |false=>
   have h2:(r.map fun(n,k)=>if(k==NameKind.free&&env.scope.kind== .function&&env.kindOf n==some .cell)then(n,NameKind.cell)else(n,k)).lookup y=some kk:=by
    by_cases g:(k==NameKind.free&&env.scope.kind== .function&&env.kindOf n==some .cell)=true
    .rw[aK g]at h;simp only[List.lookup_cons,hx]at h;exact h
    .rw[aF g]at h;simp only[List.lookup_cons,hx]at h;exact h
   exact bO _ (m #[kk,h2,hkk])
structure sY(FS scope:Scope)(N:List Str)(x:Str)(ys:List Str)(caps:List Nat):Prop where
 ncell:∀y∈scope.names,y.2≠.cell
 kind:scope.kind=.function
 names:∀y∈scope.names,y.2=.local->scope.names.lookup y.1=some .local
 loc:scope.names.lookup x=some .local
 fr:∀p∈scope.names,p.2=.free->FS.names.lookup p.1=some .cell
 fk:FS.kind=.function
 cap:∀p∈ys.zip caps,N[p.2]?=some p.1/\scope.names.lookup p.1=some .free
 len:ys.length=caps.length
 nd:(x::ys).Nodup
noncomputable abbrev Co(X:Cx)(d:Scope):List (Str×Addr):=nX X.env d.names []
def fQ(X:Cx)(d:Scope)(a:List Str)(s:Shared)(H:Hp)(ex:List Addr)(pn:List (Addr×Obj)):Cx:=
 { X with N:=a,s₀:=s,H₀:=H,env:=compEnvC d (Co X d) s.heap.objs.size X.env,outer:=X.stack,stack:=X.stack,ex:=ex,fn:=λ_=>false,pn:=pn,xe:=λ_ _=>False }
section
variable{X:Cx}{pins:List (Addr×Obj)}{σ:St}{H:Hp}{s:Shared}
def Inv.adopt{D:Addr}{o:HO}(I:Inv X pins σ H s)(hn:H D=none)(hs:X.s₀.heap.objs.size<=D)(C:D≠X.env.locals)(hc:∀x c,X.env.cells.lookup x=some c->c≠D)(hp:∀p∈X.pn++pins,p.1≠D)
  (new:iR X.prog X.w (upd H D o) s.heap D o):Inv X pins σ (upd H D o) s:=by
 have u:Un X.fs X.ex H (upd H D o) s.heap s.heap->True:=λ_=>trivial;refine#[I.ok,I.os,I.bare,#[I.base.keep,I.base.slot,λb ob e n hx=>?_,I.base.there,λb F e=>?_,λb ob F e=>?_,λb R e=>?_],I.loc,I.cell,?_,λx c e=>?_,λp h=>?_,λb ob e=>?_,I.len]
 .rw[cK (bR (cL (bH e) hs))];exact I.base.free b ob e n hx
 .have q:=I.base.tups b F e;rw[cK (dW q hn)];exact q
 .have q:=I.base.frzs b ob F e;rw[cK (dW q hn)];exact q
 .obtain⟨Fb,q⟩:=I.base.tbls b R e;exact#[Fb,by rw[cK (dW q hn)];exact q]
 .rw[cK (Ne.symm C)];exact I.free
 .rw[cK (hc x c e)];exact I.freeC x c e
 .obtain⟨G,P,l⟩:=I.pin p h;exact#[G,by rw[cK (hp p h)];exact P,l]
 .by_cases hb:b=D
  .subst hb;rw[aL]at e;cases e;exact new
  .rw[cK hb]at e;exact(I.hok b ob e).stay (λc v _ q=>q) (λc q=>by rw[cK (dW q hn)];exact q) λc F q=>by rw[cK (dW q hn)];exact q
end
section
variable{X:Cx}{scope:Scope}{x:Str}{ys:List Str}{caps:List Nat}{elt iter:Expr}{te:TE}{px pos:Pos}
def nxE{d:Type}{t:Sem d}{Q f:d->Shared->Prop}{M:Model}{A:Around}{F E:Value->Shared->Prop}{s:Shared}(P:F=λ_ _=>False)(h:wpAny M A t Q F s)(H:∀a s,Q a s->f a s):wpAny M A t f E s:=
 wpAny_mono h H λe R z=>by
  rw[P]at z;exact z.elim
noncomputable abbrev Cg(G:List Value)(n:Nat):Obj:={ cls:=.type "list",data:=.seq G.toArray n }
end
def Xe:bootBuiltins "enumerate"=some (.type "enumerate"):=by decide+kernel
section
variable{X:Cx}{pins:List (Addr×Obj)}{σ:St}{H:Hp}{s:Shared}{h':Heap}
def Inv.turnedL{t':Nat}{ch:List Addr}(I:Inv X pins σ H s)(k:∀b o,b∉ch->s.heap.get? b=some o->h'.get? b=some o)(hf:∀b∈ch,Uq X pins H b):Inv X pins σ H { s with heap:=h',toks:=t' }:=by
 have a:∀b u,H b=some u->b∉ch:=λb u e z=>by rw[(hf b z).1]at e;cases e
 refine I.step (g':=s.gens) (d':=s.drawn) (ch:=ch) (λb hb=>?_) (λb o _ _ hc e _=>k b o hc e) (λb o _ _ hc e _=>#[o.slots,k b o hc e]) (λ_ _ _ _ n=>n)
  (λb o hc e=>#[o,k b o hc e]) (λ_ _ e=>e) (λ_ _ _ e=>e) (λb R e=>#[(List.toArray []),by rw[e];simp]) (λm hm=>?_) (λb u e=>?_) I.bare
 .obtain⟨G,P,l,F,f,g⟩:=hf b hb;exact#[F,P,f,g]
 .obtain⟨o,N,Q,D,r⟩:=hm;exact#[o,N,Q,k _ o (λz=>(hf _ z).2.1 rfl) D,r]
 .refine(I.hok b u e).stay (λc v hc q=>k c v ?_ q) (λ_ q=>q) λ_ _ q=>q;rcases hc with z |z
  .rw[z];exact a b u e
  .exact a c _ z
end
def jY7{P:Program}{w:World}{K:aQ}{n:List Expr}{k:Nat}{C:Pos}(a e U:Addr)(g:e≠U):
  Um P w K (.Tuple n k C) (Ite K a) [e,U] e (λi h=>(∃J,IsEnum h e U i J)/\h.IsListIter U a i) where
 mem:=by simp
 obj:=λi h st b hb=>by
  obtain⟨⟨J,l⟩,t⟩:=st;have z:b=e∨b=U:=by simpa using hb
  rcases z with rfl |rfl
  .exact#[_,l,λv z=>by
    have z':Data.fields _=Data.cell v:=z;cases z']
  .obtain⟨o,e,c,d⟩:=t;exact#[o,e,λv z=>by rw[d]at z;cases z]
 keep:=λi h Y st k=>by
  obtain⟨⟨J,l⟩,t⟩:=st;exact#[#[J,k e (by simp) _ l],t.at λo q=>k U (by simp) o q]
 item:=by
  intro X R hw A hc i B s Z H E I hf st hg;subst R hw A;obtain⟨F,x,T,hx⟩:=hg;obtain⟨G,D,p,hz⟩:=I.list T;obtain⟨u,hu,N⟩:=D.get hx;obtain⟨⟨J,l⟩,t⟩:=st;refine wpAny_pyNext_enum_item l t p.isList (x:=u) (by simpa using hu) g λh1 out a0 tup sz kp=>#[_,rfl,?_];refine wpAny_letOwnedTupleGo_enum (s:={ s with heap:=h1,toks:=s.toks+1 }) out λh2 en sb=>?_;have a1:e<s.heap.objs.size:=bH l;have a4:s.heap.objs.size≠e:=Nat.ne_of_gt a1;have Q:Heap.SameBut e h1 h2:=sb;have O:Inv X B Z H { s with heap:=h2,toks:=s.toks+1 }:=I.turnedL (ch:=[e,U]) (λb o hb q=>by
   have j:b≠e/\b≠U:=by simpa using hb
   exact(Q.2 b j.1).trans (kp b o j.1 j.2 q)) hf
  have a2:H s.heap.objs.size=none:=I.hok.fresh (aU _);have a3:h2.get? s.heap.objs.size=some { cls:=.type "tuple",data:=.seq (List.toArray [.int i s.toks,u]) }:=(Q.2 _ a4).trans tup;have I2:Inv X B Z (upd H s.heap.objs.size (.tup [.int i,x])) { s with heap:=h2,toks:=s.toks+1 }:=O.adopt a2 I.sz (Nat.ne_of_gt I.lt) (λy c q=>by
   obtain⟨v,z⟩:=I.cell y c q;exact bR z.lt) (λq T=>bR (bH (I.pin q T).1)) #[by show 2<=sizeLine;decide,[.int i s.toks,u],.cons #[_,rfl] (.cons N .nil),#[_,a3,rfl,_,rfl]]
  refine#[.ref s.heap.objs.size,_,I2,rfl,#[_,x,rfl,a2,rfl,λys hy=>by rw[I.list_inj hy T];exact hx],#[#[_,by have:=en;exact_mod_cast this],?_],λb hb=>?_]
  .obtain⟨o,q,r⟩:=a0;exact#[o,(Q.2 U (Ne.symm g)).trans q,r]
  .have a5:=(hf b hb).1;have z:b=e∨b=U:=by simpa using hb
   have f:b<s.heap.objs.size:=by
    rcases z with rfl |rfl
    .exact a1
    .obtain⟨o,q,_⟩:=t;exact bH q
   rw[cK (bR f)];exact a5
 done:=by
  intro X R hw A hc i B s Z H E I hf st hg;subst R hw A;obtain⟨F,T,hx⟩:=hg;obtain⟨G,D,p,hz⟩:=I.list T;obtain⟨⟨J,l⟩,t⟩:=st;obtain⟨f0,m,f2,f3,f4,f5⟩:=hf U (by simp);have S:=D.length;exact wpAny_pyNext_enum_end (I.ok.hd hc) l t p.isList (by simp;lia) λY M=>#[rfl,I.turned (t':=s.toks) (λb o hb e=>M b o hb e) f0 m f3 f4 f5]
 self:=λ_ _ _ _ _ st h=>by
  obtain⟨⟨J,l⟩,t⟩:=st;exact wpAny_pyIter_enum l h
section
variable{X:Cx}
def Mh{n:List Expr}{k:Nat}{m:Pos}{a:Expr}{g:TE}{p pos:Pos}(hg:Gl X "enumerate")(hm:X.mg "enumerate"=none)(S:PE X a g)(hs:starEach [a] X.env=[(false,eval a X.env)]:=by rfl):PI X (.Tuple n k m) (.Call (.Name "enumerate" p) [a] [] pos) (Ff X.K g):=by
 intro B s Z H R I h;have A:PA X [a] (aH g bG):=aA S aN (by rw[hs];rfl);refine Call_ (pO I hg hm Xe (dQ (thn (A pos B s Z H (λj U=>∃x,j=[x]/\∃a,x=.ref a/\(∃F,SqL X.K U a F)/\R (Ite X.K a) U) I ?_) λv M#[j,U,O,d,q1]=>?_) hs rfl))
 .show g Z H λx U=>∃y,[x]=[y]/\_;have e:(fun(x:V)(U:Hp)=>∃y,[x]=[y]/\∃a,y=V.ref a/\(∃F,SqL X.K U a F)/\R (Ite X.K a) U)=λx U=>∃a,x=V.ref a/\(∃F,SqL X.K U a F)/\R (Ite X.K a) U:=by
   funext x U
   exact propext #[fun⟨y,e,r⟩=>by cases e;exact r,λr=>#[x,rfl,r]]
  have Y:g Z H λx U=>∃a,x=V.ref a/\(∃F,SqL X.K U a F)/\R (Ite X.K a) U:=h;rw[←e]at Y;exact Y
 .obtain⟨x,e1,b,C,⟨F,T⟩,q⟩:=q1;subst e1 C;obtain⟨u,rfl,N⟩:=zI d;cases N;obtain⟨G,D,f,hz⟩:=O.list T;refine call_enumerate_list f.isList λh1 l t i hk=>?_;refine wpAny_pyIter_enum l ?_;have o:Inv X B Z U { M with heap:=h1 }:=O.kept (t':=M.toks) hk;refine#[M.heap.objs.size+1,[M.heap.objs.size+1,M.heap.objs.size],_,Ite X.K b,U,rfl,o,jY7 b _ _ (Nat.succ_ne_self _),#[#[_,l],t],λc hc=>?_,q];have z:c=M.heap.objs.size+1∨c=M.heap.objs.size:=by simpa using hc
  have J:M.heap.objs.size<=c:=by rcases z with rfl |rfl<;>lia
  exact O.fpOk J (O.hok.fresh J)
def Kx(ns:List Int):∀n,n<=ns.length->preSum (λi=>ns.getD i 0) n=(ns.take n).sum
 |0,_=>by simp [preSum]
 |n+1,h=>by
  show preSum _ n+ns.getD n 0=_;have hn:n<ns.length:=#[];rw[Kx ns n #[],List.take_succ,List.sum_append,aJ,aD hn];simp
def uD(hc:X.calm=true):qA X (.builtin "sum") (Ms X.K):=by
 rintro B s Z H F k Q I r ⟨p,ns,rfl,T,q⟩;obtain⟨u,rfl,N⟩:=zI r;cases N;obtain⟨G,D,f,hz⟩:=I.list T;have S:=D.length;rw[aB]at S;have hpl:p<s.heap.objs.size:=by obtain⟨o,e,_⟩:=f.isList;exact bH e
 refine call_sum_walkG (wpAny_pyIter_list f.isList #[s.heap.objs.size,_,_,_,_,_,λi=>ns.getD i 0,rfl,Walks.list (A:=X.A.in1) (I.ok.hd hc) s.heap.objs.size p (bR hpl) G.toArray,#[#[_,bX _ rfl,rfl,rfl],f.isList.push _],λb hb=>?_,λi v hv=>?_,λY tk J hk=>?_])
 .show b<(s.heap.push _).objs.size;rw[Heap.size_push];have z:b=s.heap.objs.size∨b=p:=by simpa using hb
  rcases z with rfl |rfl
  .exact gR _
  .exact Nat.lt_succ_of_lt hpl
 .have a:G[i]?=some v:=by simpa using hv
  obtain⟨x,ex,R⟩:∃x,(List.map V.int ns)[i]?=some x/\fU x v:=by
   have hi:i<G.length:=(aO.mp a).1;have d:i<(List.map V.int ns).length:=by rw[aB];lia
   obtain⟨u,c,N⟩:=D.get (i:=i) (x:=(List.map V.int ns)[i]) (aD d);rw[a]at c;cases c;exact#[_,aD d,N]
  rw[aZ]at ex;cases e:ns[i]? with
  |none=>rw[e]at ex;cases ex
  |some z=>
   rw[e]at ex;have:V.int z=x:=aW ex;subst this;obtain⟨t,rfl⟩:=R;exact#[t,by show Value.int z t=Value.int (ns.getD i 0) t;rw[aJ,e];rfl]
 .have e:preSum (λi=>ns.getD i 0) G.toArray.size=ns.sum:=by
   rw[bJ,←S,Kx ns _ (aU _),bY]
  rw[e];refine#[.int ns.sum,H,I.kept λb o q=>?_,#[_,rfl],q];exact hk b o (by
   intro z;have g:b=s.heap.objs.size:=by simpa using z
   exact absurd (bH q) (by rw[g];exact fB _)) (bE _ q)
def Jz{A:Around}{s:Shared}{u v:Value}(d:fU (.int i) u)(N:fU (.int j) v):SeqAt.EqAt A s u v (i==j):=by
 obtain⟨t,rfl⟩:=d;obtain⟨J,rfl⟩:=N;exact λprog w E Q T=>wpAny_eqBool_int T
def Ld:∀(ns ms:List Int),((List.range (min ns.length ms.length)).all (λj=>ns.getD j 0==ms.getD j 0)&&ns.length==ms.length)=decide (ns=ms):=by
 intro ns ms;rw[Bool.eq_iff_iff,dH,Bool.and_eq_true,List.all_eq_true,beq_iff_eq];constructor
 .rintro⟨h1,h2⟩;refine List.ext_getElem h2 λi hi A=>?_;have:=h1 i (gG.mpr #[]);rw[aJ,aJ,aD hi,aD A]at this;simpa using this
 .rintro rfl;exact#[λj _=>by simp,rfl]
end
def eI(K:aQ)(x:Str):Addr:=match PySem.W.nsIn K mainGlobals x with
 |some (some (.ref C))=>C
 |_=>0
def nE{K:aQ}{x:Str}{C:Addr}(h:PySem.W.nsIn K mainGlobals x=some (some (.ref C))):eI K x=C:=by unfold eI;rw[h]
section
open PySem.W Builtin Builtin.ObjectAttr Builtin.Getset_descriptor
end
end L2
namespace L2
end L2
namespace L2
open PySem PySem.Spec PyProof.Rows Builtin Builtin.ObjectAttr
end L2
namespace L2
open PySem PySem.Spec PyProof.Rows
variable{F:TT}{H U:Hp}{J:It}{K:aQ}{N:List Str}{P:Program}{Q:Option Value->Shared->Prop}{X:Cx}{a d z:Addr}{caps:List Nat}{ep i k:Nat}{es:Array DictEntry}{ex:List Addr}{g:TG}{h:Heap}{items:Array Value}{kvs:List (List Key×V)}{o:TE}{ob:Obj}{p pos:Pos}{s:Shared}{tb:TS}{x y:Str}{xs ys:List V}
section
open PySem.W Builtin Builtin.ObjectAttr Builtin.Getset_descriptor
end
def REq(K:aQ)(H:Hp)(D:V->V->Bool->Prop)(x y:V)(b:Bool):Prop:=∃a c xs ys,x=.ref a/\y=.ref c/\
 ((SqL K H a xs/\SqL K H c ys/\((xs.length≠ys.length/\b=false)∨(xs.length=ys.length/\∃e:Nat->Bool,(∀(j:Nat) x' y',xs[j]?=some x'->ys[j]?=some y'->D x' y' (e j))/\b=(List.range xs.length).all e)))∨
  (SqT K H a xs/\SqT K H c ys/\∃e:Nat->Bool,(∀(j:Nat) x' y',xs[j]?=some x'->ys[j]?=some y'->D x' y' (e j))/\b=((List.range (min xs.length ys.length)).all e&&xs.length==ys.length)))
noncomputable def DEq(K:aQ)(H:Hp):Nat->V->V->Bool->Prop
 |0,x,y,b=>(x=y/\(∃a,x=.ref a)/\b=true)∨∃i j,x=.int i/\y=.int j/\b=(i==j)
 |n+1,x,y,b=>((x=y/\(∃a,x=.ref a)/\b=true)∨∃i j,x=.int i/\y=.int j/\b=(i==j))∨(x≠y/\REq K H (DEq K H n) x y b)
def rEqD(K:aQ)(n:Nat):R2:=λx y H Q=>∃b,REq K H (DEq K H n) x y b/\Q (.bl b) H
def rNeD(K:aQ)(n:Nat):R2:=λx y H Q=>∃b,REq K H (DEq K H n) x y b/\Q (.bl (!b)) H
def fL.ix{us:List Value}(r:fL xs us){j:Nat}(h:j<us.toArray.size):∃x,xs[j]?=some x/\fU x us.toArray[j]:=by
 have S:=r.length;have h1:j<us.length:=by simpa using h
 have h2:j<xs.length:=#[];obtain⟨u,e,q⟩:=r.get (i:=j) (x:=xs[j]) (aD h2);refine#[xs[j],aD h2,?_];have C:us.toArray[j]=u:=by
  obtain⟨_,z⟩:=aO.mp e;simpa using z
 rw[C];exact q
section
variable{X:Cx}{pins:List (Addr×Obj)}{σ:St}{H:Hp}{s:Shared}
def rc_of{A:Around}{D:V->V->Bool->Prop}(I:Inv X pins σ H s)(hu:A.units<cLine)(g:∀x y u v b,fU x u->fU y v->D x y b->SeqAt.EqAt A.in1 s u v b){x y:V}{u v:Value}{b:Bool}(R:fU x u)(m:fU y v)(h:REq X.K H D x y b):SeqAt.RcAt A s u v b:=by
 obtain⟨a,c,F,p,rfl,rfl,h⟩:=h;cases R;cases m;rcases h with⟨ha,hc,h⟩|⟨ha,hc,e,l,rfl⟩
 .obtain⟨n,d,p1,_⟩:=I.list ha;obtain⟨o,N,w,_⟩:=I.list hc;have f:=d.length;have Z:=N.length;rcases h with⟨hn,rfl⟩|⟨S,e,l,rfl⟩
  .exact SeqAt.RcAt.lists_lengths p1.isList w.isList (by rw[bJ,bJ];simp;lia) hu
  .have q:=SeqAt.RcAt.lists (e:=e) p1.isList w.isList (by rw[bJ,bJ];lia) hu λj h1 h2=>by
    obtain⟨M,ex,i⟩:=d.ix h1;obtain⟨G,P,k⟩:=N.ix h2;exact g _ _ _ _ _ i k (l j M G ex P)
   rw[bJ,←f]at q;exact q
 .obtain⟨n,d,p1,_⟩:=I.tuple ha;obtain⟨o,N,w,_⟩:=I.tuple hc;have f:=d.length;have Z:=N.length;have q:=SeqAt.RcAt.tuples (e:=e) p1 w hu λj h1 h2=>by
   obtain⟨M,ex,i⟩:=d.ix h1;obtain⟨G,P,k⟩:=N.ix h2;exact g _ _ _ _ _ i k (l j M G ex P)
  rw[bJ,bJ,←f,←Z]at q;exact q
def jYj{A:Around}{x y:V}{u v:Value}{b:Bool}(R:fU x u)(m:fU y v)(h:(x=y/\(∃a,x=.ref a)/\b=true)∨∃i j,x=.int i/\y=.int j/\b=(i==j)):SeqAt.EqAt A s u v b:=by
 rcases h with⟨rfl,⟨a,rfl⟩,rfl⟩|⟨i,j,rfl,rfl,rfl⟩
 .cases R;cases m;exact SeqAt.EqAt.same _
 .exact Jz R m
def Cc(I:Inv X pins σ H s):∀(n:Nat)(A:Around),A.units+n<cLine->∀x y u v b,fU x u->fU y v->DEq X.K H n x y b->SeqAt.EqAt A s u v b
 |0,_,_,_,_,_,_,_,R,m,h=>jYj R m h
 |n+1,A,hu,x,y,u,v,b,R,m,h=>by
  rcases h with h |⟨g,h⟩
  .exact jYj R m h
  .have q:=rc_of I (A:=A) #[] (λx y u v b R m d=>Cc I n A.in1 (by show A.units+1+n<cLine;lia) x y u v b R m d) R m h;obtain⟨a,c,F,e,rfl,rfl,_⟩:=h;cases R;cases m;exact SeqAt.EqAt.of_refs (λz=>g (by rw[z])) q
end
section
variable{X:Cx}
def op_eqD(n:Nat)(hu:X.A.units+(n+1)<cLine):OpR X (compareOp .Eq) (rEqD X.K n):=by
 rintro B s Z H x y v u Q I R m ⟨b,h,q⟩;exact rc_of I (A:=X.A) #[] (Cc I n X.A.in1 (by show X.A.units+1+n<cLine;lia)) R m h _ _ _ _ #[.bl b,H,I,rfl,q]
def op_neD(n:Nat)(hu:X.A.units+(n+1)<cLine):OpR X (compareOp .NotEq) (rNeD X.K n):=by
 rintro B s Z H x y v u Q I R m ⟨b,⟨a,c,F,C,rfl,rfl,h⟩,q⟩;cases R;cases m;have g:=Cc I n X.A.in1 (by show X.A.units+1+n<cLine;lia);have o:X.A.units<cLine:=#[];have fin:EP X B Z Q (.bool (!b)) s:=#[.bl (!b),H,I,rfl,q];rcases h with⟨ha,hc,h⟩|⟨ha,hc,e,l,rfl⟩
 .obtain⟨r,d,p1,_⟩:=I.list ha;obtain⟨t,N,w,_⟩:=I.list hc;have f:=d.length;have p:=N.length;rcases h with⟨hn,rfl⟩|⟨S,e,l,rfl⟩
  .exact SeqAt.RcNeAt.lists_lengths p1.isList w.isList (by rw[bJ,bJ];simp;lia) o _ _ _ _ fin
  .have z:=SeqAt.RcNeAt.lists (A:=X.A) (e:=e) p1.isList w.isList (by rw[bJ,bJ];lia) o λj h1 h2=>by
    obtain⟨M,ex,i⟩:=d.ix h1;obtain⟨G,P,k⟩:=N.ix h2;exact g _ _ _ _ _ i k (l j M G ex P)
   rw[bJ,←f]at z;exact z _ _ _ _ fin
 .obtain⟨r,d,p1,_⟩:=I.tuple ha;obtain⟨t,N,w,_⟩:=I.tuple hc;have f:=d.length;have p:=N.length;have z:=SeqAt.RcNeAt.tuples (A:=X.A) (e:=e) p1 w o λj h1 h2=>by
   obtain⟨M,ex,i⟩:=d.ix h1;obtain⟨G,P,k⟩:=N.ix h2;exact g _ _ _ _ _ i k (l j M G ex P)
  rw[bJ,bJ,←f,←p]at z;exact z _ _ _ _ fin
end
def REq.ints{n:Nat}{c:Addr}{ns ms:List Int}(h1:SqL K H a (List.map V.int ns))(h2:SqL K H c (List.map V.int ms)):REq K H (DEq K H n) (.ref a) (.ref c) (decide (ns=ms)):=by
 refine#[a,c,_,_,rfl,rfl,.inl #[h1,h2,?_]];by_cases S:ns.length=ms.length
 .refine .inr #[by simp [S],λj=>ns.getD j 0==ms.getD j 0,λj x y ex P=>?_,?_]
  .rw[aZ]at ex P;cases e1:ns[j]? with
   |none=>rw[e1]at ex;cases ex
   |some i1=>
    cases e2:ms[j]? with
    |none=>rw[e2]at P;cases P
    |some i2=>
     rw[e1]at ex;rw[e2]at P;have G:=aW ex;have B:=aW P;have b:(x=y/\(∃a,x=V.ref a)/\(ns.getD j 0==ms.getD j 0)=true)∨∃i k,x=V.int i/\y=V.int k/\(ns.getD j 0==ms.getD j 0)=(i==k):=.inr #[i1,i2,G.symm,B.symm,by rw[aJ,aJ,e1,e2];rfl];cases n with
     |zero=>exact b
     |succ n=>exact .inl b
  .have:=Ld ns ms;rw[aB,←this,S,Nat.min_self];simp
 .exact .inl #[by simpa using S,decide_eq_false λz=>S (by rw[z])]
def pZ:R2:=λx y H Q=>∃a b xs ys,x=.ref a/\y=.ref b/\H a=some (.tup xs)/\H b=some (.tup ys)/\xs.length+ys.length<=sizeLine/\∀p O,aT H O->O p=some (.tup (xs++ys))->Q (.ref p) O
noncomputable def Qv:V->Option Int->Option Int->Hp->VK->Prop:=λx lo hi H Q=>∃a xs,x=.ref a/\H a=some (.tup xs)/\∀p O,aT H O->O p=some (.tup (mY xs lo hi))->Q (.ref p) O
section
variable{X:Cx}
def qJ:OpR X (binaryOp .Add) pZ:=by
 rintro B s Z H x y v u Q I R m ⟨a,b,t,A,rfl,rfl,ha,hb,hz,q⟩;by_cases hx:t=[]
 .subst hx;cases R;cases m;obtain⟨S,d,p1,_⟩:=I.tuple (SqT.of ha);obtain⟨C,N,w,_⟩:=I.tuple (SqT.of hb);have e1:S=[]:=by cases d;rfl
  subst e1;obtain⟨⟨r,f,k,sl⟩,D,hc,n,hd⟩:=id p1;obtain⟨⟨o,i,j,c⟩,l,g,n2,z⟩:=id w;simp only at hc hd g z;subst hc hd g z;exact concat_meets #[_,D,rfl] #[_,l,rfl] noFill_tuple_add seq_tuple_add PySem.F.slot_tuple_add PySem.F.entry_tuple_add (PySem.F.args_tuple_add_2 _ _) (tuple_addW0 a b _ _ n n2 f i sl c (by simp)) #[D,l,#[.ref b,H,I,rfl,q b H (aT.refl H) hb]]
 .refine op_catT B s Z H _ _ v u Q I R m #[a,b,t,A,rfl,rfl,SqT.of ha,SqT.of hb,hx,hz,λe=>?_,λ_ p hp=>q p _ (aT.upd hp) aL];subst e;exact q a H (aT.refl H) (by rw[cW];exact ha)
end
def jJd:bootBuiltins "reversed"=some (.type "reversed"):=by decide+kernel
section
variable{prog:Program}{w:World}{A:Around}{E:Value->Shared->Prop}{s:Shared}
open HT in
def Zn{t sl:Addr}{items:Array Value}{vl vu:Value}{lo hi:Option Int}{Q:Value->Shared->Prop}(ht:IsTup s.heap t items)(hs:s.heap.IsSliceOf sl vl vu .none)(pl:IsPart vl lo)(pu:IsPart vu hi)
  (hw:sIx items.size 0 lo=0/\sIx items.size items.size hi=items.size) (h:Q (.ref t) s):wpAny (model prog w) A (getItem (.ref t) (.ref sl)) Q E s:=by
 obtain⟨os,hos,hcs,hds⟩:=id hs;have hTs:s.TypeIs (.ref sl) "slice":=#[os,hos,hcs];unfold getItem
 try with_reducible refine wpAny_holding ?_
 first |refine aC (aS ?_)|skip
 refine aC (wpAny_sequenceKey ht.typeIs (by decide) ?_);refine aC (wpAny_callSpecial?_slot (name:=Str.ofString "__getitem__") ht.typeIs PyProof.Rows.slot_tuple_getitem
  (wpAny_call_entry PyProof.Rows.slot_tuple_getitem ht.typeIs entry_tuple_getitem ?_ (args_tuple_getitem _ _)))
 show wpAny _ _ (Builtin.Tuple.tupleItemsOf (.ref t)>>=_) _ _ s;refine aC (tupleItemsOf_ ht ?_);refine aC (wpAny_typeOf hTs ?_);rw[aK (by decide)];refine aC (vC hs pl pu ?_);have yes:((((sIx items.size 0 lo:Nat):Int)==0&&(1:Int)==1&&(sIx items.size items.size hi-sIx items.size 0 lo)==items.size)=true):=by
  rw[hw.1,hw.2];simp
 show wpAny _ _ (if(((sIx items.size 0 lo:Nat):Int)==0&&(1:Int)==1&&(sIx items.size items.size hi-sIx items.size 0 lo)==items.size)=true then _ else _) _ _ s;rw[aK yes];unfold Builtin.Tuple.tupleIsExact;refine aC (aC (wpAny_typeOf ht.typeIs (aS ?_)));rw[aK (by decide)]
 first
  |exact aC (wpAny_rule (aS #[_,rfl,aS h]))
  |exact aC (wpAny_rule (aC (aS (aS #[_,rfl,aS h]))))
  |exact aC (wpAny_rule (aS h))
end
section
variable{X:Cx}
def jXi{lo hi:Option Int}(h:HT.sIx xs.length 0 lo=0/\HT.sIx xs.length xs.length hi=xs.length):mY xs lo hi=xs:=by
 unfold mY;rw[h.1,h.2,List.drop_zero,Nat.sub_zero,bY]
def Bl:SlR X Qv:=by
 rintro B s Z H x v c g lo hi sl Q I R hs f i ⟨a,F,rfl,hx,q⟩;by_cases hw:HT.sIx F.length 0 lo=0/\HT.sIx F.length F.length hi=F.length
 .cases R;obtain⟨G,r,y,hz⟩:=I.tuple (SqT.of hx);have C:G.toArray.size=F.length:=by rw[bJ];exact r.length.symm
  refine#["tuple",_,PyProof.Rows.slot_tuple_getitem.lookup,y.typeIs,?_];exact Zn y hs f i (by rw[C];exact hw) #[.ref a,H,I,rfl,q a H (aT.refl H) (by rw[jXi hw];exact hx)]
 .exact sl_tup B s Z H _ v c g lo hi sl Q I R hs f i #[a,F,rfl,SqT.of hx,hw,λp hp=>q p _ (aT.upd hp) aL]
end
def Itv(K:aQ)(a:Addr)(n:Nat):It:=
 #[λi H=>i<n/\∃xs,SqL K H a xs/\xs.length=n,λi H v O=>O=H/\∀xs,SqL K H a xs->xs[n-1-i]?=some v,λi _=>n<=i]
def iRev(K:aQ)(g:TE):TI:=λZ H R=>g Z H λx U=>∃a xs,x=.ref a/\SqL K U a xs/\R (Itv K a xs.length) U
def jVb{w:World}{r:Expr}(a U:Addr)(n:Nat):Um P w K r (Itv K a n) [U] U (λi h=>i<=n/\h.IsRevIter U a ((n:Int)-1-(i:Int))) where
 mem:=by simp
 obj:=λi h st b hb=>by
  obtain⟨_,o,e,c,d⟩:=st;have z:b=U:=by simpa using hb
  subst z;exact#[o,e,λv z=>by rw[d]at z;cases z]
 keep:=λi h Y st k=>#[st.1,st.2.at λo q=>k U (by simp) o q]
 item:=by
  intro X R hw A hc i B s Z H E I hf st hg;subst R hw A;obtain⟨hi,F,T,hn⟩:=hg;obtain⟨G,D,p,hz⟩:=I.list T;have S:=D.length;obtain⟨f0,m,f2,y,Q,J⟩:=hf U (by simp);have e1:(n:Int)-1-(i:Int)=((n-1-i:Nat):Int):=#[];have t:=st.2;rw[e1]at t;have f:n-1-i<F.length:=#[];obtain⟨u,hu,N⟩:=D.get (aD f);refine wpAny_pyNext_rev_item t p.isList (x:=u) (by simpa using hu) λY l sb=>#[_,rfl,?_];obtain⟨O,j,g,a0⟩:=id l;refine go_of j g a0 (by decide+kernel) ?_;have C:((n-1-i:Nat):Int)-1=(n:Int)-1-((i+1:Nat):Int):=#[];rw[C]at l;exact#[_,H,I.turned (t':=s.toks) (λb o hb e=>(sb.2 b hb).trans e) f0 m y Q J,N,#[rfl,λys hy=>by rw[I.list_inj hy T];exact aD f],#[hi,l],λb hb=>by
   have z:b=U:=by simpa using hb
   rw[z];exact f0]
 done:=by
  intro X R hw A hc i B s Z H E I hf st hg;subst R hw A;obtain⟨f0,m,f2,y,Q,J⟩:=hf U (by simp);have e1:(n:Int)-1-(i:Int)= -1:=by
   have:=st.1;have h2:n<=i:=hg;lia
  have t:=st.2;rw[e1]at t;exact wpAny_pyNext_rev_end (I.ok.hd hc) t λY M=>#[rfl,I.turned (t':=s.toks) (λb o hb e=>M b o hb e) f0 m y Q J]
 self:=λ_ _ _ _ _ st h=>wpAny_pyIter_revIter st.2 h
section
variable{X:Cx}
def pi_rev{i:Expr}{a:Expr}{g:TE}(hg:Gl X "reversed")(hm:X.mg "reversed"=none)(S:PE X a g)(hs:starEach [a] X.env=[(false,eval a X.env)]:=by rfl):PI X i (.Call (.Name "reversed" p) [a] [] pos) (iRev X.K g):=by
 intro B s Z H R I h;have A:PA X [a] (aH g bG):=aA S aN (by rw[hs];rfl);refine Call_ (pO I hg hm jJd (dQ (thn (A pos B s Z H (λj U=>∃x,j=[x]/\∃a F,x=.ref a/\SqL X.K U a F/\R (Itv X.K a F.length) U) I ?_) λk M#[j,U,O,d,q1]=>?_) hs rfl))
 .show g Z H λx U=>∃y,[x]=[y]/\_;have e:(fun(x:V)(U:Hp)=>∃y,[x]=[y]/\∃a F,y=V.ref a/\SqL X.K U a F/\R (Itv X.K a F.length) U)=λx U=>∃a F,x=V.ref a/\SqL X.K U a F/\R (Itv X.K a F.length) U:=by
   funext x U
   exact propext #[fun⟨y,e,r⟩=>by cases e;exact r,λr=>#[x,rfl,r]]
  have Y:g Z H λx U=>∃a F,x=V.ref a/\SqL X.K U a F/\R (Itv X.K a F.length) U:=h;rw[←e]at Y;exact Y
 .obtain⟨x,e1,b,F,C,T,q⟩:=q1;subst e1 C;obtain⟨u,rfl,N⟩:=zI d;cases N;obtain⟨G,D,f,hz⟩:=O.list T;have S:=D.length;refine call_reversed_list f.isList ?_;have t:(M.heap.push (revObj b (((G.toArray.size:Nat):Int)-1))).IsRevIter M.heap.objs.size b ((F.length:Int)-1-((0:Nat):Int)):=#[_,bX _ rfl,rfl,by
   show Data.fields (List.toArray [.ref b,rawInt (((G.toArray.size:Nat):Int)-1)])=_;rw[bJ,←S];simp]
  refine wpAny_pyIter_revIter (s:={ M with heap:=M.heap.push (revObj b (((G.toArray.size:Nat):Int)-1)) }) t ?_;refine#[M.heap.objs.size,[M.heap.objs.size],_,Itv X.K b F.length,U,rfl,O.kept (t':=M.toks) λc o e=>bE _ e,jVb b _ _,#[eC _,t],λc hc=>?_,q];have z:c=M.heap.objs.size:=by simpa using hc
  exact O.fpOk (Nat.le_of_eq z.symm) (O.hok.fresh (Nat.le_of_eq z.symm))
end
def for_rev{D:vH}{Z:St}(d:Nat->St->Hp->Prop)(h0:d 0 Z H)(S:∀i Z H,i<=xs.length->d i Z H->SqL K H a xs)
  (hs:∀i x Z H,i<xs.length->xs[xs.length-1-i]?=some x->d i Z H->g x Z H λc j=>tb { D with nx:=d (i+1),ct:=d (i+1),bk:=D.nx } c j) (hd:∀Z H,d xs.length Z H->D.nx Z H):
  ∃W:Nat->Nat->St->Hp->Prop,(∃m,W 0 m Z H)/\∀i m Z H,W i m Z H->
   ((Itv K a xs.length).stop i H/\D.nx Z H)∨((Itv K a xs.length).go i H/\∃N:St->Hp->Prop,(∀F O,N F O->∃k,k<m/\W (i+1) k F O)/\∀x O,(Itv K a xs.length).yld i H x O->g x Z O λc j=>tb { D with nx:=N,ct:=N,bk:=D.nx } c j):=by
 refine#[λi m Z H=>m=xs.length-i/\i<=xs.length/\d i Z H,#[xs.length,by simp,eC _,h0],?_];rintro i m Z H ⟨rfl,hi,p⟩;have q:=S i Z H hi p;by_cases f:i<xs.length
 .refine .inr #[#[f,xs,q,rfl],d (i+1),λF O o=>#[xs.length-(i+1),#[],rfl,f,o],λx O y=>?_];obtain⟨e,y⟩:=y;subst e;exact hs i x Z _ f (y xs q) p
 .have e:i=xs.length:=#[];subst e;exact .inl #[aU _,hd Z H p]
def qL(J:It)(Z:St)(caps:List Nat)(F:TT)(o:TE)(U:Hp)(fin:List V->Hp->Prop):Prop:=
 ∃(n:Nat)(W:Nat->List V->Hp->Prop),n<=sizeLine/\W 0 [] U/\∀i ys j,i<=n->ys.length<=i->W i ys j->
  (J.stop i j/\fin ys j)∨(i<n/\J.go i j/\∀x Y,J.yld i j x Y->F (some x::cY Z caps) Y λb d=>if b=true then o (some x::cY Z caps) d λy u=>W (i+1) (ys++ [y]) u else W (i+1) ys d)
def pL(q:TI)(caps:List Nat)(F:TT)(o:TE):TE:=λZ H Q=>q Z H λJ U=>qL J Z caps F o U λys j=>∀p,j p=none->Q (.ref p) (upd j p (.lst ys))
noncomputable def Xq:List V->Hp->VK->Prop:=λxs H Q=>∃p kvs,xs=[.ref p]/\H p=some (.dT kvs)/\Q (.int (kvs.length:Nat)) H
def len_any{prog:Program}{w:World}(hd:(d==sysModules)=false):MeetsIn prog w (Builtin.«dict.__len__» #[[.ref d],[]]) (λ_ R s=>∃o N Q,s.heap.get? d=some o/\o.data=.dict N Q/\R (.ok (.ret (.int (N.size:Nat) s.toks))) { s with toks:=s.toks+1 }):=
 .of_wp λA R s#[o,N,Q,D,j,h]=>by
  show wpAny _ _ (dictSize d>>=_) _ _ s;unfold dictSize;refine aC (aC (wpAny_dictEntries D j (aS ?_)));show wpAny _ _ (Builtin.Dict.pendingCount d>>=_) _ _ s;refine aC (wpAny_pendingCount_other hd ?_);refine wpAny_ret_mkInt ?_;rw[Nat.add_zero];exact h
section
variable{X:Cx}
def Tl:qA X (.builtin "len") Xq:=by
 rintro B s Z H d k Q I r ⟨p,J,rfl,hp,q⟩;obtain⟨u,rfl,b⟩:=zI r;cases b;obtain⟨z,hd,v,G,o,N,c,D,hc,j,l,_⟩:=dt_of I.hok hp;have a:s.TypeIs (.ref p) "dict":=#[o,D,hc.1];have sz:N.size=J.length:=by rw[size_of_entries l];exact(Paired.length G).symm
 have hz:(N.size:Int)<2^63:=by rw[sz];rw[sizeLine_eq]at z;lia
 refine Calls.call_function_entry kind_len plain_len entry_len (args_len1 _) ?_;unfold Builtin.«len»;refine aC (m:=oneArg "len" _) (aS ?_);refine aC (m:=callSpecial? (.ref p) (Str.ofString "__len__")) (wpAny_callSpecial?_slot (name:=Str.ofString "__len__") a F.slot_dict_len (call_meetsIn F.slot_dict_len a F.entry_dict_len (F.args_dict_len_1 _) (len_any hd) #[o,N,c,D,j,?_]));show wpAny _ _ _ _ _ { s with toks:=s.toks+1 };refine aC (wpAny_holding (aS (aC (wpAny_letGo ?_))));show wpAny _ _ (if((N.size:Nat):Int)<0 then _ else _) _ _ _;rw[aF #[]];show wpAny _ _ (if((N.size:Nat):Int)≥2^63 then _ else _) _ _ _;rw[aF #[]];refine aC (wpAny_mkInt (aS #[_,rfl,?_]));exact#[.int (J.length:Nat),H,(I.tok _).tok _,#[_,by rw[sz]],q]
def isB2(x:V)(H:Hp)(T:String)(b:Bool):Prop:=isB x H T b∨(∃p xs,x=.ref p/\H p=some (.lst xs)/\T="list"/\b=true)
noncomputable def cIsB2:List V->Hp->VK->Prop:=λxs H Q=>∃x T b,xs=[x,.ty T]/\isB2 x H T b/\Q (.bl b) H
def kit_ll(K:aQ):PySem.W.kitOne K (.type "list") (.type "list")=some true:=by rfl
def jVX:qA X (.builtin "isinstance") cIsB2:=by
 rintro B s Z H F k Q I r ⟨x,T,b,rfl,hb,q⟩;rcases hb with hb |⟨p,v,rfl,hp,rfl,rfl⟩
 .exact Ot B s Z H _ k Q I r #[x,T,b,rfl,hb,q]
 .obtain⟨u,c,rfl,N,a⟩:=Mt r;obtain rfl:c=Value.type "list":=a;exact oA I N (.lst hp) (kit_ll _) λtk=>#[.bl true,H,I.tok _,rfl,q]
end
structure TabK(K:aQ):Prop where
 cl:Cls K (eI K "Table")
 nM:pP K (eI K "Table") "many"
 nC:pP K (eI K "Table") "cells"
def jJc{lo:Int}{n:Nat}{Z:St}{fin:List V->Hp->Prop}(W:Nat->List V->Hp->Prop)(hz:n<=sizeLine)(h0:W 0 [] U)
  (hs:∀i v H,i<n->v.length<=i->W i v H->F (some (.int (lo+i))::cY Z caps) H λb d=>if b=true then o (some (.int (lo+i))::cY Z caps) d λy u=>W (i+1) (v++ [y]) u else W (i+1) v d)
  (hd:∀v H,W n v H->fin v H):qL (Itr lo n) Z caps F o U fin:=by
 refine#[n,W,hz,h0,λi v j hi hy hw=>?_];by_cases f:i<n
 .refine .inr #[f,f,λx Y y=>?_];obtain⟨e1,C⟩:=y;subst e1 C;exact hs i v _ f hy hw
 .have e:i=n:=#[];subst e;exact .inl #[aU _,hd v j hw]
noncomputable def tU(n:Nat):List Int:=(List.range n).map Int.ofNat
def jVe{n:Nat}(h:k<n):(tU n)[k]?=some (k:Int):=by
 unfold tU;rw[aZ,List.getElem?_range h];rfl
def sL(n:Nat):(tU n).length=n:=by unfold tU;rw[aB,iB]
def zJ(c:TE):TE:=λZ H Q=>c Z H λx U=>∃n:Nat,x=.int n/\n<=10000/\∀p,U p=none->Q (.ref p) (upd U p (.lst (List.map V.int (tU n))))
def Kj:∀{xs:List V}{us:List Value},xs.length=us.length->(∀(i:Nat)(x:V)(u:Value),xs[i]?=some x->us[i]?=some u->fU x u)->fL xs us
 | [],[],_,_=>.nil
 | [],_::_,h,_=>by simp at h
 |_::_,[],h,_=>by simp at h
 |x::xs,u::us,h,k=>.cons (k 0 x u rfl rfl) (Kj (by simpa using h) λi x u h1 h2=>k (i+1) x u (by simpa using h1) (by simpa using h2))
section
variable{X:Cx}
def Fm{a:Expr}{g:TE}{p1 w b F:Pos}(D:Gl X "list")(l:X.mg "list"=none)(P:Gl X "range")(v:X.mg "range"=none)(hc:X.calm=true)(S:PE X a g)
  (f:starEach [.Call (.Name "range" w) [a] [] F] X.env=[(false,eval (.Call (.Name "range" w) [a] [] F) X.env)]:=by rfl) (m:starEach [a] X.env=[(false,eval a X.env)]:=by rfl):
  PE X (.Call (.Name "list" p1) [.Call (.Name "range" w) [a] [] F] [] b) (zJ g):=by
 intro B s Z H Q I h;have A:PA X [a] (aH g bG):=aA S aN (by rw[m];rfl);refine Call_ (pO I D l qK (dQ (spliced_more ?_ (by rw[f];rfl)) f rfl));refine Call_ (pO I P v boot_range (dQ (thn (A F B s Z H (λj U=>∃x,j=[x]/\∃n:Nat,x=.int n/\n<=10000/\∀p,U p=none->Q (.ref p) (upd U p (.lst (List.map V.int (tU n))))) I ?_) λk M#[j,U,O,d,q1]=>?_) m rfl))
 .show g Z H λx U=>∃y,[x]=[y]/\_;have e:(fun(x:V)(U:Hp)=>∃y,[x]=[y]/\∃n:Nat,y=V.int n/\n<=10000/\∀p,U p=none->Q (.ref p) (upd U p (.lst (List.map V.int (tU n)))))=λx U=>∃n:Nat,x=V.int n/\n<=10000/\∀p,U p=none->Q (.ref p) (upd U p (.lst (List.map V.int (tU n)))):=by
   funext x U
   exact propext #[fun⟨y,e,r⟩=>by cases e;exact r,λr=>#[x,rfl,r]]
  have Y:g Z H λx U=>∃n:Nat,x=V.int n/\n<=10000/\∀p,U p=none->Q (.ref p) (upd U p (.lst (List.map V.int (tU n)))):=h;rw[←e]at Y;exact Y
 .obtain⟨x,e1,n,C,hn,q⟩:=q1;subst e1 C;obtain⟨u,rfl,N⟩:=zI d;obtain⟨t,rfl⟩:=N;refine call_range_1 (spliced_none ?_);have hz:Builtin.Range.rangeSize 0 (n:Int) 1=(n:Int):=by rw[rangeSize_one];split<;>lia
  refine call_list_range (O.ok.hd hc) (IsRange.new ..) (small_one (by decide) (by decide) #[] #[]) hz #[] λh2 tk K J hk hS z=>?_;have kp:∀c o,M.heap.get? c=some o->h2.get? c=some o:=λc o e=>hk c o (bE _ e);have T:(M.heap.push { cls:=.type "range",data:=.fields (List.toArray [.int 0 M.toks,.int (n:Int) t,.int 1 (M.toks+1)]) }).objs.size=M.heap.objs.size+1:=Heap.size_push ..;have lt:M.heap.objs.size<=(M.heap.push { cls:=.type "range",data:=.fields (List.toArray [.int 0 M.toks,.int (n:Int) t,.int 1 (M.toks+1)]) }).objs.size:=by rw[T];exact Nat.le_succ _
  refine#[.ref _,_,O.laid (t':=tk) (o:=.lst (List.map V.int (tU n))) kp lt #[by rw[aB,sL,sizeLine_eq];lia,K.toList,J,Kj (by rw[aB,sL,Array.length_toList,z.1]) λi x u h1 R=>?_,by simpa using hS],rfl,q _ (O.hok.fresh lt)];have hi:i<n:=by
   have:=(aO.mp h1).1;rwa [aB,sL]at this
  rw[aZ,jVe hi]at h1;cases h1;obtain⟨G,e⟩:=z.2 i u (by simpa using R);rw[e];exact#[G,by simp]
end
def bt_zip:bootBuiltins "zip"=some (.type "zip"):=by decide+kernel
def Itz(K:aQ)(a b:Addr):It:=
 #[λi H=>∃xs x ys y,SqL K H a xs/\xs[i]?=some x/\SqL K H b ys/\ys[i]?=some y,
  λi H v O=>∃p x y,v=.ref p/\H p=none/\O=upd H p (.tup [x,y])/\(∀xs,SqL K H a xs->xs[i]?=some x)/\(∀ys,SqL K H b ys->ys[i]?=some y),
  λi H=>∃xs ys,SqL K H a xs/\SqL K H b ys/\(xs.length<=i∨ys.length<=i)]
def mX(K:aQ)(t:TA):TI:=λZ H R=>t Z H λvs U=>∃a b,vs=[.ref a,.ref b]/\(∃xs,SqL K U a xs)/\(∃ys,SqL K U b ys)/\R (Itz K a b) U
def jVa{w:World}{a7:List Expr}{tp:Pos}(a b z TI TO S m:Addr)(D:ZipApart z TI TO S m a b):
  Um P w K (.Tuple a7 k tp) (Itz K a b) [z,TI,TO,S,m] z (λi h=>IsZip h z TI TO .none/\IsPair h TI (.ref S) (.ref m)/\(∃u v,IsPair h TO u v)/\h.IsListIter S a i/\h.IsListIter m b i) where
 mem:=by simp
 obj:=λi h st c hc=>by
  obtain⟨hz,d,⟨u,v,M⟩,⟨o1,e1,c1,d1⟩,⟨U,C,c2,d2⟩⟩:=st;have q:c=z∨c=TI∨c=TO∨c=S∨c=m:=by simpa using hc
  rcases q with rfl |rfl |rfl |rfl |rfl
  .exact#[_,hz,λv z=>nomatch z]
  .exact#[_,d,λv z=>nomatch z]
  .exact#[_,M,λv z=>nomatch z]
  .exact#[o1,e1,λv z=>by rw[d1]at z;cases z]
  .exact#[U,C,λv z=>by rw[d2]at z;cases z]
 keep:=λi h Y st kp=>by
  obtain⟨hz,d,⟨u,v,M⟩,h1,h2⟩:=st;exact#[kp z (by simp) _ hz,kp TI (by simp) _ d,#[u,v,kp TO (by simp) _ M],h1.at λo q=>kp S (by simp) o q,h2.at λo q=>kp m (by simp) o q]
 item:=by
  intro X R hw A hc i B s Z H E I hf st hg;subst R hw A;obtain⟨F,x,ys,y,T,hx,hr,hy⟩:=hg;obtain⟨G,rv,p,b0⟩:=I.list T;obtain⟨b1,sv,r,b2⟩:=I.list hr;obtain⟨u,hu,N⟩:=rv.get hx;obtain⟨v,hv,b3⟩:=sv.get hy;obtain⟨hz,d,⟨u0,v0,M⟩,h1,h2⟩:=st;refine wpAny_pyNext_zip_item D hz d M h1 h2 p.isList r.isList (x:=u) (y:=v) (by simpa using hu) (by simpa using hv) λg a1 a2 l a4 a5 a6 kp=>#[_,rfl,?_];refine wpAny_letOwnedTupleGo_zip (s:={ s with heap:=g }) a1 λg2 en sb=>?_;have Q:Heap.SameBut z g g2:=sb;have lt:∀{c:Addr}{o:Obj},s.heap.get? c=some o->c<s.heap.objs.size:=λe=>bH e;have lz:=lt hz;have b5:=lt d;have b6:=lt M;have l1:S<s.heap.objs.size:=by obtain⟨_,e,_⟩:=h1;exact lt e
  have l2:m<s.heap.objs.size:=by obtain⟨_,e,_⟩:=h2;exact lt e
  have O:Inv X B Z H { s with heap:=g2,toks:=s.toks }:=I.turnedL (ch:=[z,TI,TO,S,m]) (λc o hb q=>by
   have j:c≠z/\c≠TI/\c≠TO/\c≠S/\c≠m:=by simpa using hb
   exact(Q.2 c j.1).trans (kp c o j.1 j.2.2.1 j.2.2.2.1 j.2.2.2.2 q)) hf
  have a8:H s.heap.objs.size=none:=I.hok.fresh (aU _);have a9:g2.get? s.heap.objs.size=some { cls:=.type "tuple",data:=.seq (List.toArray [u,v]) }:=(Q.2 _ (Nat.ne_of_gt lz)).trans a5;have I2:Inv X B Z (upd H s.heap.objs.size (.tup [x,y])) { s with heap:=g2,toks:=s.toks }:=O.adopt a8 I.sz (Nat.ne_of_gt I.lt) (λn c q=>by
   obtain⟨v,z⟩:=I.cell n c q;exact bR z.lt) (λq T=>bR (bH (I.pin q T).1)) #[by show 2<=sizeLine;decide,[u,v],.cons N (.cons b3 .nil),#[_,a9,rfl,_,rfl]]
  refine#[.ref s.heap.objs.size,_,I2,rfl,#[_,x,y,rfl,a8,rfl,λJ a0=>by rw[I.list_inj a0 T];exact hx,λJ a0=>by rw[I.list_inj a0 hr];exact hy],#[en,?_,#[_,_,(Q.2 _ D.TOz).trans a2],?_,?_],λc hb=>?_]
  .exact(Q.2 _ D.TIz).trans (kp _ _ D.TIz D.TITO D.TIi1 D.TIi2 d)
  .obtain⟨o,q,t⟩:=l;exact#[o,(Q.2 _ D.i1z).trans q,t]
  .obtain⟨o,q,t⟩:=a4;exact#[o,(Q.2 _ D.i2z).trans q,t]
  .have b4:=(hf c hb).1;have q:c=z∨c=TI∨c=TO∨c=S∨c=m:=by simpa using hb
   have f:c<s.heap.objs.size:=by rcases q with rfl |rfl |rfl |rfl |rfl<;>assumption
   rw[cK (bR f)];exact b4
 done:=by
  intro X R hw A hc i B s Z H E I hf st hg;subst R hw A;obtain⟨F,ys,T,hr,hx⟩:=hg;obtain⟨G,rv,p,b0⟩:=I.list T;obtain⟨b1,sv,r,b2⟩:=I.list hr;obtain⟨hz,d,⟨u0,v0,M⟩,h1,h2⟩:=st;have l1:=rv.length;have l2:=sv.length;refine wpAny_pyNext_zip_end (I.ok.hd hc) D hz d M h1 h2 p.isList r.isList (by simp;lia) λg kp=>#[rfl,?_];exact I.turnedL (t':=s.toks) (ch:=[z,TI,TO,S,m]) (λc o hb q=>by
   have j:c≠z/\c≠TI/\c≠TO/\c≠S/\c≠m:=by simpa using hb
   exact kp c o j.1 j.2.2.1 j.2.2.2.1 j.2.2.2.2 q) hf
 self:=λ_ _ _ _ _ st h=>wpAny_pyIter_zip st.1 h
def Iu{n l1 l2:Nat}(h1:l1<n)(h2:l2<n):ZipApart (n+4) (n+2) (n+3) n (n+1) l1 l2:=by
 constructor<;>(intro e;have C:(_:Nat)=_:=e;lia)
section
variable{X:Cx}
def nD{n:List Expr}{C:Pos}{a b:Expr}{t:TA}(hg:Gl X "zip")(hm:X.mg "zip"=none)(S:PA X [a,b] t)
  (l:starEach (a:: [b]) X.env=(false,eval a X.env)::starEach [b] X.env:=by rfl) (hpl:(backTo pos (starEach [b] X.env)).any (·.1)=false:=by rfl):PI X (.Tuple n k C) (.Call (.Name "zip" p) [a,b] [] pos) (mX X.K t):=by
 intro B s Z H R I h;refine wpAny_Call_Name_kw (pO I hg hm bt_zip ?_);refine dQ (thF (S pos B s Z H _ I h) λus M j U O d q1=>?_) l hpl;obtain⟨u,x,m,⟨F,T⟩,⟨v,hr⟩,q⟩:=q1;subst m;cases d with
 |cons ra d=>
 cases d with
 |cons rb d=>
 cases d;cases ra;cases rb;obtain⟨G,D,f,w⟩:=O.list T;obtain⟨Y,sv,Q,r⟩:=O.list hr;have y:u<M.heap.objs.size:=by obtain⟨o,e,_⟩:=f.isList;exact bH e
 have A:x<M.heap.objs.size:=by obtain⟨o,e,_⟩:=Q.isList;exact bH e
 refine call_zip_2 f.isList Q.isList λg hz N P h1 h2 i hk=>?_;refine wpAny_pyIter_zip hz ?_;have I2:Inv X B Z U { M with heap:=g }:=O.kept (t':=M.toks) hk;refine#[M.heap.objs.size+4,[M.heap.objs.size+4,M.heap.objs.size+2,M.heap.objs.size+3,M.heap.objs.size,M.heap.objs.size+1],_,Itz X.K u x,U,rfl,I2,jVa u x _ _ _ _ _ (Iu y A),#[hz,N,#[_,_,P],h1,h2],λc hc=>?_,q];have z:c=M.heap.objs.size+4∨c=M.heap.objs.size+2∨c=M.heap.objs.size+3∨c=M.heap.objs.size∨c=M.heap.objs.size+1:=by simpa using hc
 have J:M.heap.objs.size<=c:=by rcases z with rfl |rfl |rfl |rfl |rfl<;>lia
 exact O.fpOk J (O.hok.fresh J)
end
def jYg{b:Addr}{D:vH}{Z:St}(d:Nat->St->Hp->Prop)(h0:d 0 Z H)(S:∀i Z H,i<=xs.length->d i Z H->SqL K H a xs/\SqL K H b ys)(l:xs.length=ys.length)
  (hs:∀i x y p Z H,xs[i]?=some x->ys[i]?=some y->d i Z H->H p=none->g (.ref p) Z (upd H p (.tup [x,y])) λc j=>tb { D with nx:=d (i+1),ct:=d (i+1),bk:=D.nx } c j) (hd:∀Z H,d xs.length Z H->D.nx Z H):
  ∃W:Nat->Nat->St->Hp->Prop,(∃m,W 0 m Z H)/\∀i m Z H,W i m Z H->
   ((Itz K a b).stop i H/\D.nx Z H)∨((Itz K a b).go i H/\∃N:St->Hp->Prop,(∀F O,N F O->∃k,k<m/\W (i+1) k F O)/\∀x O,(Itz K a b).yld i H x O->g x Z O λc j=>tb { D with nx:=N,ct:=N,bk:=D.nx } c j):=by
 refine#[λi m Z H=>m=xs.length-i/\i<=xs.length/\d i Z H,#[xs.length,by simp,eC _,h0],?_];rintro i m Z H ⟨rfl,hi,p⟩;obtain⟨q,r⟩:=S i Z H hi p;by_cases f:i<xs.length
 .have n:i<ys.length:=#[];refine .inr #[#[xs,xs[i],ys,ys[i],q,by simp [f],r,by simp [n]],d (i+1),λF O o=>#[xs.length-(i+1),#[],rfl,f,o],λx O y=>?_];obtain⟨s,M,G,e1,C,T,B,v⟩:=y;subst e1 T;exact hs i M G s Z _ (B xs q) (v ys r) p C
 .have e:i=xs.length:=#[];subst e;exact .inl #[#[xs,ys,q,r,.inl (aU _)],hd Z H p]
section
variable{X:Cx}{pins:List (Addr×Obj)}{σ:List (Option V)}{H:Hp}{s:Shared}
def Yw{w:World}{u v:HO}(x:HOk P w H h)(e:H a=some u)(hu:(∀F,u≠.tup F)/\∀y,u≠.own y)(new:iR P w H h a v):HOk P w (upd H a v) h:=by
 have D:∀b y,H b=some (.own y)->upd H a v b=some (.own y):=λb y q=>by
  rw[cK (λz=>by subst z;rw[e]at q;exact hu.2 y (aW q))];exact q
 have d:∀b F,H b=some (.tup F)->upd H a v b=some (.tup F):=λb F q=>by
  rw[cK (λz=>by subst z;rw[e]at q;exact hu.1 F (aW q))];exact q
 intro b o q;by_cases hb:b=a
 .subst hb;rw[aL]at q;cases q;exact new.stay (λ_ _ _ z=>z) (λc z=>D c _ z) d
 .rw[cK hb]at q;exact(x b o q).stay (λ_ _ _ z=>z) (λc z=>D c _ z) d
def Inv.freeze(I:Inv X pins σ H s)(e:H a=some (.dT kvs)):∃ob,s.heap.get? a=some ob/\Inv X pins σ (upd H a (.frz ob (.dT kvs))) s:=by
 have hx:=I.hok a _ e;obtain⟨_,_,_,_,ob,_,_,D,_⟩:=id hx;refine#[ob,D,?_];have ne:∀b,H b=none->b≠a:=λb q z=>by subst z;rw[e]at q;cases q
 refine I.step (s:=s) (h':=s.heap) (g':=s.gens) (d':=s.drawn) (t':=s.toks) (ch:=[]) (λ_ z=>nomatch z) (λ_ _ _ _ _ q _=>q) (λ_ o _ _ _ q _=>#[o.slots,q]) (λb _ _ _ q=>by rw[cK (ne b q)];exact q) (λ_ o _ q=>#[o,q])
  (λb F q=>by rw[cK (kS q e (by intro z;cases z))];exact q) (λb o u q=>by rw[cK (kS q e (by intro z;cases z))];exact q) (λb R q=>#[(List.toArray []),by rw[cK (kS q e (by intro z;cases z)),q];simp]) (λ_ q=>q) ?_ I.bare
 exact Yw I.hok e #[λ_ z=>(by cases z),λ_ z=>(by cases z)] #[D,hx]
def Inv.thaw(I:Inv X pins σ H s)(e:H a=some (.frz ob (.dT kvs)))(G:∀o u,X.H₀ a≠some (.frz o u)):Inv X pins σ (upd H a (.dT kvs)) s:=by
 have ne:∀b,H b=none->b≠a:=λb q z=>by subst z;rw[e]at q;cases q
 have off:∀b,H b=none->upd H a (.dT kvs) b=none:=λb q=>by rw[cK (ne b q)];exact q
 refine#[I.ok,I.os,I.bare,#[I.base.keep,I.base.slot,λb o q n hx=>off b (I.base.free b o q n hx),I.base.there,λb F q=>?_,λb o u q=>?_,λb R q=>?_],I.loc,I.cell,off _ I.free,λx c q=>off c (I.freeC x c q),λp hp=>?_,?_,I.len]
 .have z:=I.base.tups b F q;rw[cK (kS z e (by intro z;cases z))];exact z
 .have z:=I.base.frzs b o u q;have hb:b≠a:=λy=>by subst y;exact G o u q
  rw[cK hb];exact z
 .obtain⟨m,z⟩:=I.base.tbls b R q;exact#[m,by rw[cK (kS z e (by intro z;cases z))];exact z]
 .obtain⟨q,n,r⟩:=I.pin p hp;exact#[q,off _ n,r]
 .obtain⟨_,hx⟩:=I.hok a _ e;exact Yw I.hok e #[λ_ z=>(by cases z),λ_ z=>(by cases z)] hx
end
noncomputable def Xj(b:Addr->Prop)(D:vH):vH where
 nx:=λZ H=>∃a kvs ob,b a/\H a=some (.frz ob (.dT kvs))/\D.nx Z (upd H a (.dT kvs))
 rt:=λv H=>∃a kvs ob,b a/\H a=some (.frz ob (.dT kvs))/\D.rt v (upd H a (.dT kvs))
 bk:=λZ H=>∃a kvs ob,b a/\H a=some (.frz ob (.dT kvs))/\D.bk Z (upd H a (.dT kvs))
 ct:=λZ H=>∃a kvs ob,b a/\H a=some (.frz ob (.dT kvs))/\D.ct Z (upd H a (.dT kvs))
def vI(t:TS):TS:=λD Z H=>∀b:Addr->Prop,(∀a,(∀o u,H a≠some (.frz o u))->b a)->t (Xj b D) Z H
def Gb{st:Stmt}{t:TS}(h:PS X st t):PS X st (vI t):=by
 intro B s Z H D I y;have q:=h B s Z H _ I (y (λa=>∀o u,X.H₀ a≠some (.frz o u)) λa b o u z=>b o u (I.base.frzs a o u z));refine thn q λf R r=>?_;cases f with
 |next=>obtain⟨F,O,c,a,J,ob,G,e,d⟩:=r;exact#[F,_,c.thaw e G,d]
 |brk=>obtain⟨F,O,c,a,J,ob,G,e,d⟩:=r;exact#[F,_,c.thaw e G,d]
 |cont=>obtain⟨F,O,c,a,J,ob,G,e,d⟩:=r;exact#[F,_,c.thaw e G,d]
 |ret v=>obtain⟨x,F,O,c,g,a,J,ob,G,e,d⟩:=r;exact#[x,F,_,c.thaw e G,g,d]
section
variable{prog:Program}{w:World}{A:Around}{E:Value->Shared->Prop}{s:Shared}
def Xb(hd:(d==sysModules)=false):MeetsIn prog w (Builtin.«dict.items» #[[.ref d],[]]) (λ_ R s=>s.TypeIs (.ref d) "dict"/\R (.ok (.ret (.ref s.heap.objs.size))) { s with heap:=s.heap.push { cls:=.type "dict_items",data:=.fields (List.toArray [.ref d]) } }):=
 .of_wp λA R s#[u,h]=>by
  unfold Builtin.«dict.items»;refine aC ?_;unfold Builtin.Dict.noArgs;refine aC (wpAny_notOrdered_dict u ?_);show wpAny _ _ (pure d) _ _ s;refine aS ?_;show wpAny _ _ (Builtin.Dict.showsAll d>>=_) _ _ s;unfold Builtin.Dict.showsAll;rw[hd,aF (by simp)];refine aC (aS ?_);exact aC (wpAny_newObj_type (aS #[_,rfl,h]))
def jXd{v:Addr}{Z:Obj}{Q:Value->Shared->Prop}(hv:s.heap.IsItemsView v d)(D:s.heap.get? d=some Z)(j:Z.data=.dict es ep)
  (H:Q (.ref s.heap.objs.size) { s with heap:=s.heap.push { cls:=.type "dict_itemiterator",data:=.fields (List.toArray [.none,.bool false,.ref d,.int 0 0,.int es.size 0,.int ep 0,.none,.none]) } }):wpAny (model prog w) A (pyIter (.ref v)) Q E s:=by
 obtain⟨J,a,c,b⟩:=id hv;refine wpAny_pyIter_slot hv.typeIs F.slot_dict_items_iter (wpAny_call_entry F.slot_dict_items_iter hv.typeIs F.entry_dict_items_iter ?_ (F.args_dict_items_iter_1 _));unfold Builtin.«dict_items.__iter__»;refine aC (aS ?_);refine aC ?_;unfold Builtin.Dict_items.dictOf;refine aC (wpAny_field a b (x:=.ref d) rfl (aS ?_));refine aC ?_;unfold Builtin.Dict_items.newIterator;refine aC (wpAny_dictEntries D j (aC (wpAny_dictEpoch D j ?_)));simp only[show Builtin.Dict_items.ownsTuple "dict_itemiterator"=true by decide,if_true];refine wpAny_newObj_type (aS #[_,rfl,"dict_itemiterator",_,#[_,bX _ rfl,rfl],F.slot_dict_itemiterator_next.lookup,?_]) (by simp only[sizeOk,Builtin.Dict_items.ownedTupleFields,bJ,bK,dF,List.length_nil,sizeLine_eq];lia);simpa [rawInt,Builtin.Dict_items.ownedTupleFields]using H
def jXc{U:Addr}{Z:Obj}{ok J:Value}(t:IsItemIter s.heap U d i es.size ep ok J)(D:s.heap.get? d=some Z)(j:Z.data=.dict es ep)(f:i<es.size)
  (H:∀Y,IsItemIterOut Y U d (i+1) es.size ep es[i].key es[i].val s.heap.objs.size->Y.get? s.heap.objs.size=some { cls:=.type "tuple",data:=.seq (List.toArray [es[i].key,es[i].val]) }->(∀b o,b≠U->s.heap.get? b=some o->Y.get? b=some o)->Q (some (.ref s.heap.objs.size)) { s with heap:=Y }):
  wpAny (model prog w) A (pyNext (.ref U)) Q E s:=by
 obtain⟨hp,g,a,tk,os⟩:=s;have u:Shared.TypeIs #[hp,g,a,tk,os] (.ref U) "dict_itemiterator":=#[_,t,rfl];have r:U<hp.objs.size:=bH t;unfold pyNext;refine aC (wpAny_attempt (wpAny_callSpecial?_slot (name:=Str.ofString "__next__") u F.slot_dict_itemiterator_next (wpAny_call_entry F.slot_dict_itemiterator_next u F.entry_dict_itemiterator_next ?_ (F.args_dict_itemiterator_next_1 _))));refine aC (aS ?_);refine aC ?_;refine aC ?_;refine aC (wpAny_typeNameOfWhole_itemiter u (aS ?_));refine aC (wpAny_fieldsOf t rfl ?_);simp only[show Builtin.Dict_items.ownsTuple "dict_itemiterator"=true by decide,if_true];show wpAny _ _ (if(Value.ref d==Value.none)=true then _ else _) _ _ _;rw[aF (λz=>by cases z)];refine aC (aS (aC (wpAny_dictEntries D j ?_)));rw[aF (by simp)];refine aC (aS (aC (wpAny_dictEpoch D j ?_)));rw[aF (by simp)];refine aS ?_;simp only[show ¬((i:Int)<0) by lia,if_false,cA,Array.getElem?_eq_getElem f];refine aC ?_;refine aC (wpAny_typeNameOfWhole_itemiter u (aS (aC (wpAny_isOneOf_itemiter u ?_))));show wpAny _ _ (setField (.ref U) 3 (rawInt ((i:Int)+1))>>=_) _ _ #[hp,g,a,tk,os];refine aC (wpAny_setField_rec t (by simp) λh1 e1 M=>?_);replace M:Heap.SameBut U hp h1:=M;replace e1:IsItemIter h1 U d (i+1) es.size ep ok J:=by unfold IsItemIter;rw[show((i+1:Nat):Int)=(i:Int)+1 by lia];simpa [rawInt]using e1
 have c:Shared.TypeIs #[h1,g,a,tk,os] (.ref U) "dict_itemiterator":=#[_,e1,rfl];refine aC (wpAny_holding (aC (wpAny_isOneOf_itemiter c (aC (wpAny_isOneOf_itemiter c ?_)))));show wpAny _ _ (Builtin.Dict_items.pairFromOwner (.ref U) 6 es[i].key es[i].val) _ _ #[h1,g,a,tk,os];unfold Builtin.Dict_items.pairFromOwner;refine aC (wpAny_newTuple ?_);have C:IsItemIter (h1.push { cls:=.type "tuple",data:=.seq (List.toArray [es[i].key,es[i].val]) }) U d (i+1) es.size ep ok J:=bE _ e1;generalize P:h1.push { cls:=.type "tuple",data:=.seq (List.toArray [es[i].key,es[i].val]) }=h2 at C;have v:h1.objs.size=hp.objs.size:=M.1;have k:h2.get? hp.objs.size=some { cls:=.type "tuple",data:=.seq (List.toArray [es[i].key,es[i].val]) }:=by rw[←P,←v];exact bX _ rfl
 have K:∀b o,b≠U->hp.get? b=some o->h2.get? b=some o:=λb o hb e=>by rw[←P];exact bE _ (M.extBut b o hb e)
 show wpAny _ _ (Builtin.Dict_items.ownedTupleIsFree (.ref U)>>=_) _ _ #[h2,g,a,tk,os];rw[v];refine aC ?_;unfold Builtin.Dict_items.ownedTupleIsFree;refine aC (wpAny_field C rfl (x:=.none) rfl (aS ?_));simp only[if_true];refine aC (wpAny_field C rfl (x:=ok) rfl (aC (wpAny_field C rfl (x:=J) rfl ?_)));refine aC (wpAny_setField_rec C (by simp) λR T N=>aC (wpAny_setField_rec (show IsItemIter R U d (i+1) es.size ep es[i].key J from T) (by simp) λO l G=>aC (wpAny_setField_rec (show IsItemIter O U d (i+1) es.size ep es[i].key es[i].val from l) (by simp) λI n B=>
  aC (wpAny_setField_rec (show IsItemIterOut I U d (i+1) es.size ep es[i].key es[i].val hp.objs.size from n) (by simp) λy h X=>?_))))
 have go:∀b o,b≠U->h2.get? b=some o->y.get? b=some o:=λb o hb e=>Heap.SameBut.extBut (show Heap.SameBut U I y from X) b o hb (Heap.SameBut.extBut (show Heap.SameBut U O I from B) b o hb (Heap.SameBut.extBut (show Heap.SameBut U R O from G) b o hb (Heap.SameBut.extBut (show Heap.SameBut U h2 R from N) b o hb e)));exact aC (wpAny_letGo (aS (aS #[_,rfl,aS (H y h (go _ _ (Nat.ne_of_gt r) k) λb o hb e=>go b o hb (K b o hb e))])))
def jXb{U:Addr}{Z:Obj}{ok J:Value}(P:A.handled=none)(t:IsItemIter s.heap U d i es.size ep ok J)(D:s.heap.get? d=some Z)(j:Z.data=.dict es ep)(S:es.size<=i)
  (H:∀Y,Heap.ExtBut U s.heap Y->Q none { s with heap:=Y }):wpAny (model prog w) A (pyNext (.ref U)) Q E s:=by
 have u:s.TypeIs (.ref U) "dict_itemiterator":=#[_,t,rfl];unfold pyNext;refine aC (wpAny_attempt (wpAny_callSpecial?_slot (name:=Str.ofString "__next__") u F.slot_dict_itemiterator_next (wpAny_call_entry F.slot_dict_itemiterator_next u F.entry_dict_itemiterator_next ?_ (F.args_dict_itemiterator_next_1 _))));refine aC (aS ?_);refine aC ?_;refine aC ?_;refine aC (wpAny_typeNameOfWhole_itemiter u (aS ?_));refine aC (wpAny_fieldsOf t rfl ?_);simp only[show Builtin.Dict_items.ownsTuple "dict_itemiterator"=true by decide,if_true];show wpAny _ _ (if(Value.ref d==Value.none)=true then _ else _) _ _ _;rw[aF (λz=>by cases z)];refine aC (aS (aC (wpAny_dictEntries D j ?_)));rw[aF (by simp)];refine aC (aS (aC (wpAny_dictEpoch D j ?_)));rw[aF (by simp)];refine aS ?_;simp only[show ¬((i:Int)<0) by lia,if_false,cA,Array.getElem?_eq_none S];refine aC ?_;refine aC (wpAny_typeNameOfWhole_itemiter u (aS ?_));show wpAny _ _ (setField (.ref U) 2 .none>>=_) _ _ s;refine aC (wpAny_setField t rfl (by simp) ?_);show wpAny _ _ (newExc (.type "StopIteration") []>>=_) _ _ _;refine aC ?_;simp only[newExc,newTuple];refine aC (wpAny_newObj_type ?_ (by size_fits));refine aC (m:=firstArgMember _ _) (wpAny_of_eq (a:=Value.none) (by first |rfl |(simp only[firstArgMember];rfl)) (wpAny_newObj_type ?_ (by size_fits)))
 simp only[raiseNew];refine aC (wpAny_handled ?_);rw[show A.in1.handled=none from P];refine aC (aS (wpAny_throw ?_));refine aC (wpAny_isInstance (T:="StopIteration") (b:=true) #[_,bX _ rfl,rfl] isSubtype_stop ?_);exact aS (H _ (((Heap.SameBut.update ..).extBut.push _).push _))
end
def Itd(d:Addr)(ob:Obj)(kvs:List (List Key×V)):It:=
 #[λi H=>i<kvs.length/\H d=some (.frz ob (.dT kvs)),λi H v O=>∃p I M,v=.ref p/\H p=none/\kvs[i]?=some M/\H I=some (.tup (M.1.map kV))/\O=upd H p (.tup [.ref I,M.2]),λi H=>kvs.length<=i/\H d=some (.frz ob (.dT kvs))]
def KT.at{H:Hp}{kvs:List (List Key×V)}{xs:List (List Key×Addr×Value)}(r:KT H kvs xs):∀(i:Nat) p,kvs[i]?=some p->∃q,xs[i]?=some q/\p.1=q.1/\H q.2.1=some (.tup (p.1.map kV))/\fU p.2 q.2.2:=by
 induction r with
 |nil=>intro i p hp;simp at hp
 |@cons p q ps qs hq t ih=>
  intro i o hp;cases i with
  |zero=>simp at hp;subst hp;exact#[q,rfl,hq]
  |succ i=>exact ih i o (by simpa using hp)
def Qu:entryFor table "dict_itemiterator.__iter__"=some Builtin.«dict_keyiterator.__iter__»:=entryFor_alias (id':="dict_keyiterator.__iter__") (by kernel_rfl) (by first |rfl |decide+kernel |(unfold String.splitOn;simp+decide [String.splitOnAux])) (by decide+kernel) (by kernel_rfl)
def jZX{w:World}{a0:List Expr}{tp:Pos}{U:Addr}(p:ob.data=.dict es ep):
  Um P w K (.Tuple a0 k tp) (Itd d ob kvs) [U] U (λi h=>∃ok J,IsItemIter h U d i es.size ep ok J) where
 mem:=by simp
 obj:=λi h st c hc=>by
  obtain⟨ok,J,e⟩:=st;have q:c=U:=by simpa using hc
  subst q;exact#[_,e,λv z=>nomatch z]
 keep:=λi h Y st kp=>by
  obtain⟨ok,J,e⟩:=st;exact#[ok,J,kp U (by simp) _ e]
 item:=by
  intro X R hw hK hc i B s Z H E I hf st hg;subst R hw hK;obtain⟨f,hd⟩:=hg;obtain⟨ok,J,t⟩:=st;obtain⟨D,_,_,xs,G,o2,a3,a4,l,_,a,r,_⟩:=(show _/\iR _ _ _ _ _ _ from I.hok d _ hd);rw[D]at l;cases l;rw[p]at a;cases a;have N:kvs[i]?=some kvs[i]:=aD f;obtain⟨q,T,e1,C,e3⟩:=KT.at G i _ N;have hx:es[i]?=some (entryOfKey (tupleKind (jP X.prog X.w)) q):=by rw[entry_at r i,T];rfl
  obtain⟨a5,a6⟩:=Array.getElem?_eq_some_iff.mp hx;have a1:U<s.heap.objs.size:=bH t;refine jXc t D p a5 λg out tup kp=>#[_,rfl,?_];rw[a6]at out tup;refine wpAny_letOwnedTupleGo_items (s:={ s with heap:=g }) out λg2 en sb=>?_;have a2:Heap.SameBut U g g2:=sb;have O:Inv X B Z H { s with heap:=g2,toks:=s.toks }:=I.turnedL (ch:=[U]) (λc o hb z=>by
   have j:c≠U:=by simpa using hb
   exact(a2.2 c j).trans (kp c o j z)) hf
  have m:H s.heap.objs.size=none:=I.hok.fresh (aU _);have x:=(a2.2 _ (Nat.ne_of_gt a1)).trans tup;have I2:Inv X B Z (upd H s.heap.objs.size (.tup [.ref q.2.1,kvs[i].2])) { s with heap:=g2,toks:=s.toks }:=O.adopt m I.sz (Nat.ne_of_gt I.lt) (λn c z=>by
   obtain⟨v,y⟩:=I.cell n c z;exact bR y.lt) (λz hz=>bR (bH (I.pin z hz).1)) #[by show 2<=sizeLine;decide,[.ref q.2.1,q.2.2],.cons rfl (.cons e3 .nil),#[_,x,rfl,_,rfl]]
  refine#[.ref s.heap.objs.size,_,I2,rfl,#[_,q.2.1,_,rfl,m,N,C,rfl],#[_,_,en],λc hb=>?_];have b:=(hf c hb).1;have z:c=U:=by simpa using hb
  subst z;rw[cK (bR a1)];exact b
 done:=by
  intro X R hw hK hc i B s Z H E I hf st hg;subst R hw hK;obtain⟨S,hd⟩:=hg;obtain⟨ok,J,t⟩:=st;obtain⟨D,_,_,xs,G,o2,a3,a4,l,_,a,r,_⟩:=(show _/\iR _ _ _ _ _ _ from I.hok d _ hd);rw[D]at l;cases l;rw[p]at a;cases a;have sz:es.size=kvs.length:=by rw[size_of_entries r];exact(Paired.length G).symm
  refine jXb (I.ok.hd hc) t D p #[] λg M=>#[rfl,?_];exact I.turnedL (t':=s.toks) (ch:=[U]) (λc o hb z=>by
   have j:c≠U:=by simpa using hb
   exact M c o j z) hf
 self:=λA i s Q E st h=>by
  obtain⟨ok,J,t⟩:=st;have u:s.TypeIs (.ref U) "dict_itemiterator":=#[_,t,rfl];refine wpAny_pyIter_slot u F.slot_dict_itemiterator_iter (wpAny_call_entry F.slot_dict_itemiterator_iter u Qu ?_ (F.args_dict_itemiterator_iter_1 _));show wpAny _ _ (ret (.ref U)) _ _ s;exact aS #[_,rfl,"dict_itemiterator",_,u,F.slot_dict_itemiterator_next.lookup,h]
def Dw(q:TE):TI:=λZ H R=>q Z H λx U=>∃a kvs,x=.ref a/\U a=some (.dT kvs)/\∀ob,R (Itd a ob kvs) (upd U a (.frz ob (.dT kvs)))
section
variable{X:Cx}
def Oe{n:List Expr}{C:Pos}{o:Expr}{q:TE}{w y:Pos}(D:PE X o q)
  (f:attributeBase o "items" X.env (eval o X.env)=eval o X.env:=by rfl) (i:(w.endLine==y.line)=true:=by rfl):PI X (.Tuple n k C) (.Call (.Attribute o "items" w) [] [] y) (Dw q):=by
 intro B s Z H R I h;refine wpAny_Call_method0_late f i (thE (D B s Z H _ I h) λv M x U O d w=>?_);obtain⟨a,J,m,hd,q1⟩:=w;subst m;cases d;obtain⟨P,A,ns⟩:=isD_at O (.inr #[J,.inl hd]);refine#["dict",_,PySem.F.plainAttrs_dict,PySem.F.slot_dict_items,PySem.F.type_dict_items,P,A,Calls.callWith_builtin rfl (PySem.evalArgs_none ?_)];refine call_meetsIn PySem.F.slot_dict_items P PySem.F.entry_dict_items (PySem.F.args_dict_items_1 _) (Xb ns) #[P,?_];show wpAny _ _ (pyIter (.ref M.heap.objs.size)) _ _ _;have t:Inv X B Z U { M with heap:=M.heap.push { cls:=.type "dict_items",data:=.fields (List.toArray [.ref a]) },toks:=M.toks }:=O.kept λb o e=>bE _ e;obtain⟨_,_,Y,G,ob,N,Q,p,_,j,r,_⟩:=(show iR _ _ _ _ _ _ from t.hok a _ hd);refine jXd (es:=N) (ep:=Q) #[_,bX _ rfl,rfl,rfl] p j ?_;generalize hg:M.heap.push { cls:=.type "dict_items",data:=.fields (List.toArray [.ref a]) }=g at t p⊢;have T:Inv X B Z U { M with heap:=g.push { cls:=.type "dict_itemiterator",data:=.fields (List.toArray [.none,.bool false,.ref a,.int 0 0,.int N.size 0,.int Q 0,.none,.none]) },toks:=M.toks }:=t.kept λb o e=>bE _ e;obtain⟨u,K,S⟩:=T.freeze hd;have l:u=ob:=by
  have z:(g.push { cls:=.type "dict_itemiterator",data:=.fields (List.toArray [.none,.bool false,.ref a,.int 0 0,.int N.size 0,.int Q 0,.none,.none]) }).get? a=some ob:=bE _ p;exact aW (K.symm.trans z)
 subst l;refine#[g.objs.size,[g.objs.size],_,Itd a u J,_,rfl,S,jZX j,#[.none,.none,bX _ rfl],λc hc=>?_,q1 u];have z:c=g.objs.size:=by simpa using hc
 subst z;exact t.fpOk (aU _) (by rw[cK (Nat.ne_of_gt (bH p))];exact t.hok.fresh (aU _))
end
def Jy{D:vH}{Z:St}(d:Nat->St->Hp->Prop)(h0:d 0 Z H)(S:∀i Z H,i<=kvs.length->d i Z H->H a=some (.frz ob (.dT kvs)))
  (hs:∀i M I p Z H,kvs[i]?=some M->d i Z H->H p=none->H I=some (.tup (M.1.map kV))->g (.ref p) Z (upd H p (.tup [.ref I,M.2])) λc j=>tb { D with nx:=d (i+1),ct:=d (i+1),bk:=D.nx } c j) (hd:∀Z H,d kvs.length Z H->D.nx Z H):
  ∃W:Nat->Nat->St->Hp->Prop,(∃m,W 0 m Z H)/\∀i m Z H,W i m Z H->
   ((Itd a ob kvs).stop i H/\D.nx Z H)∨((Itd a ob kvs).go i H/\∃N:St->Hp->Prop,(∀F O,N F O->∃k,k<m/\W (i+1) k F O)/\∀x O,(Itd a ob kvs).yld i H x O->g x Z O λc j=>tb { D with nx:=N,ct:=N,bk:=D.nx } c j):=by
 refine#[λi m Z H=>m=kvs.length-i/\i<=kvs.length/\d i Z H,#[kvs.length,by simp,eC _,h0],?_];rintro i m Z H ⟨rfl,hi,p⟩;have q:=S i Z H hi p;by_cases f:i<kvs.length
 .refine .inr #[#[f,q],d (i+1),λF O o=>#[kvs.length-(i+1),#[],rfl,f,o],λx O y=>?_];obtain⟨s,I,M,e1,C,T,l,n⟩:=y;subst e1 n;exact hs i M I s Z _ T p C l
 .have e:i=kvs.length:=#[];subst e;exact .inl #[#[aU _,q],hd Z H p]
structure jQ(FS scope:Scope)(N:List Str)(xs ys:List Str)(caps:List Nat):Prop where
 ncell:∀y∈scope.names,y.2≠.cell
 kind:scope.kind=.function
 names:∀y∈scope.names,y.2=.local->scope.names.lookup y.1=some .local
 fr:∀p∈scope.names,p.2=.free->FS.names.lookup p.1=some .cell
 fk:FS.kind=.function
 cap:∀p∈ys.zip caps,N[p.2]?=some p.1/\scope.names.lookup p.1=some .free
 len:ys.length=caps.length
def mJ(J:It)(Z:St)(k:Nat)(caps:List Nat)(g:TG)(o:TE)(U:Hp)(fin:List V->Hp->Prop):Prop:=
 ∃(n:Nat)(W:Nat->List V->Hp->Prop),n<=sizeLine/\W 0 [] U/\∀i ys j,i<=n->ys.length=i->W i ys j->
  (J.stop i j/\fin ys j)∨(i<n/\J.go i j/\∀x Y,J.yld i j x Y->∀os:St,os.length=k->g x (os++cY Z caps) Y λc d=>(∃h:St,h.length=k/\c=h++cY Z caps)/\o c d λy u=>W (i+1) (ys++ [y]) u)
def gY(q:TI)(k:Nat)(caps:List Nat)(g:TG)(o:TE):TE:=λZ H Q=>q Z H λJ U=>mJ J Z k caps g o U λys j=>∀p,j p=none->Q (.ref p) (upd j p (.lst ys))
section
variable{X:Cx}{scope:Scope}{xs ys:List Str}{caps:List Nat}
def jQ.cells{B:List (Addr×Obj)}{Z:St}(S:jQ X.env.scope scope X.N xs ys caps)(I:Inv X B Z H s):∀p∈scope.names,p.2=.free->∃c,X.env.cells.lookup p.1=some c:=λp hp hf=>
 I.ok.has p.1 (.inl (S.fr p hp hf))
def jQ.sub{B:List (Addr×Obj)}{Z:St}(S:jQ X.env.scope scope X.N xs ys caps)(I:Inv X B Z H s){c:Addr}(e:(Co X scope).lookup y=some c):X.env.cells.lookup y=some c:=
 Pr (S.cells I) (λp hp=>absurd hp (by simp)) (y,c) (PySem.mem_of_lookup e)
def Inv.enterG{B:List (Addr×Obj)}{Z:St}{a:Heap}{tk:Nat}{pl:List (Addr×Obj)}(S:jQ X.env.scope scope X.N xs ys caps)(d:X.calm=true)(I:Inv X B Z H s)
  (hn:a.Ns s.heap.objs.size (λ_=>none)) (keep:∀b o,s.heap.get? b=some o->a.get? b=some o)
  (n:∀b∈ex,b<s.heap.objs.size/\b∉frs X.stack/\(∀y c,X.env.cells.lookup y=some c->c≠b)/\X.base.get? b=none)
  (hpl:∀p∈pl,s.heap.get? p.1=some p.2/\H p.1=none/\p.1∉frs X.stack/\∀v,p.2.data≠.cell v):
  Inv (fQ X scope (xs++ys) s H ex (X.pn++B)) pl (xs.map (λ_=>none)++cY Z caps) H { s with heap:=a,toks:=tk }:=by
 have hL:s.heap.objs.size≠X.env.locals:=Nat.ne_of_gt I.lt;have O:∀b o,s.heap.get? b=some o->b≠s.heap.objs.size:=λb o e=>bR (bH e);have R:∀y c,X.env.cells.lookup y=some c->c<s.heap.objs.size:=λy c e=>by
  obtain⟨v,z⟩:=I.cell y c e;exact z.lt
 have t:∀{c:Addr}{v:Option Value},s.heap.IsCell c v->a.IsCell c v:=fun{c v}⟨o,D,hd⟩=>#[o,keep c o D,hd];refine#[#[I.ok.mod,S.kind,I.ok.glob,I.ok.blt,aU _,λy z c h1 h2=>I.ok.inj y z c (S.sub I h1) (S.sub I h2),λy hy=>?_,λy c hf _=>?_,λ_=>I.ok.hd d,I.ok.frames,.inl rfl,λb hb=>?_,I.bs,cI I.ok.bsz I.sz,λb o e hb=>?_,λb hb=>(n b hb).2.1,I.stack,I.stkFree],
  rfl,I.bare,Un.kept keep,#[_,hn,λi y v e1 C T=>?_],λy c e=>?_,I.hok.fresh (aU _),λy c e=>I.freeC y c (S.sub I e),λp hp=>?_,I.hok.kept keep,?_]
 .have w:(y,NameKind.free)∈scope.names:=Pe (env:=X.env) S.ncell (by
   rcases hy with hy |hy
   .exact#[_,hy,.inl rfl]
   .exact#[_,hy,.inr rfl])
  exact tS (Ew w)
 .exact absurd (show false=true from hf) bT
 .exact#[bR (n b hb).1,λy c e=>(n b hb).2.2.1 y c (S.sub I e)]
 .have z:=(n b hb).2.2.2;have M:X.base.get? b=some o:=e;rw[z]at M;cases M
 .have x:(xs++ys)[i]?=some y:=e1;obtain⟨i,e1,C⟩:∃Q,ys[Q]?=some y/\(cY Z caps)[Q]?=some (some v):=by
   by_cases hi:i<xs.length
   .rw[bZ (by rw[aB];exact hi),aZ,aD hi]at C;cases C
   .rw[bU #[]]at x;rw[bU (by rw[aB];lia),aB]at C;exact#[_,x,C]
  obtain⟨j,A,hv⟩:∃j,caps[i]?=some j/\Z[j]?=some (some v):=by
   unfold cY at C;rw[aZ]at C;cases q:caps[i]? with
   |none=>rw[q]at C;cases C
   |some j=>
    rw[q]at C;have T:(Z[j]?).join=some v:=aW C;cases q2:Z[j]? with
    |none=>rw[q2]at T;cases T
    |some w'=>rw[q2]at T;exact#[j,rfl,by rw[show w'=some v from T]at q2;exact q2]
  have hz:(y,j)∈ys.zip caps:=aI (i:=i) (by rw[List.getElem?_zip_eq_some];exact#[e1,A]);obtain⟨K,hf⟩:=S.cap (y,j) hz;have h:X.env.kindOf y=some .cell:=S.fr (y,.free) (PySem.mem_of_lookup hf) rfl;obtain⟨m,hm,U⟩:=I.loc;obtain⟨u,r,l⟩:=U j y v K hv (.inr (.inl h));refine#[u,r,?_];rcases l with⟨hk,_⟩|⟨_,c,hc,k⟩
  .rw[h]at hk;cases hk
  .obtain⟨J,g⟩:=tS (Ew (env:=X.env) (cs:=[]) (PySem.mem_of_lookup hf));have:=S.sub I g;rw[hc]at this;cases this;exact .inr #[.inl (Hw S.fk hf h),c,g,t k]
 .obtain⟨v,z⟩:=I.cell y c (S.sub I e);exact#[v,t z]
 .rcases dD.mp hp with hp |hp
  .obtain⟨G,P,Y,F,f⟩:=I.pin p hp;exact#[keep _ _ G,P,O _ _ G,λz=>(eW.mp (I.stkSub p.1 z)).elim Y F,f]
  .obtain⟨G,P,F,f⟩:=hpl p hp;exact#[keep _ _ G,P,O _ _ G,F,f]
 .show(xs.map (λ_=>none)++cY Z caps).length=(xs++ys).length;rw[bK,bK,aB,cY,aB,S.len]
end
def rB(J:It)(Z:St)(k:Nat)(caps:List Nat)(g:TG)(F:TT)(o:TE)(U:Hp)(fin:List V->Hp->Prop):Prop:=
 ∃(n:Nat)(W:Nat->List V->Hp->Prop),n<=sizeLine/\W 0 [] U/\∀i ys j,i<=n->ys.length<=i->W i ys j->
  (J.stop i j/\fin ys j)∨(i<n/\J.go i j/\∀x Y,J.yld i j x Y->∀os:St,os.length=k->g x (os++cY Z caps) Y λc d=>(∃h:St,h.length=k/\c=h++cY Z caps)/\F c d λb u=>if b=true then o c u λy m=>W (i+1) (ys++ [y]) m else W (i+1) ys u)
def Vk(q:TI)(k:Nat)(caps:List Nat)(g:TG)(F:TT)(o:TE):TE:=λZ H Q=>q Z H λJ U=>rB J Z k caps g F o U λys j=>∀p,j p=none->Q (.ref p) (upd j p (.lst ys))
def tY:TT:=λ_ H Q=>Q true H
def PIs(X:Cx)(a:List Expr)(F:TT):Prop:=a=[]/\F=tY∨∃t,a=[t]/\PT X t F
def PIs.run{a:List Expr}{B:List (Addr×Obj)}{Z:St}{R:Bool->Hp->Prop}(h:PIs X a F)(I:Inv X B Z H s)(q:F Z H R):
  wpAny (model X.prog X.w) X.A (forIn a true λc r=>if r=true then do let ok ←isTrue c X.env (eval c X.env);pure (ForInStep.yield ok)else pure (ForInStep.yield r)) (TP X B Z R) X.xe s:=by
 rcases h with⟨rfl,rfl⟩|⟨t,rfl,p⟩
 .exact wpAny_tests_nil #[H,I,q]
 .exact wpAny_tests_one (p B s Z H R I q)
def pis0:PIs X [] tY:=.inl #[rfl,rfl]
def pis1{t:Expr}(h:PT X t F):PIs X [t] F:=.inr #[t,rfl,h]
section
variable{X:Cx}{scope:Scope}{xs ys:List Str}{caps:List Nat}{elt iter tg:Expr}{ifs:List Expr}{te:TE}{tt:TT}{g:TG}{pos:Pos}
def Ti{B:List (Addr×Obj)}{Z:St}{j:Hp}{P:Shared}{fp:List Addr}{U:Addr}{tn:Nat->Heap->Prop}{E:Value->Shared->Prop}{fin:List V->Hp->Prop}{RR:Value->Addr->Result->Shared->Prop}
  (d:X.calm=true) (S:jQ X.env.scope scope X.N xs ys caps) (hg:∀s H ex pn,PG (fQ X scope (xs++ys) s H ex pn) tg g) (hT:∀s H ex pn,PIs (fQ X scope (xs++ys) s H ex pn) ifs tt) (l:∀s H ex pn,PE (fQ X scope (xs++ys) s H ex pn) elt te)
  (t:Inv X B Z j P) (T:Um X.prog X.w X.K tg J fp U tn) (c8:tn 0 P.heap) (f2:∀b∈fp,Uq X B j b) (rd:rB J Z xs.length caps g tt te j fin)
  (f5:∀(C:Addr)(a7:List V)(G:List Value)(n:Nat)(D:Hp)(s8:Shared)(m:Str->Option Value),C=P.heap.objs.size+1->Inv X B Z D s8->D P.heap.objs.size=none->D C=none->fL a7 G->a7.length<=sizeLine->
   s8.heap.get? P.heap.objs.size=some (Cg G n)->s8.heap.Ns C m->fin a7 D->RR (.ref P.heap.objs.size) C (.ok .next) s8):
  wpAny (model X.prog X.w) X.A (newList []) (λc9 a8=>wpAny (model X.prog X.w) X.A (newFunctionEnv scope X.env.globals (Co X scope) [] X.env.qual none .none (some X.env)) (λb4 d1=>
   codeAny (model X.prog X.w) X.A (.compStart (.ListComp elt [#[tg,iter,ifs,0]] scope pos) 0 (.ref U) c9 { b4 with scope:=relabel scope X.env }) (RR c9 b4.locals) d1) E a8) E P:=by
 obtain⟨n0,W,h3,w0,turn⟩:=rd;refine wpAny_newObj_type (wpAny_newFunctionEnv S.ncell (by intro y hy;simp at hy) (λa b9 c2=>?_) S.kind);dsimp only at b9 c2⊢;generalize c3:P.heap.push { cls:=.type "list",dict:=none,data:=.seq ([]:List Value).toArray }=g3 at b9 c2⊢;have hC:g3.objs.size=P.heap.objs.size+1:=by rw[←c3,Heap.size_push]
 have d2:∀b o,P.heap.get? b=some o->g3.get? b=some o:=λb o e=>c3▸bE _ e;have I3:Inv X B Z j { P with heap:=g3 }:=t.kept (t':=P.toks) d2;have keep:∀b o,g3.get? b=some o->a.get? b=some o:=λb o e=>c2.extBut b o (bR (bH e)) (bE _ e);have d3:g3.get? P.heap.objs.size=some (Cg [] 0):=c3▸bX _ rfl;have d4:P.heap.objs.size≠X.env.locals:=Nat.ne_of_gt t.lt;have d5:P.heap.objs.size∉X.fs:=t.nofs (aU _);have b5:P.heap.objs.size∉frs X.stack:=λz=>(eW.mp (t.stkSub _ z)).elim d4 d5;have d6:∀y c,X.env.cells.lookup y=some c->c≠P.heap.objs.size:=λy c e=>by
  obtain⟨v,z⟩:=t.cell y c e;exact bR z.lt
 have d7:∀p∈X.pn++B,p.1≠P.heap.objs.size:=λp hp=>bR (bH (t.pin p hp).1);have c4:∀b∈fp,b<P.heap.objs.size:=λb hb=>by
  obtain⟨o,e,_⟩:=T.obj _ _ c8 b hb;exact bH e
 have f6:X.base.objs.size<=X.s₀.heap.objs.size:=t.ok.bsz;have c5:∀b∈P.heap.objs.size::fp,(b∈X.ex∨X.s₀.heap.objs.size<=b)/\b≠X.env.locals/\(∀y c,X.env.cells.lookup y=some c->c≠b)/\∀p∈X.pn++B,p.1≠b:=λb hb=>by
  rcases eW.mp hb with rfl |hb
  .exact#[.inr t.sz,d4,d6,d7]
  .obtain⟨a1,a2,a3,a4,a5,a6⟩:=f2 b hb;exact#[a4,a2,a5,a6]
 have c6:∀b∈P.heap.objs.size::fp,b<g3.objs.size/\b∉frs X.stack/\(∀y c,X.env.cells.lookup y=some c->c≠b)/\X.base.get? b=none:=λb hb=>by
  have f7:b∉frs X.stack:=by
   rcases eW.mp hb with rfl |hb
   .exact b5
   .obtain⟨a1,a2,a3,a4,a5,a6⟩:=f2 b hb;exact λz=>(eW.mp (t.stkSub _ z)).elim a2 a3
  have f:b<g3.objs.size:=by
   rw[hC];rcases eW.mp hb with rfl |hb
   .exact gR _
   .exact Nat.lt_succ_of_lt (c4 b hb)
  refine#[f,f7,(c5 b hb).2.2.1,?_];cases q:X.base.get? b with
  |none=>rfl
  |some o=>
   rcases(c5 b hb).1 with z |z
   .exact absurd z (t.ok.noex b o q)
   .exact absurd (cL (bH q) (cI f6 z)) (fB _)
 have f8:j P.heap.objs.size=none:=t.hok.fresh (aU _);have I4:Inv (fQ X scope (xs++ys) { P with heap:=g3 } j (P.heap.objs.size::fp) (X.pn++B)) [(P.heap.objs.size,Cg [] 0)] (xs.map (λ_=>none)++cY Z caps) j { P with heap:=a,toks:=P.toks+([]:List (Str×Value)).length }:=
  Inv.enterG S d I3 b9 keep c6 λp hp=>by
   have e:p=(P.heap.objs.size,Cg [] 0):=by simpa using hp
   subst e;exact#[d3,f8,b5,λv z=>nomatch z]
 have d9:tn 0 a:=T.keep _ _ _ c8 λb hb o e=>keep b o (d2 b o e);generalize hY:fQ X scope (xs++ys) { P with heap:=g3 } j (P.heap.objs.size::fp) (X.pn++B)=Y at I4;have yP:Y.prog=X.prog:=by rw[←hY];rfl
 have yW:Y.w=X.w:=by rw[←hY];rfl
 have yK:Y.K=X.K:=by rw[←hY];rfl
 have yA:Y.A=X.A:=by rw[←hY];rfl
 have yC:Y.calm=true:=by rw[←hY];exact d
 have yX:Y.xe=λ_ _=>False:=by rw[←hY];rfl
 have yN:Y.N=xs++ys:=by rw[←hY];rfl
 have yE:Y.env=compEnvC scope (Co X scope) g3.objs.size X.env:=by rw[←hY];rfl
 have e0:Y.ex=P.heap.objs.size::fp:=by rw[←hY];rfl
 have e2:Y.pn=X.pn++B:=by rw[←hY];rfl
 have f9:Y.fs=frs X.stack:=by rw[←hY];rfl
 have c7:∀{pl F O R},Inv Y pl F O R->Un (frs X.stack) (P.heap.objs.size::fp) j O g3 R.heap/\R.os=P.os:=by
  intro pl F O R I;rw[←hY]at I;exact#[I.base,I.os]
 have g0:PG Y tg g:=by rw[←hY];exact hg _ _ _ _
 have g1:PE Y elt te:=by rw[←hY];exact l _ _ _ _
 have g4:PIs Y ifs tt:=by rw[←hY];exact hT _ _ _ _
 have e3:∀y c,Y.env.cells.lookup y=some c->X.env.cells.lookup y=some c:=λy c e=>by
  rw[yE]at e;exact S.sub t e
 have e4:∀{O:Hp}{o:Obj},(∀b∈fp,O b=none)->∀b∈fp,Uq Y [(P.heap.objs.size,o)] O b:=fun{O o} hn b hb=>by
  obtain⟨a1,a2,a3,a4,a5,a6⟩:=f2 b hb;refine#[hn b hb,?_,?_,?_,λy c e=>a5 y c (e3 y c e),λp hp=>?_]
  .rw[yE];exact bR (c6 b (bO _ hb)).1
  .rw[f9];exact(c6 b (bO _ hb)).2.1
  .rw[e0];exact .inl (bO _ hb)
  .rw[e2]at hp;rcases dD.mp hp with hp |hp
   .exact a6 p hp
   .have e:p=(P.heap.objs.size,o):=by simpa using hp
    subst e;exact Nat.ne_of_gt (c4 b hb)
 have b6:∀a8:Shared,a8={ P with heap:=a,toks:=P.toks+([]:List (Str×Value)).length }->
   codeAny (model X.prog X.w) X.A (.compLoop (.ListComp elt [#[tg,iter,ifs,0]] scope pos) 0 (.ref U) (.ref P.heap.objs.size) (compEnvC scope (Co X scope) g3.objs.size X.env)) (RR (.ref P.heap.objs.size) g3.objs.size) a8:=by
  rintro a8 rfl;refine codeAny_loop rfl (λk R=>∃i a7 G a0 O os,os.length=xs.length/\k=n0+1-i/\Inv Y [(P.heap.objs.size,Cg G a0)] (os++cY Z caps) O R/\tn i R.heap/\(∀b∈fp,O b=none)/\fL a7 G/\a7.length<=i/\i<=n0/\W i a7 O) ?_ (n0+1)
   #[0,[],[],0,j,xs.map (λ_=>none),by rw[aB],rfl,I4,d9,λb hb=>(f2 b hb).1,.nil,aU _,eC _,w0]
  rintro k R ⟨i,a7,G,a0,O,os,g5,rfl,I',e5,g6,vv,e7,g7,hw⟩;show wpAny _ _ ((compTurn (.ListComp elt [#[tg,iter,ifs,0]] scope pos) 0 (.ref U) (.ref P.heap.objs.size) (compEnvC scope (Co X scope) g3.objs.size X.env)).onRaise (λx=>do noteFrame x (compEnvC scope (Co X scope) g3.objs.size X.env);theTreesLotGoes x)) _ _ R;refine wpAny_noted ?_;rw[compTurn_list];have b7:=e4 (o:=Cg G a0) g6;rcases turn i a7 O g7 e7 hw with⟨stop,e8⟩|⟨f,go,step⟩
  .refine aC (wpAny_standAt (aC (thn (Q:=λr M=>r=none/\Inv Y [(P.heap.objs.size,Cg G a0)] (os++cY Z caps) O M) ?_ λr M#[hr,I1]=>?_)))
   .have:=T.done Y yP yW yK yC i _ R _ O (notedBy (model X.prog X.w) X.A (compEnvC scope (Co X scope) g3.objs.size X.env) λe R=>RR (.ref P.heap.objs.size) g3.objs.size (.error e) R) I' b7 e5 stop;rw[yA]at this;exact this
   .subst hr;refine aS ?_;obtain⟨ub,uo⟩:=c7 I1;obtain⟨m,hm,_⟩:=I1.loc;obtain⟨p1,p2,_⟩:=I1.pin (P.heap.objs.size,Cg G a0) (dI _ cB);have hok:HOk X.prog X.w O M.heap:=by have:=I1.hok;rw[yP,yW]at this;exact this
    have e9:=I1.free;rw[yE]at hm e9;refine f5 g3.objs.size a7 G a0 O M m hC (I3.call' uo ub hok I1.bare c5) p2 e9 vv #[] p1 hm e8
  .refine aC (wpAny_standAt (aC (thn (Q:=λr M=>∃u,r=some u/\wpAny (model X.prog X.w) X.A (letOwnedTupleGo tg (.ref U) u) (λ_ s5=>∃x H5,Inv Y [(P.heap.objs.size,Cg G a0)] (os++cY Z caps) H5 s5/\fU x u/\J.yld i O x H5/\tn (i+1) s5.heap/\∀b∈fp,H5 b=none)
     (notedBy (model X.prog X.w) X.A (compEnvC scope (Co X scope) g3.objs.size X.env) λe R=>RR (.ref P.heap.objs.size) g3.objs.size (.error e) R) M) ?_ λr M#[u,hr,h4]=>?_)))
   .have:=T.item Y yP yW yK yC i _ R _ O (notedBy (model X.prog X.w) X.A (compEnvC scope (Co X scope) g3.objs.size X.env) λe R=>RR (.ref P.heap.objs.size) g3.objs.size (.error e) R) I' b7 e5 go;rw[yA]at this;exact this
   .subst hr;refine aC (thn h4 λ_ s5#[xv,H5,I5,r5,y5,b0,g8]=>?_);have g9:=I5.pinned (e4 g8) (T.obj _ _ b0);have f1:=g0 _ s5 _ H5 xv u _ g9 r5 (step xv H5 y5 os g5);rw[yP,yW,yA,yE]at f1;refine aC (nxE yX f1 λ_ s6#[h5,H6,I6,#[h,b8,e6],t6]=>?_);subst e6;have tv:=g4.run I6 t6;rw[yP,yW,yA,yE]at tv;refine aC (nxE yX tv λok f3#[H7,b1,w6]=>?_);have h6:=vv.length;cases ok with
    |false=>
     rw[aF bT]at w6;rw[aF bT];obtain⟨zD,b3,a9,b2,_⟩:=b1.pin (P.heap.objs.size,Cg G a0) (dI _ (iF _ cB));have I9:Inv Y [(P.heap.objs.size,Cg G a0)] (h++cY Z caps) H7 f3:=b1.pins_of λp hp=>by
      have e:p=(P.heap.objs.size,Cg G a0):=by simpa using hp
      subst e;exact#[zD,b3,a9,b2,(λv z=>nomatch z)]
     refine aS #[rfl,n0+1-(i+1),#[],i+1,a7,G,a0,H7,h,b8,rfl,I9,?_,?_,vv,#[],f,w6]
     .refine T.keep _ _ _ b0 λb hb ob e=>?_;exact(b1.pin (b,ob) (dI _ (dI _ (oC hb e)))).1
     .intro b hb;obtain⟨ob,e,_⟩:=T.obj _ _ b0 b hb;exact(b1.pin (b,ob) (dI _ (dI _ (oC hb e)))).2.1
    |true=>
     rw[aK rfl]at w6;rw[aK rfl];have ev:=g1 _ f3 _ H7 _ b1 w6;rw[yP,yW,yA,yE]at ev;refine aC (aC (nxE yX ev λyv s7#[y,D,I7,r7,w7]=>?_));obtain⟨zD,b3,a9,b2,_⟩:=I7.pin (P.heap.objs.size,Cg G a0) (dI _ (iF _ cB));refine aC (append_at zD (λh8 f4 d8=>aS (aS #[rfl,?_])) (by rw[bJ];lia));have h0:Inv Y [] (h++cY Z caps) D s7:=I7.pins_of λp hp=>nomatch hp
     have I8:Inv Y [] (h++cY Z caps) D { s7 with heap:=h8 }:=h0.turned (t':=s7.toks) (λb ob hb e=>(f4.2 b hb).trans e) b3 a9 (.inl (by rw[e0];exact cB)) (λy c e=>d6 y c (e3 y c e)) (λp hp=>by
      rw[e2,cW]at hp;exact d7 p hp)
     have I9:Inv Y [(P.heap.objs.size,Cg (G++ [yv]) (a0+1))] (h++cY Z caps) D { s7 with heap:=h8 }:=I8.pins_of λp hp=>by
      have e:p=(P.heap.objs.size,Cg (G++ [yv]) (a0+1)):=by simpa using hp
      subst e;refine#[?_,b3,a9,b2,λv z=>nomatch z]
      show h8.get? P.heap.objs.size=some { cls:=.type "list",data:=.seq (G++ [yv]).toArray (a0+1) };rw[d8,List.push_toArray]
     refine#[n0+1-(i+1),#[],i+1,a7++ [y],G++ [yv],a0+1,D,h,b8,rfl,I9,?_,?_,vv.append (.cons r7 .nil),by rw[bK];show a7.length+1<=i+1;lia,f,w7]
     .refine T.keep _ _ _ b0 λb hb ob e=>(f4.2 b (bR (c4 b hb))).trans ?_;exact(I7.pin (b,ob) (dI _ (dI _ (oC hb e)))).1
     .intro b hb;obtain⟨ob,e,_⟩:=T.obj _ _ b0 b hb;exact(I7.pin (b,ob) (dI _ (dI _ (oC hb e)))).2.1
 exact codeAny_compStart_list (b6 _ rfl) (T.self _ 0 _ _ _ d9 (b6 _ rfl))
def Gc{q:TI}{RD:St->VK->It->Hp->Prop}(a0:∀Z Q J U,RD Z Q J U->rB J Z xs.length caps g tt te U λys j=>∀p,j p=none->Q (.ref p) (upd j p (.lst ys))){FS:Scope}(S0:jQ FS scope N xs ys caps)(O:X.env.scope=FS)(R:X.N=N)(d:X.calm=true)(hi:PI X tg iter q)(u:∀s H ex pn,PIs (fQ X scope (xs++ys) s H ex pn) ifs tt)(hg:∀s H ex pn,PG (fQ X scope (xs++ys) s H ex pn) tg g)(l:∀s H ex pn,PE (fQ X scope (xs++ys) s H ex pn) elt te)
  (hs:∀v,foldedSetIterable iter X.env v=pure v:=by intro _;rfl):PE X (.ListComp elt [#[tg,iter,ifs,0]] scope pos) (λZ H Q=>q Z H (RD Z Q)):=by
 have S:jQ X.env.scope scope X.N xs ys caps:=by rw[O,R];exact S0
 intro B s Z H Q I h;rw[eval_ListComp];refine wpAny_comprehension_free (use:=none) rfl hs (Cz (S.cells I)) S.kind S.names (thn (hi B s Z H _ I h) λv M h1=>thn h1 λa4 P h2=>?_);obtain⟨it,a,tn,J,j,rfl,t,T,i,F,rd⟩:=h2;refine Ti (RR:=λK C=>compPost (model X.prog X.w) X.A X.xe none (EP X B Z Q) K C) d S hg u l t T i F (a0 _ _ _ _ rd) ?_;intro C k G n D s8 m r I8 hD a1 vv hz oD hn fin;refine#[m,hn,λY sb=>?_];have sz:=t.sz;have lt:=t.lt;have x:∀b:Addr,b<P.heap.objs.size->b≠C/\C≠b:=λb hb=>by
  subst r;exact#[bR (Nat.lt_succ_of_lt hb),Nat.ne_of_gt (Nat.lt_succ_of_lt hb)]
 have a2:X.s₀.heap.objs.size<=C:=by subst r;exact Nat.le_succ_of_le sz
 have DC:P.heap.objs.size≠C:=by subst r;exact bR (gR _)
 have cl:∀y c,X.env.cells.lookup y=some c->c<P.heap.objs.size:=λy c e=>by
  obtain⟨w',z⟩:=t.cell y c e;exact z.lt
 have f:∀p∈X.pn++B,p.1<P.heap.objs.size:=λp hp=>bH (t.pin p hp).1;have I9:Inv X B Z D { s8 with heap:=Y }:=I8.turned (t':=s8.toks) (λb o hb e=>(sb.2 b hb).trans e) a1 (x _ lt).2 (.inr a2) (λy c e=>(x c (cl y c e)).1) (λp hp=>(x p.1 (f p hp)).1);have a3:Y.get? P.heap.objs.size=some (Cg G n):=(sb.2 _ DC).trans oD;exact#[.ref P.heap.objs.size,upd D P.heap.objs.size (.lst k),I9.adopt hD sz (Nat.ne_of_gt lt) (λy c e=>bR (cl y c e)) (λp hp=>bR (f p hp)) #[hz,G,n,vv,a3],rfl,fin _ hD]
def Aq{q:TI}{RD:St->VK->It->Hp->Prop}(a1:∀Z Q J U,RD Z Q J U->rB J Z xs.length caps g tt te U λys j=>∀p,j p=none->Q (.ref p) (upd j p (.lst ys))){FS:Scope}{r a0:Pos}(S0:jQ FS scope N xs ys caps)(O:X.env.scope=FS)(a2:X.N=N)(d:X.calm=true)(K:X.N.Nodup)(hy:X.N[i]?=some y)(hl:Loc X.env.scope y)(hi:PI X tg iter q)(u:∀s H ex pn,PIs (fQ X scope (xs++ys) s H ex pn) ifs tt)(hg:∀s H ex pn,PG (fQ X scope (xs++ys) s H ex pn) tg g)(l:∀s H ex pn,PE (fQ X scope (xs++ys) s H ex pn) elt te)
  (a3:swapsWith (.ListComp elt [#[tg,iter,ifs,0]] scope pos) (some (.Name y r)) a0.line X.env=pure true:=by rfl)
  (hs:∀v,foldedSetIterable iter X.env v=pure v:=by intro _;rfl) (hf:X.fn y=true∨X.env.scope.names.lookup y=some .local:=by first |exact .inl rfl |exact .inr rfl |assumption):
  PS X (.Assign [.Name y r] (.ListComp elt [#[tg,iter,ifs,0]] scope pos) a0) (cS (λZ H Q=>q Z H (RD Z Q)) (bA i)):=by
 have S:jQ X.env.scope scope X.N xs ys caps:=by rw[O,a2];exact S0
 intro B s Z H D I h;rw[exec_Assign_Name_used _ _ _ _ a3];refine aC (wpAny_standAt (aC ?_));show wpAny _ X.A (do let _ ←comprehension (.ListComp elt [#[tg,iter,ifs,0]] scope pos) scope X.env _ (newList []) false (eval iter X.env) (some (assign (.Name y r) X.env))) _ _ s;refine aC (wpAny_mono (wpAny_comprehension_free (use:=some (assign (.Name y r) X.env)) (Q:=λ_ R=>SP X B D .next R) rfl hs (Cz (S.cells I)) S.kind S.names
  (thn (hi B s Z H _ I h) λv M h1=>thn h1 λb0 P h2=>?_)) (λ_ R hq=>aS (aS hq)) λ_ _ e=>e)
 obtain⟨it,fp,tn,J,j,rfl,t,T,a4,F,rd⟩:=h2;refine Ti (RR:=λa5 C=>compPost (model X.prog X.w) X.A X.xe (some (assign (.Name y r) X.env)) (λ_ R=>SP X B D .next R) a5 C) d S hg u l t T a4 F (a1 _ _ _ _ rd) ?_;intro C k G n H8 s8 m hC I8 hD a6 vv hz oD hn fin;have sz:=t.sz;have lt:=t.lt;have x:∀b:Addr,b<P.heap.objs.size->b≠C/\C≠b:=λb hb=>by
  subst hC;exact#[bR (Nat.lt_succ_of_lt hb),Nat.ne_of_gt (Nat.lt_succ_of_lt hb)]
 have a7:X.s₀.heap.objs.size<=C:=by subst hC;exact Nat.le_succ_of_le sz
 have DC:C≠P.heap.objs.size:=by subst hC;exact Nat.ne_of_gt (gR _)
 have cl:∀y c,X.env.cells.lookup y=some c->c<P.heap.objs.size:=λy c e=>by
  obtain⟨w',z⟩:=t.cell y c e;exact z.lt
 have f:∀p∈X.pn++B,p.1<P.heap.objs.size:=λp hp=>bH (t.pin p hp).1;have I9:Inv X B Z (upd H8 P.heap.objs.size (.lst k)) s8:=I8.adopt hD sz (Nat.ne_of_gt lt) (λy c e=>bR (cl y c e)) (λp hp=>bR (f p hp)) #[hz,G,n,vv,oD];show wpAny (model X.prog X.w) X.A (assign (.Name y r) X.env (.ref P.heap.objs.size)) _ _ s8;refine wpAny_assign_Name (Ss (v:=.ref P.heap.objs.size) I9 K hy hl rfl (λs9 a8#[a,sa,ha]=>?_) hf);have a9:C≠a:=by
  rcases ha with rfl |e
  .exact(x _ lt).2
  .exact(x _ (cl _ _ e)).2
 refine#[m,hn.sameBut sa a9,λY sb=>#[_,_,a8.turned (t':=s9.toks) (λb o hb e=>(sb.2 b hb).trans e) ?_ (x _ lt).2 (.inr a7) (λy c e=>(x c (cl y c e)).1) (λp hp=>(x p.1 (f p hp)).1),fin _ hD]];rw[cK DC];exact a6
def oW{X:Cx}{scope:Scope}{a:List Str}{pn:List (Addr×Obj)}{n:Pos}(K:a.Nodup)(hi:a[i]?=some x)(hx:scope.names.lookup x=some .local):PG (fQ X scope a s H ex pn) (.Name x n) (bA i):=
 jX0 (X:=fQ X scope a s H ex pn) K hi (.inl (lookup_relabel_local hx)) (.inr (lookup_relabel_local hx))
def sY.toG{b:Scope}(S:sY b scope N x ys caps):jQ b scope N [x] ys caps:=#[S.ncell,S.kind,S.names,S.fr,S.fk,S.cap,S.len]
def zS.toG{Z:St}{te:TE}{fin:List V->Hp->Prop}:zS J Z caps te U fin->mJ J Z 1 caps (bA 0) te U fin:=by
 rintro⟨n,W,hn,B,h⟩;refine#[n,W,hn,B,λi ys j hi hy hw=>?_];rcases h i ys j hi hy hw with z |⟨z1,z2,z3⟩
 .exact .inl z
 .refine .inr #[z1,z2,λx Y y os D=>?_]
  match os,D with
  | [o],_=>exact#[#[[some x],rfl,rfl],z3 x Y y]
def mJ.toT{Z:St}{fin:List V->Hp->Prop}:mJ J Z k caps g te U fin->rB J Z k caps g tY te U fin:=by
 rintro⟨n,W,hn,B,h⟩;refine#[n,λi ys H=>ys.length=i/\W i ys H,hn,#[rfl,B],λi ys j hi _#[hy,hw]=>(h i ys j hi hy hw).imp id fun⟨v,l,a⟩=>#[v,l,λx Y y os D=>?_]];have e:(fun(y:V)(H:Hp)=>(ys++ [y]).length=i+1/\W (i+1) (ys++ [y]) H)=λy H=>W (i+1) (ys++ [y]) H:=funext λy=>funext λH=>propext #[And.right,λw=>#[by rw[bK,hy];rfl,w]];show g x _ Y λc d=>_/\te c d λy H=>(ys++ [y]).length=i+1/\W (i+1) (ys++ [y]) H;rw[e];exact a x Y y os D
def qL.toT{Z:St}{fin:List V->Hp->Prop}:qL J Z caps tt te U fin->rB J Z 1 caps (bA 0) tt te U fin:=by
 rintro⟨n,W,hn,B,h⟩;refine#[n,W,hn,B,λi ys j hi hy hw=>(h i ys j hi hy hw).imp id fun⟨v,l,a⟩=>#[v,l,λx Y y os D=>?_]]
 match os,D with
 | [o],_=>exact#[#[[some x],rfl,rfl],a x Y y]
end
section
variable{X:Cx}{scope:Scope}{xs ys:List Str}{caps:List Nat}{elt iter tg tst:Expr}{te:TE}{tt:TT}{g:TG}{pos:Pos}{x:Str}{px:Pos}
def jVv{q:TI}{b:Scope}(S0:jQ b scope N xs ys caps)(O:X.env.scope=b)(R:X.N=N)(d:X.calm=true)(hi:PI X tg iter q)(hg:∀s H ex pn,PG (fQ X scope (xs++ys) s H ex pn) tg g)(l:∀s H ex pn,PE (fQ X scope (xs++ys) s H ex pn) elt te)
  (hs:∀v,foldedSetIterable iter X.env v=pure v:=by intro _;rfl):PE X (.ListComp elt [#[tg,iter,[],0]] scope pos) (gY q xs.length caps g te):=Gc (λ_ _ _ _ h=>mJ.toT h) S0 O R d hi (λ_ _ _ _=>pis0) hg l hs
def Zz{q:TI}{b:Scope}{r a:Pos}(S0:jQ b scope N xs ys caps)(O:X.env.scope=b)(R:X.N=N)(d:X.calm=true)(K:X.N.Nodup)(hy:X.N[i]?=some y)(S:Loc X.env.scope y)(hi:PI X tg iter q)(hg:∀s H ex pn,PG (fQ X scope (xs++ys) s H ex pn) tg g)(l:∀s H ex pn,PE (fQ X scope (xs++ys) s H ex pn) elt te)
  (c:swapsWith (.ListComp elt [#[tg,iter,[],0]] scope pos) (some (.Name y r)) a.line X.env=pure true:=by rfl)
  (hs:∀v,foldedSetIterable iter X.env v=pure v:=by intro _;rfl) (hf:X.fn y=true∨X.env.scope.names.lookup y=some .local:=by first |exact .inl rfl |exact .inr rfl |assumption):
  PS X (.Assign [.Name y r] (.ListComp elt [#[tg,iter,[],0]] scope pos) a) (cS (gY q xs.length caps g te) (bA i)):=Aq (RD:=λZ Q J U=>mJ J Z xs.length caps g te U λys j=>∀p,j p=none->Q (.ref p) (upd j p (.lst ys))) (λ_ _ _ _ h=>mJ.toT h) S0 O R d K hy S hi (λ_ _ _ _=>pis0) hg l c hs hf
def pe_comp{q:TI}{b:Scope}(S0:sY b scope N x ys caps)(O:X.env.scope=b)(R:X.N=N)(d:X.calm=true)(hi:PI X (.Name x px) iter q)(l:∀s H ex pn,PE (fQ X scope (x::ys) s H ex pn) elt te)
  (hs:∀v,foldedSetIterable iter X.env v=pure v:=by intro _;rfl):PE X (.ListComp elt [#[.Name x px,iter,[],0]] scope pos) (dL q caps te):=Gc (xs:=[x]) (g:=bA 0) (λ_ _ _ _ h=>mJ.toT (zS.toG h)) S0.toG O R d hi (λ_ _ _ _=>pis0) (λ_ _ _ _=>oW S0.nd rfl S0.loc) l hs
def jZr{q:TI}{b:Scope}{r a:Pos}(S0:sY b scope N x ys caps)(O:X.env.scope=b)(R:X.N=N)(d:X.calm=true)(K:X.N.Nodup)(hy:X.N[i]?=some y)(S:Loc X.env.scope y)(hi:PI X (.Name x px) iter q)(l:∀s H ex pn,PE (fQ X scope (x::ys) s H ex pn) elt te)
  (c:swapsWith (.ListComp elt [#[.Name x px,iter,[],0]] scope pos) (some (.Name y r)) a.line X.env=pure true:=by rfl)
  (hs:∀v,foldedSetIterable iter X.env v=pure v:=by intro _;rfl) (hf:X.fn y=true∨X.env.scope.names.lookup y=some .local:=by first |exact .inl rfl |exact .inr rfl |assumption):
  PS X (.Assign [.Name y r] (.ListComp elt [#[.Name x px,iter,[],0]] scope pos) a) (cS (dL q caps te) (bA i)):=Aq (RD:=λZ Q J U=>zS J Z caps te U λys j=>∀p,j p=none->Q (.ref p) (upd j p (.lst ys))) (xs:=[x]) (g:=bA 0) (λ_ _ _ _ h=>mJ.toT (zS.toG h)) S0.toG O R d K hy S hi (λ_ _ _ _=>pis0) (λ_ _ _ _=>oW S0.nd rfl S0.loc) l c hs hf
def jVu{q:TI}{b:Scope}(S0:sY b scope N x ys caps)(O:X.env.scope=b)(R:X.N=N)(d:X.calm=true)(hi:PI X (.Name x px) iter q)(u:∀s H ex pn,PT (fQ X scope (x::ys) s H ex pn) tst tt)(l:∀s H ex pn,PE (fQ X scope (x::ys) s H ex pn) elt te)
  (hs:∀v,foldedSetIterable iter X.env v=pure v:=by intro _;rfl):PE X (.ListComp elt [#[.Name x px,iter,[tst],0]] scope pos) (pL q caps tt te):=Gc (xs:=[x]) (g:=bA 0) (λ_ _ _ _ h=>qL.toT h) S0.toG O R d hi (λ_ _ _ _=>pis1 (u _ _ _ _)) (λ_ _ _ _=>oW S0.nd rfl S0.loc) l hs
def Zy{q:TI}{b:Scope}{r a:Pos}(S0:sY b scope N x ys caps)(O:X.env.scope=b)(R:X.N=N)(d:X.calm=true)(K:X.N.Nodup)(hy:X.N[i]?=some y)(S:Loc X.env.scope y)(hi:PI X (.Name x px) iter q)(u:∀s H ex pn,PT (fQ X scope (x::ys) s H ex pn) tst tt)(l:∀s H ex pn,PE (fQ X scope (x::ys) s H ex pn) elt te)
  (c:swapsWith (.ListComp elt [#[.Name x px,iter,[tst],0]] scope pos) (some (.Name y r)) a.line X.env=pure true:=by rfl)
  (hs:∀v,foldedSetIterable iter X.env v=pure v:=by intro _;rfl) (hf:X.fn y=true∨X.env.scope.names.lookup y=some .local:=by first |exact .inl rfl |exact .inr rfl |assumption):
  PS X (.Assign [.Name y r] (.ListComp elt [#[.Name x px,iter,[tst],0]] scope pos) a) (cS (pL q caps tt te) (bA i)):=Aq (RD:=λZ Q J U=>qL J Z caps tt te U λys j=>∀p,j p=none->Q (.ref p) (upd j p (.lst ys))) (xs:=[x]) (g:=bA 0) (λ_ _ _ _ h=>qL.toT h) S0.toG O R d K hy S hi (λ_ _ _ _=>pis1 (u _ _ _ _)) (λ_ _ _ _=>oW S0.nd rfl S0.loc) l c hs hf
def jWh{q:TI}{b:Scope}(S0:jQ b scope N xs ys caps)(O:X.env.scope=b)(R:X.N=N)(d:X.calm=true)(hi:PI X tg iter q)(hg:∀s H ex pn,PG (fQ X scope (xs++ys) s H ex pn) tg g)(u:∀s H ex pn,PT (fQ X scope (xs++ys) s H ex pn) tst tt)(l:∀s H ex pn,PE (fQ X scope (xs++ys) s H ex pn) elt te)
  (hs:∀v,foldedSetIterable iter X.env v=pure v:=by intro _;rfl):PE X (.ListComp elt [#[tg,iter,[tst],0]] scope pos) (Vk q xs.length caps g tt te):=Gc (λ_ _ _ _ h=>h) S0 O R d hi (λ_ _ _ _=>pis1 (u _ _ _ _)) hg l hs
end
noncomputable def Mw(K:aQ):List V->Hp->VK->Prop:=λxs H Q=>∃p ns,xs=[.ref p]/\SqL K H p (List.map V.int ns)/\ns≠[]/\∀M,M∈ns->(∀a∈ns,a<=M)->Q (.int M) H
noncomputable def Mv(K:aQ):List V->Hp->VK->Prop:=λxs H Q=>∃p ns,xs=[.ref p]/\SqL K H p (List.map V.int ns)/\ns≠[]/\∀M,M∈ns->(∀a∈ns,M<=a)->Q (.int M) H
def fL.ints:∀{ns:List Int}{us:List Value},fL (List.map V.int ns) us->∃F:List (Int×Tok),us=F.map (λp=>Value.int p.1 p.2)/\F.map (·.1)=ns
 | [],_,h=>by cases h;exact#[[],rfl,rfl]
 |n::ns,_,h=>by
  cases h with
  |cons r t=>
   obtain⟨tk,rfl⟩:=r;obtain⟨F,e1,C⟩:=fL.ints t;exact#[(n,tk)::F,by rw[e1];rfl,by rw[bV,C]]
def uA{xs:List (Int×Tok)}{ns:List Int}(e:xs.map (·.1)=ns)(i:Nat)(h:i<ns.length):∃n,ns[i]?=some n/\numAt xs.toArray i=n:=by
 have hx:i<xs.length:=by rw[←e,aB]at h;exact h
 refine#[xs[i].1,by rw[←e,aZ,aD hx];rfl,?_];unfold numAt;rw[List.getElem?_toArray,aD hx];rfl
section
variable{X:Cx}
def Kd(hc:X.calm=true):qA X (.builtin "max") (Mw X.K):=by
 rintro B s Z H F k Q I r ⟨p,ns,rfl,T,g,q⟩;obtain⟨u,rfl,N⟩:=zI r;cases N;obtain⟨G,D,f,hz⟩:=I.list T;obtain⟨R,e1,C⟩:=D.ints;have S:R.length=ns.length:=by rw[←C,aB]
 have c:0<ns.length:=List.length_pos_iff.mpr g;have U:G.toArray=intItems R.toArray:=by rw[e1];unfold intItems;simp
 have b:=f.isList;rw[U]at b;refine max_intList (I.ok.hd hc) b (by rw[bJ];lia) λv Y tk hv hk=>?_;obtain⟨t,rfl⟩:=intItems_at hv;obtain⟨m,g2⟩:=argBest_gt (numAt R.toArray) (R.toArray.size-1);rw[bJ]at m g2⊢;obtain⟨M,m1,m2⟩:=uA C (argBest (λi j=>decide (numAt R.toArray i>numAt R.toArray j)) (R.length-1)) #[];rw[m2]at g2⊢;refine#[.int M,H,I.kept hk,#[_,rfl],q M (aI m1) λa ha=>?_];obtain⟨j,A,J⟩:=List.getElem_of_mem ha;obtain⟨n,n1,n2⟩:=uA C j A;rw[aD A,J]at n1;cases n1;rw[←n2];exact g2 j #[]
def Kb(hc:X.calm=true):qA X (.builtin "min") (Mv X.K):=by
 rintro B s Z H F k Q I r ⟨p,ns,rfl,T,g,q⟩;obtain⟨u,rfl,N⟩:=zI r;cases N;obtain⟨G,D,f,hz⟩:=I.list T;obtain⟨R,e1,C⟩:=D.ints;have S:R.length=ns.length:=by rw[←C,aB]
 have c:0<ns.length:=List.length_pos_iff.mpr g;have U:G.toArray=intItems R.toArray:=by rw[e1];unfold intItems;simp
 have b:=f.isList;rw[U]at b;refine min_intList (I.ok.hd hc) b (by rw[bJ];lia) λv Y tk hv hk=>?_;obtain⟨t,rfl⟩:=intItems_at hv;obtain⟨m,g2⟩:=argBest_lt (numAt R.toArray) (R.toArray.size-1);rw[bJ]at m g2⊢;obtain⟨M,m1,m2⟩:=uA C (argBest (λi j=>decide (numAt R.toArray i<numAt R.toArray j)) (R.length-1)) #[];rw[m2]at g2⊢;refine#[.int M,H,I.kept hk,#[_,rfl],q M (aI m1) λa ha=>?_];obtain⟨j,A,J⟩:=List.getElem_of_mem ha;obtain⟨n,n1,n2⟩:=uA C j A;rw[aD A,J]at n1;cases n1;rw[←n2];exact g2 j #[]
end
def Pq{Z:St}{fin:List V->Hp->Prop}(W:Nat->List V->Hp->Prop)(hz:xs.length<=sizeLine)(h0:W 0 [] U)(S:∀i v H,i<=xs.length->W i v H->SqL K H a xs)
  (hs:∀i x v H,xs[i]?=some x->v.length<=i->W i v H->F (some x::cY Z caps) H λb d=>if b=true then o (some x::cY Z caps) d λy u=>W (i+1) (v++ [y]) u else W (i+1) v d) (hd:∀v H,W xs.length v H->fin v H):qL (Itl K a) Z caps F o U fin:=by
 refine#[xs.length,W,hz,h0,λi v j hi hy hw=>?_];have q:=S i v j hi hw;by_cases f:i<xs.length
 .refine .inr #[f,#[xs,xs[i],q,by simp [f]],λx Y y=>?_];obtain⟨e,y⟩:=y;subst e;exact hs i x v _ (y xs q) hy hw
 .have e:i=xs.length:=#[];subst e;exact .inl #[#[xs,q,aU _],hd v j hw]
noncomputable def jJs:V->List V->Hp->VK->Prop:=λx vs H Q=>∃l ns n j,x=.ref l/\vs=[.int n]/\H l=some (.lst (List.map V.int ns))/\ns[j]?=some n/\(∀m,m<j->ns[m]?≠some n)/\Q (.int (j:Nat)) H
noncomputable def eqN(n:Int):Value->Bool
 | .int a _=>a==n
 |_=>false
section
variable{X:Cx}
def jV1:MtM X "list.index" jJs:=by
 rintro B s Z H x o v k Q I R D ⟨l,ns,n,j,rfl,rfl,g,A,f,q⟩;cases R;obtain⟨u,rfl,N⟩:=D.one;obtain⟨z,G,c,r,S,e⟩:=I.lstM g;have b:j<ns.length:=(aO.mp A).1;have len:=r.length;rw[aB]at len;have at_:∀m(hm:m<G.toArray.size),∃a t,ns[m]?=some a/\G.toArray[m]=.int a t:=λm hm=>by
  have h1:m<G.length:=by simpa using hm
  have h2:m<ns.length:=#[];obtain⟨w,e1,C⟩:=r.get (i:=m) (x:=.int ns[m]) (by rw[aZ,aD h2];rfl);obtain⟨t,rfl⟩:=C;refine#[ns[m],t,aD h2,?_];obtain⟨_,T⟩:=aO.mp e1;simpa using T
 refine call_meets F.slot_list_index #[_,e,rfl] F.entry_list_index (F.args_list_index_2 _ _) (SeqAt.list_indexAt l G.toArray c none (List.toArray []) u (eqN n) j (by rw[bJ];lia) (by rw[sizeLine_eq]at z;rw[aB]at z;lia) ?_ λm hm d=>?_) #[e,λy hy=>?_,?_]
 .obtain⟨a,t,e1,C⟩:=at_ j (by rw[bJ];lia);rw[A]at e1;cases e1;rw[C];show(n==n)=true;simp
 .obtain⟨a,t,e1,C⟩:=at_ m hm;rw[C];show(a==n)=false;have:a≠n:=λz=>f m d (by rw[e1,z]);simpa using this
 .obtain⟨m,hm,e1⟩:=Array.getElem_of_mem hy;obtain⟨a,t,_,C⟩:=at_ m hm;rw[←e1,C];exact Jz (i:=a) (j:=n) #[t,rfl] N
 .exact#[.int (j:Nat),H,I.tok _,#[_,rfl],q]
end
def lP{b:Addr}{Z:St}{fin:List V->Hp->Prop}(W:Nat->List V->Hp->Prop)(hz:xs.length<=sizeLine)(l:xs.length=ys.length)(h0:W 0 [] U)(S:∀i J H,i<=xs.length->W i J H->SqL K H a xs/\SqL K H b ys)
  (hs:∀i x y p J H,xs[i]?=some x->ys[i]?=some y->J.length=i->W i J H->H p=none->∀os:St,os.length=k->g (.ref p) (os++cY Z caps) (upd H p (.tup [x,y])) λc d=>(∃h:St,h.length=k/\c=h++cY Z caps)/\o c d λz u=>W (i+1) (J++ [z]) u)
  (hd:∀J H,J.length=xs.length->W xs.length J H->fin J H):mJ (Itz K a b) Z k caps g o U fin:=by
 refine#[xs.length,W,hz,h0,λi J j hi hy hw=>?_];obtain⟨q,r⟩:=S i J j hi hw;by_cases f:i<xs.length
 .have n:i<ys.length:=#[];refine .inr #[f,#[xs,xs[i],ys,ys[i],q,by simp [f],r,by simp [n]],λx Y y os D=>?_];obtain⟨s,M,G,e1,C,T,B,v⟩:=y;subst e1 T;exact hs i M G s J _ (B xs q) (v ys r) hy hw C os D
 .have e:i=xs.length:=#[];subst e;exact .inl #[#[xs,ys,q,r,.inl (aU _)],hd J j hy hw]
def jXk{Z:St}{fin:List V->Hp->Prop}(W:Nat->List V->Hp->Prop)(hz:xs.length<=sizeLine)(h0:W 0 [] U)(S:∀i J H,i<=xs.length->W i J H->SqL K H a xs)
  (hs:∀i x p J H,xs[i]?=some x->J.length=i->W i J H->H p=none->∀os:St,os.length=k->g (.ref p) (os++cY Z caps) (upd H p (.tup [.int i,x])) λc d=>(∃h:St,h.length=k/\c=h++cY Z caps)/\o c d λz u=>W (i+1) (J++ [z]) u)
  (hd:∀J H,J.length=xs.length->W xs.length J H->fin J H):mJ (Ite K a) Z k caps g o U fin:=by
 refine#[xs.length,W,hz,h0,λi J j hi hy hw=>?_];have q:=S i J j hi hw;by_cases f:i<xs.length
 .refine .inr #[f,#[xs,xs[i],q,by simp [f]],λx Y y os D=>?_];obtain⟨s,z,e1,C,T,y⟩:=y;subst e1 T;exact hs i z s J _ (y xs q) hy hw C os D
 .have e:i=xs.length:=#[];subst e;exact .inl #[#[xs,q,aU _],hd J j hy hw]
def Fa:R2:=λx y H Q=>y=.non/\Q (.bl (decide (x=.non))) H
def Xk:R2:=λx y H Q=>y=.non/\Q (.bl (!decide (x=.non))) H
def jUX{b:Addr}{D:vH}{Z:St}(n:Nat)(d:Nat->St->Hp->Prop)(h0:d 0 Z H)(S:∀i Z H,i<=n->d i Z H->SqL K H a xs/\SqL K H b ys)(hx:n<=xs.length)(hy:n<=ys.length)(l:xs.length<=n∨ys.length<=n)
  (hs:∀i x y p Z H,xs[i]?=some x->ys[i]?=some y->i<n->d i Z H->H p=none->g (.ref p) Z (upd H p (.tup [x,y])) λc j=>tb { D with nx:=d (i+1),ct:=d (i+1),bk:=D.nx } c j) (hd:∀Z H,d n Z H->D.nx Z H):
  ∃W:Nat->Nat->St->Hp->Prop,(∃m,W 0 m Z H)/\∀i m Z H,W i m Z H->
   ((Itz K a b).stop i H/\D.nx Z H)∨((Itz K a b).go i H/\∃N:St->Hp->Prop,(∀F O,N F O->∃k,k<m/\W (i+1) k F O)/\∀x O,(Itz K a b).yld i H x O->g x Z O λc j=>tb { D with nx:=N,ct:=N,bk:=D.nx } c j):=by
 refine#[λi m Z H=>m=n-i/\i<=n/\d i Z H,#[n,by simp,eC _,h0],?_];rintro i m Z H ⟨rfl,hi,p⟩;obtain⟨q,r⟩:=S i Z H hi p;by_cases f:i<n
 .have h1:i<xs.length:=#[];have h2:i<ys.length:=#[];refine .inr #[#[xs,xs[i],ys,ys[i],q,by simp [h1],r,by simp [h2]],d (i+1),λF O o=>#[n-(i+1),#[],rfl,f,o],λx O y=>?_];obtain⟨s,M,G,e1,C,T,B,v⟩:=y;subst e1 T;exact hs i M G s Z _ (B xs q) (v ys r) f p C
 .have e:i=n:=#[];subst e;exact .inl #[#[xs,ys,q,r,l],hd Z H p]
def jXj{b:Addr}{Z:St}{fin:List V->Hp->Prop}(n:Nat)(W:Nat->List V->Hp->Prop)(hz:n<=sizeLine)(hx:n<=xs.length)(hy:n<=ys.length)(l:xs.length<=n∨ys.length<=n)(h0:W 0 [] U)(S:∀i J H,i<=n->W i J H->SqL K H a xs/\SqL K H b ys)
  (hs:∀i x y p J H,xs[i]?=some x->ys[i]?=some y->i<n->J.length=i->W i J H->H p=none->∀os:St,os.length=k->g (.ref p) (os++cY Z caps) (upd H p (.tup [x,y])) λc d=>(∃h:St,h.length=k/\c=h++cY Z caps)/\o c d λz u=>W (i+1) (J++ [z]) u)
  (hd:∀J H,J.length=n->W n J H->fin J H):mJ (Itz K a b) Z k caps g o U fin:=by
 refine#[n,W,hz,h0,λi J j hi m hw=>?_];obtain⟨q,r⟩:=S i J j hi hw;by_cases f:i<n
 .have h1:i<xs.length:=#[];have h2:i<ys.length:=#[];refine .inr #[f,#[xs,xs[i],ys,ys[i],q,by simp [h1],r,by simp [h2]],λx Y y os D=>?_];obtain⟨s,M,G,e1,C,T,B,v⟩:=y;subst e1 T;exact hs i M G s J _ (B xs q) (v ys r) f m hw C os D
 .have e:i=n:=#[];subst e;exact .inl #[#[xs,ys,q,r,l],hd J j m hw]
structure zB(K:aQ):Prop where
 cl:Cls K (eI K "Corner")
 nb:pP K (eI K "Corner") "begun"
 ns:pP K (eI K "Corner") "spans"
 nk:pP K (eI K "Corner") "kept"
 ni:pP K (eI K "Corner") "inside"
section
variable{X:Cx}
noncomputable def Ul(K:aQ):List V->Hp->VK->Prop:=λxs H Q=>∃p ys,xs=[.ref p,.ty "tuple"]/\SqT K H p ys/\Q (.bl true) H
def Os:qA X (.builtin "isinstance") (Ul X.K):=by
 rintro B s Z H F k Q I r ⟨p,v,rfl,T,q⟩;obtain⟨u,c,rfl,N,a⟩:=Mt r;obtain rfl:c=Value.type "tuple":=a;obtain rfl:u=Value.ref p:=N;obtain⟨G,P,⟨o,h1,h2,_⟩,hz⟩:=I.tuple T;exact PySem.W.kia_one PySem.W.kitx_tuple I.kIn #[o,h1,h2] (kit_tt _) (λz=>nomatch z) λtk=>#[.bl true,H,I.tok _,rfl,q]
end
noncomputable def Xl:V->List V->Hp->VK->Prop:=λx vs H Q=>∃n:Int,x=.int n/\vs=[]/\Q (.int ((Builtin.Int.intBits n:Nat):Int)) H
def CShl(i n:Int):Prop:=0<=n/\((Builtin.Int.intBits i:Nat):Int)+n<=2^27
def rShl:R2:=rI CShl λi n=>.int (i*2^n.toNat)
def rShr:R2:=rI (λ_ n=>0<=n) λi n=>.int (i.fdiv (2^n.toNat))
section
variable{X:Cx}
def jYJ:MtR X "int.bit_length" Xl:=by
 rintro B s Z H x F v k Q I R D ⟨n,rfl,rfl,q⟩;obtain⟨t,rfl⟩:=R;cases D;exact call_int_bit_length #[.int _,H,I.tok _,#[_,rfl],q]
def jX3:OpR X (binaryOp .LShift) rShl:=opI λ_ _ _ _ _ _ _ hc q=>lshift_int hc.1 hc.2 q
def jX2:OpR X (binaryOp .RShift) rShr:=opI λ_ _ _ _ _ _ _ hc q=>rshift_int hc q
end
def oT:plainId "list.remove.loop"=true:=by decide+kernel
def Cy:entryFor table "list.remove.loop"=some Builtin.«list.remove.loop»:=entryFor_of_fast (by kernel_rfl)
def Zo(l:Addr)(J:Array Value)(c:Nat)(x:Value)(q:Value->Bool)(j:Nat)(o:j<J.size)(t:q J[j]=true)(hz:J.size<=sizeLine):∀(d i:Nat),j=i+d->(∀m(hm:m<J.size),m<j->q J[m]=false)->
  Meets (Builtin.«list.remove.loop» #[[.ref l,x,rawInt i],[]])
   (λA R s=>s.heap.get? l=some { cls:=.type "list",data:=.seq J c }/\(∀y,y∈J->SeqAt.EqAt A.in1 s y x (q y))/\R (.ok (.ret .none)) { s with heap:=s.heap.update l (Obj.mapSeq λa=>a.eraseIdxIfInBounds j) }):=by
 intro d
 induction d with
 |zero=>
  intro i U n prog w A R s h;obtain⟨hp,g,f,tk,os⟩:=s;obtain⟨S,k,h⟩:=h;obtain rfl:j=i:=U
  wp_walk using wpAny_loadPart' S
  have e:J[((j:Nat):Int).toNat]?=some J[j]:=by simp [o]
  rw[e];refine aC (k _ (Array.getElem_mem o) prog w _ _ ?_);rw[t];have b:(J.eraseIdxIfInBounds j).size<=sizeLine+1:=cI (PySem.MeetsSeq.size_erased J _) (Nat.le_succ_of_le hz)
  wp_walk using(wpAny_updateSeq S rfl (hz:=hz) (_hz':=b)),wpAny_loadPart' S
  exact h
 |succ d ih=>
  intro i U n prog w A R s h;obtain⟨hp,g,f,tk,os⟩:=s;obtain⟨S,k,h⟩:=h;have M:i<J.size:=#[]
  wp_walk using wpAny_loadPart' S
  have e:J[((i:Nat):Int).toNat]?=some J[i]:=by simp [M]
  have e1:((i:Int)+1)=((i+1:Nat):Int):=#[];rw[e];refine aC (k _ (Array.getElem_mem M) prog w _ _ ?_);rw[n i M #[]]
  wp_walk
  rw[e1];refine#[plainId_quiet oT _,codeAny_builtin Cy ?_];rw[Around.under_plainId oT _];exact ih (i+1) #[] n prog w A R _ #[S,k,h]
def jWX(l:Addr)(J:Array Value)(c:Nat)(x:Value)(q:Value->Bool)(j:Nat)(b:j<J.size)(t:q J[j]=true)(hz:J.size<=sizeLine)(n:∀m(hm:m<J.size),m<j->q J[m]=false):
  Meets (Builtin.«list.remove» #[[.ref l,x],[]])
   (λA R s=>s.heap.get? l=some { cls:=.type "list",data:=.seq J c }/\(∀y,y∈J->SeqAt.EqAt A.in1 s y x (q y))/\R (.ok (.ret .none)) { s with heap:=s.heap.update l (Obj.mapSeq λa=>a.eraseIdxIfInBounds j) }):=by
 intro prog w A R s h;obtain⟨hp,g,f,tk,os⟩:=s
 wp_walk
 refine#[plainId_quiet oT _,codeAny_builtin Cy ?_];rw[Around.under_plainId oT _];exact Zo l J c x q j b t hz j 0 #[] n prog w A R _ h
noncomputable def Mg:V->List V->Hp->VK->Prop:=λx vs H Q=>∃l ns n j,x=.ref l/\vs=[.int n]/\H l=some (.lst (List.map V.int ns))/\ns[j]?=some n/\(∀m,m<j->ns[m]?≠some n)/\Q .non (upd H l (.lst (List.map V.int (ns.eraseIdx j))))
def Va{d c:Type}(f:d->c):∀(l:List d)(i:Nat),(l.eraseIdx i).map f=(l.map f).eraseIdx i
 | [],i=>by simp
 |a::r,0=>rfl
 |a::r,i+1=>by show f a::(r.eraseIdx i).map f=f a::(r.map f).eraseIdx i;rw[Va f r i]
def jWs:MtM X "list.remove" Mg:=by
 rintro B s Z H x o v k Q I R D ⟨l,ns,n,j,rfl,rfl,g,A,f,q⟩;cases R;obtain⟨u,rfl,N⟩:=D.one;obtain⟨z,G,c,r,S,e⟩:=I.lstM g;have b:j<ns.length:=(aO.mp A).1;have len:=r.length;rw[aB]at len;have at_:∀m(hm:m<G.toArray.size),∃a t,ns[m]?=some a/\G.toArray[m]=.int a t:=λm hm=>by
  have h1:m<G.length:=by simpa using hm
  have h2:m<ns.length:=#[];obtain⟨w,e1,C⟩:=r.get (i:=m) (x:=.int ns[m]) (by rw[aZ,aD h2];rfl);obtain⟨t,rfl⟩:=C;refine#[ns[m],t,aD h2,?_];obtain⟨_,T⟩:=aO.mp e1;simpa using T
 refine call_meets F.slot_list_remove #[_,e,rfl] F.entry_list_remove (F.args_list_remove_2 _ _) (jWX l G.toArray c u (eqN n) j (by rw[bJ];lia) ?_ (by rw[bJ,←S];exact z) λm hm d=>?_) #[e,λy hy=>?_,?_]
 .obtain⟨a,t,e1,C⟩:=at_ j (by rw[bJ];lia);rw[A]at e1;cases e1;rw[C];show(n==n)=true;simp
 .obtain⟨a,t,e1,C⟩:=at_ m hm;rw[C];show(a==n)=false;have:a≠n:=λz=>f m d (by rw[e1,z]);simpa using this
 .obtain⟨m,hm,e1⟩:=Array.getElem_of_mem hy;obtain⟨a,t,_,C⟩:=at_ m hm;rw[←e1,C];exact Jz (i:=a) (j:=n) #[t,rfl] N
 .refine#[.non,_,I.lset (its':=G.eraseIdx j) g e ?_ ?_ ?_,rfl,q]
  .show G.toArray.eraseIdxIfInBounds j=(G.eraseIdx j).toArray;rw[List.eraseIdxIfInBounds_toArray]
  .rw[Va];exact r.eraseIdx j
  .have:=Tc (List.map V.int ns) j;rw[Va];lia
section
variable{prog:Program}{w:World}{A:Around}{R:Result->Shared->Prop}{it:Addr}{fp wr:List Addr}{n:Nat}{P:Nat->Value->Prop}{St:Nat->Heap->Prop}
def max_goD(W:Walks prog w A.in1 it fp wr n P St)(p:Nat->Nat->Bool)(x:CmpOf prog w A.in1 .Gt P p)(B:Addr)(out:B∉fp)(i:List (Str×Value)):∀(k j:Nat)(s:Shared)(d:Value)(c:Nat),n=j+1+k->St (j+1) s.heap->P (argBest p j) d->
  s.heap.get? B=some { cls:=.type "list",dict:=none,data:=.seq (List.toArray [d,d]) c,slots:=(List.toArray []) }->
  (∀v Y tk,P (argBest p (n-1)) v->(∀b o,b∉wr->b≠B->s.heap.get? b=some o->Y.get? b=some o)->R (.ok (.ret v)) { s with heap:=Y,toks:=tk })->
  codeAny (model prog w) A (.builtin "max.loop" #[[.ref it,.none,.ref B],i]) R s:=by
 have q:B∉wr:=λz=>out (W.sub _ z);have y:(toString "max"++toString ".loop":String)="max.loop":=by decide
 intro k
 induction k with
 |zero=>
  intro j s d c l st m T fin;refine codeAny_builtin PySem.F.entry_max_loop ?_;rw[Around.under_plainId PySem.F.plain_max_loop _];show wpAny _ A.in1 (seqItems? (.ref B)>>=_) _ _ s;refine aC (wpAny_seqItems T rfl ?_);show wpAny _ A.in1 (tryCatch (pyNext (.ref it)) _>>=_) _ _ s;have H:n=j+1:=l;refine aC (wpAny_tryCatch (W.done s _ _ (H▸st) λY tk keep=>?_));have h:=keep B _ q T;show wpAny _ A.in1 (updateSeq B (λ_=>(List.toArray []))>>=_) _ _ _;refine aC ?_;refine wpAny_updateSeq h rfl (aC (wpAny_letGo (aS ?_)));refine fin d _ tk (by rw[H];exact m) λb o I u e=>(fG _ _ (Ne.symm u)).trans (keep b o I e)
 |succ k ih=>
  intro j s d c l st m T fin;refine codeAny_builtin PySem.F.entry_max_loop ?_;rw[Around.under_plainId PySem.F.plain_max_loop _];show wpAny _ A.in1 (seqItems? (.ref B)>>=_) _ _ s;refine aC (wpAny_seqItems T rfl ?_);show wpAny _ A.in1 (tryCatch (pyNext (.ref it)) _>>=_) _ _ s;refine aC (wpAny_tryCatch (W.item (j+1) s _ _ #[] st λv Y tk C f keep=>?_));have h:=keep B _ q T;show wpAny _ A.in1 (tryCatch (holding [v,v] (richCompare .Gt v d>>=_)) _>>=_) _ _ { s with heap:=Y,toks:=tk };refine aC (wpAny_tryCatch (wpAny_holding (aC (x (j+1) (argBest p j) v d _ _ _ C m (aC (wpAny_holding (wpAny_truthy_bool (aC (wpAny_letGo (aS ?_))))))))));cases better:p (j+1) (argBest p j)with
  |true=>
   simp only[if_true];refine aC ?_;refine wpAny_updateSeq h rfl (aC (wpAny_letGo ?_));rw[y];refine aS #[plainId_quiet PySem.F.plain_max_loop _,ih (j+1) _ v _ #[] (W.frame _ _ _ f λb D o e=>?_) (by simp only[argBest,better,if_true];exact C) (Heap.get?_update_self _ h rfl) λt g G r a=>?_]
   .exact(fG _ _ (λz:B=b=>out (by rw[z];exact D))).trans e
   .exact fin t g G r λb o I u e=>a b o I u ((fG _ _ (Ne.symm u)).trans (keep b o I e))
  |false=>
   simp only[Bool.false_eq_true,if_false];refine aC (wpAny_letGo ?_);rw[y];refine aS #[plainId_quiet PySem.F.plain_max_loop _,ih (j+1) _ d c #[] f (by simp only[argBest,better,Bool.false_eq_true,if_false];exact m) h λt g G r a=>?_];exact fin t g G r λb o I u e=>a b o I u (keep b o I e)
def jZ5(W:Walks prog w A.in1 it fp wr n P St)(p:Nat->Nat->Bool)(x:CmpOf prog w A.in1 .Gt P p)(B:Addr)(out:B∉fp)(d:Value){c:Nat}(st:St 0 s.heap)(T:s.heap.get? B=some { cls:=.type "list",dict:=none,data:=.seq (List.toArray []) c,slots:=(List.toArray []) })
  (f0:n=0->∀Y tk,(∀b o,b∉wr->b≠B->s.heap.get? b=some o->Y.get? b=some o)->R (.ok (.ret d)) { s with heap:=Y,toks:=tk })
  (m:0<n->∀v Y tk,P (argBest p (n-1)) v->(∀b o,b∉wr->b≠B->s.heap.get? b=some o->Y.get? b=some o)->R (.ok (.ret v)) { s with heap:=Y,toks:=tk }):
  codeAny (model prog w) A (.builtin "max.loop" #[[.ref it,.none,.ref B],[("default",d)]]) R s:=by
 have q:B∉wr:=λz=>out (W.sub _ z);have y:(toString "max"++toString ".loop":String)="max.loop":=by decide
 refine codeAny_builtin PySem.F.entry_max_loop ?_;rw[Around.under_plainId PySem.F.plain_max_loop _];show wpAny _ A.in1 (seqItems? (.ref B)>>=_) _ _ s;refine aC (wpAny_seqItems T rfl ?_);show wpAny _ A.in1 (tryCatch (pyNext (.ref it)) _>>=_) _ _ s;rcases Nat.eq_zero_or_pos n with n0 |n1
 .refine aC (wpAny_tryCatch (W.done s _ _ (n0▸st) λY tk keep=>?_))
  wp_walk
  exact f0 n0 Y tk λb o I _ e=>keep b o I e
 .refine aC (wpAny_tryCatch (W.item 0 s _ _ n1 st λv Y tk C f keep=>?_));have h:=keep B _ q T;show wpAny _ A.in1 (updateSeq B (λ_=>(List.toArray [v,v]))>>=_) _ _ { s with heap:=Y,toks:=tk };refine aC ?_;refine wpAny_updateSeq h rfl ?_;rw[y];refine aS #[plainId_quiet PySem.F.plain_max_loop _,max_goD W p x B out _ (n-1) 0 _ v _ #[] (W.frame _ _ _ f λb D o e=>?_) C (Heap.get?_update_self _ h rfl) λt g G r a=>?_]
  .exact(fG _ _ (λz:B=b=>out (by rw[z];exact D))).trans e
  .exact m n1 t g G r λb o I u e=>a b o I u ((fG _ _ (Ne.symm u)).trans (keep b o I e))
end
def jXl{b:Addr}{Z:St}{fin:List V->Hp->Prop}(W:Nat->List V->Hp->Prop)(hz:xs.length<=sizeLine)(l:xs.length=ys.length)(h0:W 0 [] U)(S:∀i J H,i<=xs.length->W i J H->SqL K H a xs/\SqL K H b ys)
  (hs:∀i x y p J H,xs[i]?=some x->ys[i]?=some y->J.length<=i->W i J H->H p=none->∀os:St,os.length=k->g (.ref p) (os++cY Z caps) (upd H p (.tup [x,y])) λc d=>(∃h:St,h.length=k/\c=h++cY Z caps)/\F c d λb u=>if b=true then o c u λz m=>W (i+1) (J++ [z]) m else W (i+1) J u)
  (hd:∀J H,W xs.length J H->fin J H):rB (Itz K a b) Z k caps g F o U fin:=by
 refine#[xs.length,W,hz,h0,λi J j hi hy hw=>?_];obtain⟨q,r⟩:=S i J j hi hw;by_cases f:i<xs.length
 .have n:i<ys.length:=#[];refine .inr #[f,#[xs,xs[i],ys,ys[i],q,by simp [f],r,by simp [n]],λx Y y os D=>?_];obtain⟨s,M,G,e1,C,T,B,v⟩:=y;subst e1 T;exact hs i M G s J _ (B xs q) (v ys r) hy hw C os D
 .have e:i=xs.length:=#[];subst e;exact .inl #[#[xs,ys,q,r,.inl (aU _)],hd J j hw]
def jVJ{lo:Int}{n:Nat}{Z:St}{fin:List V->Hp->Prop}(W:Nat->List V->Hp->Prop)(hz:n<=sizeLine)(h0:W 0 [] U)
  (hs:∀i v H,i<n->v.length<=i->W i v H->F (some (.int (lo+i))::cY Z caps) H λb d=>if b=true then o (some (.int (lo+i))::cY Z caps) d λy u=>W (i+1) (v++ [y]) u else W (i+1) v d)
  (hd:∀v H,W n v H->fin v H):qL (Itr lo n) Z caps F o U fin:=by
 refine#[n,W,hz,h0,λi v j hi hy hw=>?_];by_cases f:i<n
 .refine .inr #[f,f,λx Y y=>?_];obtain⟨e1,C⟩:=y;subst e1 C;exact hs i v _ f hy hw
 .have e:i=n:=#[];subst e;exact .inl #[aU _,hd v j hw]
def jVW(a d:Value):argsOk "max" #[[a],[("default",d)]]:=by unfold argsOk;kernel_rfl
section
variable{prog:Program}{w:World}{A:Around}{E:Value->Shared->Prop}{s:Shared}
def jXm{m:String}{b:Builtin}{c:List Value}{i:List (Str×Value)}{Q:Value->Shared->Prop}(kind:builtinKind m=none)(a:plainId m=true)(d:entryFor table m=some b)(ok:argsOk m #[c,i])
  (run:wpAny (model prog w) A.in1 (b #[c,i]) (λfin z=>match fin with
   | .done g=>(match(Except.ok g:Result)with | .ok (.ret u)=>Q u z | .ok _=>False | .error e=>E e z)
   | .again k=>k.quiet=true/\codeAny (model prog w) A k (λr y=>match r with | .ok (.ret u)=>Q u y | .ok _=>False | .error e=>E e y) z) E s):
  wpAny (model prog w) A (call (.builtin m) c i) Q E s:=by
 refine wpAny_call (codeAny_call_builtin a d ?_);simp only[checkBuiltinCall,kind];cases sig:Manifest.signature? m with
 |none=>exact aS run
 |some g=>
  have I:Bind.checkArgs m g #[c,i]=pure ():=by simpa only[argsOk,sig]using ok
  simp only[I];exact aS run
def jVZ{l:Addr}{xs:Array (Int×Tok)}{d:Value}{Q:Value->Shared->Prop}(calm:A.handled=none)(S:s.heap.IsList l (intItems xs))
  (f0:xs.size=0->∀Y tk,(∀b o,s.heap.get? b=some o->Y.get? b=some o)->Q d { s with heap:=Y,toks:=tk })
  (m:0<xs.size->∀v Y tk,(intItems xs)[argBest (λi j=>decide (numAt xs i>numAt xs j)) (xs.size-1)]?=some v->(∀b o,s.heap.get? b=some o->Y.get? b=some o)->Q v { s with heap:=Y,toks:=tk }):
  wpAny (model prog w) A (call (.builtin "max") [.ref l] [("default",d)]) Q E s:=by
 have y:(toString "max"++toString ".loop":String)="max.loop":=by decide
 have sz:(intItems xs).size=xs.size:=by simp [intItems]
 refine jXm PySem.F.kind_max PySem.F.plain_max PySem.F.entry_max (jVW _ _) ?_;show wpAny _ A.in1 (Builtin.Builtins.bindParams "max" ["key","default"] 0 #[[],[("default",d)]]>>=_) _ _ s;refine aC (wpAny_of_eq (show Builtin.Builtins.bindParams "max" ["key","default"] 0 #[[],[("default",d)]]=pure [none,some d]from rfl) ?_);refine aC (aS (aC (iter_intList S λg e st a c=>?_)));subst e;refine aC (wpAny_newObj_type ?_);rw[y];have W:=Walks.list (prog:=prog) (w:=w) (A:=A.in1) calm _ l c (intItems xs);refine aS #[plainId_quiet PySem.F.plain_max_loop _,jZ5 W _ (CmpOf.ints_gt (numAt xs) (λ_ _=>intItems_at)) _ (λz=>fB _ (a _ z)) d (W.frame _ _ _ st λb _ o e=>bE _ e) (bX _ rfl) (λf Y tk keep=>?_) λn1 v Y tk C keep=>?_]
 .refine f0 (by rw[←sz];exact f) Y tk (old_kept λb o I e=>keep b o I (bR (bH e)) (bE _ e))
 .rw[sz]at n1 C;refine m n1 v Y tk C (old_kept λb o I e=>keep b o I (bR (bH e)) (bE _ e))
end
def tMaxD(K:aQ)(t:TA)(d:TE):TE:=λZ H Q=>t Z H λvs U=>∃x,vs=[x]/\d Z U λy j=>∃p ns,x=.ref p/\SqL K j p (List.map V.int ns)/\(ns=[]->Q y j)/\(ns≠[]->∀M,M∈ns->(∀a∈ns,a<=M)->Q (.int M) j)
def tTru(K:aQ)(t:TE):TT:=λZ H Q=>t Z H λx O=>∃k,TruV K x O k/\Q k O
section
variable{X:Cx}
def pe_maxD{e d:Expr}{c:TA}{q:TE}{kp:Pos}(calm:X.calm=true)(hg:Gl X "max")(hm:X.mg "max"=none)(ha:PA X [e] c)(hd:PE X d q)
  (h1:backTo pos (starEach [e] X.env)=(false,eval e X.env)::backTo pos (starEach [] X.env):=by rfl) (h2:(backTo pos (starEach [e] X.env)).any (·.1)=false:=by rfl):PE X (.Call (.Name "max" p) [e] [#[some "default",d,kp]] pos) (tMaxD X.K c q):=by
 intro B s Z H Q I h;refine wpAny_Call_Name_kw (pO I hg hm Iq ?_ (by decide) (by decide));refine callWith_kw ?_ h1 h2;refine thn (ha pos B s Z H _ I h) λk T z=>?_;obtain⟨vs,U,O,r1,x,rfl,q1⟩:=z;obtain⟨u,rfl,N⟩:=zI r1;refine kws_cons (thn (hd B T Z U _ O q1) λv P#[y,F,o,m,l,ns,ex,hp,q0,q2]=>kws_nil ?_);subst ex;cases N;obtain⟨G,D,f,hz⟩:=o.list hp;obtain⟨R,e1,C⟩:=D.ints;have S:R.length=ns.length:=by rw[←C,aB]
 have ei:G.toArray=intItems R.toArray:=by rw[e1];unfold intItems;simp
 have b:=f.isList;rw[ei]at b;refine jVZ (o.ok.hd calm) b (λg Y tk keep=>?_) λn1 w Y tk hw keep=>?_
 .rw[bJ]at g;exact#[y,F,o.kept keep,m,q0 (List.length_eq_zero_iff.mp #[])]
 .obtain⟨t,rfl⟩:=intItems_at hw;obtain⟨g1,g2⟩:=argBest_gt (numAt R.toArray) (R.toArray.size-1);rw[bJ]at g1 g2 n1⊢;obtain⟨M,m1,m2⟩:=uA C (argBest (λi j=>decide (numAt R.toArray i>numAt R.toArray j)) (R.length-1)) #[];rw[m2]at g2⊢;refine#[.int M,F,o.kept keep,#[_,rfl],q2 (λz=>by rw[z,List.length_nil]at S;lia) M (aI m1) λa ha=>?_];obtain⟨j,A,J⟩:=List.getElem_of_mem ha;obtain⟨n,r,n2⟩:=uA C j A;rw[aD A,J]at r;cases r;rw[←n2];exact g2 j #[]
def jVt{n:Int}(hg:Gl X x)(hm:∃t,X.mg x=some (.int n t))(hd:(x==("__debug__":Str))=false:=by decide):PE X (.Name x pos) (tC (.int n)):=
 let⟨t,e⟩:=hm
 pe_glob (v:=.int n) hg e #[t,rfl] hd
end
structure zA(K:aQ)(x qual:Str)(st:Stmt)(df:Value)(f:Addr)(fd:FuncData):Prop where
 ex:∃(oc:Value)(od:Option Addr)(kV doc pm:Value)(an:Option Addr)(cdv ct:Value)(osl:Array (Option Value)),
  fd=PySem.W.fnOf x qual (lN st) (kW st) (eG st) df kV doc pm an cdv ct/\K.lookup f=some #[oc,od,.func fd,osl]/\PySem.W.codeIn K cdv qual=true
 kp:PySem.W.keepIn K (.ref f)=true
section
variable{P:Program}{w:World}{K:aQ}{mg:Str->Option Value}{base:Heap}{x qual:Str}{st:Stmt}{df:Value}{f:Addr}{fd:FuncData}{N ps:List Str}{k:Nat}{sp:Sp}
def zA.binds(F:zA K x qual st df f fd)(h:∀(kV i z:Value)(j:Option Addr)(cdv ct:Value)(us:List Value),us.length=ps.length->bindArgs (PySem.W.fnOf x qual (lN st) (kW st) (eG st) df kV i z j cdv ct) #[us,[]]=pure (ps.zip us)):nU K fd ps []:=by
 obtain⟨U,Z,kV,i,z,j,cdv,ct,G,rfl,b,p⟩:=F.ex;exact .all (h kV i z j cdv ct)
def zA.bindsD{T:Addr}{o:Obj}{n:Nat}(F:zA K x qual st (.ref T) f fd)(e:K.lookup T=some o)(hd:o.data=.seq items n)
  (h:∀(kV i z:Value)(j:Option Addr)(cdv ct:Value)(us:List Value),us.length=ps.length->∃k,bindArgs (PySem.W.fnOf x qual (lN st) (kW st) (eG st) (.ref T) kV i z j cdv ct) #[us,[]]=seqItems? (.ref T)>>=k/\k (some items)=pure (ps.zip us)):nU K fd ps []:=by
 obtain⟨U,Z,kV,i,z,j,cdv,ct,G,rfl,b,p⟩:=F.ex;intro s us A S;rw[cW]at S⊢;obtain⟨k,h1,h2⟩:=h kV i z j cdv ct us S;exact BindsTo.of_defaults rfl (A _ _ e) hd h1 h2
end
noncomputable abbrev Ir(h:Heap)(z TI TO:Addr)(T:Addr)(b:Bool):Prop:=
 h.get? z=some { cls:=.type "zip",dict:=none,data:=.fields (List.toArray [rawInt T,.bool b,.bool false,.ref TI,.ref TO]),slots:=(List.toArray []) }
section
variable{prog:Program}{w:World}{A:Around}{E:Value->Shared->Prop}{s:Shared}
def Rv{TI TO T:Addr}{b:Bool}{o:Obj}{Q:Bool->Shared->Prop}(hz:Ir s.heap z TI TO T b)(u:s.heap.get? T=some o)
  (h:∀Y,Ir Y z TI TO T true->Heap.SameBut z s.heap Y->Q false { s with heap:=Y }):wpAny (model prog w) A (Builtin.SmallTypes.ownedTupleIsFree (.ref z)) Q E s:=by
 unfold Builtin.SmallTypes.ownedTupleIsFree;refine aC (wpAny_field hz rfl (x:=rawInt T) rfl ?_);show wpAny _ _ (loadIfAlive (T:Int).toNat>>=_) _ _ _;refine aC (λd p c=>?_);unfold loadIfAlive;rw[Sem.wp_loadIfAlive,cA,u]
 revert d p c
 show wpAny _ _ (pure (some o)) _ _ _;refine aS ?_;show wpAny _ _ (field (.ref z) 1>>=_) _ _ _;refine aC (wpAny_field hz rfl (x:=.bool b) rfl ?_);cases b with
 |true=>
  rw[aF (by decide)];exact aC (aS (aS (h _ hz #[rfl,λ_ _=>rfl])))
 |false=>
  rw[aK (by decide)];exact aC (wpAny_setField_rec hz (by simp) λe g a=>aS (h e g a))
def jY4{TI TO S m l1 l2 T:Addr}{b:Bool}{o:Obj}{xs ys:Array Value}{x y:Value}(D:ZipApart z TI TO S m l1 l2)
  (hz:Ir s.heap z TI TO T b) (u:s.heap.get? T=some o) (d:IsPair s.heap TI (.ref S) (.ref m))
  (h1:s.heap.IsListIter S l1 k) (h2:s.heap.IsListIter m l2 k) (I:s.heap.IsList l1 xs) (M:s.heap.IsList l2 ys) (hx:xs[k]?=some x) (hy:ys[k]?=some y)
  (H:∀Y,Ir Y z TI TO T true->Y.IsListIter S l1 (k+1)->Y.IsListIter m l2 (k+1)->IsPair Y s.heap.objs.size x y->
   (∀c o,c≠z->c≠S->c≠m->s.heap.get? c=some o->Y.get? c=some o)->Q (some (.ref s.heap.objs.size)) { s with heap:=Y }):
  wpAny (model prog w) A (pyNext (.ref z)) Q E s:=by
 have p:s.TypeIs (.ref z) "zip":=#[_,hz,rfl];unfold pyNext;refine aC (wpAny_attempt (wpAny_callSpecial?_slot (name:=Str.ofString "__next__") p F.slot_zip_next (wpAny_call_entry F.slot_zip_next p F.entry_zip_next ?_ (F.args_zip_next_1 _))));show wpAny _ _ (field (.ref z) 2>>=_) _ _ _;refine aC (wpAny_field hz rfl (x:=.bool false) rfl ?_);show wpAny _ _ (field (.ref z) 3>>=_) _ _ _;refine aC (wpAny_field hz rfl (x:=.ref TI) rfl ?_);refine aC (wpAny_seqItems d rfl ?_);show wpAny _ _ (Builtin.SmallTypes.ownedTupleIsFree (.ref z)>>=_) _ _ _;refine aC (Rv hz u λv g a=>?_);simp only[Bool.false_eq_true,if_false];refine aC ?_;rw[←Array.forIn_toList];simp only[List.forIn_cons,List.forIn_nil];refine aC (aC (wpAny_holding ?_));show wpAny _ _ (Builtin.SmallTypes.nextOf (.ref S)>>=_) _ _ _;refine aC (wpAny_nextOf_list_item (h1.extBut a.extBut D.i1z) (I.extBut a.extBut D.l1z) hx λj n f=>aS (aS ?_));refine aC (aC (wpAny_holding ?_));show wpAny _ _ (Builtin.SmallTypes.nextOf (.ref m)>>=_) _ _ _;refine aC (wpAny_nextOf_list_item ((h2.extBut a.extBut D.i2z).extBut f.extBut D.i12.symm) ((M.extBut a.extBut D.l2z).extBut f.extBut D.l2i1) hy λl q h=>aS (aS (aS ?_)));show wpAny _ _ (newTuple [x,y]>>=_) _ _ _;refine aC (wpAny_newTuple (aS #[_,rfl,aS ?_]));have i:l.objs.size=s.heap.objs.size:=by rw[h.1,f.1,a.1]
 have r:=h.extBut _ _ D.i2z.symm (f.extBut _ _ D.i1z.symm g);show Q (some (.ref l.objs.size)) _;rw[i];refine H _ (bE _ r) ((n.extBut h.extBut D.i12).at λo e=>bE _ e) (q.at λo e=>bE _ e) (i▸bX _ rfl) λc o c1 N t e=>bE _ (h.extBut _ _ t (f.extBut _ _ N (a.extBut _ _ c1 e)))
def jVU{TI TO S m l1 l2 T:Addr}{b:Bool}{o:Obj}{xs:Array Value}(P:A.handled=none)(D:ZipApart z TI TO S m l1 l2)
  (hz:Ir s.heap z TI TO T b) (u:s.heap.get? T=some o) (d:IsPair s.heap TI (.ref S) (.ref m)) (h1:s.heap.IsListIter S l1 k) (I:s.heap.IsList l1 xs) (hx:xs[k]?=none)
  (H:∀Y,(∀c o,c≠z->c≠S->s.heap.get? c=some o->Y.get? c=some o)->Q none { s with heap:=Y }):wpAny (model prog w) A (pyNext (.ref z)) Q E s:=by
 have p:s.TypeIs (.ref z) "zip":=#[_,hz,rfl];unfold pyNext;refine aC (wpAny_attempt (wpAny_callSpecial?_slot (name:=Str.ofString "__next__") p F.slot_zip_next (wpAny_call_entry F.slot_zip_next p F.entry_zip_next ?_ (F.args_zip_next_1 _))));show wpAny _ _ (field (.ref z) 2>>=_) _ _ _;refine aC (wpAny_field hz rfl (x:=.bool false) rfl ?_);show wpAny _ _ (field (.ref z) 3>>=_) _ _ _;refine aC (wpAny_field hz rfl (x:=.ref TI) rfl ?_);refine aC (wpAny_seqItems d rfl ?_);show wpAny _ _ (Builtin.SmallTypes.ownedTupleIsFree (.ref z)>>=_) _ _ _;refine aC (Rv hz u λq g a=>?_);simp only[Bool.false_eq_true,if_false];refine aC ?_;rw[←Array.forIn_toList];simp only[List.forIn_cons,List.forIn_nil];refine aC (aC (wpAny_holding ?_));show wpAny _ _ (Builtin.SmallTypes.nextOf (.ref S)>>=_) _ _ _;refine aC (wpAny_nextOf_list_end P (h1.extBut a.extBut D.i1z) (I.extBut a.extBut D.l1z) hx λj e f l=>?_);obtain⟨n,h,i⟩:=l;refine aC (wpAny_isInstance (T:="StopIteration") (b:=true) #[n,h,i] isSubtype_stop ?_);exact aS (H _ λc o c1 t x=>f _ _ t (a.extBut _ _ c1 x))
end
section
variable{prog:Program}{w:World}{A:Around}{E:Value->Shared->Prop}{s:Shared}
def Xc:entryFor table "zip.__getattribute__"=some Builtin.«object.__getattribute__»:=
 entryFor_alias (id':="object.__getattribute__") (by kernel_rfl) (by decide+kernel) (by decide+kernel) (by kernel_rfl)
def jJ7:typeLookup (.type "zip") "keys"=pure none:=by rw[typeLookup_type,builtinLookup_eq_fast];kernel_rfl
def jJ8:typeLookup (.type "zip") "__getattr__"=pure none:=by rw[typeLookup_type,builtinLookup_eq_fast];kernel_rfl
def Zl(a:Addr)(fs:Array Value)(u:Tok):
  Meets (Builtin.«object.__getattribute__» #[[.ref a,.str "keys" u],[]]) (λA R s=>s.heap.get? a=some { cls:=.type "zip",dict:=none,data:=.fields fs,slots:=(List.toArray []) }/\raisesAttr (.ref a) "keys" A R s):=
 Meets.of_wp λprog w A R s hs=>by
  obtain⟨hp,g,d,tk,os⟩:=s;obtain⟨hx,hs⟩:=hs;have c:(#[hp,g,d,tk,os]:Shared).TypeIs (.ref a) "zip":=#[_,hx,rfl];have b:=jJ7;unfold Builtin.«object.__getattribute__»
  repeat(any_goals(first |assumption |wp_step))
  exact wpAny_raiseAttrError hs.1 hs.2 (attrMsg_fits (by decide+kernel) (by size_fits))
def jVV{fs:Array Value}(hx:s.heap.get? a=some { cls:=.type "zip",dict:=none,data:=.fields fs,slots:=(List.toArray []) })(c:A.handled=none)
  (h:∀Y tk,(∀b ob,s.heap.get? b=some ob->Y.get? b=some ob)->Q none { s with heap:=Y,toks:=tk }):wpAny (model prog w) A (getAttr? (.ref a) "keys") Q E s:=by
 obtain⟨hp,g,d,tk,os⟩:=s;have u:∀G,(#[hp,g,d,G,os]:Shared).TypeIs (.ref a) "zip":=λ_=>#[_,hx,rfl];have m:=sub_AttributeError;have y:=F.slot_zip_getattribute.lookup;have f:=F.slot_zip_getattribute.bind (.ref a);have i:=jJ8;unfold getAttr? getAttrBy? getAttrBy
 repeat(any_goals(first |assumption |exact u _ |((with_reducible show wpAny _ _ (call (Value.builtin "zip.__getattribute__") _ _) _ _ _);refine call_meets F.slot_zip_getattribute (u _) Xc (F.args_zip_getattribute_2 _ _) (Zl a fs _) #[hx,c,λY G e t=>?_])|wp_step))
 obtain⟨J,j,l⟩:=t.there;show wpAny _ _ (getattributeRaised _ _ _ _ _ _ _) _ _ _;unfold getattributeRaised
 repeat(any_goals(first |assumption |wp_step))
 exact h _ _ t.keeps
end
def Th:entryFor table "dict.update.loop"=some Builtin.«dict.update.loop»:=entryFor_of_tree (by kernel_rfl)
def Ca:plainId "dict.update.loop"=true:=by decide+kernel
structure ZS(N l1 l2 i:Nat)(h:Heap):Prop where
 ti:IsPair h (N+2) (.ref N) (.ref (N+1))
 h1:h.IsListIter N l1 i
 h2:h.IsListIter (N+1) l2 i
 z:(IsZip h (N+4) (N+2) (N+3) .none/\∃u v,IsPair h (N+3) u v)∨∃(T:Nat)(b:Bool)(o:Obj),Ir h (N+4) (N+2) (N+3) T b/\h.get? T=some o/\N+6<=T
section
variable{prog:Program}{w:World}{A:Around}{E:Value->Shared->Prop}{s:Shared}{N l1 l2 i:Nat}{xs ys:Array Value}
def ZS.keep{h':Heap}(Z:ZS N l1 l2 i h)(k:∀(c:Nat) o,c≠N+5->h.get? c=some o->h'.get? c=some o):ZS N l1 l2 i h':=by
 refine#[k _ _ #[] Z.ti,Z.h1.at λo e=>k _ o #[] e,Z.h2.at λo e=>k _ o #[] e,?_];rcases Z.z with⟨a,u,v,b⟩|⟨T,b,o,a,e,le⟩
 .exact .inl #[k _ _ #[] a,u,v,k _ _ #[] b]
 .exact .inr #[T,b,o,k _ _ #[] a,k _ _ #[] e,le]
def ZS.item{x y:Value}(t:l1<N)(d:l2<N)(Z:ZS N l1 l2 i s.heap)(O:N+5<s.heap.objs.size)(I:s.heap.IsList l1 xs)(M:s.heap.IsList l2 ys)(hx:xs[i]?=some x)(hy:ys[i]?=some y)
  (H:∀Y,ZS N l1 l2 (i+1) Y->IsPair Y s.heap.objs.size x y->(∀(c:Nat) o,c<N∨N+5<=c->s.heap.get? c=some o->Y.get? c=some o)->Q (some (.ref s.heap.objs.size)) { s with heap:=Y }):wpAny (model prog w) A (pyNext (.ref (N+4))) Q E s:=by
 have D:=Iu t d;rcases Z.z with⟨z,u,v,o⟩|⟨T,b,o,z,e,le⟩
 .refine wpAny_pyNext_zip_item D z Z.ti o Z.h1 Z.h2 I M hx hy λY G P l F f g kp=>H Y #[kp _ _ D.TIz D.TITO D.TIi1 D.TIi2 Z.ti,l,F,.inr #[_,_,_,G,f,O]] f λc o hc e=>kp c o ?_ ?_ ?_ ?_ e<;>(intro q;have p:(_:Nat)=_:=q;lia)
 .refine jY4 D z e Z.ti Z.h1 Z.h2 I M hx hy λY G l F f kp=>H Y #[kp _ _ D.TIz D.TIi1 D.TIi2 Z.ti,l,F,.inr #[_,_,_,G,kp _ _ ?_ ?_ ?_ e,le]] f λc o hc e=>kp c o ?_ ?_ ?_ e
  all_goals(intro q;have p:(_:Nat)=_:=q)
  all_goals lia
def ZS.stop(P:A.handled=none)(t:l1<N)(d:l2<N)(Z:ZS N l1 l2 i s.heap)(I:s.heap.IsList l1 xs)(M:s.heap.IsList l2 ys)(hx:xs[i]?=none)
  (H:∀Y,(∀(c:Nat) o,c<N∨N+5<=c->s.heap.get? c=some o->Y.get? c=some o)->Q none { s with heap:=Y }):wpAny (model prog w) A (pyNext (.ref (N+4))) Q E s:=by
 have D:=Iu t d;rcases Z.z with⟨z,u,v,o⟩|⟨T,b,o,z,e,le⟩
 .refine wpAny_pyNext_zip_end P D z Z.ti o Z.h1 Z.h2 I M (.inl hx) λY kp=>H Y λc o hc e=>kp c o ?_ ?_ ?_ ?_ e<;>(intro q;have p:(_:Nat)=_:=q;lia)
 .refine jVU P D z e Z.ti Z.h1 I hx λY kp=>H Y λc o hc e=>kp c o ?_ ?_ e<;>(intro q;have p:(_:Nat)=_:=q;lia)
end
section
variable{prog:Program}{w:World}{A:Around}{R:Result->Shared->Prop}{K:Type} [DecidableEq K]{knd:KeyKind prog w K}{s:Shared}{h0:Heap}{l1 l2:Nat}{xs ys:Array Value}{ps:List (List K×Addr×Value)}
def dz_loop(I:h0.IsList l1 xs)(M:h0.IsList l2 ys)(hx:∀(i:Nat)(p:List K×Addr×Value),ps[i]?=some p->xs[i]?=some (.ref p.2.1)/\ys[i]?=some p.2.2/\(tupleKind knd).is h0 p.1 p.2.1)(hn:xs.size=ps.length)(nd:(ps.map (·.1)).Nodup)(hz:ps.length<=sizeLine)(P:A.in1.handled=none)(hu:(tupleKind knd).room A.in1)
  (J:∀Y tk,(∀b o,h0.get? b=some o->Y.get? b=some o)->Y.DictOfH (tupleKind knd) (h0.objs.size+5) ps->R (.ok (.ret .none)) { s with heap:=Y,toks:=tk }):
  ∀(k i:Nat)(j:Int)(h:Heap)(tk:Nat),ps.length-i=k->i<=ps.length->ZS h0.objs.size l1 l2 i h->h0.objs.size+5<h.objs.size->(∀b o,h0.get? b=some o->h.get? b=some o)->h.DictOfH (tupleKind knd) (h0.objs.size+5) (ps.take i)->
   codeAny (model prog w) A (Code.builtin "dict.update.loop" #[[Value.ref (h0.objs.size+5),.ref (h0.objs.size+4),rawInt j,.none],[]]) R { s with heap:=h,toks:=tk }:=by
 have C:l1<h0.objs.size:=by obtain⟨o,e,_⟩:=I;exact bH e
 have F:l2<h0.objs.size:=by obtain⟨o,e,_⟩:=M;exact bH e
 intro k
 induction k with
 |zero=>
  intro i j h tk hk hi Z hs kp hd;have e:i=ps.length:=#[];subst e;refine codeAny_builtin Th ?_;rw[Around.under_plainId Ca _];show wpAny _ A.in1 (pyNext (Value.ref (h0.objs.size+4))>>=_) _ _ _;refine aC (Z.stop (s:={ s with heap:=h,toks:=tk }) P C F (I.at λo e=>kp _ o e) (M.at λo e=>kp _ o e) (by rw[Array.getElem?_eq_none #[]]) λY y=>?_);show wpAny _ A.in1 (Builtin.Dict.addKeywords (h0.objs.size+5) []>>=_) _ _ _;refine aC (aS (aS (J Y tk (λb o e=>y b o (.inl (bH e)) (kp b o e)) ?_)));rw[bY]at hd;obtain⟨o,N,Q,D,hc,v,he,O,H⟩:=hd;refine#[o,N,Q,y _ _ (.inr (aU _)) D,hc,v,he,λx t=>?_,H];obtain⟨m,hm⟩:=dA t;obtain⟨q,g,n,T,r⟩:=(hx m x hm).2.2;exact#[q,g,n,y _ _ (.inl (bH T)) (kp _ _ T),r]
 |succ k ih=>
  intro i j h tk hk hi Z hs kp hd;have f:i<ps.length:=#[];have hp:ps[i]?=some ps[i]:=aD f;obtain⟨G,B,k1⟩:=hx i _ hp;refine codeAny_builtin Th ?_;rw[Around.under_plainId Ca _];show wpAny _ A.in1 (pyNext (Value.ref (h0.objs.size+4))>>=_) _ _ _;refine aC (Z.item (s:={ s with heap:=h,toks:=tk }) C F hs (I.at λo e=>kp _ o e) (M.at λo e=>kp _ o e) G B λY X u y=>?_);have a:∀b o,h0.get? b=some o->Y.get? b=some o:=λb o e=>y b o (.inl (bH e)) (kp b o e);have S:h.objs.size<Y.objs.size:=bH u;have T1:Shared.TypeIs { s with heap:=Y,toks:=tk } (.ref h.objs.size) "tuple":=#[_,u,rfl];have d:Y.DictOfH (tupleKind knd) (h0.objs.size+5) (ps.take i):=by
   obtain⟨o,N,Q,D,hc,v,he,O,H⟩:=hd;refine#[o,N,Q,y _ _ (.inr (aU _)) D,hc,v,he,λx t=>?_,H];obtain⟨m,hm⟩:=dA (List.mem_of_mem_take t);obtain⟨q,g,n,T,r⟩:=(hx m x hm).2.2;exact#[q,g,n,a _ _ T,r]
  show wpAny _ A.in1 (holding [Value.ref h.objs.size] (tryCatch (Builtin.Dict.pairItems (.ref h.objs.size)) _>>=_)>>=_) _ _ _;refine aC (wpAny_holding (aC (wpAny_tryCatch ?_)));unfold Builtin.Dict.pairItems;refine aC (wpAny_typeOf T1 ?_);rw[aK (by decide)];refine aC (wpAny_seqItems u rfl (aS ?_));show wpAny _ A.in1 (holding [Value.ref ps[i].2.1,ps[i].2.2] (dictSet (h0.objs.size+5) (.ref ps[i].2.1) ps[i].2.2)) _ _ _;refine wpAny_holding (wpAny_dictSet_heap (s:={ s with heap:=Y,toks:=tk }) (hsz:=by rw[cN];lia) hu (let⟨q,g,n,T,r⟩:=k1;#[q,g,n,a _ _ T,r]) d λh2 z sb=>aS #[plainId_quiet Ca _,?_]);refine ih (i+1) _ h2 _ #[] f (X.keep λc o hc e=>sb.extBut _ _ hc e) (by rw[sb.1];exact Nat.lt_trans hs S) (λb o e=>sb.extBut _ _ (bR (cL (bH e) (jA _ _))) (a b o e)) ?_;have none:atKey (ps.take i) ps[i].1=none:=by
   refine atKey_none_of_get λm q hm=>?_;have U:m<i:=by have:=(aO.mp hm).1;rw[cN]at this;lia
   rw[List.getElem?_take_of_lt U]at hm;have e:m=i:=(List.getElem?_inj (l:=ps.map (·.1)) (by rw[aB];lia) nd).mp (by rw[aZ,aZ,hm,hp];rfl);lia
  rw[storedH_new none]at z;rw[List.take_add_one,hp];exact z
end
section
variable{prog:Program}{w:World}{A:Around}{E:Value->Shared->Prop}{K:Type} [DecidableEq K]{knd:KeyKind prog w K}{s:Shared}{l1 l2:Nat}{xs ys:Array Value}{ps:List (List K×Addr×Value)}
def dz_call{h0:Heap}{Q:Value->Shared->Prop}(hs:s.heap.objs.size=h0.objs.size+5)(Z:ZS h0.objs.size l1 l2 0 s.heap)(kp:∀b o,h0.get? b=some o->s.heap.get? b=some o)(I:h0.IsList l1 xs)(M:h0.IsList l2 ys)
  (hx:∀(i:Nat)(p:List K×Addr×Value),ps[i]?=some p->xs[i]?=some (.ref p.2.1)/\ys[i]?=some p.2.2/\(tupleKind knd).is h0 p.1 p.2.1) (hn:xs.size=ps.length) (nd:(ps.map (·.1)).Nodup) (hz:ps.length<=sizeLine) (P:A.handled=none) (hu:(tupleKind knd).room A.in1.in1)
  (h:∀Y tk,(∀b o,h0.get? b=some o->Y.get? b=some o)->Y.DictOfH (tupleKind knd) (h0.objs.size+5) ps->Q (.ref (h0.objs.size+5)) { s with heap:=Y,toks:=tk }):
  wpAny (model prog w) A (call (.type "dict") [.ref (h0.objs.size+4)]) Q E s:=by
 refine callType_codes (Q₁:=λobj J=>obj=.ref s.heap.objs.size/\J={ s with heap:=s.heap.push { cls:=.type "dict",data:=.dict (List.toArray []) } }) F.kt_called_dict (F.kt_typeCall_dict_1 _) F.entry_dict_init (kt_code_dict_new _ #[rfl,rfl]) ?_;rintro obj J ⟨rfl,rfl⟩;have d:(s.heap.push { cls:=.type "dict",data:=.dict (List.toArray []) }).get? s.heap.objs.size=some { cls:=.type "dict",data:=.dict (List.toArray []) }:=bX _ rfl;have m:Shared.TypeIs { s with heap:=s.heap.push { cls:=.type "dict",data:=.dict (List.toArray []) } } (.ref s.heap.objs.size) "dict":=#[_,d,rfl];have g:s.heap.get? (h0.objs.size+4)=some { cls:=.type "zip",dict:=none,data:=.fields (List.toArray [.none,.bool false,.bool false,.ref (h0.objs.size+2),.ref (h0.objs.size+3)]),slots:=(List.toArray []) }:=by
  rcases Z.z with⟨z,_⟩|⟨T,b,o,_,e,le⟩
  .exact z
  .have:T<s.heap.objs.size:=bH e;lia
 have f:(s.heap.push { cls:=.type "dict",data:=.dict (List.toArray []) }).get? (h0.objs.size+4)=_:=bE _ g;have n:Shared.TypeIs { s with heap:=s.heap.push { cls:=.type "dict",data:=.dict (List.toArray []) } } (.ref (h0.objs.size+4)) "zip":=#[_,f,rfl];refine#[m,F.args_dict_init_2 _ _,?_];unfold Builtin.«dict.__init__»;refine aC ?_;unfold Builtin.Dict.selfAndRest;refine aC (wpAny_notOrdered_dict m ?_);show wpAny _ _ (pure (s.heap.objs.size,[Value.ref (h0.objs.size+4)])) _ _ _;refine aS ?_;show wpAny _ _ (Builtin.Dict.updateFrom "dict.__init__" s.heap.objs.size (.ref (h0.objs.size+4)) [] .none) _ _ _;unfold Builtin.Dict.updateFrom;refine aC (wpAny_typeOf n ?_);rw[aK (by decide)];refine aC (jVV f P λY tk y=>?_);rw[aK (by rfl)];refine aC (wpAny_rule ?_);have a:∀b o,s.heap.get? b=some o->Y.get? b=some o:=λb o e=>y b o (bE _ e);refine aC (wpAny_pyIter_zip (a _ _ g) (aS #[plainId_quiet Ca _,?_]));rw[hs];rw[hs]at d;have j:=y _ _ d;refine dz_loop (A:=A.in1) (s:=s) I M hx hn nd hz P hu (λh2 k l hd=>?_) _ 0 0 Y tk rfl (eC _) (Z.keep λc o _ e=>a c o e) (bH j) (λb o e=>a b o (kp b o e)) #[_,_,_,j,#[rfl,rfl,rfl],rfl,rfl,(λx hx=>nomatch hx),List.nodup_nil]
 exact#[rfl,h h2 k l hd]
end
def tDZip(K:aQ)(t:TA):TE:=λZ H Q=>t Z H λvs U=>∃(a b:Addr)(ks:List (List Key))(I:List Addr)(ys:List V),vs=[.ref a,.ref b]/\SqL K U a (I.map V.ref)/\SqL K U b ys/\I.length=ks.length/\ks.length<=ys.length/\
 (∀(i:Nat) q k,I[i]?=some q->ks[i]?=some k->U q=some (.tup (k.map kV)))/\ks.Nodup/\∀p,U p=none->Q (.ref p) (upd U p (.dT (ks.zip ys)))
def kt_zip{H:Hp}:∀{ks:List (List Key)}{I:List Addr}{ys:List V}{us:List Value},I.length=ks.length->fL ys us->ks.length<=ys.length->(∀(i:Nat) q k,I[i]?=some q->ks[i]?=some k->H q=some (.tup (k.map kV)))->KT H (ks.zip ys) (ks.zip (I.zip us))
 | [],[],_,_,_,_,_,_=>.nil
 | [],_::_,_,_,h,_,_,_=>nomatch h
 |_::_,[],_,_,h,_,_,_=>nomatch h
 |_::_,_::_,_,_,_,.nil,h,_=>absurd h (Nat.not_succ_le_zero _)
 |k::ks,q::I,_,_,h1,.cons r rs,h2,h3=>.cons #[rfl,h3 0 q k rfl rfl,r] (kt_zip (Nat.succ.inj h1) rs (Nat.le_of_succ_le_succ h2) λi q k e1 C=>h3 (i+1) q k e1 C)
def jVQ{d c a:Type}{ks:List d}{I:List c}{us:List a}{p:d×c×a}(h:(ks.zip (I.zip us))[i]?=some p):ks[i]?=some p.1/\I[i]?=some p.2.1/\us[i]?=some p.2.2:=by
 rw[List.getElem?_zip_eq_some,List.getElem?_zip_eq_some]at h;exact h
section
variable{X:Cx}
def pe_dzip{a b:Expr}{t:TA}{p1 p2 a0 F:Pos}(hu:X.A.units+64<cLine)(a6:Gl X "dict")(a7:X.mg "dict"=none)(a8:Gl X "zip")(a9:X.mg "zip"=none)(hc:X.calm=true)(S:PA X [a,b] t)
  (a4:starEach [.Call (.Name "zip" p2) [a,b] [] F] X.env=[(false,eval (.Call (.Name "zip" p2) [a,b] [] F) X.env)]:=by rfl)
  (l:starEach (a:: [b]) X.env=(false,eval a X.env)::starEach [b] X.env:=by rfl) (hpl:(backTo F (starEach [b] X.env)).any (·.1)=false:=by rfl):
  PE X (.Call (.Name "dict" p1) [.Call (.Name "zip" p2) [a,b] [] F] [] a0) (tDZip X.K t):=by
 intro B s Z H Q I h;refine Call_ (pO I a6 a7 jYs (dQ (spliced_more ?_ (by rw[a4];rfl)) a4 rfl));refine Call_ (pO I a8 a9 bt_zip (dQ (thF (S F B s Z H _ I h) λk M j U O d q1=>?_) l hpl));obtain⟨l1,l2,ks,qs,v,m,T,hr,lq,ly,hk,nd,q⟩:=q1;subst m;cases d with
 |cons ra d=>
 cases d with
 |cons rb d=>
 cases d;cases ra;cases rb;obtain⟨G,rv,f,a5⟩:=O.list T;obtain⟨n,R,z,b5⟩:=O.list hr;have e1:=rv.length;have C:=R.length;rw[aB]at e1;refine call_zip_2 f.isList z.isList λg hz b0 b1 h1 h2 b2 kp=>spliced_none ?_;have kq:∀i q,qs[i]?=some q->G[i]?=some (Value.ref q):=λi q e=>by
  obtain⟨u,hu,ru⟩:=rv.get (i:=i) (x:=V.ref q) (by rw[aZ,e];rfl);cases ru;exact hu
 have lp:(ks.zip (qs.zip n)).length=ks.length:=by rw[List.length_zip,List.length_zip];lia
 refine dz_call (knd:=jP X.prog X.w) (h0:=M.heap) (s:={ M with heap:=g }) (l1:=l1) (l2:=l2) (xs:=G.toArray) (ys:=n.toArray) (ps:=ks.zip (qs.zip n)) b2 #[b0,h1,h2,.inl #[hz,_,_,b1]] kp f.isList z.isList (λi p hp=>?_) (by rw[bJ,lp];lia) ?_ (by rw[aB]at a5;lia) (O.ok.hd hc) (by show X.A.units+1+1<cLine;lia) λY tk y hd=>?_
 .obtain⟨a1,P,a3⟩:=jVQ hp;exact#[by simpa using kq i _ P,by simpa using a3,Ng O.hok (hk i _ _ P a1)]
 .rw[List.map_fst_zip (by rw[List.length_zip];lia)];exact nd
 .obtain⟨o,N,ep,D,b3,b4,r,b6,hn⟩:=hd;refine#[.ref _,_,O.laid (t':=tk) (o:=.dT (ks.zip v)) y (jA _ 5) #[by rw[List.length_zip];rw[aB]at a5;lia,?_,_,(kt_zip lq R ly hk).keeps λc J e=>?_,o,N,ep,D,b3,b4,r,hn],rfl,q _ (O.hok.fresh (jA _ 5))]
  .have:=O.big;exact beq_false_of_ne (Nat.ne_of_gt (cL this (jA _ 5)))
  .rw[cK (dW e (O.hok.fresh (jA _ 5)))];exact e
end
section
variable{prog:Program}{w:World}{A:Around}{E:Value->Shared->Prop}{s:Shared}
def jWw{U:Addr}{Z:Obj}(t:s.heap.IsKeyIter U d i es.size ep)(c:s.heap.get? d=some Z)(v:Z.data=.dict es ep)(f:i<es.size)
  (H:∀Y,Y.IsKeyIter U d (i+1) es.size ep->Heap.SameBut U s.heap Y->Q (some es[i].key) { s with heap:=Y }):wpAny (model prog w) A (pyNext (.ref U)) Q E s:=by
 obtain⟨o,D,hc,hd⟩:=id t;unfold pyNext;refine aC (wpAny_attempt (wpAny_callSpecial?_slot (name:=Str.ofString "__next__") t.typeIs F.slot_dict_keyiterator_next (wpAny_call_entry F.slot_dict_keyiterator_next t.typeIs F.entry_dict_keyiterator_next ?_ (F.args_dict_keyiterator_next_1 _))));refine aC (aS ?_);refine aC ?_;refine aC ?_;refine aC (wpAny_typeNameOfWhole_keyiter t.typeIs (aS ?_));refine aC (wpAny_fieldsOf D hd ?_);simp only[show Builtin.Dict_items.ownsTuple "dict_keyiterator"=false by decide,Bool.false_eq_true,if_false];show wpAny _ _ (if(Value.ref d==Value.none)=true then _ else _) _ _ s;rw[aF (λz=>by cases z)];refine aC (aS (aC (wpAny_dictEntries c v ?_)));rw[aF (by simp)];refine aC (aS (aC (wpAny_dictEpoch c v ?_)));rw[aF (by simp)];refine aS ?_;simp only[show ¬((i:Int)<0) by lia,if_false,cA,Array.getElem?_eq_getElem f];refine aC ?_;refine aC (wpAny_typeNameOfWhole_keyiter t.typeIs (aS (aC (wpAny_isOneOf_keyiter t.typeIs ?_))));show wpAny _ _ (setField (.ref U) 1 (rawInt ((i:Int)+1))>>=_) _ _ s;refine aC (wpAny_setField D hd (by simp) ?_);have l:(s.heap.update U (Obj.mapFields (·.setIfInBounds 1 (rawInt ((i:Int)+1))))).IsKeyIter U d (i+1) es.size ep:=#[_,Heap.get?_update_self _ D (Obj.isFreed_of_fields (Obj.data_mapFields hd _)),(Obj.cls_mapFields ..).trans hc,by rw[Obj.data_mapFields hd];simp [rawInt]];refine aC (wpAny_holding ?_);refine aC (wpAny_isOneOf_keyiter (s:={ s with heap:=s.heap.update U (Obj.mapFields (·.setIfInBounds 1 (rawInt ((i:Int)+1)))) }) l.typeIs ?_);show wpAny _ _ (pure es[i].key) _ _ _;exact aS (aS #[_,rfl,aS (H _ l (Heap.SameBut.update ..))])
def jWv{U:Addr}{Z:Obj}(P:A.handled=none)(t:s.heap.IsKeyIter U d i es.size ep)(c:s.heap.get? d=some Z)(v:Z.data=.dict es ep)(S:es.size<=i)
  (H:∀Y,Heap.ExtBut U s.heap Y->Q none { s with heap:=Y }):wpAny (model prog w) A (pyNext (.ref U)) Q E s:=by
 obtain⟨o,D,hc,hd⟩:=id t;unfold pyNext;refine aC (wpAny_attempt (wpAny_callSpecial?_slot (name:=Str.ofString "__next__") t.typeIs F.slot_dict_keyiterator_next (wpAny_call_entry F.slot_dict_keyiterator_next t.typeIs F.entry_dict_keyiterator_next ?_ (F.args_dict_keyiterator_next_1 _))));refine aC (aS ?_);refine aC ?_;refine aC ?_;refine aC (wpAny_typeNameOfWhole_keyiter t.typeIs (aS ?_));refine aC (wpAny_fieldsOf D hd ?_);simp only[show Builtin.Dict_items.ownsTuple "dict_keyiterator"=false by decide,Bool.false_eq_true,if_false];show wpAny _ _ (if(Value.ref d==Value.none)=true then _ else _) _ _ s;rw[aF (λz=>by cases z)];refine aC (aS (aC (wpAny_dictEntries c v ?_)));rw[aF (by simp)];refine aC (aS (aC (wpAny_dictEpoch c v ?_)));rw[aF (by simp)];refine aS ?_;simp only[show ¬((i:Int)<0) by lia,if_false,cA,Array.getElem?_eq_none S];refine aC ?_;refine aC (wpAny_typeNameOfWhole_keyiter t.typeIs (aS ?_));show wpAny _ _ (setField (.ref U) 0 .none>>=_) _ _ s;refine aC (wpAny_setField D hd (by simp) ?_);show wpAny _ _ (newExc (.type "StopIteration") []>>=_) _ _ _;refine aC ?_;simp only[newExc,newTuple];refine aC (wpAny_newObj_type ?_ (by size_fits));refine aC (m:=firstArgMember _ _) (wpAny_of_eq (a:=Value.none) (by first |rfl |(simp only[firstArgMember];rfl)) (wpAny_newObj_type ?_ (by size_fits)))
 simp only[raiseNew];refine aC (wpAny_handled ?_);rw[show A.in1.handled=none from P];refine aC (aS (wpAny_throw ?_));refine aC (wpAny_isInstance (T:="StopIteration") (b:=true) #[_,bX _ rfl,rfl] isSubtype_stop ?_);exact aS (H _ (((Heap.SameBut.update ..).extBut.push _).push _))
end
def Wc{w:World}(hok:HOk P w H h)(e:Rd H a (.dT kvs)):
  ∃ob N Q,h.get? a=some ob/\ob.cls=.type "dict"/\ob.data=.dict N Q/\N.size=kvs.length/\kvs.length<=sizeLine/\(a==sysModules)=false/\∀(i:Nat) e M,N[i]?=some e->kvs[i]?=some M->∃q,e.key=.ref q/\H q=some (.tup (M.1.map kV)):=by
 have X:iR P w H h a (.dT kvs):=by
  rcases e with e |⟨o,e⟩
  .exact hok a _ e
  .exact(hok a _ e).2
 obtain⟨hz,ns,F,G,ob,N,Q,p,hc,j,r,_⟩:=X;refine#[ob,N,Q,p,hc.1,j,by rw[show kvs.length=F.length from Paired.length G,←Array.length_toList,r,aB],hz,ns,λi e M l hk=>?_];obtain⟨q,T,_,h2,_⟩:=KT.at G i M hk;have C:N.toList[i]?=some e:=by rw[Array.getElem?_toList];exact l
 rw[r,aZ,T]at C;cases C;exact#[q.2.1,rfl,h2]
def Itk(d:Addr)(ob:Obj)(kvs:List (List Key×V)):It:=
 #[λi H=>i<kvs.length/\H d=some (.frz ob (.dT kvs)),λi H v O=>∃I M,v=.ref I/\kvs[i]?=some M/\H I=some (.tup (M.1.map kV))/\O=H,λi H=>kvs.length<=i/\H d=some (.frz ob (.dT kvs))]
def jY6{w:World}{n:Pos}{U:Addr}(p:ob.data=.dict es ep):
  Um P w K (.Name x n) (Itk d ob kvs) [U] U (λi h=>h.IsKeyIter U d i es.size ep) where
 mem:=by simp
 obj:=λi h#[o,e,_,C] c hc=>by
  have q:c=U:=by simpa using hc
  subst q;exact#[o,e,λv z=>by rw[C]at z;cases z]
 keep:=λi h Y st kp=>st.at λo e=>kp U (by simp) o e
 item:=by
  intro X a hw A hc i B s Z H E I hf st ⟨hlt,hd⟩;subst a hw A;obtain⟨u,f,y,h1,_,R,O,_,_,key⟩:=Wc I.hok (.inr #[ob,hd]);have m:=(I.hok d _ hd).1;rw[m]at h1;cases h1;rw[p]at R;cases R;have N:kvs[i]?=some kvs[i]:=aD hlt;have J:i<es.size:=#[];obtain⟨q,T,l⟩:=key i _ _ (Array.getElem?_eq_getElem J) N;refine jWw st m p J λg t sb=>#[_,rfl,?_];rw[T];refine letGo_keyiter t ?_;refine#[.ref q,H,I.turnedL (t':=s.toks) (ch:=[U]) (λc o hb z=>(sb.2 c (by simpa using hb)).trans z) hf,rfl,#[q,_,rfl,N,l,rfl],t,λc hb=>(hf c hb).1]
 done:=by
  intro X a hw A hc i B s Z H E I hf st ⟨hge,hd⟩;subst a hw A;obtain⟨u,f,y,h1,_,R,O,_,_,_⟩:=Wc I.hok (.inr #[ob,hd]);have m:=(I.hok d _ hd).1;rw[m]at h1;cases h1;rw[p]at R;cases R;exact jWv (I.ok.hd hc) st m p #[] λg M=>#[rfl,I.turnedL (t':=s.toks) (ch:=[U]) (λc o hb z=>M c o (by simpa using hb) z) hf]
 self:=λ_ _ _ _ _ st h=>wpAny_pyIter_keyiter st h
def jUY{D:vH}{Z:St}(d:Nat->St->Hp->Prop)(h0:d 0 Z H)(S:∀i Z H,i<=kvs.length->d i Z H->H a=some (.frz ob (.dT kvs)))
  (hs:∀i M I Z H,kvs[i]?=some M->d i Z H->H I=some (.tup (M.1.map kV))->g (.ref I) Z H λc j=>tb { D with nx:=d (i+1),ct:=d (i+1),bk:=D.nx } c j) (hd:∀Z H,d kvs.length Z H->D.nx Z H):
  ∃W:Nat->Nat->St->Hp->Prop,(∃m,W 0 m Z H)/\∀i m Z H,W i m Z H->
   ((Itk a ob kvs).stop i H/\D.nx Z H)∨((Itk a ob kvs).go i H/\∃N:St->Hp->Prop,(∀F O,N F O->∃k,k<m/\W (i+1) k F O)/\∀x O,(Itk a ob kvs).yld i H x O->g x Z O λc j=>tb { D with nx:=N,ct:=N,bk:=D.nx } c j):=by
 refine#[λi m Z H=>m=kvs.length-i/\i<=kvs.length/\d i Z H,#[kvs.length,by simp,eC _,h0],?_];rintro i m Z H ⟨rfl,hi,p⟩;have q:=S i Z H hi p;by_cases f:i<kvs.length
 .refine .inr #[#[f,q],d (i+1),λF O o=>#[kvs.length-(i+1),#[],rfl,f,o],λx O y=>?_];obtain⟨I,M,e1,T,l,n⟩:=y;subst e1 n;exact hs i M I Z _ T p l
 .have e:i=kvs.length:=#[];subst e;exact .inl #[#[aU _,q],hd Z H p]
section
variable{X:Cx}
noncomputable def cIsD:List V->Hp->VK->Prop:=λxs H Q=>∃p kvs,xs=[.ref p,.ty "dict"]/\H p=some (.dT kvs)/\Q (.bl true) H
def kit_dd(K:aQ):PySem.W.kitOne K (.type "dict") (.type "dict")=some true:=by rfl
def jUf:qA X (.builtin "isinstance") cIsD:=by
 rintro B s Z H F k Q I r ⟨p,J,rfl,hp,q⟩;obtain⟨u,c,rfl,N,a⟩:=Mt r;obtain rfl:c=Value.type "dict":=a;exact oA I N (.dT hp) (kit_dd _) λtk=>#[.bl true,H,I.tok _,rfl,q]
end
section
variable{prog:Program}{w:World}{A:Around}{E:Value->Shared->Prop}{s:Shared}
def Xa(hd:(d==sysModules)=false):MeetsIn prog w (Builtin.«dict.keys» #[[.ref d],[]]) (λ_ R s=>s.TypeIs (.ref d) "dict"/\R (.ok (.ret (.ref s.heap.objs.size))) { s with heap:=s.heap.push { cls:=.type "dict_keys",data:=.fields (List.toArray [.ref d]) } }):=
 .of_wp λA R s#[u,h]=>by
  unfold Builtin.«dict.keys»;refine aC ?_;unfold Builtin.Dict.noArgs;refine aC (wpAny_notOrdered_dict u ?_);show wpAny _ _ (pure d) _ _ s;refine aS ?_;show wpAny _ _ (Builtin.Dict.showsAll d>>=_) _ _ s;unfold Builtin.Dict.showsAll;rw[hd,aF (by simp)];refine aC (aS ?_);exact aC (wpAny_newObj_type (aS #[_,rfl,h]))
def jXJ{v:Addr}{Z:Obj}{Q:Value->Shared->Prop}(hv:PySem.W.KdlKeysView s.heap v d)(D:s.heap.get? d=some Z)(j:Z.data=.dict es ep)
  (H:Q (.ref s.heap.objs.size) { s with heap:=s.heap.push { cls:=.type "dict_keyiterator",data:=.fields (List.toArray [.ref d,.int 0 0,.int es.size 0,.int ep 0]) } }):wpAny (model prog w) A (pyIter (.ref v)) Q E s:=by
 obtain⟨J,a,c,b⟩:=id hv;refine wpAny_pyIter_slot hv.typeIs PySem.W.kdl_slot_keys_iter (wpAny_call_entry PySem.W.kdl_slot_keys_iter hv.typeIs PySem.W.kdl_entry_keys_iter ?_ (PySem.W.kdl_args_keys_iter _));unfold Builtin.«dict_keys.__iter__»;refine aC (aS ?_);refine aC ?_;unfold Builtin.Dict_items.dictOf;refine aC (wpAny_field a b (x:=.ref d) rfl (aS ?_));refine aC ?_;unfold Builtin.Dict_items.newIterator;refine aC (wpAny_dictEntries D j (aC (wpAny_dictEpoch D j ?_)));simp only[show Builtin.Dict_items.ownsTuple "dict_keyiterator"=false by decide,Bool.false_eq_true,if_false];refine wpAny_newObj_type (aS #[_,rfl,"dict_keyiterator",_,#[_,bX _ rfl,rfl],F.slot_dict_keyiterator_next.lookup,?_]);simpa [rawInt]using H
end
def jJz(q:TE):TI:=λZ H R=>q Z H λx U=>∃a kvs,x=.ref a/\U a=some (.dT kvs)/\∀ob,R (Itk a ob kvs) (upd U a (.frz ob (.dT kvs)))
section
variable{X:Cx}
def jVr{n:Pos}{o:Expr}{q:TE}{w y:Pos}(D:PE X o q)
  (f:attributeBase o "keys" X.env (eval o X.env)=eval o X.env:=by rfl) (i:(w.endLine==y.line)=true:=by rfl):PI X (.Name x n) (.Call (.Attribute o "keys" w) [] [] y) (jJz q):=by
 intro B s Z H R I h;refine wpAny_Call_method0_late f i (thE (D B s Z H _ I h) λv M x U O d w=>?_);obtain⟨a,J,m,hd,q1⟩:=w;subst m;cases d;obtain⟨P,A,ns⟩:=isD_at O (.inr #[J,.inl hd]);refine#["dict",_,PySem.F.plainAttrs_dict,PySem.F.slot_dict_keys,PySem.F.type_dict_keys,P,A,Calls.callWith_builtin rfl (PySem.evalArgs_none ?_)];refine call_meetsIn PySem.F.slot_dict_keys P PySem.F.entry_dict_keys (PySem.F.args_dict_keys_1 _) (Xa ns) #[P,?_];show wpAny _ _ (pyIter (.ref M.heap.objs.size)) _ _ _;have t:Inv X B Z U { M with heap:=M.heap.push { cls:=.type "dict_keys",data:=.fields (List.toArray [.ref a]) },toks:=M.toks }:=O.kept λb o e=>bE _ e;obtain⟨ob,N,Q,p,_,j,_⟩:=Wc t.hok (a:=a) (kvs:=J) (.inl hd);refine jXJ (es:=N) (ep:=Q) #[_,bX _ rfl,rfl,rfl] p j ?_;generalize hg:M.heap.push { cls:=.type "dict_keys",data:=.fields (List.toArray [.ref a]) }=g at t p⊢;have k:Inv X B Z U { M with heap:=g.push { cls:=.type "dict_keyiterator",data:=.fields (List.toArray [.ref a,.int 0 0,.int N.size 0,.int Q 0]) },toks:=M.toks }:=t.kept λb o e=>bE _ e;obtain⟨u,K,S⟩:=k.freeze hd;have l:u=ob:=aW (K.symm.trans (bE _ p));subst l;refine#[g.objs.size,[g.objs.size],_,Itk a u J,_,rfl,S,jY6 j,#[_,bX _ rfl,rfl,rfl],λc hc=>?_,q1 u];have z:c=g.objs.size:=by simpa using hc
 subst z;exact t.fpOk (aU _) (by rw[cK (Nat.ne_of_gt (bH p))];exact t.hok.fresh (aU _))
end
def bt_str:bootBuiltins "str"=some (.type "str"):=by decide+kernel
def Vq(K:aQ)(n:Nat):R2:=λx y H Q=>∃p xs f,y=.ref p/\SqL K H p xs/\(∀z∈xs,DEq K H n z x (f z))/\Q (.bl (!xs.any f)) H
def Za{f:V->Bool}:∀{xs:List V}{us:List Value},fL xs us->us.any (λu=>((absV u).map f).getD false)=xs.any f
 |_,_,.nil=>rfl
 |y::xs,u::us,.cons r t=>by
  rw[List.any_cons,List.any_cons,Za t,r.abs];rfl
section
variable{X:Cx}
def jWj(n:Nat)(hu:X.A.units+(n+1)<cLine):OpR X (compareOp .NotIn) (Vq X.K n):=by
 rintro B s Z H x y v u Q I R m ⟨p,F,f,rfl,T,hd,q⟩;cases m;obtain⟨G,r,a,hz⟩:=I.list T;refine SeqAt.notIn_listAt (λu=>((absV u).map f).getD false) a.isList (λw hw=>?_) #[.bl _,H,I,rfl,?_]
 .have hw:w∈G:=by simpa using hw
  obtain⟨i,hi⟩:=dA hw;have hx:i<F.length:=by rw[r.length];exact(aO.mp hi).1
  obtain⟨u,e,N⟩:=r.get (i:=i) (x:=F[i]) (aD hx);rw[hi]at e;obtain rfl:=aW e;rw[N.abs];exact Cc I n X.A.in1 (by show X.A.units+1+n<cLine;lia) _ _ _ _ _ N R (hd _ (cJ hx))
 .rw[show G.toArray.any (λu=>((absV u).map f).getD false)=G.any (λu=>((absV u).map f).getD false) by simp,Za r];exact q
noncomputable def cIsS:List V->Hp->VK->Prop:=λxs H Q=>∃y,xs=[.str y,.ty "str"]/\Q (.bl true) H
def kit_ss(K:aQ):PySem.W.kitOne K (.type "str") (.type "str")=some true:=by rfl
def jUe:qA X (.builtin "isinstance") cIsS:=by
 rintro B s Z H F k Q I r ⟨y,rfl,q⟩;obtain⟨u,c,rfl,N,a⟩:=Mt r;obtain rfl:c=Value.type "str":=a;exact oA I N (.str y) (kit_ss _) λtk=>#[.bl true,H,I.tok _,rfl,q]
end
noncomputable def mF(st:Stmt):List Str:=(lN st).args.map (·.arg)
noncomputable def yY(N:List Str)(caps:List Nat):List Str:=caps.filterMap λi=>N[i]?
structure Rm(X:Cx)(k:Nat)(N:List Str)(st:Stmt):Prop where
 r:mN k X.A
 nd:N.Nodup
 sc:X.env.scope=eG st
 nn:X.N=N
 calm:X.calm=true
structure Ok(P:Program)(w:World)(K:aQ)(mg:Str->Option Value)(base:Heap)(CX:CXT)(k:Nat)(x:Str)(sp:Sp):Prop where
 ex:∃f fd ps,zH P w K mg base CX k f fd ps sp/\mg x=some (.ref f)/\PySem.W.keepIn K (.ref f)=true/\nU K fd ps []
structure OkM(P:Program)(w:World)(K:aQ)(mg:Str->Option Value)(base:Heap)(CX:CXT)(k:Nat)(C:Addr)(m:Str)(sp:Sp):Prop where
 ex:∃f fd ps,zH P w K mg base CX k f fd ps sp/\Meth K C m f/\nU K fd ps []
structure Df(K:aQ)(mg:Str->Option Value)(x:Str)(st:Stmt):Prop where
 ex:∃df f fd,zA K x x st df f fd/\nU K fd (mF st) []/\mg x=some (.ref f)
structure Mf(K:aQ)(c m q:Str)(st:Stmt):Prop where
 ex:∃f fd,zA K m q st .none f fd/\nU K fd (mF st) []/\Meth K (eI K c) m f
section
variable{P:Program}{w:World}{K:aQ}{mg:Str->Option Value}{base:Heap}{x qual:Str}{st:Stmt}{df:Value}{f:Addr}{fd:FuncData}{N ps:List Str}{k:Nat}{sp:Sp}
def zA.ok0(F:zA K x qual st df f fd)(S:vR N ps (eG st))(len:∀vs H Q E,sp vs H Q E->vs.length=ps.length)
  (C:∀(cdv:Value)(A:Around)(outer:List Env)(s:Shared)(H:Hp)(vs:List V)(Q:VK)(E:XK),mN k (A.deeper (envOfC qual (eG st) s.heap.objs.size f cdv))->sp vs H Q E->
   ∃t,PSs (Xg CX0 P w K mg base N qual (eG st) f cdv A outer s H E).nox (kW st) t/\t { nx:=λ_ O=>Q .non O,rt:=Q } (start N vs) H):zH P w K mg base CX0 (k+1) f fd ps sp:=by
 obtain⟨U,Z,kV,i,z,j,cdv,ct,G,rfl,b,p⟩:=F.ex;refine fn_of b p S len λA outer s H vs Q E hr B=>?_;obtain⟨t,h,q⟩:=C cdv A outer s H vs Q E hr B;exact#[t,h.nox,q]
noncomputable abbrev Bd0(P:Program)(w:World)(K:aQ)(mg:Str->Option Value)(base:Heap)(N:List Str)(qual:Str)(st:Stmt)(k:Nat)(sp:Sp):Prop:=
 ∀{f:Addr}{cdv:Value}{A:Around}{outer:List Env}{s:Shared}{H:Hp}{vs:List V}{Q:VK}{E:XK},Rm (Xg CX0 P w K mg base N qual (eG st) f cdv A outer s H E).nox k N st->sp vs H Q E->
  ∃t:TS,t { nx:=λ_ O=>Q .non O,rt:=Q } (start N vs) H/\PSs (Xg CX0 P w K mg base N qual (eG st) f cdv A outer s H E).nox (kW st) t
def Df.ok(D:Df K mg x st)(b:Bd0 P w K mg base N x st k sp)(len:∀{j H Q E},sp j H Q E->j.length=(mF st).length:=by intro _ _ _ _ h;repeat(first |(obtain⟨rfl,_⟩:=h;rfl)|obtain⟨_,h⟩:=h))
  (S:vR N (mF st) (eG st):=by exact#[rfl,rfl,rfl,by decide+kernel,rfl,by decide+kernel,by decide+kernel]):Ok P w K mg base CX0 (k+1) x sp:=
 let⟨_,f,fd,F,hb,hm⟩:=D.ex
 #[f,fd,_,F.ok0 S (λ_ _ _ _ h=>len h) λa A outer s H j Q E hr h=>let⟨t,q,p⟩:=b (f:=f) (cdv:=a) (outer:=outer) #[hr,S.nd,rfl,rfl,rfl] h;#[t,p,q],hm,F.kp,hb]
def zA.fn(F:zA K x x st df f fd)(b:Bd0 P w K mg base N x st k sp)(len:∀{j H Q E},sp j H Q E->j.length=(mF st).length:=by intro _ _ _ _ h;repeat(first |(obtain⟨rfl,_⟩:=h;rfl)|obtain⟨_,h⟩:=h))
  (S:vR N (mF st) (eG st):=by exact#[rfl,rfl,rfl,by decide+kernel,rfl,by decide+kernel,by decide+kernel]):zH P w K mg base CX0 (k+1) f fd (mF st) sp:=
 F.ok0 S (λ_ _ _ _ h=>len h) λa A outer s H j Q E hr h=>let⟨t,q,p⟩:=b (f:=f) (cdv:=a) (outer:=outer) #[hr,S.nd,rfl,rfl,rfl] h;#[t,p,q]
def Mf.ok{c m:Str}(D:Mf K c m qual st)(b:Bd0 P w K mg base N qual st k sp)(len:∀{j H Q E},sp j H Q E->j.length=(mF st).length:=by intro _ _ _ _ h;repeat(first |(obtain⟨rfl,_⟩:=h;rfl)|obtain⟨_,h⟩:=h))
  (S:vR N (mF st) (eG st):=by exact#[rfl,rfl,rfl,by decide+kernel,rfl,by decide+kernel,by decide+kernel]):OkM P w K mg base CX0 (k+1) (eI K c) m sp:=
 let⟨f,fd,F,hb,hm⟩:=D.ex
 #[f,fd,_,F.ok0 S (λ_ _ _ _ h=>len h) λa A outer s H j Q E hr h=>let⟨t,q,p⟩:=b (f:=f) (cdv:=a) (outer:=outer) #[hr,S.nd,rfl,rfl,rfl] h;#[t,p,q],hm,hb]
end
section
variable{X:Cx}{k j:Nat}{C:Addr}{sp:Sp}{E:XK}{x m c:Str}{p pos apos:Pos}{e o:Expr}{es:List Expr}{ta:TE}{t:TA}
def c0(F:Ok X.prog X.w X.K X.mg X.base CX0 k x sp)(hr:mN j X.A)(ha:PA X (e::es) t)(hk:k<=j:=by decide)(hg:Gl X x:=by rfl)(a:(x==("__debug__":Str))=false:=by decide)(l:starEach (e::es) X.env=(false,eval e X.env)::starEach es X.env:=by rfl)(hpl:(backTo pos (starEach es X.env)).any (·.1)=false:=by rfl):
  PE X (.Call (.Name x p) (e::es) [] pos) (cD sp [] E0 t):=
 let⟨_,_,_,F,hm,hp,hb⟩:=F.ex
 jX1 F (hr.mono hk) hg hm hp hb .nil Xm ha a l hpl
def m1{pl:Sem Bool}(l:PE X o ta)(c:Cls X.K C)(F:OkM X.prog X.w X.K X.mg X.base CX0 k C m sp)(hr:mN j X.A)(ha:PA X (e::es) t)(hk:k<=j:=by decide)
  (d:starEach (e::es) X.env=(false,eval e X.env)::starEach es X.env:=by rfl) (hpl:(backTo pos (starEach es X.env)).any (·.1)=false:=by rfl)
  (y:eval (.Call (.Attribute o m apos) (e::es) [] pos) X.env=(do
   let J ←eval o X.env
   standAt apos.atName
   let(f,first) ←holding [J] (getMethod J m pl)
   callWith pos f first (backTo pos (starEach (e::es) X.env)) (backToKw pos (keywordEach [] X.env))):=by rfl):
  PE X (.Call (.Attribute o m apos) (e::es) [] pos) (fN C m sp [] E0 ta t):=
 let⟨_,_,_,F,hm,hb⟩:=F.ex
 pe_meth l c hm F (hr.mono hk) hb .nil Xm ha d hpl y
def m0{pl:Sem Bool}(l:PE X o ta)(c:Cls X.K C)(F:OkM X.prog X.w X.K X.mg X.base CX0 k C m sp)(hr:mN j X.A)(hk:k<=j:=by decide)
  (y:eval (.Call (.Attribute o m apos) [] [] pos) X.env=(do
   let J ←eval o X.env
   standAt apos.atName
   let(f,first) ←holding [J] (getMethod J m pl)
   callWith pos f first (backTo pos (starEach [] X.env)) (backToKw pos (keywordEach [] X.env))):=by rfl):
  PE X (.Call (.Attribute o m apos) [] [] pos) (fN C m sp [] E0 ta bG):=
 let⟨_,_,_,F,hm,hb⟩:=F.ex
 jVs l c hm F (hr.mono hk) hb .nil Xm y
def mk0(M:PySem.W.makesIn X.K C=true/\PySem.W.keepIn X.K (.ref C)=true)(F:OkM X.prog X.w X.K X.mg X.base CX0 k C "__init__" sp)(hr:mN j X.A)(hm:X.mg x=some (.ref C))(ha:PA X (e::es) t)(hk:k+1<=j:=by decide)(hg:Gl X x:=by rfl)(a:(x==("__debug__":Str))=false:=by decide)
  (l:starEach (e::es) X.env=(false,eval e X.env)::starEach es X.env:=by rfl) (hpl:(backTo pos (starEach es X.env)).any (·.1)=false:=by rfl):PE X (.Call (.Name x p) (e::es) [] pos) (Cm C sp [] E0 t):=
 let⟨_,_,_,F,hi,hb⟩:=F.ex
 pe_make #[M.1,hi.at_,hi.fn,M.2] F (hr.mono hk) hg hm hb .nil Xm ha a l hpl
end
section
variable{X:Cx}{k:Nat}{N:List Str}{st:Stmt}{i j:Nat}{x y:Str}{px py pos tp:Pos}{iter e elt tst:Expr}{body:List Stmt}{scope:Scope}{caps:List Nat}{te:TE}{tt:TT}{wi:TI}{tb:TS}
def sA(R:Rm X k N st)(l:PE X e te)(hi:N[i]?=some x:=by rfl)(hx:Loc (eG st) x:=by first |exact .inl rfl |exact .inr rfl)(hs:swapsWith e (some (.Name x px)) pos.line X.env=pure false:=by rfl)(hf:X.fn x=true∨X.env.scope.names.lookup x=some .local:=by first |exact .inl rfl |exact .inr rfl):
  PS X (.Assign [.Name x px] e pos) (cS te (bA i)):=ps_set (by rw[R.nn];exact R.nd) (by rw[R.nn];exact hi) (by rw[R.sc];exact hx) l hs hf
def gN(R:Rm X k N st)(hi:N[i]?=some x:=by rfl)(hx:Loc (eG st) x:=by first |exact .inl rfl |exact .inr rfl)(hf:X.fn x=true∨X.env.scope.names.lookup x=some .local:=by first |exact .inl rfl |exact .inr rfl):PG X (.Name x px) (bA i):=
 jX0 (by rw[R.nn];exact R.nd) (by rw[R.nn];exact hi) (by rw[R.sc];exact hx) hf
def gN2{n:Nat}(R:Rm X k N st)(hi:N[i]?=some x:=by rfl)(hx:Loc (eG st) x:=by first |exact .inl rfl |exact .inr rfl)(hf:X.fn x=true∨X.env.scope.names.lookup x=some .local:=by first |exact .inl rfl |exact .inr rfl)
  (A:N[j]?=some y:=by rfl) (hy:Loc (eG st) y:=by first |exact .inl rfl |exact .inr rfl) (hg:X.fn y=true∨X.env.scope.names.lookup y=some .local:=by first |exact .inl rfl |exact .inr rfl)
  (d:(assignEach [.Name x px,.Name y py] X.env).findIdx? (·.1)=none:=by rfl):PG X (.Tuple [.Name x px,.Name y py] n tp) (jV X.K 2 (eL (bA i) (eL (bA j) jW))):=
 jJt (n:=2) R.calm (tX (gN R hi hx hf) (tX (gN R A hy hg) Vs)) rfl d
def fA{r:Expr}(R:Rm X k N st)(hi:PI X r iter wi)(hg:PG X r g)(hb:PSs X body tb)(hp:PassesOwn (model X.prog X.w) X.A X.env X.xe:=by first |exact PassesOwn.never |exact PassesOwn.leaving)(hs:∀x,foldedSetIterable iter X.env x=pure x:=by intro _;rfl):
  PS X (.For r iter body [] pos) (gD wi g tb):=ps_for hp R.calm hi hg hb hs
def wA{c:Expr}{m:TT}(hc:PT X c m)(hb:PSs X body tb)(hp:PassesOwn (model X.prog X.w) X.A X.env X.xe:=by first |exact PassesOwn.never |exact PassesOwn.leaving):PS X (.While c body [] pos) (zO m tb):=jVp hp hc hb
def kA(R:Rm X k N st)(hi:PI X (.Name x px) iter wi)(l:∀s H ex pn,PE (fQ X scope (x::yY N caps) s H ex pn) elt te)(hs:∀v,foldedSetIterable iter X.env v=pure v:=by intro _;rfl)
  (S:sY (eG st) scope N x (yY N caps) caps:=by exact#[by decide+kernel,rfl,by decide+kernel,rfl,by decide+kernel,rfl,by decide+kernel,rfl,by decide+kernel]):PE X (.ListComp elt [#[.Name x px,iter,[],0]] scope pos) (dL wi caps te):=
 pe_comp S R.sc R.nn R.calm hi l hs
def sK(R:Rm X k N st)(hi:PI X (.Name x px) iter wi)(l:∀s H ex pn,PE (fQ X scope (x::yY N caps) s H ex pn) elt te)(hs:∀v,foldedSetIterable iter X.env v=pure v:=by intro _;rfl)
  (S:sY (eG st) scope N x (yY N caps) caps:=by exact#[by decide+kernel,rfl,by decide+kernel,rfl,by decide+kernel,rfl,by decide+kernel,rfl,by decide+kernel]) (A:N[j]?=some y:=by rfl) (hy:Loc (eG st) y:=by first |exact .inl rfl |exact .inr rfl)
  (c:swapsWith (.ListComp elt [#[.Name x px,iter,[],0]] scope pos) (some (.Name y py)) tp.line X.env=pure true:=by rfl) (hf:X.fn y=true∨X.env.scope.names.lookup y=some .local:=by first |exact .inl rfl |exact .inr rfl):
  PS X (.Assign [.Name y py] (.ListComp elt [#[.Name x px,iter,[],0]] scope pos) tp) (cS (dL wi caps te) (bA j)):=
 jZr S R.sc R.nn R.calm (by rw[R.nn];exact R.nd) (by rw[R.nn];exact A) (by rw[R.sc];exact hy) hi l c hs hf
def kI(R:Rm X k N st)(hi:PI X (.Name x px) iter wi)(u:∀s H ex pn,PT (fQ X scope (x::yY N caps) s H ex pn) tst tt)(l:∀s H ex pn,PE (fQ X scope (x::yY N caps) s H ex pn) elt te)(hs:∀v,foldedSetIterable iter X.env v=pure v:=by intro _;rfl)
  (S:sY (eG st) scope N x (yY N caps) caps:=by exact#[by decide+kernel,rfl,by decide+kernel,rfl,by decide+kernel,rfl,by decide+kernel,rfl,by decide+kernel]):PE X (.ListComp elt [#[.Name x px,iter,[tst],0]] scope pos) (pL wi caps tt te):=
 jVu S R.sc R.nn R.calm hi u l hs
def sKI(R:Rm X k N st)(hi:PI X (.Name x px) iter wi)(u:∀s H ex pn,PT (fQ X scope (x::yY N caps) s H ex pn) tst tt)(l:∀s H ex pn,PE (fQ X scope (x::yY N caps) s H ex pn) elt te)(hs:∀v,foldedSetIterable iter X.env v=pure v:=by intro _;rfl)
  (S:sY (eG st) scope N x (yY N caps) caps:=by exact#[by decide+kernel,rfl,by decide+kernel,rfl,by decide+kernel,rfl,by decide+kernel,rfl,by decide+kernel]) (A:N[j]?=some y:=by rfl) (hy:Loc (eG st) y:=by first |exact .inl rfl |exact .inr rfl)
  (c:swapsWith (.ListComp elt [#[.Name x px,iter,[tst],0]] scope pos) (some (.Name y py)) tp.line X.env=pure true:=by rfl) (hf:X.fn y=true∨X.env.scope.names.lookup y=some .local:=by first |exact .inl rfl |exact .inr rfl):
  PS X (.Assign [.Name y py] (.ListComp elt [#[.Name x px,iter,[tst],0]] scope pos) tp) (cS (pL wi caps tt te) (bA j)):=
 Zy S R.sc R.nn R.calm (by rw[R.nn];exact R.nd) (by rw[R.nn];exact A) (by rw[R.sc];exact hy) hi u l c hs hf
def g2{pn:List (Addr×Obj)}{ys:List Str}{n:Nat}(hc:X.calm=true)(nd:(x::y::ys).Nodup)(hx:scope.names.lookup x=some .local)(hy:scope.names.lookup y=some .local)(d:(assignEach [.Name x px,.Name y py] (fQ X scope (x::y::ys) s H ex pn).env).findIdx? (·.1)=none):
  PG (fQ X scope ([x,y]++ys) s H ex pn) (.Tuple [.Name x px,.Name y py] n tp) (jV X.K 2 (eL (bA 0) (eL (bA 1) jW))):=
 jJt (n:=2) hc (tX (oW nd rfl hx) (tX (oW nd rfl hy) Vs)) rfl d
def kG{n:Nat}(R:Rm X k N st)(hi:PI X (.Tuple [.Name x px,.Name y py] n tp) iter wi)(l:∀s H ex pn,PE (fQ X scope ([x,y]++yY N caps) s H ex pn) elt te)(hs:∀v,foldedSetIterable iter X.env v=pure v:=by intro _;rfl)
  (S:jQ (eG st) scope N [x,y] (yY N caps) caps:=by exact#[by decide+kernel,rfl,by decide+kernel,by decide+kernel,rfl,by decide+kernel,rfl]) (nd:(x::y::yY N caps).Nodup:=by decide+kernel) (hx:scope.names.lookup x=some .local:=by rfl) (hy:scope.names.lookup y=some .local:=by rfl)
  (d:∀s H ex pn,(assignEach [.Name x px,.Name y py] (fQ X scope (x::y::yY N caps) s H ex pn).env).findIdx? (·.1)=none:=by intro _ _ _ _;rfl):PE X (.ListComp elt [#[.Tuple [.Name x px,.Name y py] n tp,iter,[],0]] scope pos) (gY wi 2 caps (jV X.K 2 (eL (bA 0) (eL (bA 1) jW))) te):=
 jVv S R.sc R.nn R.calm hi (λs H ex pn=>g2 R.calm nd hx hy (d s H ex pn)) l hs
def sG{n:Nat}{z:Str}{a b:Pos}(R:Rm X k N st)(hi:PI X (.Tuple [.Name x px,.Name y py] n tp) iter wi)(l:∀s H ex pn,PE (fQ X scope ([x,y]++yY N caps) s H ex pn) elt te)(hs:∀v,foldedSetIterable iter X.env v=pure v:=by intro _;rfl)
  (S:jQ (eG st) scope N [x,y] (yY N caps) caps:=by exact#[by decide+kernel,rfl,by decide+kernel,by decide+kernel,rfl,by decide+kernel,rfl]) (nd:(x::y::yY N caps).Nodup:=by decide+kernel) (hx:scope.names.lookup x=some .local:=by rfl) (hy:scope.names.lookup y=some .local:=by rfl)
  (d:∀s H ex pn,(assignEach [.Name x px,.Name y py] (fQ X scope (x::y::yY N caps) s H ex pn).env).findIdx? (·.1)=none:=by intro _ _ _ _;rfl) (A:N[j]?=some z:=by rfl) (hz:Loc (eG st) z:=by first |exact .inl rfl |exact .inr rfl)
  (c:swapsWith (.ListComp elt [#[.Tuple [.Name x px,.Name y py] n tp,iter,[],0]] scope pos) (some (.Name z a)) b.line X.env=pure true:=by rfl) (hf:X.fn z=true∨X.env.scope.names.lookup z=some .local:=by first |exact .inl rfl |exact .inr rfl):
  PS X (.Assign [.Name z a] (.ListComp elt [#[.Tuple [.Name x px,.Name y py] n tp,iter,[],0]] scope pos) b) (cS (gY wi 2 caps (jV X.K 2 (eL (bA 0) (eL (bA 1) jW))) te) (bA j)):=
 Zz S R.sc R.nn R.calm (by rw[R.nn];exact R.nd) (by rw[R.nn];exact A) (by rw[R.sc];exact hz) hi (λs H ex pn=>g2 R.calm nd hx hy (d s H ex pn)) l c hs hf
end
section
variable{K:aQ}{h:Heap}{mg:Str->Option Value}{x m q c:Str}{st:Stmt}{f C:Addr}{oc kV dc pm cd ct:Value}{od an:Option Addr}{sl:Array (Option Value)}
def ar1{P:List Value->Prop}(h:∀a,P [a]):∀k:List Value,k.length=1->P k
 | [],e=>nomatch e
 | [a],_=>h a
 |_::_::_,e=>nomatch e
def ar2{P:List Value->Prop}(h:∀a b,P [a,b]):∀k:List Value,k.length=2->P k
 | [],e=>nomatch e
 |a::k,e=>ar1 (P:=λl=>P (a::l)) (h a) k (Nat.succ.inj e)
def ar3{P:List Value->Prop}(h:∀a b c,P [a,b,c]):∀k:List Value,k.length=3->P k
 | [],e=>nomatch e
 |a::k,e=>ar2 (P:=λl=>P (a::l)) (h a) k (Nat.succ.inj e)
def ar4{P:List Value->Prop}(h:∀a b c d,P [a,b,c,d]):∀k:List Value,k.length=4->P k
 | [],e=>nomatch e
 |a::k,e=>ar3 (P:=λl=>P (a::l)) (h a) k (Nat.succ.inj e)
def ar5{P:List Value->Prop}(h:∀a b c d e,P [a,b,c,d,e]):∀k:List Value,k.length=5->P k
 | [],e=>nomatch e
 |a::k,e=>ar4 (P:=λl=>P (a::l)) (h a) k (Nat.succ.inj e)
def ar6{P:List Value->Prop}(h:∀a b c d e f,P [a,b,c,d,e,f]):∀k:List Value,k.length=6->P k
 | [],e=>nomatch e
 |a::k,e=>ar5 (P:=λl=>P (a::l)) (h a) k (Nat.succ.inj e)
noncomputable abbrev Bnd(x q:Str)(st:Stmt):Prop:=∀(kV i pm:Value)(an:Option Addr)(cdv ct:Value)(us:List Value),us.length=(mF st).length->bindArgs (PySem.W.fnOf x q (lN st) (kW st) (eG st) .none kV i pm an cdv ct) #[us,[]]=pure ((mF st).zip us)
def Df.mk'(X:K.In h)(G:h.Ns mainGlobals mg)(a:PySem.W.nsIn K mainGlobals x=some (some (.ref f)))(l:K.lookup f=some #[oc,od,.func (PySem.W.fnOf x x (lN st) (kW st) (eG st) .none kV dc pm an cd ct),sl])(c:PySem.W.codeIn K cd x=true)(k:PySem.W.keepIn K (.ref f)=true)
  (b:Bnd x x st:=by first |exact λ_ _ _ _ _ _=>L2.ar1 λ_=>rfl |exact λ_ _ _ _ _ _=>L2.ar2 λ_ _=>rfl |exact λ_ _ _ _ _ _=>L2.ar3 λ_ _ _=>rfl |exact λ_ _ _ _ _ _=>L2.ar4 λ_ _ _ _=>rfl |exact λ_ _ _ _ _ _=>L2.ar5 λ_ _ _ _ _=>rfl |exact λ_ _ _ _ _ _=>L2.ar6 λ_ _ _ _ _ _=>rfl):Df K mg x st:=
 have F:zA K x x st .none f _:=#[#[oc,od,kV,dc,pm,an,cd,ct,sl,rfl,l,c],k]
 #[_,f,_,F,F.binds b,PySem.W.mg_of X G a]
def Mf.mk'(y:PySem.W.nsIn K mainGlobals c=some (some (.ref C)))(a:PySem.W.findIn K (.ref C) m=some (some (.ref f)))(i:PySem.W.isFn K (.ref f)=true)(l:K.lookup f=some #[oc,od,.func (PySem.W.fnOf m q (lN st) (kW st) (eG st) .none kV dc pm an cd ct),sl])(d:PySem.W.codeIn K cd q=true)(k:PySem.W.keepIn K (.ref f)=true)
  (b:Bnd m q st:=by first |exact λ_ _ _ _ _ _=>L2.ar1 λ_=>rfl |exact λ_ _ _ _ _ _=>L2.ar2 λ_ _=>rfl |exact λ_ _ _ _ _ _=>L2.ar3 λ_ _ _=>rfl |exact λ_ _ _ _ _ _=>L2.ar4 λ_ _ _ _=>rfl |exact λ_ _ _ _ _ _=>L2.ar5 λ_ _ _ _ _=>rfl):Mf K c m q st:=
 have F:zA K m q st .none f _:=#[#[oc,od,kV,dc,pm,an,cd,ct,sl,rfl,l,d],k]
 #[f,_,F,F.binds b,by rw[nE y];exact#[a,i,k]]
def law_mk(X:K.In h)(G:h.Ns mainGlobals mg)(a:PySem.W.nsIn K mainGlobals x=some (some (.ref f)))(l:K.lookup f=some #[oc,od,.func (PySem.W.fnOf x x (lN st) (kW st) (eG st) .none kV dc pm an cd ct),sl])(c:PySem.W.codeIn K cd x=true)(k:PySem.W.keepIn K (.ref f)=true):∃f fd,zA K x x st .none f fd/\mg x=some (.ref f):=
 #[f,_,#[#[oc,od,kV,dc,pm,an,cd,ct,sl,rfl,l,c],k],PySem.W.mg_of X G a]
def Df.mkD{T:Addr}{o:Obj}{n:Nat}(X:K.In h)(G:h.Ns mainGlobals mg)(a:PySem.W.nsIn K mainGlobals x=some (some (.ref f)))(l:K.lookup f=some #[oc,od,.func (PySem.W.fnOf x x (lN st) (kW st) (eG st) (.ref T) kV dc pm an cd ct),sl])(c:PySem.W.codeIn K cd x=true)(k:PySem.W.keepIn K (.ref f)=true)(e:K.lookup T=some o)(hd:o.data=.seq items n)
  (b:∀(kV i pm:Value)(an:Option Addr)(cdv ct:Value)(us:List Value),us.length=(mF st).length->∃k,bindArgs (PySem.W.fnOf x x (lN st) (kW st) (eG st) (.ref T) kV i pm an cdv ct) #[us,[]]=seqItems? (.ref T)>>=k/\k (some items)=pure ((mF st).zip us)):Df K mg x st:=
 have F:zA K x x st (.ref T) f _:=#[#[oc,od,kV,dc,pm,an,cd,ct,sl,rfl,l,c],k]
 #[_,f,_,F,F.bindsD e hd b,PySem.W.mg_of X G a]
def gi_mk{i:Int}{t:Tok}(X:K.In h)(G:h.Ns mainGlobals mg)(z:PySem.W.nsIn K mainGlobals x=some (some (.int i t))):∃t,mg x=some (.int i t):=#[_,PySem.W.mg_of X G z]
def cls_mk(X:K.In h)(G:h.Ns mainGlobals mg)(y:PySem.W.nsIn K mainGlobals c=some (some (.ref C))):mg c=some (.ref (eI K c)):=by rw[nE y];exact PySem.W.mg_of X G y
def mkc_mk(y:PySem.W.nsIn K mainGlobals c=some (some (.ref C)))(a:PySem.W.makesIn K C=true)(b:PySem.W.keepIn K (.ref C)=true):PySem.W.makesIn K (eI K c)=true/\PySem.W.keepIn K (.ref (eI K c))=true:=by rw[nE y];exact#[a,b]
end
section
variable{X:Cx}{x:Str}{pos:Pos}{a b:Expr}{ta tb:TE}{i:Nat}
def pV(K:X.N[i]?=some x:=by rfl)(hv:Vis X.env.scope x:=by first |exact Or.inl rfl |exact Or.inr (Or.inl rfl)|exact Or.inr (Or.inr rfl))(hd:(x==("__debug__":Str))=false:=by decide)(p:(x==("__classdict__":Str))=false:=by decide):PE X (.Name x pos) (aE i):=pe_var K hv hd p
def iL(ha:PE X a ta)(hb:PE X b tb)(hs:Wk b:=by exact λ_ _=>rfl):PE X (.Subscript a b pos) (tOp (fS X.K) ta tb):=pe_ix ix_list ha hb hs
def iT(ha:PE X a ta)(hb:PE X b tb)(hs:Wk b:=by exact λ_ _=>rfl):PE X (.Subscript a b pos) (tOp (eZ X.K) ta tb):=pe_ix ix_tup ha hb hs
end
structure Okd(P:Program)(w:World)(K:aQ)(mg:Str->Option Value)(base:Heap)(CX:CXT)(k:Nat)(x:Str)(sp:Sp):Prop where
 ex:∃f fd ps,zH P w K mg base CX k f fd ps sp/\mg x=some (.ref f)/\PySem.W.keepIn K (.ref f)=true/\nU K fd ps []/\nU K fd ps [Value.none]
structure Dfd(K:aQ)(mg:Str->Option Value)(x:Str)(st:Stmt):Prop where
 ex:∃df f fd,zA K x x st df f fd/\nU K fd (mF st) []/\nU K fd (mF st) [Value.none]/\mg x=some (.ref f)
section
variable{P:Program}{w:World}{K:aQ}{mg:Str->Option Value}{base:Heap}{x:Str}{st:Stmt}{f:Addr}{N:List Str}{k:Nat}{sp:Sp}
def Okd.ok{CX:CXT}(F:Okd P w K mg base CX k x sp):Ok P w K mg base CX k x sp:=let⟨f,fd,ps,a,b,c,d,_⟩:=F.ex;#[f,fd,ps,a,b,c,d]
def Dfd.ok(D:Dfd K mg x st)(b:Bd0 P w K mg base N x st k sp)(len:∀{vs H Q E},sp vs H Q E->vs.length=(mF st).length:=by intro _ _ _ _ h;repeat(first |(obtain⟨rfl,_⟩:=h;rfl)|obtain⟨_,h⟩:=h))
  (S:vR N (mF st) (eG st):=by exact#[rfl,rfl,rfl,by decide+kernel,rfl,by decide+kernel,by decide+kernel]):Okd P w K mg base CX0 (k+1) x sp:=
 let⟨_,f,fd,F,hb,hb2,hm⟩:=D.ex
 #[f,fd,_,F.fn b len S,hm,F.kp,hb,hb2]
def Dfd.mkD{T:Addr}{o:Obj}{n:Nat}{U kV g z t ct:Value}{Z j:Option Addr}{sl:Array (Option Value)}(X:K.In h)(G:h.Ns mainGlobals mg)(a:PySem.W.nsIn K mainGlobals x=some (some (.ref f)))(l:K.lookup f=some #[U,Z,.func (PySem.W.fnOf x x (lN st) (kW st) (eG st) (.ref T) kV g z j t ct),sl])(c:PySem.W.codeIn K t x=true)(k:PySem.W.keepIn K (.ref f)=true)(e:K.lookup T=some o)(hd:o.data=.seq items n)
  (b:∀(kV i z:Value)(j:Option Addr)(cdv ct:Value)(us:List Value),us.length=(mF st).length->∃k,bindArgs (PySem.W.fnOf x x (lN st) (kW st) (eG st) (.ref T) kV i z j cdv ct) #[us,[]]=seqItems? (.ref T)>>=k/\k (some items)=pure ((mF st).zip us))
  (d:∀(kV i z:Value)(j:Option Addr)(cdv ct:Value)(us:List Value),us.length=(mF st).length-1->∃k,bindArgs (PySem.W.fnOf x x (lN st) (kW st) (eG st) (.ref T) kV i z j cdv ct) #[us,[]]=seqItems? (.ref T)>>=k/\k (some items)=pure ((mF st).zip (us++ [Value.none]))):Dfd K mg x st:=
 have F:zA K x x st (.ref T) f _:=#[#[U,Z,kV,g,z,j,t,ct,sl,rfl,l,c],k]
 #[_,f,_,F,F.bindsD e hd b,λs us A S=>by
  rw[bK]at S;obtain⟨k,h1,h2⟩:=d kV g z j t ct us (by rw[←S];rfl);exact BindsTo.of_defaults rfl (A _ _ e) hd h1 h2,PySem.W.mg_of X G a]
end
def c1{j:Nat}{sp:Sp}{e:Expr}{es:List Expr}{t:TA}(F:Okd X.prog X.w X.K X.mg X.base CX0 k x sp)(hr:mN j X.A)(ha:PA X (e::es) t)(hk:k<=j:=by decide)(hg:Gl X x:=by rfl)(a:(x==("__debug__":Str))=false:=by decide)(l:starEach (e::es) X.env=(false,eval e X.env)::starEach es X.env:=by rfl)(hpl:(backTo pos (starEach es X.env)).any (·.1)=false:=by rfl):
  PE X (.Call (.Name x p) (e::es) [] pos) (cD sp [.non] E0 t):=
 let⟨_,_,_,F,hm,hp,_,hb⟩:=F.ex
 jX1 F (hr.mono hk) hg hm hp hb (.cons rfl .nil) Xm ha a l hpl
end L2
namespace L2
open PySem PySem.Spec PySem.Calls PyProof.Rows PySem.W PySem.W.X in
def walk_x{q:Program}{loose:List Str}{XP:(Str->Option Value)->Heap->Prop}{K:Params->aQ}{as:List Addr}{n t:Nat}{r:PySem.W.RowW}{d:DefRec}{kwd:List (Str×Expr)}{run:Value->List Value->Sem Value}
  (e:∀P,as=(K P).map (·.1)) (W:PySem.W.WalkO q loose XP (λw h=>(K w.params).In h) r d kwd run):WalkX q loose XP (obsZ as) (valZ K n t) r d kwd run:=
 λw s₀ s₁ mg mb G y a o pm cd doc dV kV h1 h2 h3 h4 h5 h6 args vals as' L h7 h8 h9 h10 h11=>
  W w s₀ s₁ mg mb G (InK.keeps w _ _ (z_facts e y).2.1 L.keeps) a o pm cd doc dV kV h1 h2 h3 h4 h5 h6 args vals as' h7 h8 h9 h10 h11
end L2
set_option Elab.async false
set_option maxRecDepth 100000
set_option maxHeartbeats 4000000
set_option linter.all false
namespace My
open PySem L2
open List (map range length_map map_append getElem?_eq_getElem mem_of_getElem? getD_eq_getElem?_getD getElem_mem getElem?_map mem_append mem_singleton getElem?_eq_none mem_cons_of_mem mem_map length_append mem_cons_self take_length getElem?_of_mem length_take getElem?_set length_set map_congr_left mem_or_eq_of_mem_set mem_of_mem_take getElem?_append_left getElem?_append_right map_eq_nil_iff map_take take_of_length_le)
noncomputable abbrev NS:=Nat->St->Hp->Prop
open V (ref int)
open HO (lst tup)
variable{A N:fV}{C a p:Addr}{G H O Y:Hp}{I cs ks:fP}{K:aQ}{M kvs:List (List Key×V)}{Q:VK}{R s:Nat->Nat}{X:List (List Int)}{Z c h i j k m q:Nat}{d:Type}{e:List Nat->Nat->Int×Int}{f g:Int×Int}{ms ns:List Nat}{o:HO}{ps:List Addr}{u v x y z:Int}{xs ys:List V}
noncomputable abbrev eQ(Q:VK):vH:={ nx:=λ_ O=>Q .non O,rt:=Q }
noncomputable abbrev RdS(K:aQ)(sp:aQ->Sp)(t:aQ->TS)(N:List Str):Prop:=∀{vs H Q E},sp K vs H Q E->t K (eQ Q) (start N vs) H
def sz0:0<=sizeLine:=by decide
def sz1:1<=sizeLine:=by decide
def sz2:2<=sizeLine:=by decide
def sz3:3<=sizeLine:=by decide
def Lq0{a:d}{l:List d}:(a::l)[0]?=some a:=rfl
def Lq1{a:d}{l:List d}:(a::l)[i+1]?=l[i]?:=rfl
def Ls0{a b:d}{l:List d}:(a::l).set 0 b=b::l:=rfl
def Ls1{a b:d}{l:List d}:(a::l).set (i+1) b=a::l.set i b:=rfl
def Lca{a:d}{l k:List d}:a::l++k=a::(l++k):=rfl
def Lna{k:List d}:[]++k=k:=rfl
abbrev sM':=sL' `L2 "cE cS bA aE tC tOp tUn rI0 rI rU hE lS fO jE zL gP zK jD kO rLeI zF rGeI rEq rNe iN cT fX dB tB zC eA cD aH bG iW mB tCB Ii iY Qw tSl mD hJ vG fS eZ xR tOrV Ih tOr Fe Xf jN jV eL jW gB gC gA"++sL' `My "Lq0 Lq1 Ls0 Ls1 Lca Lna"
local macro_rules|`(tactic|dsimp![$xs,*])=>let l:=sL' `L2 "gB gC gA"++sL' `My "Lq0 Lq1 Ls0 Ls1";let m:=sL' `L2 "V.int.injEq V.ref.injEq V.bl.injEq gZ kR iM"++sL' .anonymous "Option.some.injEq exists_eq_left' List.cons.injEq and_true true_and exists_and_left exists_eq_left and_assoc";`(tactic|(try dsimp only[$xs,*,$[$l:ident],*];try simp only[$xs,*,$[$l:ident],*,$[$m:ident],*]))
local macro_rules|`(tactic|dsimp?[$xs,*])=>let l:=sM';`(tactic|(try dsimp only[$xs,*,$[$l:ident],*];try simp_arith[$xs,*]))
local macro_rules|`(tactic|simp_arith[$xs,*])=>let l:=sM'++sL' `L2 "V.int.injEq V.ref.injEq V.bl.injEq V.ty.injEq cW dH gZ kR iM"++sL' .anonymous "Option.some.injEq exists_eq_left' exists_eq_left List.cons.injEq and_true true_and exists_and_left and_assoc";`(tactic|simp only[$xs,*,$[$l:ident],*])
def jJ5(i:Int):(if i<0 then -i else i)=(i.natAbs:Int):=by split<;>lia
def Fr{ns:List Int}{k:Int}(h0:0<=k)(h:k<(ns.length:Int)):atI (map int ns) k=some (.int (ns.getD k.toNat 0)):=by
 have hk:k.toNat<ns.length:=#[];have e:=fC (xs:=map int ns) (j:=k.toNat) (v:=int (ns.getD k.toNat 0)) (by
  rw[aZ,aD hk,aJ,aD hk];rfl)
 rwa [Int.toNat_of_nonneg h0]at e
def kP{a:d}{l:List d}:atI (a::l) 0=some a:=fC (j:=0) rfl
def jR{a b:d}{l:List d}:atI (a::b::l) 1=some b:=fC (j:=1) rfl
def atI2{a b c:d}{l:List d}:atI (a::b::c::l) 2=some c:=fC (j:=2) rfl
structure Lo(t b x y:Int):Prop where
 pos:0<y
 cop:Int.gcd x y=1
 eq:x*b=t*y
 bx:x.natAbs<=t.natAbs
 by_:y.natAbs<=b.natAbs
def lo_of{t b g q r:Int}(hb:b≠0)(hg:g≠0)(y:t=g*q)(a:b=g*r)(hr:0<r)(hc:Int.gcd q r=1):Lo t b (t.fdiv g) (b.fdiv g):=by
 have e1:t.fdiv g=q:=by rw[y,Int.mul_fdiv_cancel_left _ hg]
 have C:b.fdiv g=r:=by rw[a,Int.mul_fdiv_cancel_left _ hg]
 rw[e1,C];have D:1<=g.natAbs:=#[];refine#[hr,hc,by rw[y,a];rw[Int.mul_left_comm,iH],?_,?_]
 .rw[y,cQ];exact Nat.le_mul_of_pos_left _ D
 .rw[a,cQ];exact Nat.le_mul_of_pos_left _ D
def Jx{t b:Int}(hb:b≠0):∃q r:Int,t=(Int.gcd t b:Nat)*q/\b=(Int.gcd t b:Nat)*r/\Int.gcd q r=1/\0<Int.gcd t b:=by
 have hp:0<Int.gcd t b:=Int.gcd_pos_of_ne_zero_right _ hb;obtain⟨q,T⟩:=Int.gcd_dvd_left (a:=t) (b:=b);obtain⟨r,hr⟩:=Int.gcd_dvd_right (a:=t) (b:=b);refine#[q,r,T,hr,?_,hp];have e:Int.gcd t b=Int.gcd ((Int.gcd t b:Nat)*q) ((Int.gcd t b:Nat)*r):=by rw[←T,←hr]
 rw[Int.gcd_mul_left,Int.natAbs_natCast]at e;exact Nat.eq_of_mul_eq_mul_left hp (by rw[Nat.mul_one];exact e.symm)
def jJv{t b:Int}(hb:0<b):Lo t b (t.fdiv (Int.gcd t b:Nat)) (b.fdiv (Int.gcd t b:Nat)):=by
 obtain⟨q,r,h1,h2,R,O⟩:=Jx (t:=t) (b:=b) #[];refine lo_of (q:=q) (r:=r) #[] #[] h1 h2 ?_ R;rcases Int.lt_trichotomy r 0 with h |h |h
 .have:(Int.gcd t b:Int)*r<0:=Int.mul_neg_of_pos_of_neg #[] h;lia
 .rw[h,cZ]at h2;lia
 .exact h
def lo_neg{t b:Int}(hb:b<0):Lo t b (t.fdiv (-(Int.gcd t b:Nat))) (b.fdiv (-(Int.gcd t b:Nat))):=by
 obtain⟨q,r,h1,h2,R,O⟩:=Jx (t:=t) (b:=b) #[];refine lo_of (q:=-q) (r:=-r) #[] #[] (by rw[Int.neg_mul_neg];exact h1) (by rw[Int.neg_mul_neg];exact h2) ?_ (by rw[Int.gcd,Int.natAbs_neg,Int.natAbs_neg];exact R);rcases Int.lt_trichotomy r 0 with h |h |h
 .omega
 .rw[h,cZ]at h2;lia
 .have:(Int.gcd t b:Int)*r>0:=bL #[] h;lia
noncomputable def intO:Option V->Int
 |some (.int i)=>i
 |_=>0
noncomputable def dC(K:aQ)(H:Hp):List Addr->fV->Prop
 | [],[]=>True
 |p::ps,f::fs=>SqT K H p [.int f.1,.int f.2]/\dC K H ps fs
 |_,_=>False
def Gd(m:Nat)(f:Int×Int):Prop:=0<f.2/\BB m f.1/\BB m f.2
def dC.same(s:aT H O):∀{ps:List Addr}{fs:fV},dC K H ps fs->dC K O ps fs
 | [],[],_=>trivial
 |_::_,_::_,h=>#[s.tup h.1,h.2.same s]
 | [],_::_,h=>h.elim
 |_::_,[],h=>h.elim
def dC.length:∀{ps:List Addr}{fs:fV},dC K H ps fs->ps.length=fs.length
 | [],[],_=>rfl
 |_::_,_::_,h=>by rw[dF,dF,h.2.length]
 | [],_::_,h=>h.elim
 |_::_,[],h=>h.elim
def dC.get{K:aQ}{H:Hp}:∀{ps:List Addr}{fs:fV}{i:Nat}{p:Addr},dC K H ps fs->ps[i]?=some p->∃f,fs[i]?=some f/\SqT K H p [.int f.1,.int f.2]
 | [],[],_,_,_,e=>by simp at e
 |_::_,f::_,0,_,h,e=>by simp at e;subst e;exact#[f,rfl,h.1]
 |_::_,_::_,i+1,_,h,e=>by
  obtain⟨f,e1,C⟩:=h.2.get (i:=i) (by simpa using e);exact#[f,by simpa using e1,C]
 | [],_::_,_,_,h,_=>h.elim
 |_::_,[],_,_,h,_=>h.elim
def dC.set{q:Addr}(T:SqT K H q [.int g.1,.int g.2]):∀{ps:List Addr}{fs:fV}(i:Nat),dC K H ps fs->dC K H (ps.set i q) (fs.set i g)
 | [],[],_,_=>trivial
 |_::_,_::_,0,h=>#[T,h.2]
 |_::_,_::_,i+1,h=>#[h.1,dC.set T i h.2]
 | [],_::_,_,h=>h.elim
 |_::_,[],_,h=>h.elim
def dC.append{I:List Addr}{z:fV}(T:dC K H I z):∀{ps:List Addr}{fs:fV},dC K H ps fs->dC K H (ps++I) (fs++z)
 | [],[],_=>T
 |_::_,_::_,h=>#[h.1,dC.append T h.2]
 | [],_::_,h=>h.elim
 |_::_,[],h=>h.elim
def dC.off{r:Addr}{J:List V}(hr:H r=some (.lst ys)):∀{ps:List Addr}{fs:fV},dC K H ps fs->dC K (upd H r (.lst J)) ps fs
 | [],[],_=>trivial
 |_::_,_::_,h=>#[h.1.off hr,h.2.off hr]
 | [],_::_,h=>h.elim
 |_::_,[],h=>h.elim
def eN{x:V}(h:(map ref ps)[i]?=some x):∃p,x=.ref p/\ps[i]?=some p:=by
 rw[aZ]at h;cases e:ps[i]? with
 |none=>rw[e]at h;cases h
 |some z=>rw[e]at h;exact#[z,(aW h).symm,rfl]
def fJ{ns:List Int}{x:V}(h:(map int ns)[i]?=some x):∃c,x=.int c/\ns[i]?=some c:=by
 rw[aZ]at h;cases e:ns[i]? with
 |none=>rw[e]at h;cases h
 |some z=>rw[e]at h;exact#[z,(aW h).symm,rfl]
def dJ{l:List d}{x:d}(h:l[i]?=some x):l.take (i+1)=l.take i++[x]:=by
 rw[List.take_succ,h];rfl
def jZ9{p q:Int}(e:x*q=p*y)(h1:Int.gcd x y=1)(h2:Int.gcd p q=1)(hy:0<y)(T:0<q):x=p/\y=q:=by
 have i:y∣q:=Int.natAbs_dvd_natAbs.mp (Nat.Coprime.dvd_of_dvd_mul_left (m:=x.natAbs) (Nat.Coprime.symm h1) (by rw[←cQ];exact Int.natAbs_dvd_natAbs.mpr #[p,by rw[e,gI]]));have c:q∣y:=Int.natAbs_dvd_natAbs.mp (Nat.Coprime.dvd_of_dvd_mul_left (m:=p.natAbs) (Nat.Coprime.symm h2) (by rw[←cQ];exact Int.natAbs_dvd_natAbs.mpr #[x,by rw[←e,gI]]));have C:y=q:=Int.dvd_antisymm #[] #[] i c;refine#[?_,C];rw[C]at e;exact dU #[] e
noncomputable def WEq(H:Hp)(P:Nat->List V->Prop):Nat->List V->Hp->Prop:=λi J u=>u=H/\P i J
def SEq(H:Hp)(P:Nat->St->Prop):NS:=λi Z u=>u=H/\P i Z
def glf(g n:Int):Int:=((Int.gcd g n:Nat):Int)
def gl(ns:List Int):Int:=ns.foldl glf 0
def gl_snoc{ns:List Int}{c:Int}(h:ns[i]?=some c):gl (ns.take (i+1))=glf (gl (ns.take i)) c:=by
 unfold gl;rw[dJ h,List.foldl_append];rfl
def jYc:∀l:List Int,l.foldl glf 1=1
 | []=>rfl
 |a::r=>by
  have e:glf 1 a=1:=by unfold glf;rw[Int.gcd];simp
  rw[List.foldl_cons,e];exact jYc r
def gl_one{ns:List Int}(h:gl (ns.take i)=1):gl ns=1:=by
 unfold gl at h⊢;rw[←List.take_append_drop i ns,List.foldl_append,h];exact jYc _
def Pn:∀(l:List Int)(g:Int),0<=g->0<=l.foldl glf g
 | [],_,h=>h
 |a::r,g,_=>by rw[List.foldl_cons];exact Pn r _ (by unfold glf;lia)
def Te(ns:List Int):0<=gl ns:=Pn ns 0 (by decide)
def jYd:∀(l:List Int)(g:Int),l.foldl glf g∣g/\∀n∈l,l.foldl glf g∣n
 | [],g=>#[Int.dvd_refl _,λ_ h=>nomatch h]
 |a::r,g=>by
  rw[List.foldl_cons];obtain⟨h1,h2⟩:=jYd r (glf g a);have i:glf g a∣g:=Int.gcd_dvd_left (a:=g) (b:=a);have c:glf g a∣a:=Int.gcd_dvd_right (a:=g) (b:=a);refine#[jG h1 i,λn hn=>?_];rcases eW.mp hn with rfl |hn
  .exact jG h1 c
  .exact h2 n hn
def gl_dvd{ns:List Int}{n:Int}(h:n∈ns):gl ns∣n:=(jYd ns 0).2 n h
def Yx:∀(l:List Int),(∀n∈l,n=0)->l.foldl glf 0=0
 | [],_=>rfl
 |a::r,h=>by
  rw[List.foldl_cons,h a cB];exact Yx r λn hn=>h n (bO _ hn)
def jXq{ns:List Int}(h:∀n∈ns,BB m n):BB m (gl ns):=by
 by_cases hz:∃n∈ns,n≠0
 .obtain⟨n,hn,g⟩:=hz;refine(h n hn).of_le (Nat.le_of_dvd #[] (Int.natAbs_dvd_natAbs.mpr (gl_dvd hn)))
 .have:gl ns=0:=Yx ns λn hn=>Classical.byContradiction λc=>hz #[n,hn,c];rw[this];unfold BB;exact eJ _
noncomputable def vK(ns:List Int):List Int:=if gl ns<2 then ns else ns.map λn=>n.fdiv (gl ns)
def Cv(ns:List Int):(vK ns).length=ns.length:=by
 unfold vK;split
 .rfl
 .rw[aB]
def Pf{ns:List Int}{n:Int}(h:ns[i]?=some n):∃t,(vK ns)[i]?=some t/\t*(if 1>gl ns then 1 else gl ns)=n:=by
 have r:=Te ns;have hm:n∈ns:=aI h;unfold vK;by_cases h2:gl ns<2
 .rw[aK h2];refine#[n,h,?_];have:(if 1>gl ns then(1:Int)else gl ns)=1:=by split<;>lia
  rw[this,fK]
 .rw[aF h2,aF #[]];refine#[n.fdiv (gl ns),by rw[aZ,h];rfl,?_];obtain⟨z,hz⟩:=gl_dvd hm;have e:n.fdiv (gl ns)=z:=by
   conv=>lhs;rw[hz]
   exact Int.mul_fdiv_cancel_left _ #[]
  rw[e,gI];exact hz.symm
def Sw{ns:List Int}(h:∀n∈ns,BB m n):∀n∈vK ns,BB m n:=by
 intro t y;obtain⟨i,hi⟩:=dA y;have f:i<ns.length:=by rw[←Cv];exact(aO.mp hi).1
 obtain⟨J,e1,C⟩:=Pf (aD f);rw[hi]at e1;obtain rfl:t=J:=aW e1;refine(h _ (cJ f)).of_le ?_;rw[←C,cQ];have r:=Te ns;refine Nat.le_mul_of_pos_right _ ?_;split<;>lia
def vP{n:Nat}{k:Int}(h0:0<=k)(h:k<n):ixN n k=some k.toNat:=by
 unfold ixN;rw[aK h0,aK h]
def jVf{b:Addr}{ns:List Int}(ha:SqL K H a (map int ns))(hb:SqL K H b (map int ns)):REq K H (DEq K H 0) (.ref a) (.ref b) true:=by
 refine#[a,b,_,_,rfl,rfl,.inl #[ha,hb,.inr #[rfl,λ_=>true,λj x y hx hy=>?_,?_]]]
 .obtain⟨c,rfl,hc⟩:=fJ hx;rw[hx]at hy;obtain rfl:=aW hy;exact .inr #[c,c,rfl,rfl,by simp]
 .symm;rw[List.all_eq_true];intro _ _;rfl
def lcf(n:Int)(f:Int×Int):Int:=n*(f.2.fdiv ((Int.gcd n f.2:Nat):Int))
def lc(fs:fV):Int:=fs.foldl lcf 1
noncomputable def clr(fs:fV):List Int:=fs.map λf=>f.1*((lc fs).fdiv f.2)
def jYV{fs:fV}(h:fs[i]?=some f):lc (fs.take (i+1))=lcf (lc (fs.take i)) f:=by
 unfold lc;rw[dJ h,List.foldl_append];rfl
def Uy{n:Int}(hn:0<n)(hb:0<f.2):0<lcf n f/\n∣lcf n f/\f.2∣lcf n f/\(∀M,n∣M->f.2∣M->lcf n f∣M)/\(f.2.fdiv ((Int.gcd n f.2:Nat):Int)).natAbs<=f.2.natAbs:=by
 obtain⟨q,r,h1,h2,R,O⟩:=Jx (t:=n) (b:=f.2) #[];have e:f.2.fdiv ((Int.gcd n f.2:Nat):Int)=r:=by
  conv=>lhs;lhs;rw[h2]
  exact Int.mul_fdiv_cancel_left _ #[]
 unfold lcf;rw[e];generalize Int.gcd n f.2=g at h1 h2 O;have a:0<r:=by
  rcases Int.lt_trichotomy r 0 with h |h |h
  .have:(g:Int)*r<0:=Int.mul_neg_of_pos_of_neg #[] h;lia
  .rw[h,cZ]at h2;lia
  .exact h
 refine#[bL hn a,#[r,rfl],#[q,?_],λM i c=>?_,?_]
 .rw[h1,h2];ac_rfl
 .obtain⟨x,hx⟩:=i;obtain⟨y,hy⟩:=c;have C:q*x=r*y:=by
   apply Int.eq_of_mul_eq_mul_left (show(g:Int)≠0 by lia);rw[←iH,←iH,←h1,←h2,←hx,←hy]
  have d:r∣x:=Int.natAbs_dvd_natAbs.mp (Nat.Coprime.dvd_of_dvd_mul_left (m:=q.natAbs) (Nat.Coprime.symm R) (by rw[←cQ];exact Int.natAbs_dvd_natAbs.mpr #[y,C]));obtain⟨z,hz⟩:=d;exact#[z,by rw[hx,hz,iH]]
 .rw[h2,cQ];exact Nat.le_mul_of_pos_left _ #[]
def zR:∀(fs:fV)(n:Int),0<n->(∀f∈fs,0<f.2)->0<fs.foldl lcf n/\n∣fs.foldl lcf n/\(∀f∈fs,f.2∣fs.foldl lcf n)/\∀M,n∣M->(∀f∈fs,f.2∣M)->fs.foldl lcf n∣M
 | [],n,hn,_=>#[hn,Int.dvd_refl _,(λ_ h=>nomatch h),λ_ h _=>h]
 |a::r,n,hn,h=>by
  rw[List.foldl_cons];obtain⟨G,P,l,F,_⟩:=Uy hn (h a cB);obtain⟨t,d,v,b⟩:=zR r (lcf n a) G λf hf=>h f (bO _ hf);refine#[t,jG P d,λf hf=>?_,λM i c=>b M (F M i (c a cB)) λf hf=>c f (bO _ hf)];rcases eW.mp hf with rfl |hf
  .exact jG l d
  .exact v f hf
def Nf{fs:fV}(h:∀f∈fs,0<f.2):0<lc fs:=(zR fs 1 (by decide) h).1
def jJ3{fs:fV}(h:∀f∈fs,0<f.2)(hf:f∈fs):f.1*((lc fs).fdiv f.2)*f.2=f.1*lc fs:=by
 obtain⟨k,hk⟩:=(zR fs 1 (by decide) h).2.2.1 f hf;have hk:lc fs=f.2*k:=hk;have e:(lc fs).fdiv f.2=k:=by rw[hk];exact Int.mul_fdiv_cancel_left _ (by have:=h f hf;lia)
 rw[e,hk];ac_rfl
def jYp{fs:fV}(h:fs[i]?=some f):(clr fs)[i]?=some (f.1*((lc fs).fdiv f.2)):=by
 unfold clr;rw[aZ,h];rfl
noncomputable def eF(H:Hp):List Addr->List (List Int)->Prop
 | [],[]=>True
 |p::ps,r::rs=>H p=some (.lst (map int r))/\eF H ps rs
 |_,_=>False
def eF.same(s:aT H O):∀{ps:List Addr}{X:List (List Int)},eF H ps X->eF O ps X
 | [],[],_=>trivial
 |_::_,_::_,h=>#[s _ _ h.1,h.2.same s]
 | [],_::_,h=>h.elim
 |_::_,[],h=>h.elim
def eF.length:∀{ps:List Addr}{X:List (List Int)},eF H ps X->ps.length=X.length
 | [],[],_=>rfl
 |_::_,_::_,h=>by rw[dF,dF,h.2.length]
 | [],_::_,h=>h.elim
 |_::_,[],h=>h.elim
def eF.get{H:Hp}:∀{ps:List Addr}{X:List (List Int)}{i:Nat}{p:Addr},eF H ps X->ps[i]?=some p->∃r,X[i]?=some r/\H p=some (.lst (map int r))
 | [],[],_,_,_,e=>by simp at e
 |_::_,r::_,0,_,h,e=>by simp at e;subst e;exact#[r,rfl,h.1]
 |_::_,_::_,i+1,_,h,e=>by
  obtain⟨f,e1,C⟩:=h.2.get (i:=i) (by simpa using e);exact#[f,by simpa using e1,C]
 | [],_::_,_,_,h,_=>h.elim
 |_::_,[],_,_,h,_=>h.elim
def eF.has(h:eF H ps X)(hp:p∈ps):∃r,r∈X/\H p=some (.lst (map int r)):=by
 obtain⟨i,hi⟩:=dA hp;obtain⟨r,e1,C⟩:=h.get hi;exact#[r,aI e1,C]
def eF.append{I:List Addr}{z:List (List Int)}(T:eF H I z):∀{ps:List Addr}{X:List (List Int)},eF H ps X->eF H (ps++I) (X++z)
 | [],[],_=>T
 |_::_,_::_,h=>#[h.1,eF.append T h.2]
 | [],_::_,h=>h.elim
 |_::_,[],h=>h.elim
def eF.snoc{q:Addr}{g:List Int}(h:eF H ps X)(T:H q=some (.lst (map int g))):eF H (ps++[q]) (X++[g]):=eF.append (show eF H [q] [g]from#[T,trivial]) h
def eF.put{q:Addr}:∀{ps:List Addr}{X:List (List Int)},q∉ps->eF H ps X->eF (upd H q o) ps X
 | [],[],_,_=>trivial
 |p::_,_::_,hn,h=>#[by rw[cK (λe:p=q=>hn (by rw[e];exact cB))];exact h.1,eF.put (λz=>hn (bO _ z)) h.2]
 | [],_::_,_,h=>h.elim
 |_::_,[],_,h=>h.elim
def eF.setr{q:Addr}{g:List Int}(T:H q=some (.lst (map int g))):∀{ps:List Addr}{X:List (List Int)}(i:Nat),eF H ps X->eF H (ps.set i q) (X.set i g)
 | [],[],_,_=>trivial
 |_::_,_::_,0,h=>#[T,h.2]
 |_::_,_::_,i+1,h=>#[h.1,eF.setr T i h.2]
 | [],_::_,_,h=>h.elim
 |_::_,[],_,h=>h.elim
def kM{l:List Int}(h:i<l.length):l.getD i 0∈l:=by
 rw[aJ,aD h];exact cJ h
def lC{l:List Int}(h:i<l.length):atI (map int l) (i:Int)=some (.int (l.getD i 0)):=by
 have:=Fr (ns:=l) (k:=(i:Int)) #[] #[];rwa [cA]at this
def Gf{l:List Int}(h:i<l.length):l[i]?=some (l.getD i 0):=by
 rw[aJ,aD h];rfl
def zZ{xs:List d}{x:d}(h:xs[xs.length-1]?=some x):atI xs (-1)=some x:=by
 have S:xs.length-1<xs.length:=(aO.mp h).1;unfold atI ixN;rw[aF #[],aK #[]];show xs[(-1+(xs.length:Int)).toNat]?=some x;rw[show(-1+(xs.length:Int)).toNat=xs.length-1 by lia];exact h
noncomputable def lx(a b:List Int)(c:Nat):List Nat->Option Bool
 | []=>none
 |p::r=>if a.getD p 0*b.getD c 0=b.getD p 0*a.getD c 0 then lx a b c r else some (decide (a.getD p 0*b.getD c 0<b.getD p 0*a.getD c 0))
def jYZ{a b:List Int}{c:Nat}:∀(l:List Nat),lx b a c l=(lx a b c l).map (!·)
 | []=>rfl
 |p::r=>by
  unfold lx;by_cases h:a.getD p 0*b.getD c 0=b.getD p 0*a.getD c 0
  .rw[aK h,aK h.symm];exact jYZ r
  .rw[aF h,aF (λe=>h e.symm)];show some _=some _
   congr 1
   by_cases h2:a.getD p 0*b.getD c 0<b.getD p 0*a.getD c 0
   .rw[decide_eq_true h2,decide_eq_false #[]];rfl
   .rw[decide_eq_false h2,decide_eq_true #[]];rfl
def Yv{a b k:List Int}{c:Nat}(ha:0<a.getD c 0)(hb:0<b.getD c 0)(hk:0<k.getD c 0):∀(l:List Nat),lx a b c l=some true->lx b k c l≠some false->lx a k c l=some true
 | [],h,_=>by cases h
 |p::r,h1,h2=>by
  have m:=Yv ha hb hk r;unfold lx at h1 h2⊢;generalize a.getD c 0=e at*;generalize b.getD c 0=bc at*;generalize k.getD c 0=d at*;generalize a.getD p 0=x at*;generalize b.getD p 0=f at*;generalize k.getD p 0=kp at*;have m1:x*bc*d=x*d*bc:=by ac_rfl
  have m2:f*e*d=f*d*e:=by ac_rfl
  have t:kp*bc*e=kp*e*bc:=by ac_rfl
  have fin:x*d*bc<kp*e*bc->(if x*d=kp*e then lx a k c r else some (decide (x*d<kp*e)))=some true:=λh=>by
   have:x*d<kp*e:=Int.lt_of_mul_lt_mul_right h #[];rw[aF #[],decide_eq_true this]
  by_cases e1:x*bc=f*e
  .rw[aK e1]at h1;have P:x*bc*d=f*e*d:=by rw[e1]
   by_cases C:f*d=kp*bc
   .rw[aK C]at h2;have A:f*d*e=kp*bc*e:=by rw[C]
    have:x*d=kp*e:=dU (show bc≠0 by lia) #[];rw[aK this];exact m h1 h2
   .rw[aF C]at h2;have R:f*d<kp*bc:=Classical.byContradiction λz=>h2 (by rw[decide_eq_false z]);have A:f*d*e<kp*bc*e:=Int.mul_lt_mul_of_pos_right R ha;exact fin #[]
  .rw[aF e1]at h1;have R:x*bc<f*e:=by simpa using h1
   have P:x*bc*d<f*e*d:=Int.mul_lt_mul_of_pos_right R hk;by_cases C:f*d=kp*bc
   .have A:f*d*e=kp*bc*e:=by rw[C]
    exact fin #[]
   .rw[aF C]at h2;have R:f*d<kp*bc:=Classical.byContradiction λz=>h2 (by rw[decide_eq_false z]);have A:f*d*e<kp*bc*e:=Int.mul_lt_mul_of_pos_right R ha;exact fin #[]
noncomputable def Lv(X:List (List Int))(c:Nat)(l:List Nat)(i:Nat):Option Nat->Prop
 |none=>∀k row,k<i->X[k]?=some row->¬0<row.getD c 0
 |some f=>f<i/\∃fr,X[f]?=some fr/\0<fr.getD c 0/\∀k row,k<i->X[k]?=some row->0<row.getD c 0->lx fr row c l≠some false/\(lx fr row c l=none->f<=k)
def Lv.skip{l:List Nat}{o:Option Nat}{row:List Int}(h:Lv X c l i o)(hr:X[i]?=some row)(hn:¬0<row.getD c 0):Lv X c l (i+1) o:=by
 cases o with
 |none=>
  intro k d hk e;by_cases g:k<i
  .exact h k d g e
  .have:k=i:=#[];subst this;rw[hr]at e;obtain rfl:=aW e;exact hn
 |some f=>
  obtain⟨h1,fr,h2,R,O⟩:=h;refine#[#[],fr,h2,R,λk d hk e hp=>?_];by_cases g:k<i
  .exact O k d g e hp
  .have:k=i:=#[];subst this;rw[hr]at e;obtain rfl:=aW e;exact absurd hp hn
def Vx{a:List Int}{c:Nat}:∀l:List Nat,lx a a c l=none
 | []=>rfl
 |p::r=>by unfold lx;rw[aK rfl];exact Vx r
def Lv.first{l:List Nat}{row:List Int}(h:Lv X c l i none)(hr:X[i]?=some row)(hp:0<row.getD c 0):Lv X c l (i+1) (some i):=by
 refine#[#[],row,hr,hp,λk d hk e m=>?_];by_cases g:k<i
 .exact absurd m (h k d g e)
 .have:k=i:=#[];subst this;rw[hr]at e;obtain rfl:=aW e;rw[Vx];exact#[by simp,λ_=>aU _]
def Lv.keep{l:List Nat}{f:Nat}{row fr:List Int}(h:Lv X c l i (some f))(hf:X[f]?=some fr)(hr:X[i]?=some row)(hp:0<row.getD c 0)(ha:lx row fr c l≠some true):Lv X c l (i+1) (some f):=by
 obtain⟨h1,v,h2,R,O⟩:=h;rw[hf]at h2;obtain rfl:=aW h2;refine#[#[],fr,hf,R,λk d hk e m=>?_];by_cases g:k<i
 .exact O k d g e m
 .have:k=i:=#[];subst this;rw[hr]at e;obtain rfl:=aW e;refine#[λz=>ha ?_,λ_=>by lia];rw[jYZ (a:=fr) (b:=row),z];rfl
def Lv.take{l:List Nat}{f:Nat}{row fr:List Int}(h:Lv X c l i (some f))(hf:X[f]?=some fr)(hr:X[i]?=some row)(hp:0<row.getD c 0)(ha:lx row fr c l=some true):Lv X c l (i+1) (some i):=by
 obtain⟨h1,v,h2,R,O⟩:=h;rw[hf]at h2;obtain rfl:=aW h2;refine#[#[],row,hr,hp,λk d hk e m=>?_];by_cases g:k<i
 .have:=Yv hp R m l ha (O k d g e m).1;rw[this];exact#[by simp,λz=>by cases z]
 .have:k=i:=#[];subst this;rw[hr]at e;obtain rfl:=aW e;rw[Vx];exact#[by simp,λ_=>aU _]
noncomputable def sm:Nat->(Nat->Int)->Int
 |0,_=>0
 |n+1,f=>sm n f+f n
def iJ:∀{n:Nat}{f g:Nat->Int},(∀k,k<n->f k=g k)->sm n f=sm n g
 |0,_,_,_=>rfl
 |n+1,f,g,h=>by
  show sm n f+f n=sm n g+g n;rw[iJ (n:=n) λk hk=>h k #[],h n #[]]
def kK:∀{n:Nat}{f:Nat->Int},(∀k,k<n->f k=0)->sm n f=0
 |0,_,_=>rfl
 |n+1,f,h=>by
  show sm n f+f n=0;rw[kK (n:=n) λk hk=>h k #[],h n #[]];rfl
def zP(a b:Int):∀(n:Nat)(f g:Nat->Int),sm n (λk=>a*f k+b*g k)=a*sm n f+b*sm n g
 |0,_,_=>by show(0:Int)=a*0+b*0;simp
 |n+1,f,g=>by
  show sm n (λk=>a*f k+b*g k)+(a*f n+b*g n)=a*(sm n f+f n)+b*(sm n g+g n);rw[zP a b n f g,Int.mul_add,Int.mul_add];lia
def oP{p:Nat}:∀{n:Nat}{f:Nat->Int},p<n->(∀k,k<n->k≠p->f k=0)->sm n f=f p
 |0,_,h,_=>absurd h (fE _)
 |n+1,f,hp,h=>by
  show sm n f+f n=f p;by_cases e:p=n
  .rw[kK (n:=n) λk hk=>h k #[] #[],e];lia
  .rw[oP (n:=n) #[] λk hk g=>h k #[] g,h n #[] #[]];lia
def Ut{p q:Nat}:∀{n:Nat}{f:Nat->Int},p<q->q<n->(∀k,k<n->k≠p->k≠q->f k=0)->sm n f=f p+f q
 |0,_,_,h,_=>absurd h (fE _)
 |n+1,f,hpq,hq,h=>by
  show sm n f+f n=f p+f q;by_cases e:q=n
  .rw[oP (p:=p) (n:=n) #[] λk hk g=>h k #[] g #[],e]
  .rw[Ut (n:=n) hpq #[] λk hk h1 h2=>h k #[] h1 h2,h n #[] #[] #[]];lia
def sg(k:Nat):Int:=if k%2=0 then 1 else -1
def sg_succ(k:Nat):sg (k+1)=-sg k:=by
 unfold sg;split<;>split<;>lia
def sg_abs(k:Nat):(sg k).natAbs=1:=by unfold sg;split<;>rfl
def skp(k i:Nat):Nat:=if i<k then i else i+1
def skp_ne(k i:Nat):skp k i≠k:=by unfold skp;split<;>lia
def skp_lt{n:Nat}(h:i<n):skp k i<n+1:=by unfold skp;split<;>lia
def skp_inj(h:skp k i=skp k j):i=j:=by unfold skp at h;split at h<;>split at h<;>lia
def jVc{n:Nat}(hk:k<n+1)(A:j<n+1)(g:j≠k):∃i,i<n/\skp k i=j:=by
 unfold skp;by_cases h:j<k
 .exact#[j,#[],by rw[aK h]]
 .exact#[j-1,#[],by rw[aF #[]];lia]
noncomputable abbrev Mx:=Nat->Nat->Int
def mnr(M:Mx)(k:Nat):Mx:=λi r=>M (skp k i) (r+1)
noncomputable def det:Nat->Mx->Int
 |0,_=>1
 |n+1,M=>sm (n+1) λk=>sg k*M k 0*det n (mnr M k)
def Cd:∀{n:Nat}{M L:Mx},(∀i,i<n->∀r,r<n->M i r=L i r)->det n M=det n L
 |0,_,_,_=>rfl
 |n+1,M,L,h=>by
  refine iJ λk hk=>?_;rw[h k hk 0 #[],Cd (n:=n) (M:=mnr M k) (L:=mnr L k) λi hi r hr=>h _ (skp_lt hi) _ #[]]
def pt(M:Mx)(j:Nat)(v:Nat->Int):Mx:=λi=>if i=j then v else M i
def tV(M:Mx)(j:Nat)(v:Nat->Int):pt M j v j=v:=by unfold pt;rw[aK rfl]
def mQ(M:Mx)(v:Nat->Int)(h:i≠j):pt M j v i=M i:=by unfold pt;rw[aF h]
def Fl(M:Mx)(j:Nat):pt M j (M j)=M:=by
 funext i;unfold pt;split
 .rename_i e;rw[e]
 .rfl
def pt_pt(M:Mx)(j:Nat)(u v:Nat->Int):pt (pt M j u) j v=pt M j v:=by
 funext i;unfold pt;split<;>rfl
def Bo(M:Mx)(h:i≠j)(u v:Nat->Int):pt (pt M i u) j v=pt (pt M j v) i u:=by
 funext k;unfold pt
 by_cases h1:k=j
 .rw[aK h1,aF #[],aK h1]
 .rw[aF h1];by_cases h2:k=i
  .rw[aK h2,aK h2]
  .rw[aF h2,aF h2,aF h1]
def Ar(M:Mx)(k:Nat)(v:Nat->Int):mnr (pt M k v) k=mnr M k:=by
 funext i r
 show pt M k v (skp k i) (r+1)=M (skp k i) (r+1);rw[mQ _ _ (skp_ne k i)]
def jJu(M:Mx)(v:Nat->Int):mnr (pt M (skp k c) v) k=pt (mnr M k) c (λr=>v (r+1)):=by
 funext i r
 show pt M (skp k c) v (skp k i) (r+1)=_;unfold pt;by_cases h:i=c
 .rw[aK h,aK (by rw[h])]
 .rw[aF h,aF (λe=>h (skp_inj e))];rfl
def Wf(a b:Int):∀{n:Nat}(M:Mx){j:Nat}(u v:Nat->Int),j<n->det n (pt M j (λr=>a*u r+b*v r))=a*det n (pt M j u)+b*det n (pt M j v)
 |0,_,_,_,_,h=>absurd h (fE _)
 |n+1,M,j,u,v,hj=>by
  show sm (n+1) _=a*sm (n+1) _+b*sm (n+1) _;rw[←zP];refine iJ λk hk=>?_;by_cases e:k=j
  .subst e;rw[tV,tV,tV,Ar,Ar,Ar];grind
  .obtain⟨c,d,J⟩:=jVc hk hj (λz=>e z.symm);rw[mQ _ _ e,mQ _ _ e,mQ _ _ e,←J,jJu,jJu,jJu,Wf a b (mnr M k) (λr=>u (r+1)) (λr=>v (r+1)) d];grind
def Mn:∀{n:Nat}{M:Mx}{p:Nat},p+1<n->M p=M (p+1)->det n M=0
 |0,_,_,h,_=>absurd h (fE _)
 |n+1,M,p,hp,e=>by
  show sm (n+1) _=0;rw[Ut (p:=p) (q:=p+1) #[] hp]
  .have Z:mnr M p=mnr M (p+1):=by
    funext i r
    show M (skp p i) (r+1)=M (skp (p+1) i) (r+1);unfold skp;by_cases h1:i<p
    .rw[aK h1,aK #[]]
    .rw[aF h1];by_cases h2:i=p
     .rw[aK #[],h2,e]
     .rw[aF #[]]
   rw[Z,e,sg_succ];grind
  .intro k hk h1 h2;have:det n (mnr M k)=0:=by
    by_cases h:k<p
    .refine Mn (p:=p-1) #[] ?_
     funext r
     show M (skp k (p-1)) (r+1)=M (skp k (p-1+1)) (r+1);unfold skp;rw[aF #[],aF #[],show p-1+1=p by lia,e]
    .refine Mn (p:=p) #[] ?_
     funext r
     show M (skp k p) (r+1)=M (skp k (p+1)) (r+1);unfold skp;rw[aK #[],aK #[],e]
   rw[this,cZ]
def Mo{n:Nat}(M:Mx)(u v:Nat->Int)(h:j<n):det n (pt M j (λr=>u r+v r))=det n (pt M j u)+det n (pt M j v):=by
 have:=Wf 1 1 M u v h;simp only[fF]at this;exact this
def Ka{n:Nat}(M:Mx)(a:Int)(u:Nat->Int)(h:j<n):det n (pt M j (λr=>a*u r))=a*det n (pt M j u):=by
 have:=Wf a 0 M u u h;simp only[gH,Int.add_zero]at this;exact this
def jXu{n p:Nat}(hp:p<n)(T:q<n)(g:p≠q)(z:∀M:Mx,M p=M q->det n M=0)(M:Mx)(u v:Nat->Int):det n (pt (pt M p u) q v)=-det n (pt (pt M p v) q u):=by
 have B:=z (pt (pt M p (λr=>u r+v r)) q (λr=>u r+v r)) (by rw[tV,mQ _ _ g,tV]);have a:=z (pt (pt M p u) q u) (by rw[tV,mQ _ _ g,tV]);have b:=z (pt (pt M p v) q v) (by rw[tV,mQ _ _ g,tV]);rw[Mo _ _ _ T,Bo M g,Bo M g,Mo _ _ _ hp,Mo _ _ _ hp,Bo M (Ne.symm g),Bo M (Ne.symm g),Bo M (Ne.symm g),Bo M (Ne.symm g)]at B;lia
def Wg{n:Nat}:∀(d:Nat){M:Mx}{p q:Nat},q=p+1+d->q<n->M p=M q->det n M=0
 |0,M,p,q,e,hq,h=>Mn (p:=p) #[] (by rw[h,e])
 |d+1,M,p,q,e,hq,h=>by
  have a:=jXu (n:=n) (p:=q-1) (q:=q-1+1) #[] #[] #[] (λL C=>Mn #[] C) M (M (q-1)) (M q);rw[show q-1+1=q by lia]at a;rw[Fl,Fl]at a;rw[a,Wg d (p:=p) (q:=q-1) #[] #[]]
  .rfl
  .rw[mQ _ _ (show p≠q by lia),mQ _ _ (show p≠q-1 by lia),mQ _ _ (show q-1≠q by lia),tV,h]
def Oq{n:Nat}{M:Mx}{p:Nat}(hp:p<n)(T:q<n)(g:p≠q)(h:M p=M q):det n M=0:=by
 by_cases f:p<q
 .exact Wg (q-p-1) (p:=p) (q:=q) #[] T h
 .exact Wg (p-q-1) (p:=q) (q:=p) #[] hp h.symm
def jUa{n p:Nat}(hp:p<n)(T:q<n)(g:p≠q)(M:Mx)(u v:Nat->Int):det n (pt (pt M p u) q v)=-det n (pt (pt M p v) q u):=jXu hp T g (λ_ h=>Oq hp T g h) M u v
noncomputable def e1(i:Nat):Nat->Int:=λr=>if r=i then 1 else 0
def Im:Mx:=e1
def Mm:∀n:Nat,det n Im=1
 |0=>rfl
 |n+1=>by
  show sm (n+1) _=1;rw[oP (p:=0) #[]]
  .have:det n (mnr Im 0)=det n Im:=Cd λi _ r _=>by
    show e1 (skp 0 i) (r+1)=e1 i r;unfold e1 skp;rw[aF (fE i)];by_cases h:r=i
    .rw[aK h,aK #[]]
    .rw[aF h,aF #[]]
   rw[this,Mm n];rfl
  .intro k _ hk;have:Im k 0=0:=by show e1 k 0=0;unfold e1;rw[aF (λz=>hk z.symm)]
   rw[this];grind
def Oo{n:Nat}(M:Mx){j:Nat}(A:j<n)(c:Nat->Int)(w:Nat->Nat->Int):∀m:Nat,det n (pt M j (λr=>sm m λk=>c k*w k r))=sm m λk=>c k*det n (pt M j (w k))
 |0=>by
  have:=Ka M 0 (λ_=>0) A;simp only[gH]at this;exact this
 |m+1=>by
  show det n (pt M j (λr=>sm m (λk=>c k*w k r)+c m*w m r))=sm m _+c m*_;rw[Mo _ _ _ A,Oo M A c w m,Ka _ _ _ A]
def Yh(v:Nat->Int):∀(n r:Nat),r<n->(sm n λk=>v k*e1 k r)=v r:=λn r hr=>by
 rw[oP (p:=r) hr]
 .unfold e1;rw[aK rfl,fK]
 .intro k _ hk;unfold e1;rw[aF (λz=>hk z.symm),cZ]
def det_sum{n:Nat}(M:Mx)(A:j<n)(v:Nat->Int):det n (pt M j v)=sm n λk=>v k*det n (pt M j (e1 k)):=by
 rw[←Oo M A v e1 n];refine Cd λi hi r hr=>?_;unfold pt;split
 .exact(Yh v n r hr).symm
 .rfl
section
variable{N:Nat}
def Tt(N:Nat)(B:Mx)(i:Nat)(y:Nat->Int):Int:=det N (pt B i y)
def Cr(N:Nat)(B:Mx):Prop:=∀(y:Nat->Int)(r:Nat),r<N->(sm N λi=>Tt N B i y*B i r)=det N B*y r
def jJ6(B:Mx)(i:Nat):Tt N B i (B i)=det N B:=by unfold Tt;rw[Fl]
def Ov{B:Mx}(hi:i<N)(A:j<N)(h:i≠j):Tt N B i (B j)=0:=
 Oq hi A h (by rw[tV,mQ _ _ (Ne.symm h)])
def Tt_lin{B:Mx}(hi:i<N)(y:Nat->Int):Tt N B i y=sm N λk=>y k*Tt N B i (e1 k):=det_sum B hi y
def Tt_one(hi:i<N)(y:Nat->Int):Tt N Im i y=y i:=by
 rw[Tt_lin hi,oP (p:=i) hi]
 .rw[show Tt N Im i (e1 i)=det N Im from jJ6 Im i,Mm,fK]
 .intro k hk g;rw[show Tt N Im i (e1 k)=0 from Ov hi hk (Ne.symm g),cZ]
def Cr_one:Cr N Im:=by
 intro y r hr;rw[Mm,fF,←Yh y N r hr];exact iJ λi hi=>by rw[Tt_one hi];rfl
def exchT{B:Mx}(T:Cr N B){r:Nat}(hr:r<N)(hi:i<N)(g:i≠r)(x y:Nat->Int):det N B*Tt N (pt B r x) i y=Tt N B i y*Tt N B r x-Tt N B r y*Tt N B i x:=by
 have h1:det N B*Tt N (pt B r x) i y=det N (pt (pt B r x) i (λs=>det N B*y s)):=(Ka _ _ _ hi).symm;have h2:det N (pt (pt B r x) i (λs=>det N B*y s))=det N (pt (pt B r x) i (λs=>sm N λk=>Tt N B k y*B k s)):=Cd λj _ s hs=>by
  unfold pt;by_cases e:j=i
  .rw[aK e,aK e,T y s hs]
  .rw[aF e,aF e]
 rw[h1,h2,Oo _ hi];have a:det N (pt (pt B r x) i (B i))=Tt N B r x:=by
  have:pt (pt B r x) i (B i)=pt B r x:=by
   have:=Fl (pt B r x) i;rwa [mQ _ _ g]at this
  rw[this];rfl
 have d:det N (pt (pt B r x) i (B r))=-Tt N B i x:=by
  rw[jUa hr hi (Ne.symm g),Fl];rfl
 have key:∀k,k<N->k≠i->k≠r->Tt N B k y*det N (pt (pt B r x) i (B k))=0:=λk hk h1 h2=>by
  rw[Oq hi hk (Ne.symm h1) (by rw[tV,mQ _ _ h1,mQ _ _ h2]),cZ]
 by_cases f:i<r
 .rw[Ut f hr (λk hk h1 h2=>key k hk h1 h2),a,d,Int.mul_neg];rfl
 .rw[Ut (p:=r) (q:=i) #[] hi (λk hk h1 h2=>key k hk h2 h1),a,d,Int.mul_neg];lia
def jYu(B:Mx)(r:Nat)(x y:Nat->Int):Tt N (pt B r x) r y=Tt N B r y:=by unfold Tt;rw[pt_pt]
def det_pt(B:Mx)(r:Nat)(x:Nat->Int):det N (pt B r x)=Tt N B r x:=rfl
def Cr.turn{B:Mx}(T:Cr N B)(g:det N B≠0){r:Nat}(hr:r<N)(x:Nat->Int):Cr N (pt B r x):=by
 intro y s hs;apply Int.eq_of_mul_eq_mul_left g;have e:∀i,i<N->det N B*(Tt N (pt B r x) i y*(pt B r x) i s)=Tt N B r x*(Tt N B i y*B i s)+(-Tt N B r y)*(Tt N B i x*B i s)+(if i=r then det N B*Tt N B r y*x s else 0):=λi hi=>by
  by_cases h:i=r
  .subst h;rw[aK rfl,jYu,tV];grind
  .rw[aF h,mQ _ _ h,←iH,exchT T hr hi h];grind
 have M:det N B*sm N (λi=>Tt N (pt B r x) i y*(pt B r x) i s)=sm N λi=>det N B*(Tt N (pt B r x) i y*(pt B r x) i s):=by
  have:=zP (det N B) 0 N (λi=>Tt N (pt B r x) i y*(pt B r x) i s) (λ_=>0);simp only[gH,Int.add_zero]at this;exact this.symm
 rw[M,iJ e];have P:=zP 1 1 N (λi=>Tt N B r x*(Tt N B i y*B i s)+(-Tt N B r y)*(Tt N B i x*B i s)) (λi=>if i=r then det N B*Tt N B r y*x s else 0);simp only[fF]at P;rw[P,zP,T y s hs,T x s hs,oP (p:=r) hr (λk _ hk=>aF hk),aK rfl,det_pt];grind
end
noncomputable def lp(u:Nat->Int):List Nat->Prop
 | []=>False
 |p::r=>0<u p∨(u p=0/\lp u r)
noncomputable def lpn(u:Nat->Int):List Nat->Prop
 | []=>True
 |p::r=>0<u p∨(u p=0/\lpn u r)
def lp.weak{u:Nat->Int}:∀{l:List Nat},lp u l->lpn u l
 | [],h=>h.elim
 |_::_,.inl h=>.inl h
 |_::_,.inr h=>.inr #[h.1,h.2.weak]
def rA{u v:Nat->Int}:∀{l:List Nat},(∀p∈l,u p=v p)->lp u l->lp v l
 | [],_,h=>h
 |p::r,e,h=>by
  have Q:=e p cB;rcases h with h |h
  .exact .inl (Q▸h)
  .exact .inr #[Q▸h.1,rA (λq T=>e q (bO _ T)) h.2]
def Ol{u:Nat->Int}{a:Int}(ha:0<a):∀{l:List Nat},lp u l->lp (λp=>a*u p) l
 | [],h=>h
 |p::r,h=>by
  rcases h with h |h
  .exact .inl (bL ha h)
  .exact .inr #[by show a*u p=0;rw[h.1,cZ],Ol ha h.2]
def vY{u:Nat->Int}{a:Int}(ha:0<a):∀{l:List Nat},lp (λp=>a*u p) l->lp u l
 | [],h=>h
 |p::r,h=>by
  rcases h with h |h
  .left
   have h:0<a*u p:=h;rcases Int.lt_trichotomy (u p) 0 with z |z |z
   .have:=Int.mul_neg_of_pos_of_neg ha z;lia
   .rw[z,cZ]at h;lia
   .exact z
  .right
   have h1:a*u p=0:=h.1;refine#[?_,vY ha h.2];rcases Int.mul_eq_zero.mp h1 with z |z
   .omega
   .exact z
def lp_add{u v:Nat->Int}{a b:Int}(ha:0<a)(hb:0<=b){l:List Nat}(h:lp u l)(k:lpn v l):lp (λp=>a*u p+b*v p) l:=by
 by_cases hz:b=0
 .subst hz;refine rA (λp _=>?_) (Ol ha h);lia
 .have hb:0<b:=#[];clear hz
  induction l with
  |nil=>exact h.elim
  |cons p r ih=>
   rcases h with h |h
   .left
    have h1:=bL ha h;have h2:0<=b*v p:=by
     rcases k with k |k
     .exact dZ #[] #[]
     .rw[k.1,cZ];exact Int.le_refl _
    show 0<a*u p+b*v p;lia
   .rcases k with k |k
    .left
     have h1:=bL hb k;show 0<a*u p+b*v p;rw[h.1,cZ];lia
    .exact .inr #[by show a*u p+b*v p=0;rw[h.1,k.1,cZ,cZ];rfl,ih h.2 k.2]
def Tb{u:Nat->Int}:∀{l:List Nat},(∀p∈l,u p=0)->¬lp u l
 | [],_,h=>h
 |p::r,e,h=>by
  have Q:=e p cB;rcases h with h |h
  .omega
  .exact Tb (λq T=>e q (bO _ T)) h.2
def lp_or{u:Nat->Int}:∀(l:List Nat),lp u l∨(∀p∈l,u p=0)∨lp (λp=>-u p) l
 | []=>.inr (.inl (λ_ h=>nomatch h))
 |p::r=>by
  rcases Int.lt_trichotomy (u p) 0 with z |z |z
  .exact .inr (.inr (.inl (by show 0< -u p;lia)))
  .rcases lp_or (u:=u) r with h |h |h
   .exact .inl (.inr #[z,h])
   .refine .inr (.inl λq T=>?_);rcases eW.mp T with rfl |T
    .exact z
    .exact h q T
   .exact .inr (.inr (.inr #[by show-u p=0;lia,h]))
  .exact .inl (.inl z)
structure Lpd where
 m:Nat
 n:Nat
 a:Nat->Nat->Int
 be:Nat->Int
 fl:Bool
namespace Lpd
variable(L:Lpd)
noncomputable def cv(j:Nat):Nat->Int:=if j<L.n then L.a j else e1 (j-L.n)
def B(s:Nat->Nat):Mx:=λi=>if i<L.m then L.cv (s i)else e1 i
def sg:Int:=if L.fl=true then -1 else 1
def sg2:L.sg*L.sg=1:=by unfold sg;split<;>rfl
def sg_abs(x:Int):(L.sg*x).natAbs=x.natAbs:=by unfold sg;split<;>lia
def D(s:Nat->Nat):Int:=L.sg*det (L.m+1) (L.B s)
def T(s:Nat->Nat)(i:Nat)(y:Nat->Int):Int:=L.sg*Tt (L.m+1) (L.B s) i y
noncomputable def li(p:Nat):Nat->Int:=if p=0 then L.be else e1 (p-1)
noncomputable def ls:List Nat:=range (L.m+1)
noncomputable def sput(s:Nat->Nat)(r c:Nat):Nat->Nat:=λi=>if i=r then c else s i
def B_put{r:Nat}(hr:r<L.m):L.B (sput s r c)=pt (L.B s) r (L.cv c):=by
 funext i
 unfold B sput pt;by_cases h:i=r
 .rw[aK #[],aK h,aK h]
 .rw[aF h,aF h]
structure Okn(s:Nat->Nat):Prop where
 ne:L.D s≠0
 cr:Cr (L.m+1) (L.B s)
structure Ok(s:Nat->Nat):Prop where
 pos:0<L.D s
 cr:Cr (L.m+1) (L.B s)
 bn:∀i,i<L.m->0<=L.T s i L.be
structure Okx(s:Nat->Nat):Prop where
 pos:0<L.D s
 cr:Cr (L.m+1) (L.B s)
 lex:∀i,i<L.m->lp (λp=>L.T s i (L.li p)) L.ls
def own(hi:i<L.m):L.T s i (L.cv (s i))=L.D s:=by
 have:=jJ6 (N:=L.m+1) (L.B s) i;have e:L.B s i=L.cv (s i):=by unfold B;rw[aK hi]
 rw[e]at this;unfold T D;rw[this]
def last_own(s:Nat->Nat):L.T s L.m (e1 L.m)=L.D s:=by
 have:=jJ6 (N:=L.m+1) (L.B s) L.m;have e:L.B s L.m=e1 L.m:=by unfold B;rw[aF (fB _)]
 rw[e]at this;unfold T D;rw[this]
def not_last(hi:i<L.m):L.T s i (e1 L.m)=0:=by
 have:=Ov (N:=L.m+1) (B:=L.B s) (i:=i) (j:=L.m) #[] #[] #[];have e:L.B s L.m=e1 L.m:=by unfold B;rw[aF (fB _)]
 rw[e]at this;unfold T;rw[this,cZ]
def other(hi:i<L.m+1)(A:j<L.m)(h:i≠j):L.T s i (L.cv (s j))=0:=by
 have:=Ov (N:=L.m+1) (B:=L.B s) (i:=i) (j:=j) hi #[] h;have e:L.B s j=L.cv (s j):=by unfold B;rw[aK A]
 rw[e]at this;unfold T;rw[this,cZ]
def sm_by(c:Int)(n:Nat)(f:Nat->Int):sm n (λk=>c*f k)=c*sm n f:=by
 have:=zP c 0 n f f;simp only[gH,Int.add_zero]at this;exact this
def T_lin(hi:i<L.m+1)(y:Nat->Int):L.T s i y=sm (L.m+1) λk=>y k*L.T s i (e1 k):=by
 unfold T;rw[Tt_lin hi,←sm_by];exact iJ λk _=>by rw[Int.mul_left_comm]
def cr_T(h:Cr (L.m+1) (L.B s))(y:Nat->Int){r:Nat}(hr:r<L.m+1):(sm (L.m+1) λi=>L.T s i y*L.B s i r)=L.D s*y r:=by
 unfold T D;rw[iH,←h y r hr,←sm_by];exact iJ λk _=>by rw[iH]
section
variable{L}
def Ok.n(o:L.Ok s):L.Okn s:=#[Int.ne_of_gt o.pos,o.cr]
def Okx.n(o:L.Okx s):L.Okn s:=#[Int.ne_of_gt o.pos,o.cr]
def Okx.bound_nonneg(o:L.Okx s)(hi:i<L.m):0<=L.T s i L.be:=by
 have h:=o.lex i hi;unfold ls at h;rw[List.range_succ_eq_map]at h;have e:L.li 0=L.be:=by unfold li;rw[aK rfl]
 rcases h with h |h
 .have h:0<L.T s i (L.li 0):=h;rw[e]at h;lia
 .have h:=h.1;simp only[e]at h;lia
def Okx.w(o:L.Okx s):L.Ok s:=#[o.pos,o.cr,λ_ hi=>o.bound_nonneg hi]
def Okn.exch(o:L.Okn s){r:Nat}(hr:r<L.m)(hi:i<L.m+1)(g:i≠r)(y:Nat->Int):L.D s*L.T (sput s r c) i y=L.T s i y*L.T s r (L.cv c)-L.T s r y*L.T s i (L.cv c):=by
 have h:=exchT o.cr (show r<L.m+1 by lia) hi g (L.cv c) y;unfold T D;rw[L.B_put hr];generalize Tt (L.m+1) (pt (L.B s) r (L.cv c)) i y=u at h⊢;have e1:L.sg*det (L.m+1) (L.B s)*(L.sg*u)=(L.sg*L.sg)*(det (L.m+1) (L.B s)*u):=by ac_rfl
 have C:∀x y:Int,L.sg*x*(L.sg*y)=(L.sg*L.sg)*(x*y):=λx y=>by ac_rfl
 rw[e1,C,C,L.sg2,h,fF,fF,fF]
def Okx.exch(o:L.Okx s){r:Nat}(hr:r<L.m)(hi:i<L.m+1)(g:i≠r)(y:Nat->Int):L.D s*L.T (sput s r c) i y=L.T s i y*L.T s r (L.cv c)-L.T s r y*L.T s i (L.cv c):=o.n.exch hr hi g y
def Ok.same{r:Nat}(hr:r<L.m)(y:Nat->Int):L.T (sput s r c) r y=L.T s r y:=by
 unfold T;rw[L.B_put hr,jYu]
def Ok.newD{r:Nat}(hr:r<L.m):L.D (sput s r c)=L.T s r (L.cv c):=by
 unfold D T;rw[L.B_put hr];rfl
def det_ne(h:L.D s≠0):det (L.m+1) (L.B s)≠0:=λz=>h (by unfold D;rw[z,cZ])
def Okn.step(o:L.Okn s){r:Nat}(hr:r<L.m)(hp:L.T s r (L.cv c)≠0):L.Okn (sput s r c):=by
 refine#[by rw[Ok.newD hr];exact hp,?_];rw[L.B_put hr];exact o.cr.turn (det_ne o.ne) #[] _
def Okx.step(o:L.Okx s){r:Nat}(hr:r<L.m)(hp:0<L.T s r (L.cv c))
  (J:∀i,i<L.m->0<L.T s i (L.cv c)->¬lp (λp=>-(L.T s i (L.li p)*L.T s r (L.cv c)-L.T s r (L.li p)*L.T s i (L.cv c))) L.ls):L.Okx (sput s r c):=by
 have g:=o.pos;have f:0<L.D (sput s r c):=by rw[Ok.newD hr];exact hp
 have j:Cr (L.m+1) (L.B (sput s r c)):=by
  rw[L.B_put hr];exact o.cr.turn (det_ne #[]) #[] _
 refine#[f,j,λi hi=>?_];by_cases d:i=r
 .subst d;exact rA (λp _=>(Ok.same hi _).symm) (o.lex i hi)
 .have ex:=λy=>o.exch (c:=c) hr (show i<L.m+1 by lia) d y;by_cases hn:L.T s i (L.cv c)<=0
  .refine vY g (rA (λp _=>?_) (lp_add hp (b:=-L.T s i (L.cv c)) #[] (o.lex i hi) (o.lex r hr).weak));rw[ex];grind
  .have l:0<L.T s i (L.cv c):=#[];rcases lp_or (u:=λp=>L.T s i (L.li p)*L.T s r (L.cv c)-L.T s r (L.li p)*L.T s i (L.cv c)) L.ls with h |h |h
   .exact vY g (rA (λp _=>(ex _).symm) h)
   .exfalso;have z:∀k,k<L.m+1->L.T (sput s r c) i (e1 k)=0:=λk hk=>by
     by_cases a:k=L.m
     .rw[a];exact L.not_last hi
     .have h1:=h (k+1) (by unfold ls;exact gG.mpr #[]);have e:L.li (k+1)=e1 k:=by unfold li;rw[aF #[]];rfl
      simp only[e]at h1;have h2:=ex (e1 k);rw[h1]at h2;rcases Int.mul_eq_zero.mp h2 with q |q
      .omega
      .exact q
    have hw:L.T (sput s r c) i (L.cv (sput s r c i))=0:=by
     rw[L.T_lin #[]];exact kK λk hk=>by rw[z k hk,cZ]
    rw[L.own hi]at hw;lia
   .exact absurd h (J i hi l)
def Fur(L:Lpd)(s t:Nat->Nat):Prop:=lp (λp=>L.T t L.m (L.li p)*L.D s-L.T s L.m (L.li p)*L.D t) L.ls
def Okx.further(o:L.Okx s){r:Nat}(hr:r<L.m)(b:L.T s L.m (L.cv c)<0):L.Fur s (sput s r c):=by
 refine rA (λp _=>?_) (Ol (a:=-L.T s L.m (L.cv c)) #[] (o.lex r hr));have:=o.exch (c:=c) (i:=L.m) hr #[] #[] (L.li p);rw[Ok.newD hr,gI _ (L.D s),this];grind
def Fur.trans{t w:Nat->Nat}(hs:0<L.D s)(y:0<L.D t)(hw:0<L.D w)(h1:L.Fur s t)(h2:L.Fur t w):L.Fur s w:=by
 refine vY y (rA (λp _=>?_) (lp_add hs (bW hw) h2 h1.weak));grind
def Fur.irrefl:¬L.Fur s s:=Tb λp _=>by lia
end
end Lpd
def Tg{d:Type}{p q:d->Bool}:∀{l:List d},(∀x∈l,p x=true->q x=true)->(∃x∈l,q x=true/\p x=false)->(l.filter p).length<(l.filter q).length
 | [],_,h=>by obtain⟨x,hx,_⟩:=h;cases hx
 |a::r,h1,h2=>by
  have hr:(r.filter p).length<=(r.filter q).length:=by
   have key:∀l:List d,(∀x∈l,p x=true->q x=true)->(l.filter p).length<=(l.filter q).length:=λl=>by
    induction l with
    |nil=>intro _;exact aU _
    |cons b t ih=>
     intro h;have U:=ih λx hx=>h x (bO _ hx);have hb:=h b cB;rw[List.filter_cons,List.filter_cons];cases hp:p b with
     |true=>rw[hb hp];simp only[if_true,dF];lia
     |false=>
      cases q b with
      |true=>simp only[Bool.false_eq_true,if_false,if_true,dF];lia
      |false=>simpa using U
   exact key r λx hx=>h1 x (bO _ hx)
  have ha:=h1 a cB;rw[List.filter_cons,List.filter_cons];obtain⟨x,hx,c,n⟩:=h2;rcases eW.mp hx with rfl |hx
  .rw[c,n];simp only[Bool.false_eq_true,if_false,if_true,dF];lia
  .have U:=Tg (l:=r) (p:=p) (q:=q) (λx hx=>h1 x (bO _ hx)) #[x,hx,c,n];cases hp:p a with
   |true=>rw[ha hp];simp only[if_true,dF];lia
   |false=>
    cases q a with
    |true=>simp only[Bool.false_eq_true,if_false,if_true,dF];lia
    |false=>simpa using U
noncomputable def allL(k:Nat):Nat->fP
 |0=>[[]]
 |m+1=>(allL k m).flatMap λl=>(range k).map λc=>c::l
def Yu{k:Nat}:∀{m:Nat}{l:List Nat},l.length=m->(∀c∈l,c<k)->l∈allL k m
 |0,l,h,_=>by
  have:l=[]:=List.eq_nil_of_length_eq_zero h;subst this;simp [allL]
 |m+1,[],h,_=>by simp at h
 |m+1,c::l,h,hc=>by
  simp only[allL,List.mem_flatMap,cV,gG];exact#[l,Yu (by simpa using h) λx hx=>hc x (bO _ hx),c,hc c cB,rfl]
namespace Lpd
variable{L:Lpd}
noncomputable def sf(l:List Nat):Nat->Nat:=λi=>l.getD i 0
def mu(L:Lpd)(s:Nat->Nat):Nat:=open Classical in ((allL (L.n+L.m) L.m).filter λt=>decide (0<L.D (sf t)/\L.Fur s (sf t))).length
def mu_lt{t:List Nat}(hs:0<L.D s)(y:0<L.D (sf t))(S:t.length=L.m)(hc:∀c∈t,c<L.n+L.m)(h:L.Fur s (sf t)):L.mu (sf t)<L.mu s:=by
 classical
 unfold mu;refine Tg (λx _ hx=>?_) #[t,Yu S hc,?_,?_]
 .have hx:=of_decide_eq_true hx;exact decide_eq_true #[hx.1,Fur.trans hs y hx.1 h hx.2]
 .exact decide_eq_true #[y,h]
 .exact decide_eq_false λz=>Fur.irrefl z.2
def Uu(n:Nat)(f g:Nat->Int):sm n (λk=>f k+g k)=sm n f+sm n g:=by
 have:=zP 1 1 n f g;simp only[fF]at this;exact this
def sm_mul(c:Int)(n:Nat)(f:Nat->Int):sm n (λk=>c*f k)=c*sm n f:=by
 have:=zP c 0 n f f;simp only[gH,Int.add_zero]at this;exact this
def jXw(g:Nat->Nat->Int)(m:Nat):∀n:Nat,sm n (λj=>sm m λi=>g i j)=sm m λi=>sm n λj=>g i j
 |0=>(kK λ_ _=>rfl).symm
 |n+1=>by
  show sm n (λj=>sm m λi=>g i j)+sm m (λi=>g i n)=sm m λi=>sm n (λj=>g i j)+g i n;rw[jXw g m n,Uu]
def sm_le:∀{n:Nat}{f g:Nat->Int},(∀k,k<n->f k<=g k)->sm n f<=sm n g
 |0,_,_,_=>Int.le_refl _
 |n+1,f,g,h=>Int.add_le_add (sm_le λk hk=>h k #[]) (h n #[])
def Jr{n:Nat}{f:Nat->Int}(h:∀k,k<n->0<=f k):0<=sm n f:=by
 have:=sm_le (n:=n) (f:=λ_=>0) (g:=f) h;rwa [kK λ_ _=>rfl]at this
def spr(m:Nat)(s:Nat->Nat)(t:Nat->Int)(j:Nat):Int:=sm m λi=>if s i=j then t i else 0
def spr_sum(m n:Nat)(s:Nat->Nat)(t:Nat->Int)(w:Nat->Int):(sm n λj=>spr m s t j*w j)=sm m λi=>if s i<n then t i*w (s i)else 0:=by
 have e:(sm n λj=>spr m s t j*w j)=sm n λj=>sm m λi=>if s i=j then t i*w j else 0:=iJ λj _=>by
  unfold spr;rw[gI,←sm_mul];exact iJ λi _=>by split<;>simp [gI]
 rw[e,jXw (λi j=>if s i=j then t i*w j else 0)];refine iJ λi _=>?_;by_cases h:s i<n
 .rw[aK h,oP (p:=s i) h]
  .rw[aK rfl]
  .intro k _ hk;rw[aF (λz=>hk z.symm)]
 .rw[aF h];exact kK λj A=>aF #[]
def Ok.by_cols(o:L.Ok s)(hs:∀i,i<L.m->s i<L.n+L.m)(y:Nat->Int){r:Nat}(hr:r<L.m+1):
  (sm L.n λj=>spr L.m s (λi=>L.T s i y) j*L.a j r)+(sm L.m λi=>if s i<L.n then 0 else L.T s i y*e1 (s i-L.n) r)+(if r=L.m then L.T s L.m y else 0)=L.D s*y r:=by
 have h:=L.cr_T o.cr y hr;have h:(sm L.m λi=>L.T s i y*L.B s i r)+L.T s L.m y*L.B s L.m r=L.D s*y r:=h;rw[spr_sum,←h,←Uu];have e:(sm L.m λi=>(if s i<L.n then L.T s i y*L.a (s i) r else 0)+(if s i<L.n then 0 else L.T s i y*e1 (s i-L.n) r))=sm L.m λi=>L.T s i y*L.B s i r:=iJ λi hi=>by
  have M:L.B s i=L.cv (s i):=by unfold B;rw[aK hi]
  rw[M];unfold cv;by_cases q:s i<L.n
  .rw[aK q,aK q,aK q,Int.add_zero]
  .rw[aF q,aF q,aF q,eX]
 rw[e];have M:L.B s L.m=e1 L.m:=by unfold B;rw[aF (fB _)]
 rw[M];unfold e1;by_cases q:r=L.m
 .rw[aK q,aK q,fK]
 .rw[aF q,aF q,cZ]
def Ok.bound_nonneg(o:L.Ok s)(hi:i<L.m):0<=L.T s i L.be:=o.bn i hi
def spr_nonneg{t:Nat->Int}(h:∀i,i<m->0<=t i)(j:Nat):0<=spr m s t j:=Jr λi hi=>by
 split
 .exact h i hi
 .exact Int.le_refl _
def Ok.allowed(o:L.Ok s)(hs:∀i,i<L.m->s i<L.n+L.m){r:Nat}(hr:r<L.m):(sm L.n λj=>spr L.m s (λi=>L.T s i L.be) j*L.a j r)<=L.D s*L.be r:=by
 have h:=o.by_cols hs L.be (r:=r) #[];rw[aF #[]]at h;have:0<=sm L.m λi=>if s i<L.n then 0 else L.T s i L.be*e1 (s i-L.n) r:=Jr λi hi=>by
  split
  .exact Int.le_refl _
  .refine dZ (o.bound_nonneg hi) ?_;unfold e1;split<;>decide
 lia
def Ok.no_spare(hs:∀i,i<L.m->s i<L.n+L.m)(y:Nat->Int):(sm L.m λi=>if s i<L.n then 0 else L.T s i y*e1 (s i-L.n) L.m)=0:=kK λi hi=>by
 split
 .rfl
 .have:=hs i hi;unfold e1;rw[aF #[],cZ]
def Ok.earned(o:L.Ok s)(hs:∀i,i<L.m->s i<L.n+L.m)(hb:L.be L.m=0):(sm L.n λj=>spr L.m s (λi=>L.T s i L.be) j*L.a j L.m)=-L.T s L.m L.be:=by
 have h:=o.by_cols hs L.be (r:=L.m) #[];rw[aK rfl,Ok.no_spare hs,hb,cZ]at h;lia
def goal_of(y:Nat->Int):L.T s L.m y=(sm L.m λk=>y k*L.T s L.m (e1 k))+y L.m*L.D s:=by
 rw[L.T_lin #[] y];show sm L.m _+y L.m*L.T s L.m (e1 L.m)=_;rw[L.last_own]
def Ok.ways_row(o:L.Ok s)(hs:∀i,i<L.m->s i<L.n+L.m){r:Nat}(b:∀i,i<L.m->L.T s i (L.cv c)<=0)(hr:r<L.m):(sm L.n λj=>(spr L.m s (λi=>-L.T s i (L.cv c)) j+if j=c then L.D s else 0)*L.a j r)<=0:=by
 have h:=o.by_cols hs (L.cv c) (r:=r) #[];rw[aF #[]]at h;have B:(sm L.m λi=>if s i<L.n then 0 else L.T s i (L.cv c)*e1 (s i-L.n) r)<=0:=by
  have:=Jr (n:=L.m) (f:=λi=>-(if s i<L.n then 0 else L.T s i (L.cv c)*e1 (s i-L.n) r)) λi hi=>by
   split
   .decide
   .have h1:=b i hi;unfold e1;split<;>lia
  have e:(sm L.m λi=>-(if s i<L.n then 0 else L.T s i (L.cv c)*e1 (s i-L.n) r))=-sm L.m λi=>if s i<L.n then 0 else L.T s i (L.cv c)*e1 (s i-L.n) r:=by
   have:=sm_mul (-1) L.m (λi=>if s i<L.n then 0 else L.T s i (L.cv c)*e1 (s i-L.n) r);rw[←Int.neg_one_mul,←this];exact iJ λi _=>by rw[Int.neg_one_mul]
  lia
 have x:(sm L.n λj=>(spr L.m s (λi=>-L.T s i (L.cv c)) j+if j=c then L.D s else 0)*L.a j r)=-(sm L.n λj=>spr L.m s (λi=>L.T s i (L.cv c)) j*L.a j r)+(if c<L.n then L.D s*L.a c r else 0):=by
  have C:(sm L.n λj=>(spr L.m s (λi=>-L.T s i (L.cv c)) j+if j=c then L.D s else 0)*L.a j r)=sm L.n λj=>(-1)*(spr L.m s (λi=>L.T s i (L.cv c)) j*L.a j r)+(if j=c then L.D s*L.a j r else 0):=iJ λj _=>by
   have:spr L.m s (λi=>-L.T s i (L.cv c)) j=-spr L.m s (λi=>L.T s i (L.cv c)) j:=by
    unfold spr;rw[←Int.neg_one_mul,←sm_mul];exact iJ λi _=>by
     by_cases z:s i=j
     .rw[aK z,aK z];exact(Int.neg_one_mul _).symm
     .rw[aF z,aF z];rfl
   rw[this];split<;>grind
  rw[C,Uu,sm_mul];by_cases q:c<L.n
  .rw[aK q,oP (p:=c) q (λk _ hk=>aF hk),aK rfl];lia
  .rw[aF q,kK (λk hk=>aF #[])];lia
 rw[x];unfold cv at h;by_cases q:c<L.n
 .rw[aK q];simp only[aK q]at h;unfold cv at B⊢;simp only[aK q]at B⊢;lia
 .rw[aF q];simp only[aF q]at h;unfold cv at B⊢;simp only[aF q]at B⊢;have:0<=L.D s*e1 (c-L.n) r:=by
   refine dZ (bW o.pos) ?_;unfold e1;split<;>decide
  lia
def Ok.ways_goal(o:L.Ok s)(hs:∀i,i<L.m->s i<L.n+L.m)(hc:c<L.n+L.m):(sm L.n λj=>(spr L.m s (λi=>-L.T s i (L.cv c)) j+if j=c then L.D s else 0)*L.a j L.m)=L.T s L.m (L.cv c):=by
 have h:=o.by_cols hs (L.cv c) (r:=L.m) #[];rw[aK rfl,Ok.no_spare hs]at h;have C:(sm L.n λj=>(spr L.m s (λi=>-L.T s i (L.cv c)) j+if j=c then L.D s else 0)*L.a j L.m)=sm L.n λj=>(-1)*(spr L.m s (λi=>L.T s i (L.cv c)) j*L.a j L.m)+(if j=c then L.D s*L.a j L.m else 0):=iJ λj _=>by
  have:spr L.m s (λi=>-L.T s i (L.cv c)) j=-spr L.m s (λi=>L.T s i (L.cv c)) j:=by
   unfold spr;rw[←Int.neg_one_mul,←sm_mul];exact iJ λi _=>by
    by_cases z:s i=j
    .rw[aK z,aK z];exact(Int.neg_one_mul _).symm
    .rw[aF z,aF z];rfl
  rw[this];split<;>grind
 rw[C,Uu,sm_mul];by_cases q:c<L.n
 .rw[oP (p:=c) q (λk _ hk=>aF hk),aK rfl];have e:L.cv c L.m=L.a c L.m:=by unfold cv;rw[aK q]
  rw[e]at h;lia
 .rw[kK (λk hk=>aF #[])];have e:L.cv c L.m=0:=by unfold cv;rw[aF q];unfold e1;rw[aF #[]]
  rw[e,cZ]at h;lia
noncomputable def ins0(L:Lpd):Nat->Nat:=λi=>L.n+i
def B_start:∀i,L.B L.ins0 i=Im i:=λi=>by
 unfold B ins0 cv;by_cases h:i<L.m
 .rw[aK h,aF #[]];show e1 (L.n+i-L.n)=e1 i;rw[show L.n+i-L.n=i by lia]
 .rw[aF h];rfl
def Gi:L.B L.ins0=Im:=funext B_start
def jY2(h:L.fl=false):L.D L.ins0=1:=by unfold D;rw[Gi,Mm];unfold sg;rw[h];rfl
def T_start(h:L.fl=false)(hi:i<L.m+1)(y:Nat->Int):L.T L.ins0 i y=y i:=by
 unfold T;rw[Gi,Tt_one hi];unfold sg;rw[h];exact fF _
def Okn.start(h:L.fl=false):L.Okn L.ins0:=#[by rw[jY2 h];decide,by rw[Gi];exact Cr_one]
def Okx.start(hf:L.fl=false)(hb:∀i,i<L.m->0<=L.be i):L.Okx L.ins0:=by
 refine#[?_,?_,λi hi=>?_]
 .rw[jY2 hf];decide
 .rw[Gi];exact Cr_one
 .have e:∀y,L.T L.ins0 i y=y i:=λy=>T_start hf #[] y;have one:∀l:List Nat,i+1∈l->(∀p∈l,p=0->0<=L.be i)->lp (λp=>L.T L.ins0 i (L.li p)) l:=λl=>by
   induction l with
   |nil=>intro h;cases h
   |cons p r ih=>
    intro h1 h2;show 0<L.T L.ins0 i (L.li p)∨(L.T L.ins0 i (L.li p)=0/\_);rw[e];by_cases hp:p=0
    .have M:L.li p=L.be:=by unfold li;rw[aK hp]
     rw[M];have b:=hb i hi;by_cases hz:L.be i=0
     .exact .inr #[hz,ih (by rcases eW.mp h1 with q |q;lia;exact q) λp hp=>h2 p (bO _ hp)]
     .left;lia
    .have M:L.li p=e1 (p-1):=by unfold li;rw[aF hp]
     rw[M];unfold e1;by_cases q:i=p-1
     .rw[aK q];left;decide
     .rw[aF q];exact .inr #[rfl,ih (by rcases eW.mp h1 with q' |q';lia;exact q') λp hp=>h2 p (bO _ hp)]
  unfold ls;exact one _ (gG.mpr #[]) λ_ _ _=>hb i hi
def flip(L:Lpd):Lpd:={ L with fl:=!L.fl }
def jYh:L.flip.sg=-L.sg:=by
 unfold sg flip;cases L.fl<;>rfl
def Nh{y:Nat->Int}:L.flip.T s i y=-L.T s i y:=by
 show L.flip.sg*_=_;rw[jYh,Int.neg_mul];rfl
def flip_D:L.flip.D s=-L.D s:=by
 show L.flip.sg*_=_;rw[jYh,Int.neg_mul];rfl
def jUW(o:L.Okn s):L.flip.Okn s:=#[by rw[flip_D];have:=o.ne;lia,o.cr]
end Lpd
noncomputable def ofF{d:Type}(n:Nat)(f:Nat->d):List d:=(range n).map f
def bF(n:Nat)(f:Nat->d):(ofF n f).length=n:=by unfold ofF;rw[aB,iB]
def eU{n:Nat}(f:Nat->d)(h:k<n):(ofF n f)[k]?=some (f k):=by unfold ofF;rw[aZ,List.getElem?_range h];rfl
def gL{n:Nat}{f:Nat->d}{x:d}(h:(ofF n f)[k]?=some x):k<n/\x=f k:=by
 have hk:k<n:=by have:=(aO.mp h).1;rwa [bF]at this
 rw[eU f hk]at h;exact#[hk,(aW h).symm]
def fD(n:Nat)(f:Nat->d):ofF (n+1) f=ofF n f++[f n]:=by unfold ofF;rw[List.range_succ,aX];rfl
def jZ{n:Nat}{f:Nat->d}{x:d}(h:x∈ofF n f):∃k,k<n/\x=f k:=by
 obtain⟨k,hk,e⟩:=cV.mp h;exact#[k,gG.mp hk,e.symm]
def jF{n:Nat}{f g:Nat->d}(h:∀k,k<n->f k=g k):ofF n f=ofF n g:=gM λk hk=>h k (gG.mp hk)
def Fn(n:Nat)(f:Nat->Int):(ofF n f).sum=sm n f:=by
 induction n with
 |zero=>rfl
 |succ n ih=>rw[fD,List.sum_append,ih];show sm n f+(f n+0)=sm n f+f n;rw[Int.add_zero]
def ofF_set{n:Nat}{f:Nat->Int}:(ofF n f).set i v=ofF n λk=>if k=i then v else f k:=by
 apply List.ext_getElem?;intro k;rw[getElem?_set];by_cases hk:k<n
 .rw[eU (λk=>if k=i then v else f k) hk];by_cases e:i=k
  .rw[aK e,aK (by rw[bF];lia),aK e.symm]
  .rw[aF e,aF (Ne.symm e),eU _ hk]
 .rw[cC (l:=ofF n λk=>if k=i then v else f k) (by rw[bF];lia)];by_cases e:i=k
  .rw[aK e,aF (by rw[bF];lia)]
  .rw[aF e,cC (by rw[bF];lia)]
def iP{l:List Int}(h:l[i]?=some x):l.getD i 0=x:=by rw[aJ,h];rfl
def jJp:∀{l:List Int}{p:Nat},(∀x∈l,BB p x)->BB (p+l.length) l.sum
 | [],p,_=>by show(0:Int).natAbs<_;exact eJ _
 |a::r,p,h=>by
  have i:=jJp (l:=r) (p:=p) λx hx=>h x (bO _ hx);have ha:=(h a cB).mono (show p<=p+r.length by lia);rw[List.sum_cons,dF];exact(ha.add i).mono #[]
namespace Lpd
noncomputable def colL(L:Lpd)(j:Nat):List Int:=ofF (L.m+1) (L.a j)
noncomputable def keptL(L:Lpd)(s:Nat->Nat)(i:Nat):List Int:=ofF (L.m+1) (λk=>L.T s i (e1 k))++[L.T s i L.be]
noncomputable def numL(L:Lpd)(s:Nat->Nat)(c:Nat):List Int:=ofF (L.m+1) λi=>L.T s i (L.cv c)
noncomputable def insL(L:Lpd)(s:Nat->Nat):List Int:=ofF L.m λi=>(s i:Int)
structure Lim(L:Lpd):Prop where
 m1:L.m<=100
 n1:L.n<=100
 ba:∀j k,j<L.n->k<=L.m->BB 20000 (L.a j k)
 bc:∀s i c,L.Okn s->i<=L.m->BB 20000 (L.T s i (L.cv c))
 bk:∀s i k,L.Okn s->i<=L.m->k<=L.m->BB 20000 (L.T s i (e1 k))
 bb:∀s i,L.Okn s->i<=L.m->BB 20000 (L.T s i L.be)
 bD:∀s,L.Okn s->BB 9000 (L.D s)
def keptL_length(L:Lpd)(s:Nat->Nat)(i:Nat):(L.keptL s i).length=L.m+2:=by unfold keptL;rw[bK,bF];rfl
def keptL_get(L:Lpd)(s:Nat->Nat)(i:Nat)(h:k<=L.m):(L.keptL s i)[k]?=some (L.T s i (e1 k)):=by
 unfold keptL;rw[bZ (by rw[bF];lia),eU _ #[]]
def keptL_last(L:Lpd)(s:Nat->Nat)(i:Nat):(L.keptL s i)[L.m+1]?=some (L.T s i L.be):=by
 unfold keptL;rw[bU (by rw[bF];lia),bF,jT];rfl
def Lim.kept{L:Lpd}(h:L.Lim)(o:L.Okn s)(hi:i<=L.m):∀x∈L.keptL s i,BB 20000 x:=λx hx=>by
 unfold keptL at hx;rcases dD.mp hx with hx |hx
 .obtain⟨k,hk,rfl⟩:=jZ hx;exact h.bk s i k o hi #[]
 .rw[cP.mp hx];exact h.bb s i o hi
def T_prod(L:Lpd)(s:Nat->Nat)(hi:i<=L.m)(A:j<L.n):(sm (L.m+1) λk=>L.a j k*L.T s i (e1 k))=L.T s i (L.cv j):=by
 have e:L.cv j=L.a j:=by unfold cv;rw[aK A]
 rw[e];exact(L.T_lin #[] _).symm
def cv_spare(L:Lpd)(k:Nat):L.cv (L.n+k)=e1 k:=by
 unfold cv;rw[aF #[],show L.n+k-L.n=k by lia]
def Okn.inj{L:Lpd}{s:Nat->Nat}(o:L.Okn s){i j:Nat}(hi:i<L.m)(A:j<L.m)(h:i≠j):s i≠s j:=λe=>by
 have h1:=L.own (s:=s) hi;have h2:L.T s i (L.cv (s j))=0:=L.other #[] A h;rw[←e,h1]at h2;exact o.ne h2
def Ok.inj{L:Lpd}{s:Nat->Nat}(o:L.Ok s){i j:Nat}(hi:i<L.m)(A:j<L.m)(h:i≠j):s i≠s j:=o.n.inj hi A h
def lx_lp{L:Lpd}{r:Nat}{x y:List Int}(hx:∀k,k<=L.m->x.getD k 0=L.T s r (e1 k))(d:x.getD (L.m+1) 0=L.T s r L.be)(g:x.getD (L.m+2) 0=L.T s r (L.cv c))
  (hy:∀k,k<=L.m->y.getD k 0=L.T s i (e1 k)) (j:y.getD (L.m+1) 0=L.T s i L.be) (b:y.getD (L.m+2) 0=L.T s i (L.cv c))
  (h:lx x y (L.m+2) ((L.m+1)::range L.m)≠some false):¬lp (λp=>-(L.T s i (L.li p)*L.T s r (L.cv c)-L.T s r (L.li p)*L.T s i (L.cv c))) L.ls:=by
 have key:∀l:List Nat,(∀p∈l,p<=L.m)->∀f:List Nat,f=l.map (λp=>if p=0 then L.m+1 else p-1)->lp (λp=>-(L.T s i (L.li p)*L.T s r (L.cv c)-L.T s r (L.li p)*L.T s i (L.cv c))) l->lx x y (L.m+2) f=some false:=by
  intro l
  induction l with
  |nil=>intro _ f _ h;exact h.elim
  |cons p t ih=>
   rintro S f rfl hp;have U:=ih (λq o=>S q (bO _ o)) _ rfl;have a:=S p cB;have ex:x.getD (if p=0 then L.m+1 else p-1) 0=L.T s r (L.li p):=by
    unfold li;by_cases e:p=0
    .rw[aK e,aK e,d]
    .rw[aF e,aF e,hx _ #[]]
   have P:y.getD (if p=0 then L.m+1 else p-1) 0=L.T s i (L.li p):=by
    unfold li;by_cases e:p=0
    .rw[aK e,aK e,j]
    .rw[aF e,aF e,hy _ #[]]
   rw[bV];unfold lx;rw[ex,P,g,b];rcases hp with hp |⟨hp,n⟩
   .have hp:0< -(L.T s i (L.li p)*L.T s r (L.cv c)-L.T s r (L.li p)*L.T s i (L.cv c)):=hp;rw[aF #[],decide_eq_false #[]]
   .have hp:-(L.T s i (L.li p)*L.T s r (L.cv c)-L.T s r (L.li p)*L.T s i (L.cv c))=0:=hp;rw[aK #[]];exact U n
 intro z;refine h (key L.ls (λp hp=>?_) _ ?_ z)
 .have:=gG.mp hp;lia
 .unfold ls;rw[List.range_succ_eq_map,bV,List.map_map];show _=(L.m+1)::_
  congr 1
  conv=>lhs;rw[←List.map_id (range L.m)]
  exact gM λk _=>by show k=if Nat.succ k=0 then L.m+1 else Nat.succ k-1;rw[aF #[]];rfl
end Lpd
def Ro(row:List Int)(w:Nat):Prop:=row.length=w/\∀m∈row,BB 20000 m
def mn(t i:Addr)(H:Hp):Hp:=λx=>if x=t∨x=i then none else H x
def lM{t i:Addr}:aT (mn t i H) H:=λb o e=>by
 unfold mn at e;split at e
 .cases e
 .exact e
def iO{t i:Addr}(s:aT H O):aT (mn t i H) (mn t i O):=λb o e=>by
 unfold mn at e⊢;split at e
 .cases e
 .rename_i h;rw[aF h];exact s b o e
def zM{t i x:Addr}(h:H x=some o)(h1:x≠t)(h2:x≠i):mn t i H x=some o:=by
 unfold mn;rw[aF (λz=>z.elim h1 h2)];exact h
def nW{t i x:Addr}(h:x=t∨x=i):mn t i (upd H x o)=mn t i H:=by
 funext b
 unfold mn;by_cases hb:b=t∨b=i
 .rw[aK hb,aK hb]
 .rw[aF hb,aF hb,cK (λe=>hb (by rw[e];exact h))]
def eF.mn{t i:Addr}:∀{ps:List Addr}{X:List (List Int)},t∉ps->i∉ps->eF H ps X->eF (mn t i H) ps X
 | [],[],_,_,_=>trivial
 |p::ps,r::X,h1,h2,h=>#[zM h.1 (λe=>h1 (by rw[e];exact cB)) (λe=>h2 (by rw[e];exact cB)),eF.mn (λz=>h1 (bO _ z)) (λz=>h2 (bO _ z)) h.2]
 | [],_::_,_,_,h=>h.elim
 |_::_,[],_,_,h=>h.elim
noncomputable def cfl(b sp k i:Addr):List (Str×V):=gX "inside" (.ref i) (gX "kept" (.ref k) (gX "spans" (.ref sp) (gX "begun" (.ref b) [])))
def mW(b sp k i:Addr):(cfl b sp k i).lookup ("begun":Str)=some (.ref b):=rfl
def Ce(b sp k i:Addr):(cfl b sp k i).lookup ("spans":Str)=some (.ref sp):=rfl
def jS(b sp k i:Addr):(cfl b sp k i).lookup ("kept":Str)=some (.ref k):=rfl
def oE(b sp k i:Addr):(cfl b sp k i).lookup ("inside":Str)=some (.ref i):=rfl
def jYr(b sp k i g:Addr):gX "kept" (.ref g) (cfl b sp k i)=cfl b sp g i:=rfl
structure nV(K:aQ)(H:Hp)(t ins:Addr)(L:Lpd)(s:Nat->Nat)(dx b sp k:Addr)(bs:List Addr)(ss:List Int)(ks:List Addr):Prop where
 ob:H t=some (.ins (eI K "Corner") dx (cfl b sp k ins))
 hb:mn t ins H b=some (.lst (map ref bs))
 hbs:eF (mn t ins H) bs (ofF L.n L.colL)
 hs:mn t ins H sp=some (.lst (map int ss))
 sl:ss.length=L.n+L.m
 sb:∀x∈ss,BB 30000 x
 hk:mn t ins H k=some (.lst (map ref ks))
 hks:eF (mn t ins H) ks (ofF (L.m+1) (L.keptL s))
 hi:H ins=some (.lst (map int (L.insL s)))
def iS(K:aQ)(H:Hp)(t ins:Addr)(L:Lpd)(s:Nat->Nat):Prop:=∃w b sp k bs c ks,nV K H t ins L s w b sp k bs c ks
section
variable{K:aQ}{H H':Hp}{t ins:Addr}{L:Lpd}{s:Nat->Nat}{dx b sp k:Addr}{bs:List Addr}{ss:List Int}{ks:List Addr}
def nV.same(h:nV K H t ins L s dx b sp k bs ss ks)(e:aT H H'):nV K H' t ins L s dx b sp k bs ss ks:=
 #[e _ _ h.ob,iO e _ _ h.hb,h.hbs.same (iO e),iO e _ _ h.hs,h.sl,h.sb,iO e _ _ h.hk,h.hks.same (iO e),e _ _ h.hi]
def iS.same(h:iS K H t ins L s)(e:aT H H'):iS K H' t ins L s:=let⟨dx,b,sp,k,bs,ss,ks,c⟩:=h;#[dx,b,sp,k,bs,ss,ks,c.same e]
def nV.B(h:nV K H t ins L s dx b sp k bs ss ks):H b=some (.lst (map ref bs)):=lM _ _ h.hb
def nV.Bs(h:nV K H t ins L s dx b sp k bs ss ks):eF H bs (ofF L.n L.colL):=h.hbs.same lM
def nV.S(h:nV K H t ins L s dx b sp k bs ss ks):H sp=some (.lst (map int ss)):=lM _ _ h.hs
def nV.Kp(h:nV K H t ins L s dx b sp k bs ss ks):H k=some (.lst (map ref ks)):=lM _ _ h.hk
def nV.Ks(h:nV K H t ins L s dx b sp k bs ss ks):eF H ks (ofF (L.m+1) (L.keptL s)):=h.hks.same lM
def nV.bl(h:nV K H t ins L s dx b sp k bs ss ks):bs.length=L.n:=by rw[h.hbs.length,bF]
def nV.kl(h:nV K H t ins L s dx b sp k bs ss ks):ks.length=L.m+1:=by rw[h.hks.length,bF]
def nV.row(h:nV K H t ins L s dx b sp k bs ss ks)(hi:i<=L.m):∃p,ks[i]?=some p/\atI (map ref ks) (i:Int)=some (.ref p)/\H p=some (.lst (map int (L.keptL s i))):=by
 have S:=h.kl;obtain⟨p,hp⟩:∃p,ks[i]?=some p:=#[_,aD #[]];obtain⟨r,e1,C⟩:=h.Ks.get hp;obtain⟨_,rfl⟩:=gL e1;exact#[p,hp,fC (by rw[aZ,hp];rfl),C]
def nV.last(h:nV K H t ins L s dx b sp k bs ss ks):∃p,ks[L.m]?=some p/\atI (map ref ks) (-1)=some (.ref p)/\H p=some (.lst (map int (L.keptL s L.m))):=by
 have S:=h.kl;obtain⟨p,hp,_,e⟩:=h.row (aU L.m);exact#[p,hp,zZ (by rw[aB,S,aZ,show L.m+1-1=L.m by lia,hp];rfl),e]
def nV.col(h:nV K H t ins L s dx b sp k bs ss ks)(A:j<L.n):∃p,bs[j]?=some p/\atI (map ref bs) (j:Int)=some (.ref p)/\H p=some (.lst (map int (L.colL j))):=by
 have S:=h.bl;obtain⟨p,hp⟩:∃p,bs[j]?=some p:=#[_,aD #[]];obtain⟨r,e1,C⟩:=h.Bs.get hp;obtain⟨_,rfl⟩:=gL e1;exact#[p,hp,fC (by rw[aZ,hp];rfl),C]
end
def Fc(K:aQ)(H:Hp)(t ins:Addr)(L:Lpd)(s:Nat->Nat)(f:Addr):Prop:=∃w b sp k bs c ks,nV K H t ins L s w b sp k bs c ks/\f≠b/\f≠sp/\f≠k/\f∉bs/\f∉ks
section
variable{K:aQ}{H H':Hp}{t ins f:Addr}{L:Lpd}{s:Nat->Nat}{dx b sp k:Addr}{bs:List Addr}{ss:List Int}{ks:List Addr}
def Fc.at(h:Fc K H t ins L s f):iS K H t ins L s:=let⟨dx,b,sp,k,bs,ss,ks,c,_⟩:=h;#[dx,b,sp,k,bs,ss,ks,c]
def Fc.same(h:Fc K H t ins L s f)(e:aT H H'):Fc K H' t ins L s f:=let⟨dx,b,sp,k,bs,ss,ks,c,r⟩:=h;#[dx,b,sp,k,bs,ss,ks,c.same e,r]
def La{xs ys:List Addr}(h:map ref xs=map ref ys):xs=ys:=(List.map_inj_right (λa b h=>by injection h)).mp h
def Fc.of(h:Fc K H t ins L s f)(P:nV K H t ins L s dx b sp k bs ss ks):f≠b/\f≠sp/\f≠k/\f∉bs/\f∉ks:=by
 obtain⟨j,d,a,g,c,m,i,q,r⟩:=h;have e:=aW (q.ob.symm.trans P.ob);injection e with _ _ e;have e1:d=b:=by have:=congrArg (List.lookup ("begun":Str)) e;rw[mW,mW]at this;injection this with this;injection this
 have C:a=sp:=by have:=congrArg (List.lookup ("spans":Str)) e;rw[Ce,Ce]at this;injection this with this;injection this
 have T:g=k:=by have:=congrArg (List.lookup ("kept":Str)) e;rw[jS,jS]at this;injection this with this;injection this
 subst e1 C T;have l:c=bs:=by have:=aW (q.hb.symm.trans P.hb);injection this with this;exact La this
 have n:i=ks:=by have:=aW (q.hk.symm.trans P.hk);injection this with this;exact La this
 subst l n;exact r
def iS.fresh(h:iS K H t ins L s)(hf:H f=none):Fc K H t ins L s f:=by
 obtain⟨dx,b,sp,k,bs,ss,ks,P⟩:=h;have n:∀{a:Addr}{o:HO},H a=some o->f≠a:=λe z=>by rw[←z,hf]at e;cases e
 refine#[dx,b,sp,k,bs,ss,ks,P,n P.B,n P.S,n P.Kp,λhm=>?_,λhm=>?_]
 .obtain⟨_,_,e⟩:=P.Bs.has hm;rw[hf]at e;cases e
 .obtain⟨_,_,e⟩:=P.Ks.has hm;rw[hf]at e;cases e
def Bq{x:Addr}(h1:x≠t)(h2:x≠ins):mn t ins (upd H x o)=upd (mn t ins H) x o:=by
 funext y
 unfold mn;by_cases e:y=x
 .rw[e,aF (λz=>z.elim h1 h2),aL,aL]
 .rw[cK e,cK e]
def Fc.upd(h:Fc K H t ins L s f)(h1:f≠t)(h2:f≠ins):Fc K (L2.upd H f o) t ins L s f:=by
 obtain⟨dx,b,sp,k,bs,ss,ks,P,n1,n2,u,a,c⟩:=h;refine#[dx,b,sp,k,bs,ss,ks,#[?_,?_,?_,?_,P.sl,P.sb,?_,?_,?_],n1,n2,u,a,c]
 .rw[cK h1.symm];exact P.ob
 .rw[Bq h1 h2,cK n1.symm];exact P.hb
 .rw[Bq h1 h2];exact P.hbs.put a
 .rw[Bq h1 h2,cK n2.symm];exact P.hs
 .rw[Bq h1 h2,cK u.symm];exact P.hk
 .rw[Bq h1 h2];exact P.hks.put c
 .rw[cK h2.symm];exact P.hi
end
noncomputable def lo2(t b:Int):Int×Int:=(t.fdiv (Int.gcd t b:Nat),b.fdiv (Int.gcd t b:Nat))
def eO{t b:Int}(hb:0<b):Lo t b (lo2 t b).1 (lo2 t b).2:=jJv hb
def Lo.uniq{t b M G:Int}(hb:0<b)(h:Lo t b x y)(h':Lo t b M G):x=M/\y=G:=by
 have e:x*G=M*y:=by
  apply Int.eq_of_mul_eq_mul_left (show b≠0 by lia);have h1:=h.eq;have h2:=h'.eq;have:b*(x*G)=(x*b)*G:=by ac_rfl
  rw[this,h1];have:b*(M*y)=(M*b)*y:=by ac_rfl
  rw[this,h2];ac_rfl
 have i:y∣G:=by
  have:y∣x*G:=#[M,by rw[e,gI]];exact Int.natAbs_dvd_natAbs.mp (Nat.Coprime.dvd_of_dvd_mul_left (m:=x.natAbs) (Nat.Coprime.symm h.cop) (by rw[←cQ];exact Int.natAbs_dvd_natAbs.mpr this))
 have c:G∣y:=by
  have:G∣M*y:=#[x,by rw[←e,gI]];exact Int.natAbs_dvd_natAbs.mp (Nat.Coprime.dvd_of_dvd_mul_left (m:=M.natAbs) (Nat.Coprime.symm h'.cop) (by rw[←cQ];exact Int.natAbs_dvd_natAbs.mpr this))
 have f:=Int.le_of_dvd h'.pos i;have Z:=Int.le_of_dvd h.pos c;have P:y=G:=#[];subst P;exact#[dU (Int.ne_of_gt h.pos) e,rfl]
def Lo.is{t b:Int}(hb:0<b)(h:Lo t b x y):(x,y)=lo2 t b:=by
 obtain⟨e1,C⟩:=h.uniq hb (eO hb);rw[e1,C]
def Lo.bb{t b:Int}{n:Nat}(h:Lo t b x y)(a:BB m t)(hb:BB n b):BB m x/\BB n y:=#[a.of_le h.bx,hb.of_le h.by_]
def mx1(g:Int):Int:=if 1>g then 1 else g
def vO(g:Int):0<mx1 g:=by unfold mx1;split<;>lia
noncomputable def whF(fs:fV):Int×Int:=lo2 (lc fs) (mx1 (gl (clr fs)))
noncomputable def whL(fs:fV):List Int:=vK (clr fs)
def jO(fs:fV):(whL fs).length=fs.length:=by unfold whL clr;rw[Cv,aB]
def jC{fs:fV}(h:∀f∈fs,0<f.2):0<(whF fs).1/\0<(whF fs).2:=by
 have l:=eO (t:=lc fs) (vO (gl (clr fs)));refine#[?_,l.pos];have e:=l.eq;have h1:=Nf h;have h2:0<lc fs*(lo2 (lc fs) (mx1 (gl (clr fs)))).2:=bL h1 l.pos;rw[←e]at h2;exact Classical.byContradiction λz=>by
  have:=Int.mul_nonpos_of_nonpos_of_nonneg (a:=(lo2 (lc fs) (mx1 (gl (clr fs)))).1) (b:=mx1 (gl (clr fs))) (by unfold whF at z;lia) (bW (vO _));lia
def Ur{fs:fV}(h:∀f∈fs,0<f.2)(hf:fs[i]?=some f):(whL fs).getD i 0*(f.2*(whF fs).2)=f.1*(whF fs).1:=by
 obtain⟨t,e1,C⟩:=Pf (jYp hf);have T:(whL fs).getD i 0=t:=iP e1;rw[T];have C:t*mx1 (gl (clr fs))=f.1*((lc fs).fdiv f.2):=C;have l:=(eO (t:=lc fs) (vO (gl (clr fs)))).eq;have c:=jJ3 h (aI hf);have r:=vO (gl (clr fs));show t*(f.2*(lo2 (lc fs) (mx1 (gl (clr fs)))).2)=f.1*(lo2 (lc fs) (mx1 (gl (clr fs)))).1;generalize (lo2 (lc fs) (mx1 (gl (clr fs)))).1=X at*;generalize (lo2 (lc fs) (mx1 (gl (clr fs)))).2=Y at*;generalize mx1 (gl (clr fs))=g at*;generalize (lc fs).fdiv f.2=q at*;apply Int.eq_of_mul_eq_mul_left (show g≠0 by lia);have G:g*(t*(f.2*Y))=(t*g)*f.2*Y:=by ac_rfl
 have P:g*(f.1*X)=f.1*(X*g):=by ac_rfl
 rw[G,C,c,P,l];ac_rfl
def G9(f:Int×Int):Prop:=0<f.2/\BB 20000 f.1/\BB 9000 f.2
def Sb(t:Addr)(H O:Hp):Prop:=∀b o,H b=some o->b≠t->O b=some o
def IsI(H:Hp)(t:Addr):Prop:=∃C w fs,H t=some (.ins C w fs)
def Sb.of{t:Addr}(s:aT H O):Sb t H O:=λb o e _=>s b o e
def Sb.trans{t:Addr}{d:Hp}(a:Sb t H O)(b:Sb t O d):Sb t H d:=λc o e hc=>b c o (a c o e hc) hc
def Sb.at{t:Addr}:Sb t H (upd H t o):=λb u e hb=>by rw[cK hb];exact e
def Sb.lst{t a:Addr}{H O:Hp}{xs:List V}(s:Sb t H O)(i:IsI H t)(h:H a=some (.lst xs)):O a=some (.lst xs):=by
 obtain⟨C,w,fs,e⟩:=i;exact s a _ h (kS h e (by intro z;cases z))
def Sb.rws{t:Addr}(s:Sb t H O)(i:IsI H t):∀{ps:List Addr}{X:List (List Int)},eF H ps X->eF O ps X
 | [],[],_=>trivial
 |_::_,_::_,h=>#[s.lst i h.1,s.rws i h.2]
 | [],_::_,h=>h.elim
 |_::_,[],h=>h.elim
def Sb.free{t d:Addr}(s:Sb t H O)(h:O d=none)(n:d≠t):H d=none:=by
 cases e:H d with
 |none=>rfl
 |some o=>have:=s d o e n;rw[h]at this;cases this
def eF.notI{t:Addr}(h:eF H ps X)(i:IsI H t):t∉ps:=λhm=>by
 obtain⟨C,w,fs,e⟩:=i;obtain⟨_,_,a⟩:=h.has hm;rw[e]at a;cases a
def eF.notN{t:Addr}(h:eF H ps X)(i:H t=none):t∉ps:=λhm=>by
 obtain⟨_,_,C⟩:=h.has hm;rw[i]at C;cases C
noncomputable def qS(K:aQ)(H:Hp):List Addr->hU->Prop
 | [],[]=>True
 |p::ps,r::rs=>(∃I,H p=some (.lst (map ref I))/\dC K H I r)/\qS K H ps rs
 |_,_=>False
def qS.same(s:aT H O):∀{ps:List Addr}{X:hU},qS K H ps X->qS K O ps X
 | [],[],_=>trivial
 |_::_,_::_,h=>#[let⟨qs,a,b⟩:=h.1;#[qs,s _ _ a,b.same s],h.2.same s]
 | [],_::_,h=>h.elim
 |_::_,[],h=>h.elim
def qS.length:∀{ps:List Addr}{X:hU},qS K H ps X->ps.length=X.length
 | [],[],_=>rfl
 |_::_,_::_,h=>by rw[dF,dF,h.2.length]
 | [],_::_,h=>h.elim
 |_::_,[],h=>h.elim
def qS.get{K:aQ}{H:Hp}:∀{ps:List Addr}{X:hU}{i:Nat}{p:Addr},qS K H ps X->ps[i]?=some p->∃r I,X[i]?=some r/\H p=some (.lst (map ref I))/\dC K H I r
 | [],[],_,_,_,e=>by simp at e
 |_::_,r::_,0,_,h,e=>by simp at e;subst e;obtain⟨I,a,b⟩:=h.1;exact#[r,I,rfl,a,b]
 |_::_,_::_,i+1,_,h,e=>by
  obtain⟨f,I,e1,C⟩:=h.2.get (i:=i) (by simpa using e);exact#[f,I,by simpa using e1,C]
 | [],_::_,_,_,h,_=>h.elim
 |_::_,[],_,_,h,_=>h.elim
def qS.append{I:List Addr}{z:hU}(T:qS K H I z):∀{ps:List Addr}{X:hU},qS K H ps X->qS K H (ps++I) (X++z)
 | [],[],_=>T
 |_::_,_::_,h=>#[h.1,qS.append T h.2]
 | [],_::_,h=>h.elim
 |_::_,[],h=>h.elim
noncomputable def zG(H:Hp):List Addr->hU->Prop
 | [],[]=>True
 |p::ps,r::rs=>(∃f l,H p=some (.tup [.ref f,.ref l])/\H f=some (.tup [.int (whF r).1,.int (whF r).2])/\H l=some (.lst (map int (whL r))))/\zG H ps rs
 |_,_=>False
def zG.same(s:aT H O):∀{ps:List Addr}{X:hU},zG H ps X->zG O ps X
 | [],[],_=>trivial
 |_::_,_::_,h=>#[let⟨f,l,a,b,c⟩:=h.1;#[f,l,s _ _ a,s _ _ b,s _ _ c],h.2.same s]
 | [],_::_,h=>h.elim
 |_::_,[],h=>h.elim
def zG.length:∀{ps:List Addr}{X:hU},zG H ps X->ps.length=X.length
 | [],[],_=>rfl
 |_::_,_::_,h=>by rw[dF,dF,h.2.length]
 | [],_::_,h=>h.elim
 |_::_,[],h=>h.elim
def zG.get{H:Hp}:∀{ps:List Addr}{X:hU}{i:Nat}{p:Addr},zG H ps X->ps[i]?=some p->∃r f l,X[i]?=some r/\H p=some (.tup [.ref f,.ref l])/\H f=some (.tup [.int (whF r).1,.int (whF r).2])/\H l=some (.lst (map int (whL r)))
 | [],[],_,_,_,e=>by simp at e
 |_::_,r::_,0,_,h,e=>by simp at e;subst e;obtain⟨f,l,a,b,c⟩:=h.1;exact#[r,f,l,rfl,a,b,c]
 |_::_,_::_,i+1,_,h,e=>by
  obtain⟨r,f,l,e1,C⟩:=h.2.get (i:=i) (by simpa using e);exact#[r,f,l,by simpa using e1,C]
 | [],_::_,_,_,h,_=>h.elim
 |_::_,[],_,_,h,_=>h.elim
def zG.append{I:List Addr}{z:hU}(T:zG H I z):∀{ps:List Addr}{X:hU},zG H ps X->zG H (ps++I) (X++z)
 | [],[],_=>T
 |_::_,_::_,h=>#[h.1,zG.append T h.2]
 | [],_::_,h=>h.elim
 |_::_,[],h=>h.elim
noncomputable def fov(f g:Int×Int):Int×Int:=lo2 (f.1*g.2) (f.2*g.1)
noncomputable def ftm(f g:Int×Int):Int×Int:=lo2 (f.1*g.1) (f.2*g.2)
def bnF(frs:hU)(A:fV):fV:=List.zipWith (λb r=>ftm b (whF r)) A frs
noncomputable def bP(e:Bool)(frs:hU)(A N:fV):Lpd where
 m:=frs.length
 n:=N.length
 a:=λj i=>if i<frs.length then(whL (frs.getD i [])).getD j 0 else-(whL N).getD j 0
 be:=λi=>(whL (bnF frs A)).getD i 0
 fl:=e
structure Fit(m n q:Nat):Prop where
 q1:1<=q
 m1:m<=100
 n1:n<=100
 le:min m n*q+q+(m+1)+(m+1)*(m+1)+1<=9000
structure BeO(frs:hU)(fb fg:fV):Prop where
 lr:∀r∈frs,r.length=fg.length
 lb:fb.length=frs.length
 gr:∀r∈frs,∀f∈r,G9 f
 gb:∀f∈fb,G9 f
 gg:∀f∈fg,G9 f
 cr:∀r∈frs,∀x∈clr r,BB 9000 x
 cg:∀x∈clr fg,BB 9000 x
 cb:∀x∈clr (bnF frs fb),BB 9000 x
 wr:∀r∈frs,BB 20000 (whF r).1/\BB 20000 (whF r).2
 wb:BB 20000 (whF (bnF frs fb)).1/\BB 20000 (whF (bnF frs fb)).2
 wg:BB 20000 (whF fg).1/\BB 20000 (whF fg).2
 tb:∀b∈fb,∀r∈frs,BB 9000 (b.2*(whF r).2)/\BB 20000 (b.1*(whF r).1)
 lim:∀e,(bP e frs fb fg).Lim
 ox:∀e s,(bP e frs fb fg).Okn s->BB 9000 ((bP e frs fb fg).D s*(whF (bnF frs fb)).1)
 oy:∀e s,(bP e frs fb fg).Okn s->∀r∈frs,BB 9000 ((bP e frs fb fg).D s*(whF r).2*(whF fg).1)/\∀k,k<frs.length->BB 20000 ((bP e frs fb fg).T s frs.length (e1 k)*(whF r).1)
 fit:∃q q',Fit frs.length fg.length q'/\q<=9000/\(∀k,40*2^k<q->40*2^k<=q')/\(∀j k,BB q ((bP false frs fb fg).a j k))/\∀k,BB q ((bP false frs fb fg).be k)
def iZ{frs:hU}(h:A.length=frs.length):(bnF frs A).length=frs.length:=by unfold bnF;rw[List.length_zipWith];lia
def vQ{frs:hU}{b:Int×Int}{r:fV}(h1:A[i]?=some b)(h2:frs[i]?=some r):(bnF frs A)[i]?=some (ftm b (whF r)):=by
 unfold bnF;rw[List.getElem?_zipWith,h1,h2]
def Lpd.out{L:Lpd}(h:L.T s L.m (L.cv c)<0)(hi:i<L.m):s i≠c:=λe=>by
 have:=L.other (s:=s) (i:=L.m) (j:=i) #[] hi #[];rw[e]at this;lia
def spr_bb{L:Lpd}(ok:L.Ok s){f:Nat->Int}{n:Nat}(hf:∀i,i<L.m->BB n (f i))(j:Nat):BB n (Lpd.spr L.m s f j):=by
 by_cases h:∃i,i<L.m/\s i=j
 .obtain⟨i,hi,e⟩:=h;have:Lpd.spr L.m s f j=f i:=by
   unfold Lpd.spr;rw[oP (p:=i) hi λk hk g=>aF λz=>ok.inj hk hi g (z.trans e.symm),aK e]
  rw[this];exact hf i hi
 .have:Lpd.spr L.m s f j=0:=kK λi hi=>aF λz=>h #[i,hi,z];rw[this];show(0:Int).natAbs<_;exact eJ _
def oU{a:Int}(ha:0<a)(h:0<=x*a):0<=x:=Classical.byContradiction λz=>by
 have:=Int.mul_neg_of_neg_of_pos (show x<0 by lia) ha;lia
def vZ{t b:Int}(hb:0<b)(y:0<=t):0<=(lo2 t b).1:=by
 have l:=eO (t:=t) hb;refine oU hb ?_;rw[l.eq];exact dZ y (bW l.pos)
def jZJ{fs:fV}(h:∀f∈fs,0<f.2)(h0:∀f∈fs,0<=f.1)(i:Nat):0<=(whL fs).getD i 0:=by
 by_cases hi:i<fs.length
 .have e:=aD hi;have q:=Ur h e;have hm:=cJ hi;have w:=jC h;refine oU (bL (h _ hm) w.2) ?_;rw[q];exact dZ (h0 _ hm) (bW w.1)
 .rw[aJ,cC (by rw[jO];lia)];exact Int.le_refl _
def jXn{frs:hU}(B:BeO frs A N)(h0:∀f∈A,0<=f.1):∀f∈bnF frs A,0<=f.1:=λf hf=>by
 obtain⟨i,hi⟩:=dA hf;have r:i<frs.length:=by have:=(aO.mp hi).1;rwa [iZ B.lb]at this
 have c:i<A.length:=by rw[B.lb];exact r
 have e1:=aD r;have C:=aD c;rw[vQ C e1]at hi;obtain rfl:=aW hi;have F:=jC λf hf=>(B.gr _ (cJ r) f hf).1;exact vZ (bL (B.gb _ (cJ c)).1 F.2) (dZ (h0 _ (cJ c)) (bW F.1))
def Cf{n:Nat}(h:BB n (y*z))(hx:0<=x)(g:x<=y)(hz:0<=z):BB n (x*z):=h.of_le (by
 rw[cQ,cQ];exact eP #[] (aU _))
def lo2_le{t b:Int}(hb:0<b):(lo2 t b).2<=b:=by
 have l:=eO (t:=t) hb;have h1:=l.by_;have h2:=l.pos;lia
def Tw(K:aQ)(H:Hp)(p q:Addr)(a b c d:Int):Prop:=SqT K H p [.int a,.int b]/\SqT K H q [.int c,.int d]/\BB 20000 a/\BB 20000 b/\BB 20000 c/\BB 20000 d
def dC.snoc{q:Addr}{fs:fV}(h:dC K H ps fs)(T:SqT K H q [.int g.1,.int g.2]):dC K H (ps++[q]) (fs++[g]):=dC.append (show dC K H [q] [g]from#[T,trivial]) h
noncomputable def nsm:Nat->(Nat->Nat)->Nat
 |0,_=>0
 |n+1,c=>nsm n c+c n
def lO:∀{n:Nat}{c d:Nat->Nat},(∀i,i<n->c i=d i)->nsm n c=nsm n d
 |0,_,_,_=>rfl
 |n+1,c,d,h=>by
  show nsm n c+c n=nsm n d+d n;rw[lO (n:=n) λi hi=>h i #[],h n #[]]
def jX8(c:Nat->Nat):∀{n k:Nat},k<=n->nsm n (λi=>c (skp k i))+c k=nsm (n+1) c
 |0,k,h=>by
  have:k=0:=#[];subst this;show 0+c 0=0+c 0;rfl
 |n+1,k,h=>by
  show nsm n (λi=>c (skp k i))+c (skp k n)+c k=nsm (n+1) c+c (n+1);by_cases e:k=n+1
  .subst e;have e1:nsm n (λi=>c (skp (n+1) i))=nsm n c:=lO λi hi=>by unfold skp;rw[aK #[]]
   have C:skp (n+1) n=n:=by unfold skp;rw[aK #[]]
   rw[e1,C];rfl
  .have m:=jX8 c (n:=n) (k:=k) #[];have C:skp k n=n+1:=by unfold skp;rw[aF #[]]
   rw[C];lia
def jJ4{n:Nat}(h:BB n x)(e:y.natAbs=x.natAbs):BB n y:=by unfold BB at*;lia
def jJ1:∀{N:Nat}{M:Mx}{c:Nat->Nat},(∀i,i<N->∀r,r<N->BB (c i) (M i r))->BB (nsm N c+N*N+1) (det N M)
 |0,_,_,_=>by show(1:Int).natAbs<2^1;decide
 |n+1,M,c,h=>by
  have e:det (n+1) M=(ofF (n+1) λk=>sg k*M k 0*det n (mnr M k)).sum:=(Fn _ _).symm;rw[e];have:=jJp (l:=ofF (n+1) λk=>sg k*M k 0*det n (mnr M k)) (p:=nsm (n+1) c+n*n+1) λx hx=>by
   obtain⟨k,hk,rfl⟩:=jZ hx;have m:=jJ1 (N:=n) (M:=mnr M k) (c:=λi=>c (skp k i)) λi hi r hr=>h _ (skp_lt hi) _ #[];have B:=h k hk 0 #[];have hs:=jX8 c (n:=n) (k:=k) #[];refine jJ4 ((B.mul m).mono #[]) ?_;rw[cQ,cQ,sg_abs,Nat.one_mul,cQ]
  rw[bF]at this;refine this.mono ?_;have:(n+1)*(n+1)=n*n+n+n+1:=by rw[Nat.add_mul,Nat.mul_add];lia
  lia
def Mz(h:1<=q)(k r:Nat):BB q (e1 k r):=by
 unfold e1;have h2:1<2^q:=Nat.one_lt_two_pow #[];split
 .show(1:Int).natAbs<_;exact h2
 .show(0:Int).natAbs<_;exact eJ _
def Jt(q:Nat):∀n,nsm n (λ_=>q)=n*q
 |0=>by rw[Nat.zero_mul];rfl
 |n+1=>by show nsm n (λ_=>q)+q=_;rw[Jt q n,Nat.add_mul,Nat.one_mul]
def nsm_pt(c:Nat->Nat)(i q:Nat):∀n,nsm n (λk=>if k=i then q else c k)<=nsm n c+q
 |0=>eC _
 |n+1=>by
  show nsm n (λk=>if k=i then q else c k)+(if n=i then q else c n)<=nsm n c+c n+q;by_cases e:n=i
  .rw[aK e];have:nsm n (λk=>if k=i then q else c k)=nsm n c:=lO λk hk=>aF #[];lia
  .rw[aF e];have:=nsm_pt c i q n;lia
def Fo(c d:Nat->Nat):∀n,nsm n (λi=>c i+d i)=nsm n c+nsm n d
 |0=>rfl
 |n+1=>by show nsm n (λi=>c i+d i)+(c n+d n)=nsm n c+c n+(nsm n d+d n);rw[Fo c d n];lia
def zX{c:Nat->Nat}:∀{n:Nat},(∀i,i<n->c i=0)->nsm n c=0
 |0,_=>rfl
 |n+1,h=>by show nsm n c+c n=0;rw[zX (n:=n) λi hi=>h i #[],h n #[]]
def Wh{s:Nat->Nat}{c:Nat}:∀{m:Nat},(∀i j,i<m->j<m->i≠j->s i≠s j)->nsm m (λi=>if s i=c then 1 else 0)<=1
 |0,_=>eC _
 |m+1,h=>by
  show nsm m (λi=>if s i=c then 1 else 0)+(if s m=c then 1 else 0)<=1;by_cases e:s m=c
  .rw[aK e,zX λi hi=>aF λz=>h i m #[] #[] #[] (z.trans e.symm)];exact aU _
  .rw[aF e];exact Wh λi j hi A=>h i j #[] #[]
def jJ2{s:Nat->Nat}{m:Nat}(h:∀i j,i<m->j<m->i≠j->s i≠s j):∀n,nsm m (λi=>if s i<n then 1 else 0)<=n
 |0=>by rw[zX λi _=>aF #[]];exact aU _
 |n+1=>by
  have h1:=jJ2 h n;have h2:=Wh (c:=n) h;have e:nsm m (λi=>if s i<n+1 then 1 else 0)=nsm m (λi=>(if s i<n then 1 else 0)+(if s i=n then 1 else 0)):=lO λi _=>by
   by_cases a:s i<n
   .rw[aK a,aK #[],aF #[]]
   .by_cases c:s i=n
    .rw[aF a,aK c,aK #[]]
    .rw[aF a,aF c,aF #[]]
  rw[e,Fo];lia
def cnt_m{s:Nat->Nat}(n:Nat):∀m,nsm m (λi=>if s i<n then 1 else 0)<=m
 |0=>aU _
 |m+1=>by
  show nsm m (λi=>if s i<n then 1 else 0)+(if s m<n then 1 else 0)<=m+1;have:=cnt_m (s:=s) n m;split<;>lia
def Vw{s:Nat->Nat}(n q:Nat):∀m,nsm m (λi=>if s i<n then q else 1)<=nsm m (λi=>if s i<n then 1 else 0)*q+m
 |0=>eC _
 |m+1=>by
  show nsm m (λi=>if s i<n then q else 1)+(if s m<n then q else 1)<=(nsm m (λi=>if s i<n then 1 else 0)+(if s m<n then 1 else 0))*q+(m+1);have:=Vw (s:=s) n q m;rw[Nat.add_mul];split<;>lia
def nsm_in{n:Nat}(h:∀i j,i<m->j<m->i≠j->s i≠s j):nsm (m+1) (λi=>if i<m/\s i<n then q else 1)<=min m n*q+(m+1):=by
 show nsm m (λi=>if i<m/\s i<n then q else 1)+(if m<m/\s m<n then q else 1)<=_;rw[aF #[]];have e:nsm m (λi=>if i<m/\s i<n then q else 1)=nsm m (λi=>if s i<n then q else 1):=lO λi hi=>by
  by_cases a:s i<n
  .rw[aK a,aK #[hi,a]]
  .rw[aF a,aF λz=>a z.2]
 rw[e];have h1:=Vw (s:=s) n q m;have h2:=jJ2 h n;have R:=cnt_m (s:=s) n m;have O:nsm m (λi=>if s i<n then 1 else 0)*q<=min m n*q:=iQ _ #[];lia
def B_bb{L:Lpd}(ha:∀j k,j<L.n->k<=L.m->BB q (L.a j k))(s:Nat->Nat){r:Nat}(hr:r<L.m+1):BB (if j<L.m/\s j<L.n then q else 1) (L.B s j r):=by
 unfold Lpd.B;by_cases h1:j<L.m
 .rw[aK h1];unfold Lpd.cv;by_cases h2:s j<L.n
  .rw[aK h2,aK #[h1,h2]];exact ha _ _ h2 #[]
  .rw[aF h2,aF λz=>h2 z.2];exact Mz (aU _) _ _
 .rw[aF h1,aF λz=>h1 z.1];exact Mz (aU _) _ _
def T_bbk{L:Lpd}{qy:Nat}(ha:∀j k,j<L.n->k<=L.m->BB q (L.a j k))(o:L.Okn s)(i:Nat){y:Nat->Int}(hy:∀k,k<=L.m->BB qy (y k)):BB (min L.m L.n*q+qy+(L.m+1)+(L.m+1)*(L.m+1)+1) (L.T s i y):=by
 have:=jJ1 (N:=L.m+1) (M:=pt (L.B s) i y) (c:=λk=>if k=i then qy else if k<L.m/\s k<L.n then q else 1) λj A r hr=>by
  unfold pt;by_cases e:j=i
  .rw[aK e,aK e];exact hy r #[]
  .rw[aF e,aF e];exact B_bb ha s hr
 refine BB.mono (jJ4 this (L.sg_abs _)) ?_;have h2:=nsm_pt (λk=>if k<L.m/\s k<L.n then q else 1) i qy (L.m+1);have R:=nsm_in (n:=L.n) (q:=q) (s:=s) (m:=L.m) λi j hi A h=>o.inj hi A h;lia
def D_bbk{L:Lpd}(ha:∀j k,j<L.n->k<=L.m->BB q (L.a j k))(o:L.Okn s):BB (min L.m L.n*q+(L.m+1)+(L.m+1)*(L.m+1)+1) (L.D s):=by
 have:=jJ1 (N:=L.m+1) (M:=L.B s) (c:=λk=>if k<L.m/\s k<L.n then q else 1) λj _ r hr=>B_bb ha s hr;refine BB.mono (jJ4 this (L.sg_abs _)) ?_;have R:=nsm_in (n:=L.n) (q:=q) (s:=s) (m:=L.m) λi j hi A h=>o.inj hi A h;lia
theorem Fit.lim{L:Lpd}(F:Fit L.m L.n q)(ha:∀j k,j<L.n->k<=L.m->BB q (L.a j k))(hb:∀k,k<=L.m->BB q (L.be k)):L.Lim:=by
 obtain⟨q1,m1,n1,le⟩:=F;have u:∀s i(y:Nat->Int),L.Okn s->(∀k,k<=L.m->BB q (y k))->BB 20000 (L.T s i y):=λs i y o hy=>(T_bbk ha o i hy).mono #[];refine#[m1,n1,λj k A hk=>(ha j k A hk).mono #[],λs i c o _=>u s i _ o λk hk=>?_,λs i k o _ _=>u s i _ o λr _=>Mz q1 _ _,λs i o _=>u s i _ o hb,λs o=>(D_bbk ha o).mono #[]];unfold Lpd.cv;split
 .exact ha _ _ (by assumption) hk
 .exact Mz q1 _ _
def Gp(p r:Nat)(f:Int×Int):Prop:=0<f.2/\BB p f.1/\BB r f.2
def Uz:∀(fs:fV)(n:Int)(m r:Nat),0<n->BB m n->(∀f∈fs,0<f.2)->(∀f∈fs,BB r f.2)->BB (m+r*fs.length) (fs.foldl lcf n)
 | [],_,_,_,_,h,_,_=>h
 |a::t,n,m,r,hn,h,h1,h2=>by
  rw[List.foldl_cons];obtain⟨O,_,_,_,u⟩:=Uy hn (h1 a cB);have b:BB (m+r) (lcf n a):=h.mul ((h2 a cB).of_le u);have:=Uz t (lcf n a) (m+r) r O b (λf hf=>h1 f (bO _ hf)) λf hf=>h2 f (bO _ hf);rw[dF];refine this.mono ?_;rw[Nat.mul_add,Nat.mul_one];lia
def lc_bbp{fs:fV}{p r:Nat}(h:∀f∈fs,Gp p r f):BB (1+r*fs.length) (lc fs):=Uz fs 1 1 r (by decide) (by show(1:Int).natAbs<2^1;decide) (λf hf=>(h f hf).1) λf hf=>(h f hf).2.2
def Mp{fs:fV}{p r:Nat}(h:∀f∈fs,Gp p r f)(T:BB q (lc fs)):∀x∈clr fs,BB (p+q) x:=λx hx=>by
 obtain⟨f,hf,rfl⟩:=cV.mp hx;have g:=h f hf;obtain⟨k,hk⟩:=(zR fs 1 (by decide) λf hf=>(h f hf).1).2.2.1 f hf;have hk:lc fs=f.2*k:=hk;have B:(lc fs).fdiv f.2=k:=by rw[hk];exact Int.mul_fdiv_cancel_left _ (Int.ne_of_gt g.1)
 refine g.2.1.mul (T.of_le ?_);rw[B,hk,cQ];exact Nat.le_mul_of_pos_left _ (by have:=g.1;lia)
def mx1_bb{g:Int}(h1:1<=q)(h:BB q g):BB q (mx1 g):=by
 unfold mx1;split
 .show(1:Int).natAbs<_;exact Nat.one_lt_two_pow #[]
 .exact h
def jJf{fs:fV}{p r:Nat}(h:∀f∈fs,Gp p r f)(T:BB q (lc fs))(h1:1<=p+q):BB q (whF fs).1/\BB (p+q) (whF fs).2:=(eO (vO _)).bb T (mx1_bb h1 (jXq (Mp h T)))
def whL_bb{fs:fV}{p r:Nat}(h:∀f∈fs,Gp p r f)(T:BB q (lc fs))(i:Nat):BB (p+q) ((whL fs).getD i 0):=by
 by_cases hi:i<(whL fs).length
 .exact Sw (Mp h T) _ (kM hi)
 .rw[aJ,cC #[]];show(0:Int).natAbs<_;exact eJ _
def kQ(L:Lpd)(s:Nat->Nat):Prop:=∀i,i<L.m->s i<L.n+L.m
noncomputable def UnO(L:Lpd)(s:Nat->Nat):Option Nat->Prop
 |none=>∀c,c<L.n+L.m->0<=L.T s L.m (L.cv c)
 |some c=>c<L.n+L.m/\L.T s L.m (L.cv c)<0/\∀i,i<L.m->L.T s i (L.cv c)<=0
noncomputable def yT(L:Lpd)(s:Nat->Nat)(f:Nat->Int)(i j:Nat):Int×Int:=lo2 (Lpd.spr i s f j) (L.D s)
noncomputable def kF(L:Lpd)(s:Nat->Nat)(c j:Nat):Int×Int:=lo2 (Lpd.spr L.m s (λi=>-L.T s i (L.cv c)) j+if j=c then L.D s else 0) (L.D s)
noncomputable def kZ:Nat->(Nat->Int×Int)->(Nat->Int×Int)->Int×Int
 |0,_,_=>(0,1)
 |n+1,f,g=>((kZ n f g).1*(f n).2*(g n).2+(f n).1*(g n).1*(kZ n f g).2,(kZ n f g).2*(f n).2*(g n).2)
def kL{f g:Nat->Int×Int}:∀{n:Nat},(∀k,k<n->0<(f k).2)->(∀k,k<n->0<(g k).2)->0<(kZ n f g).2
 |0,_,_=>by show(0:Int)<1;decide
 |n+1,h1,h2=>bL (bL (kL (λk hk=>h1 k #[]) λk hk=>h2 k #[]) (h1 n #[])) (h2 n #[])
def vN{f g:Nat->Int×Int}{W:Int}{v:Nat->Int}:∀{n:Nat},(∀k,k<n->(f k).1*(g k).1*W=v k*((f k).2*(g k).2))->(kZ n f g).1*W=sm n v*(kZ n f g).2
 |0,_=>by show(0:Int)*W=0*1;simp
 |n+1,h=>by
  have m:=vN (n:=n) λk hk=>h k #[];have hn:=h n #[];show((kZ n f g).1*(f n).2*(g n).2+(f n).1*(g n).1*(kZ n f g).2)*W=(sm n v+v n)*((kZ n f g).2*(f n).2*(g n).2);generalize (kZ n f g).1=t at*;generalize (kZ n f g).2=b at*;grind
def jXz{P:Int×Int}{W S:Int}{c:Int×Int}(b:0<W)(R:0<P.2)(e:P.1*W=S*P.2)(h:S*c.2<=c.1*W):P.1*c.2<=c.1*P.2:=by
 have h1:S*c.2*P.2<=c.1*W*P.2:=Int.mul_le_mul_of_nonneg_right h (bW R);refine Int.le_of_mul_le_mul_right (a:=W) ?_ b;have e1:P.1*c.2*W=S*c.2*P.2:=by grind
 have C:c.1*P.2*W=c.1*W*P.2:=by grind
 rw[e1,C];exact h1
def prdF_ge{P:Int×Int}{W S:Int}{c:Int×Int}(b:0<W)(R:0<P.2)(e:P.1*W=S*P.2)(h:c.1*W<=S*c.2):c.1*P.2<=P.1*c.2:=by
 have h1:c.1*W*P.2<=S*c.2*P.2:=Int.mul_le_mul_of_nonneg_right h (bW R);refine Int.le_of_mul_le_mul_right (a:=W) ?_ b;have e1:P.1*c.2*W=S*c.2*P.2:=by grind
 have C:c.1*P.2*W=c.1*W*P.2:=by grind
 rw[e1,C];exact h1
def jYe{S D:Int}{W:Int×Int}(g:0<D)(b:0<W.1):(fov (lo2 S D) W).1*(D*W.1)=S*W.2*(fov (lo2 S D) W).2/\0<(fov (lo2 S D) W).2/\Int.gcd (fov (lo2 S D) W).1 (fov (lo2 S D) W).2=1:=by
 have f:=eO (t:=S) g;have z:=bL f.pos b;have Z:=eO (t:=(lo2 S D).1*W.2) z;refine#[?_,Z.pos,Z.cop];have h1:=f.eq;have h2:=Z.eq;have p1:=f.pos;show(lo2 ((lo2 S D).1*W.2) ((lo2 S D).2*W.1)).1*(D*W.1)=S*W.2*(lo2 ((lo2 S D).1*W.2) ((lo2 S D).2*W.1)).2;generalize (lo2 ((lo2 S D).1*W.2) ((lo2 S D).2*W.1)).1=X at*;generalize (lo2 ((lo2 S D).1*W.2) ((lo2 S D).2*W.1)).2=Y at*;generalize (lo2 S D).1=s at*;generalize (lo2 S D).2=d at*;apply Int.eq_of_mul_eq_mul_left (show d≠0 by lia);grind
def jXg{S D:Int}{W:Int×Int}(g:0<D)(b:0<W.1)(a:0<W.2)(I:0<=S):0<=(fov (lo2 S D) W).1:=by
 obtain⟨e,p,_⟩:=jYe (S:=S) g b;refine oU (bL g b) ?_;rw[e];exact dZ (dZ I (bW a)) (bW p)
def fty_val{U D:Int}{w G:Int×Int}(g:0<D)(hw:0<w.2)(o:0<G.1):(fov (ftm (lo2 U D) w) G).1*(D*w.2*G.1)=U*w.1*G.2*(fov (ftm (lo2 U D) w) G).2/\0<(fov (ftm (lo2 U D) w) G).2/\Int.gcd (fov (ftm (lo2 U D) w) G).1 (fov (ftm (lo2 U D) w) G).2=1:=by
 have f:=eO (t:=U) g;have v:=bL f.pos hw;have Z:=eO (t:=(lo2 U D).1*w.1) v;have l:=bL Z.pos o;have y:=eO (t:=(lo2 ((lo2 U D).1*w.1) ((lo2 U D).2*w.2)).1*G.2) l;refine#[?_,y.pos,y.cop];have h1:=f.eq;have h2:=Z.eq;have R:=y.eq;have p1:=f.pos;have a:=Z.pos;show(lo2 ((lo2 ((lo2 U D).1*w.1) ((lo2 U D).2*w.2)).1*G.2) ((lo2 ((lo2 U D).1*w.1) ((lo2 U D).2*w.2)).2*G.1)).1*(D*w.2*G.1)=U*w.1*G.2*(lo2 ((lo2 ((lo2 U D).1*w.1) ((lo2 U D).2*w.2)).1*G.2) ((lo2 ((lo2 U D).1*w.1) ((lo2 U D).2*w.2)).2*G.1)).2;generalize (lo2 ((lo2 ((lo2 U D).1*w.1) ((lo2 U D).2*w.2)).1*G.2) ((lo2 ((lo2 U D).1*w.1) ((lo2 U D).2*w.2)).2*G.1)).1=X at*;generalize (lo2 ((lo2 ((lo2 U D).1*w.1) ((lo2 U D).2*w.2)).1*G.2) ((lo2 ((lo2 U D).1*w.1) ((lo2 U D).2*w.2)).2*G.1)).2=Y at*;generalize (lo2 ((lo2 U D).1*w.1) ((lo2 U D).2*w.2)).1=u at*;generalize (lo2 ((lo2 U D).1*w.1) ((lo2 U D).2*w.2)).2=c at*;generalize (lo2 U D).1=s at*;generalize (lo2 U D).2=d at*;apply Int.eq_of_mul_eq_mul_left (show d*c≠0 from Int.ne_of_gt (bL p1 a));grind
section
variable{fl:Bool}{frs:hU}{fb fg:fV}{s:Nat->Nat}
noncomputable def rwF(frs:hU)(i j:Nat):Int×Int:=(frs.getD i []).getD j (0,1)
def Vp(B:BeO frs fb fg)(hi:i<frs.length)(A:j<fg.length):(bP fl frs fb fg).a j i*((rwF frs i j).2*(whF (frs.getD i [])).2)=(rwF frs i j).1*(whF (frs.getD i [])).1:=by
 have hm:frs.getD i []∈frs:=by rw[aJ,aD hi];exact cJ hi
 have S:=B.lr _ hm;have e:(bP fl frs fb fg).a j i=(whL (frs.getD i [])).getD j 0:=by show(if i<frs.length then _ else _)=_;rw[aK hi]
 rw[e];refine Ur (λf hf=>(B.gr _ hm f hf).1) ?_;unfold rwF;generalize frs.getD i []=l at*;rw[aJ,aD #[]];rfl
def Om(B:BeO frs fb fg)(A:j<fg.length):-(bP fl frs fb fg).a j frs.length*((fg.getD j (0,1)).2*(whF fg).2)=(fg.getD j (0,1)).1*(whF fg).1:=by
 have e:(bP fl frs fb fg).a j frs.length=-(whL fg).getD j 0:=by show(if frs.length<frs.length then _ else _)=_;rw[aF (fB _)]
 rw[e,Int.neg_neg];refine Ur (λf hf=>(B.gg f hf).1) ?_;rw[aJ,aD A];rfl
def Wi(B:BeO frs fb fg)(hi:i<frs.length):(bP fl frs fb fg).be i*(whF (bnF frs fb)).2*((fb.getD i (0,1)).2*(whF (frs.getD i [])).2)=(fb.getD i (0,1)).1*(whF (frs.getD i [])).1*(whF (bnF frs fb)).1:=by
 have c:i<fb.length:=by rw[B.lb];exact hi
 have e1:fb[i]?=some (fb.getD i (0,1)):=by rw[aJ,aD c];rfl
 have C:frs[i]?=some (frs.getD i []):=by rw[aJ,aD hi];rfl
 have hm:=aI C;have a:=aI e1;have w:=jC λf hf=>(B.gr _ hm f hf).1;have z:=bL (B.gb _ a).1 w.2;have l:=eO (t:=(fb.getD i (0,1)).1*(whF (frs.getD i [])).1) z;have gbn:∀f∈bnF frs fb,0<f.2:=λf hf=>by
  obtain⟨k,hk⟩:=dA hf;have b:k<frs.length:=by have:=(aO.mp hk).1;rwa [iZ B.lb]at this
  have e:k<fb.length:=by rw[B.lb];exact b
  rw[vQ (aD e) (aD b)]at hk;obtain rfl:=aW hk;have w:=jC λf hf=>(B.gr _ (cJ b) f hf).1;exact(eO (bL (B.gb _ (cJ e)).1 w.2)).pos
 have q:=Ur gbn (vQ e1 C);have M:(bP fl frs fb fg).be i=(whL (bnF frs fb)).getD i 0:=rfl;rw[M];have h1:=l.eq;have p1:=l.pos;have q:(whL (bnF frs fb)).getD i 0*((lo2 ((fb.getD i (0,1)).1*(whF (frs.getD i [])).1) ((fb.getD i (0,1)).2*(whF (frs.getD i [])).2)).2*(whF (bnF frs fb)).2)=(lo2 ((fb.getD i (0,1)).1*(whF (frs.getD i [])).1) ((fb.getD i (0,1)).2*(whF (frs.getD i [])).2)).1*(whF (bnF frs fb)).1:=q;generalize (lo2 ((fb.getD i (0,1)).1*(whF (frs.getD i [])).1) ((fb.getD i (0,1)).2*(whF (frs.getD i [])).2)).1=X at*;generalize (lo2 ((fb.getD i (0,1)).1*(whF (frs.getD i [])).1) ((fb.getD i (0,1)).2*(whF (frs.getD i [])).2)).2=Y at*;generalize (fb.getD i (0,1)).1=g at*;generalize (fb.getD i (0,1)).2=d at*;generalize (whF (frs.getD i [])).1=x at*;generalize (whF (frs.getD i [])).2=u at*;generalize (whF (bnF frs fb)).1=y at*;generalize (whF (bnF frs fb)).2=o at*;generalize (whL (bnF frs fb)).getD i 0=be at*;apply Int.eq_of_mul_eq_mul_left (show Y≠0 by lia);grind
noncomputable def xF(fl:Bool)(frs:hU)(fb fg:fV)(s:Nat->Nat)(j:Nat):Int×Int:=fov (yT (bP fl frs fb fg) s (λi=>(bP fl frs fb fg).T s i (bP fl frs fb fg).be) frs.length j) (whF (bnF frs fb))
noncomputable def yF(fl:Bool)(frs:hU)(fb fg:fV)(s:Nat->Nat)(k:Nat):Int×Int:=fov (ftm (lo2 ((bP fl frs fb fg).T s frs.length (e1 k)) ((bP fl frs fb fg).D s)) (whF (frs.getD k []))) (whF fg)
def Vc(B:BeO frs fb fg):0<(whF (bnF frs fb)).1/\0<(whF (bnF frs fb)).2:=jC λf hf=>by
 obtain⟨k,hk⟩:=dA hf;have b:k<frs.length:=by have:=(aO.mp hk).1;rwa [iZ B.lb]at this
 have e:k<fb.length:=by rw[B.lb];exact b
 rw[vQ (aD e) (aD b)]at hk;obtain rfl:=aW hk;have w:=jC λf hf=>(B.gr _ (cJ b) f hf).1;exact(eO (bL (B.gb _ (cJ e)).1 w.2)).pos
def Dt(B:BeO frs fb fg)(hi:i<frs.length):0<(whF (frs.getD i [])).1/\0<(whF (frs.getD i [])).2:=jC λf hf=>(B.gr _ (by rw[aJ,aD hi];exact cJ hi) f hf).1
def Bm(B:BeO frs fb fg)(hi:i<frs.length)(A:j<fg.length):0<(rwF frs i j).2:=by
 have hm:frs.getD i []∈frs:=by rw[aJ,aD hi];exact cJ hi
 have S:=B.lr _ hm;have g:=B.gr _ hm;unfold rwF;generalize frs.getD i []=l at*;have:l.getD j (0,1)∈l:=by rw[aJ,aD #[]];exact cJ _
 exact(g _ this).1
def Rr(B:BeO frs fb fg)(ok:(bP fl frs fb fg).Ok s)(j:Nat):0<(xF fl frs fb fg s j).2/\Int.gcd (xF fl frs fb fg s j).1 (xF fl frs fb fg s j).2=1/\0<=(xF fl frs fb fg s j).1/\(xF fl frs fb fg s j).1*((bP fl frs fb fg).D s*(whF (bnF frs fb)).1)=Lpd.spr frs.length s (λi=>(bP fl frs fb fg).T s i (bP fl frs fb fg).be) j*(whF (bnF frs fb)).2*(xF fl frs fb fg s j).2:=by
 have w:=Vc B;obtain⟨e,p,c⟩:=jYe (S:=Lpd.spr frs.length s (λi=>(bP fl frs fb fg).T s i (bP fl frs fb fg).be) j) ok.pos w.1;exact#[p,c,jXg ok.pos w.1 w.2 (Lpd.spr_nonneg (λi hi=>ok.bound_nonneg hi) j),e]
def jJ9(B:BeO frs fb fg)(ok:(bP fl frs fb fg).Ok s)(io:kQ (bP fl frs fb fg) s)(hi:i<frs.length):(kZ fg.length (rwF frs i) (xF fl frs fb fg s)).1*(fb.getD i (0,1)).2<=(fb.getD i (0,1)).1*(kZ fg.length (rwF frs i) (xF fl frs fb fg s)).2:=by
 have w:=Vc B;have r:=Dt B hi;have Z:=ok.pos;have M:=ok.allowed io (r:=i) hi;have b:=Wi (fl:=fl) B hi;have c:i<fb.length:=by rw[B.lb];exact hi
 have p:0<(fb.getD i (0,1)).2:=(B.gb _ (by rw[aJ,aD c];exact cJ c)).1;have e:=vN (n:=fg.length) (f:=rwF frs i) (g:=xF fl frs fb fg s) (W:=(whF (frs.getD i [])).1*(bP fl frs fb fg).D s*(whF (bnF frs fb)).1) (v:=λj=>((whF (frs.getD i [])).2*(whF (bnF frs fb)).2)*(Lpd.spr frs.length s (λi=>(bP fl frs fb fg).T s i (bP fl frs fb fg).be) j*(bP fl frs fb fg).a j i)) λj A=>by
  have h1:=Vp (fl:=fl) B hi A;have h2:=(Rr B ok j).2.2.2;generalize (xF fl frs fb fg s j).1=G at*;generalize (xF fl frs fb fg s j).2=l at*;generalize (rwF frs i j).1=h at*;generalize (rwF frs i j).2=F at*;generalize (whF (frs.getD i [])).1=x at*;generalize (whF (frs.getD i [])).2=u at*;generalize (whF (bnF frs fb)).1=y at*;generalize (whF (bnF frs fb)).2=o at*;generalize (bP fl frs fb fg).a j i=a at*;generalize Lpd.spr frs.length s (λi=>(bP fl frs fb fg).T s i (bP fl frs fb fg).be) j=S at*;generalize (bP fl frs fb fg).D s=D at*;grind
 rw[Lpd.sm_mul]at e;refine jXz (bL (bL r.1 Z) w.1) (kL (λj A=>Bm B hi A) λj _=>(Rr B ok j).1) e ?_;have M:sm fg.length (λj=>Lpd.spr frs.length s (λi=>(bP fl frs fb fg).T s i (bP fl frs fb fg).be) j*(bP fl frs fb fg).a j i)<=(bP fl frs fb fg).D s*(bP fl frs fb fg).be i:=M;generalize sm fg.length (λj=>Lpd.spr frs.length s (λi=>(bP fl frs fb fg).T s i (bP fl frs fb fg).be) j*(bP fl frs fb fg).a j i)=J at*;have m:=Int.mul_le_mul_of_nonneg_left M (bW (bL (bL r.2 w.2) p));generalize (whF (frs.getD i [])).1=x at*;generalize (whF (frs.getD i [])).2=u at*;generalize (whF (bnF frs fb)).1=y at*;generalize (whF (bnF frs fb)).2=o at*;generalize (bP fl frs fb fg).D s=D at*;generalize (bP fl frs fb fg).be i=be at*;generalize (fb.getD i (0,1)).1=t at*;generalize (fb.getD i (0,1)).2=d at*;have e1:u*o*J*d=u*o*d*J:=by grind
 have C:t*(x*D*y)=u*o*d*(D*be):=by grind
 rw[e1,C];exact m
def jUg(un:UnO (bP fl frs fb fg) s none)(hk:k<frs.length):0<=(bP fl frs fb fg).T s frs.length (e1 k):=by
 have:=un ((bP fl frs fb fg).n+k) (Nat.add_lt_add_left hk _);rwa [Lpd.cv_spare]at this
def Rq(B:BeO frs fb fg)(ok:(bP fl frs fb fg).Ok s)(un:UnO (bP fl frs fb fg) s none)(hk:k<frs.length):0<(yF fl frs fb fg s k).2/\Int.gcd (yF fl frs fb fg s k).1 (yF fl frs fb fg s k).2=1/\0<=(yF fl frs fb fg s k).1/\(yF fl frs fb fg s k).1*((bP fl frs fb fg).D s*(whF (frs.getD k [])).2*(whF fg).1)=(bP fl frs fb fg).T s frs.length (e1 k)*(whF (frs.getD k [])).1*(whF fg).2*(yF fl frs fb fg s k).2:=by
 have r:=Dt B hk;have g:=jC λf hf=>(B.gg f hf).1;obtain⟨e,p,c⟩:=fty_val (U:=(bP fl frs fb fg).T s frs.length (e1 k)) (w:=whF (frs.getD k [])) (G:=whF fg) ok.pos r.2 g.1;refine#[p,c,oU (bL (bL ok.pos r.2) g.1) ?_,e];have:0<=(bP fl frs fb fg).T s frs.length (e1 k)*(whF (frs.getD k [])).1*(whF fg).2*(fov (ftm (lo2 ((bP fl frs fb fg).T s frs.length (e1 k)) ((bP fl frs fb fg).D s)) (whF (frs.getD k []))) (whF fg)).2:=dZ (dZ (dZ (jUg un hk) (bW r.1)) (bW g.2)) (bW p);rw[←e]at this;exact this
def ys_pay(B:BeO frs fb fg)(ok:(bP fl frs fb fg).Ok s)(un:UnO (bP fl frs fb fg) s none)(A:j<fg.length):(fg.getD j (0,1)).1*(kZ frs.length (yF fl frs fb fg s) (λi=>rwF frs i j)).2<=(kZ frs.length (yF fl frs fb fg s) (λi=>rwF frs i j)).1*(fg.getD j (0,1)).2:=by
 have g:=jC λf hf=>(B.gg f hf).1;have Z:=ok.pos;have o:=Om (fl:=fl) B A;have p:0<(fg.getD j (0,1)).2:=(B.gg _ (by rw[aJ,aD A];exact cJ A)).1;have e:=vN (n:=frs.length) (f:=yF fl frs fb fg s) (g:=λi=>rwF frs i j) (W:=(bP fl frs fb fg).D s*(whF fg).1) (v:=λi=>(whF fg).2*((bP fl frs fb fg).a j i*(bP fl frs fb fg).T s frs.length (e1 i))) λi hi=>by
  have h1:=Vp (fl:=fl) B hi A;have h2:=(Rq B ok un hi).2.2.2;have r:=Dt B hi;show(yF fl frs fb fg s i).1*(rwF frs i j).1*_=_*((yF fl frs fb fg s i).2*(rwF frs i j).2);generalize (yF fl frs fb fg s i).1=G at*;generalize (yF fl frs fb fg s i).2=l at*;generalize (rwF frs i j).1=q at*;generalize (rwF frs i j).2=F at*;generalize (whF (frs.getD i [])).1=x at*;generalize (whF (frs.getD i [])).2=u at*;generalize (whF fg).1=h at*;generalize (whF fg).2=b at*;generalize (bP fl frs fb fg).a j i=a at*;generalize (bP fl frs fb fg).T s frs.length (e1 i)=U at*;generalize (bP fl frs fb fg).D s=D at*;apply Int.eq_of_mul_eq_mul_left (show u≠0 by lia);grind
 rw[Lpd.sm_mul]at e;refine prdF_ge (bL Z g.1) (kL (λi hi=>(Rq B ok un hi).1) λi hi=>Bm B hi A) e ?_;have go:=Lpd.goal_of (L:=bP fl frs fb fg) (s:=s) ((bP fl frs fb fg).cv j);have hc:=un j (show j<fg.length+frs.length by lia);have d:(bP fl frs fb fg).cv j=(bP fl frs fb fg).a j:=by unfold Lpd.cv;rw[aK (show j<(bP fl frs fb fg).n from A)]
 rw[go,d]at hc;have hc:0<=(sm frs.length λk=>(bP fl frs fb fg).a j k*(bP fl frs fb fg).T s frs.length (e1 k))+(bP fl frs fb fg).a j frs.length*(bP fl frs fb fg).D s:=hc;generalize (sm frs.length λk=>(bP fl frs fb fg).a j k*(bP fl frs fb fg).T s frs.length (e1 k))=J at*;generalize (bP fl frs fb fg).a j frs.length=c at*;generalize (bP fl frs fb fg).D s=D at*;generalize (whF fg).1=h at*;generalize (whF fg).2=b at*;generalize (fg.getD j (0,1)).1=h1 at*;generalize (fg.getD j (0,1)).2=h2 at*;have m:=Int.mul_le_mul_of_nonneg_left (show-c*D<=J by have:-c*D=-(c*D):=Int.neg_mul _ _;lia) (bW (bL g.2 p));have e1:h1*(D*h)=b*h2*(-c*D):=by grind
 have C:b*J*h2=b*h2*J:=by grind
 rw[e1,C];exact m
def jVY(B:BeO frs fb fg)(ok:(bP fl frs fb fg).Ok s)(io:kQ (bP fl frs fb fg) s)(un:UnO (bP fl frs fb fg) s none):
  (kZ fg.length (λj=>fg.getD j (0,1)) (xF fl frs fb fg s)).1*(kZ frs.length (λi=>fb.getD i (0,1)) (yF fl frs fb fg s)).2=(kZ frs.length (λi=>fb.getD i (0,1)) (yF fl frs fb fg s)).1*(kZ fg.length (λj=>fg.getD j (0,1)) (xF fl frs fb fg s)).2:=by
 have g:=jC λf hf=>(B.gg f hf).1;have w:=Vc B;have H:=ok.pos;have q1:=vN (n:=fg.length) (f:=λj=>fg.getD j (0,1)) (g:=xF fl frs fb fg s) (W:=(whF fg).1*(bP fl frs fb fg).D s*(whF (bnF frs fb)).1) (v:=λj=>(-((whF fg).2*(whF (bnF frs fb)).2))*(Lpd.spr frs.length s (λi=>(bP fl frs fb fg).T s i (bP fl frs fb fg).be) j*(bP fl frs fb fg).a j frs.length)) λj A=>by
  have h1:=Om (fl:=fl) B A;have h2:=(Rr B ok j).2.2.2;show(fg.getD j (0,1)).1*(xF fl frs fb fg s j).1*_=_*((fg.getD j (0,1)).2*(xF fl frs fb fg s j).2);generalize (xF fl frs fb fg s j).1=G at*;generalize (xF fl frs fb fg s j).2=l at*;generalize (fg.getD j (0,1)).1=m at*;generalize (fg.getD j (0,1)).2=F at*;generalize (whF fg).1=h at*;generalize (whF fg).2=b at*;generalize (whF (bnF frs fb)).1=y at*;generalize (whF (bnF frs fb)).2=o at*;generalize (bP fl frs fb fg).a j frs.length=a at*;generalize Lpd.spr frs.length s (λi=>(bP fl frs fb fg).T s i (bP fl frs fb fg).be) j=S at*;generalize (bP fl frs fb fg).D s=D at*;grind
 have p:=vN (n:=frs.length) (f:=λi=>fb.getD i (0,1)) (g:=yF fl frs fb fg s) (W:=(whF fg).1*(bP fl frs fb fg).D s*(whF (bnF frs fb)).1) (v:=λi=>((whF fg).2*(whF (bnF frs fb)).2)*((bP fl frs fb fg).be i*(bP fl frs fb fg).T s frs.length (e1 i))) λi hi=>by
  have h1:=Wi (fl:=fl) B hi;have h2:=(Rq B ok un hi).2.2.2;have r:=Dt B hi;show(fb.getD i (0,1)).1*(yF fl frs fb fg s i).1*_=_*((fb.getD i (0,1)).2*(yF fl frs fb fg s i).2);generalize (yF fl frs fb fg s i).1=G at*;generalize (yF fl frs fb fg s i).2=l at*;generalize (fb.getD i (0,1)).1=t at*;generalize (fb.getD i (0,1)).2=d at*;generalize (whF (frs.getD i [])).1=x at*;generalize (whF (frs.getD i [])).2=u at*;generalize (whF fg).1=h at*;generalize (whF fg).2=b at*;generalize (whF (bnF frs fb)).1=y at*;generalize (whF (bnF frs fb)).2=o at*;generalize (bP fl frs fb fg).be i=be at*;generalize (bP fl frs fb fg).T s frs.length (e1 i)=U at*;generalize (bP fl frs fb fg).D s=D at*;apply Int.eq_of_mul_eq_mul_left (show x*u≠0 from Int.ne_of_gt (bL r.1 r.2));grind
 rw[Lpd.sm_mul]at q1 p;have c:(bP fl frs fb fg).be frs.length=0:=by
  show(whL (bnF frs fb)).getD frs.length 0=0;rw[aJ,cC (by rw[jO,iZ B.lb];exact aU _)];rfl
 have Y:(sm fg.length λj=>Lpd.spr frs.length s (λi=>(bP fl frs fb fg).T s i (bP fl frs fb fg).be) j*(bP fl frs fb fg).a j frs.length)=-(bP fl frs fb fg).T s frs.length (bP fl frs fb fg).be:=ok.earned io c;have go:=Lpd.goal_of (L:=bP fl frs fb fg) (s:=s) (bP fl frs fb fg).be;have go:(bP fl frs fb fg).T s frs.length (bP fl frs fb fg).be=(sm frs.length λk=>(bP fl frs fb fg).be k*(bP fl frs fb fg).T s frs.length (e1 k))+(bP fl frs fb fg).be frs.length*(bP fl frs fb fg).D s:=go;rw[c,gH,Int.add_zero]at go;rw[Y]at q1;rw[←go]at p;have z:=bL (bL g.1 H) w.1;generalize (kZ fg.length (λj=>fg.getD j (0,1)) (xF fl frs fb fg s)).1=q at*;generalize (kZ fg.length (λj=>fg.getD j (0,1)) (xF fl frs fb fg s)).2=e at*;generalize (kZ frs.length (λi=>fb.getD i (0,1)) (yF fl frs fb fg s)).1=C at*;generalize (kZ frs.length (λi=>fb.getD i (0,1)) (yF fl frs fb fg s)).2=R2 at*;generalize (whF fg).1*(bP fl frs fb fg).D s*(whF (bnF frs fb)).1=Z at*;generalize (bP fl frs fb fg).T s frs.length (bP fl frs fb fg).be=tb at*;apply Int.eq_of_mul_eq_mul_left (show Z≠0 by lia);grind
def Xh(ok:(bP fl frs fb fg).Ok s)(un:UnO (bP fl frs fb fg) s (some c))(j:Nat):0<(kF (bP fl frs fb fg) s c j).2/\Int.gcd (kF (bP fl frs fb fg) s c j).1 (kF (bP fl frs fb fg) s c j).2=1/\0<=(kF (bP fl frs fb fg) s c j).1/\(kF (bP fl frs fb fg) s c j).1*(bP fl frs fb fg).D s=(Lpd.spr frs.length s (λi=>-(bP fl frs fb fg).T s i ((bP fl frs fb fg).cv c)) j+if j=c then(bP fl frs fb fg).D s else 0)*(kF (bP fl frs fb fg) s c j).2:=by
 have Z:=ok.pos;have l:=eO (t:=Lpd.spr frs.length s (λi=>-(bP fl frs fb fg).T s i ((bP fl frs fb fg).cv c)) j+if j=c then(bP fl frs fb fg).D s else 0) Z;refine#[l.pos,l.cop,vZ Z (Int.add_nonneg (Lpd.spr_nonneg (λi hi=>?_) j) ?_),l.eq]
 .have:=un.2.2 i hi;lia
 .split
  .omega
  .exact Int.le_refl _
def Wl(B:BeO frs fb fg)(ok:(bP fl frs fb fg).Ok s)(io:kQ (bP fl frs fb fg) s)(un:UnO (bP fl frs fb fg) s (some c))(hi:i<frs.length):(kZ fg.length (rwF frs i) (kF (bP fl frs fb fg) s c)).1<=0:=by
 have r:=Dt B hi;have Z:=ok.pos;have M:=ok.ways_row io (c:=c) (r:=i) un.2.2 hi;have M:(sm fg.length λj=>(Lpd.spr frs.length s (λi=>-(bP fl frs fb fg).T s i ((bP fl frs fb fg).cv c)) j+if j=c then(bP fl frs fb fg).D s else 0)*(bP fl frs fb fg).a j i)<=0:=M;have e:=vN (n:=fg.length) (f:=rwF frs i) (g:=kF (bP fl frs fb fg) s c) (W:=(whF (frs.getD i [])).1*(bP fl frs fb fg).D s) (v:=λj=>(whF (frs.getD i [])).2*((Lpd.spr frs.length s (λi=>-(bP fl frs fb fg).T s i ((bP fl frs fb fg).cv c)) j+if j=c then(bP fl frs fb fg).D s else 0)*(bP fl frs fb fg).a j i)) λj A=>by
  have h1:=Vp (fl:=fl) B hi A;have h2:=(Xh ok un j).2.2.2;generalize (Lpd.spr frs.length s (λi=>-(bP fl frs fb fg).T s i ((bP fl frs fb fg).cv c)) j+if j=c then(bP fl frs fb fg).D s else 0)=S at*;generalize (kF (bP fl frs fb fg) s c j).1=G at*;generalize (kF (bP fl frs fb fg) s c j).2=l at*;generalize (rwF frs i j).1=m at*;generalize (rwF frs i j).2=F at*;generalize (whF (frs.getD i [])).1=x at*;generalize (whF (frs.getD i [])).2=u at*;generalize (bP fl frs fb fg).a j i=a at*;generalize (bP fl frs fb fg).D s=D at*;grind
 rw[Lpd.sm_mul]at e;have p:=kL (n:=fg.length) (f:=rwF frs i) (g:=kF (bP fl frs fb fg) s c) (λj A=>Bm B hi A) λj _=>(Xh ok un j).1;have:=jXz (c:=(0,1)) (bL r.1 Z) p e (by
  show _*1<=0*_;rw[fK,gH];exact Int.mul_nonpos_of_nonneg_of_nonpos (bW r.2) M)
 simpa using this
def Qx(B:BeO frs fb fg)(ok:(bP fl frs fb fg).Ok s)(io:kQ (bP fl frs fb fg) s)(un:UnO (bP fl frs fb fg) s (some c)):0<(kZ fg.length (λj=>fg.getD j (0,1)) (kF (bP fl frs fb fg) s c)).1:=by
 have g:=jC λf hf=>(B.gg f hf).1;have Z:=ok.pos;have M:=ok.ways_goal io (c:=c) un.1;have M:(sm fg.length λj=>(Lpd.spr frs.length s (λi=>-(bP fl frs fb fg).T s i ((bP fl frs fb fg).cv c)) j+if j=c then(bP fl frs fb fg).D s else 0)*(bP fl frs fb fg).a j frs.length)=(bP fl frs fb fg).T s frs.length ((bP fl frs fb fg).cv c):=M;have e:=vN (n:=fg.length) (f:=λj=>fg.getD j (0,1)) (g:=kF (bP fl frs fb fg) s c) (W:=(whF fg).1*(bP fl frs fb fg).D s) (v:=λj=>(-(whF fg).2)*((Lpd.spr frs.length s (λi=>-(bP fl frs fb fg).T s i ((bP fl frs fb fg).cv c)) j+if j=c then(bP fl frs fb fg).D s else 0)*(bP fl frs fb fg).a j frs.length)) λj A=>by
  have h1:=Om (fl:=fl) B A;have h2:=(Xh ok un j).2.2.2;show(fg.getD j (0,1)).1*(kF (bP fl frs fb fg) s c j).1*_=_*((fg.getD j (0,1)).2*(kF (bP fl frs fb fg) s c j).2);generalize (Lpd.spr frs.length s (λi=>-(bP fl frs fb fg).T s i ((bP fl frs fb fg).cv c)) j+if j=c then(bP fl frs fb fg).D s else 0)=S at*;generalize (kF (bP fl frs fb fg) s c j).1=G at*;generalize (kF (bP fl frs fb fg) s c j).2=l at*;generalize (fg.getD j (0,1)).1=m at*;generalize (fg.getD j (0,1)).2=F at*;generalize (whF fg).1=h at*;generalize (whF fg).2=b at*;generalize (bP fl frs fb fg).a j frs.length=a at*;generalize (bP fl frs fb fg).D s=D at*;grind
 rw[Lpd.sm_mul,M]at e;have p:=kL (n:=fg.length) (f:=λj=>fg.getD j (0,1)) (g:=kF (bP fl frs fb fg) s c) (λj A=>(B.gg _ (by rw[aJ,aD A];exact cJ A)).1) λj _=>(Xh ok un j).1;have hn:=un.2.1;have hn:(bP fl frs fb fg).T s frs.length ((bP fl frs fb fg).cv c)<0:=hn;have z:0<(-(whF fg).2)*(bP fl frs fb fg).T s frs.length ((bP fl frs fb fg).cv c)*(kZ fg.length (λj=>fg.getD j (0,1)) (kF (bP fl frs fb fg) s c)).2:=bL (Int.mul_pos_of_neg_of_neg #[] hn) p;rw[←e]at z;have q:=bL g.1 Z;refine Classical.byContradiction λhz=>?_;have:=Int.mul_nonpos_of_nonpos_of_nonneg (a:=(kZ fg.length (λj=>fg.getD j (0,1)) (kF (bP fl frs fb fg) s c)).1) #[] (bW q);lia
end
def Fok(f:Int×Int):Prop:=0<f.2/\Int.gcd f.1 f.2=1/\0<=f.1
namespace Lpd
noncomputable def rowL(L:Lpd)(i:Nat):List Int:=ofF L.n (λj=>L.a j i)++[L.be i]
def rowL_length(L:Lpd)(i:Nat):(L.rowL i).length=L.n+1:=by unfold rowL;rw[bK,bF];rfl
def rowL_get(L:Lpd)(i:Nat)(h:j<L.n):(L.rowL i)[j]?=some (L.a j i):=by
 unfold rowL;rw[bZ (by rw[bF];exact h),eU _ h]
def rowL_last(L:Lpd)(i:Nat):(L.rowL i)[L.n]?=some (L.be i):=by
 unfold rowL;rw[bU (by rw[bF];exact aU _),bF,jT];rfl
def rowL_mem{L:Lpd}(h:x∈L.rowL i):(∃j,j<L.n/\x=L.a j i)∨x=L.be i:=by
 unfold rowL at h;rcases dD.mp h with h |h
 .exact .inl (jZ h)
 .exact .inr (cP.mp h)
def jW7(L:Lpd):L.flip.flip=L:=by
 unfold flip;cases L with
 |mk m n a be fl=>cases fl<;>rfl
def flip_kept(L:Lpd)(s:Nat->Nat)(i:Nat):L.flip.keptL s i=(L.keptL s i).map λx=>-x:=by
 unfold keptL;rw[aX];have e1:(ofF (L.m+1) λk=>L.T s i (e1 k)).map (λx=>-x)=ofF (L.m+1) λk=>-L.T s i (e1 k):=by
  unfold ofF;rw[List.map_map];rfl
 rw[e1];show ofF (L.m+1) (λk=>L.flip.T s i (My.e1 k))++[L.flip.T s i L.be]=_;rw[Nh,jF λk _=>Nh];rfl
def Cb{L:Lpd}(o:L.flip.Okn s):L.Okn s:=by
 have:=jUW o;rwa [jW7]at this
theorem Lim.flip{L:Lpd}(h:L.Lim):L.flip.Lim:=
 #[h.m1,h.n1,h.ba,λs i c o hi=>by rw[Nh];exact(h.bc s i c (Cb o) hi).neg,λs i k o hi hk=>by rw[Nh];exact(h.bk s i k (Cb o) hi hk).neg,λs i o hi=>by rw[Nh];exact(h.bb s i (Cb o) hi).neg,λs o=>by rw[flip_D];exact(h.bD s (Cb o)).neg]
end Lpd
def ib(n:Int):Nat:=Builtin.Int.intBits n
def Ru{n:Int}(h:BB q n):ib n<=q:=oX h
def jXr(n:Int):BB (ib n) n:=by
 unfold ib BB Builtin.Int.intBits;by_cases h:n.natAbs=0
 .rw[h];exact eJ _
 .rw[aF (by simpa using h)];exact Nat.lt_log2_self
def ib_neg(n:Int):ib (-n)=ib n:=by
 have h1:=Ru (n:=-n) (q:=ib n) (jXr n).neg;have h2:=Ru (n:=n) (q:=ib (-n)) (by have:=(jXr (-n)).neg;rwa [Int.neg_neg]at this);lia
structure Uo(n b r:Int):Prop where
 zz:n=0->r=0
 nn:0<=n->0<=r
 bb:∀q:Nat,(ib n:Int)+b<=q->BB q r
def str_up{n b:Int}(hb:0<=b)(hn:0<=n):Uo n b (n*2^b.toNat):=by
 refine#[λz=>by rw[z,gH],λ_=>dZ hn (bW (Int.pow_pos (by decide))),λq T=>?_];refine BB.mono (m:=ib n+b.toNat) ?_ #[];show(n*2^b.toNat).natAbs<2^(ib n+b.toNat);rw[cQ,Nat.pow_add,Int.natAbs_pow];exact Nat.mul_lt_mul_of_pos_right (jXr n) (eJ _)
def Yf{n b:Int}(hb:0<=b)(hn:0<=n):Uo n (-b) (n.fdiv (2^b.toNat)):=by
 obtain⟨m,rfl⟩:∃m:Nat,n=(m:Int):=#[n.toNat,#[]];have e:((m:Int)).fdiv (2^b.toNat)=((m/2^b.toNat:Nat):Int):=by
  rw[Int.fdiv_eq_ediv_of_nonneg _ (bW (Int.pow_pos (by decide)))]
  push_cast;rfl
 rw[e];refine#[λz=>by rw[show m=0 by lia,Nat.zero_div];rfl,λ_=>Int.natCast_nonneg _,λq T=>?_];show((m/2^b.toNat:Nat):Int).natAbs<2^q;rw[Int.natAbs_natCast];have h:m<2^ib m:=jXr (m:Int);refine(Nat.div_lt_iff_lt_mul (eJ _)).mpr (cL h ?_);rw[←Nat.pow_add];exact eE (by decide) #[]
def str_neg{n b r:Int}(h:Uo (-n) b r)(hn:n<0):Uo n b (-r):=#[λz=>by lia,λz=>by lia,λq T=>(h.bb q (by rw[ib_neg];exact T)).neg]
def LpR(f:List (List Int))(m n:Nat):Lpd:=#[m,n,λj i=>(f.getD i []).getD j 0,λi=>(f.getD i []).getD n 0,false]
def jUh{f:List (List Int)}{n:Nat}(h1:f.length=m+1)(h2:∀r∈f,r.length=n+1):ofF (m+1) (LpR f m n).rowL=f:=by
 refine List.ext_getElem? λi=>?_;by_cases hi:i<m+1
 .have e:f[i]?=some f[i]:=aD #[];rw[eU _ hi,e]
  congr 1
  have S:=h2 _ (aI e);have t:f.getD i []=f[i]:=by rw[aJ,e];rfl
  refine List.ext_getElem? λj=>?_;by_cases A:j<n
  .rw[Lpd.rowL_get _ _ (show j<(LpR f m n).n from A)];show some ((f.getD i []).getD j 0)=_;rw[t,Gf #[]]
  .by_cases a:j=n
   .subst a;have:=(LpR f m j).rowL_last i;rw[show(LpR f m j).n=j from rfl]at this;rw[this];show some ((f.getD i []).getD j 0)=_;rw[t,Gf #[]]
   .rw[cC (by rw[Lpd.rowL_length];show n+1<=j;lia),cC #[]]
 .rw[cC (by rw[bF];lia),cC #[]]
def Gg:mY xs none (some (-1))=xs.take (xs.length-1):=by
 unfold mY;rw[HT.sIx_none,List.drop_zero,Nat.sub_zero]
 congr 1
 unfold HT.sIx;simp;lia
def cut_row(L:Lpd)(i:Nat):mY (map int (L.rowL i)) none (some (-1))=map int (ofF L.n λj=>L.a j i):=by
 rw[Gg,aB,Lpd.rowL_length,Nat.add_sub_cancel,←map_take]
 congr 1
 unfold Lpd.rowL;rw[List.take_append_of_le_length (by rw[bF];exact aU _),take_of_length_le (by rw[bF];exact aU _)]
structure yZ(H:Hp)(a:Addr)(rps:List Addr)(L:Lpd):Prop where
 ha:H a=some (.lst (map ref rps))
 hr:eF H rps (ofF (L.m+1) L.rowL)
def yZ.same{g:List Addr}{L:Lpd}(h:yZ H a g L)(s:aT H O):yZ O a g L:=#[s _ _ h.ha,h.hr.same s]
def yZ.len{g:List Addr}{L:Lpd}(h:yZ H a g L):g.length=L.m+1:=by rw[h.hr.length,bF]
def yZ.row{g:List Addr}{L:Lpd}(h:yZ H a g L)(hi:i<=L.m):∃p,g[i]?=some p/\H p=some (.lst (map int (L.rowL i))):=by
 have S:=h.len;obtain⟨p,hp⟩:∃p,g[i]?=some p:=#[_,aD #[]];obtain⟨r,e1,C⟩:=h.hr.get hp;obtain⟨_,rfl⟩:=gL e1;exact#[p,hp,C]
def yZ.inv{g:List Addr}{L:Lpd}(h:yZ H a g L)(hp:g[i]?=some p):i<=L.m/\H p=some (.lst (map int (L.rowL i))):=by
 obtain⟨r,e1,C⟩:=h.hr.get hp;obtain⟨h1,rfl⟩:=gL e1;exact#[#[],C]
def zV{l:List d}{x y:d}(e:(l++[x])[h]?=some y):(l[h]?=some y/\h<l.length)∨(h=l.length/\y=x):=by
 by_cases f:h<l.length
 .rw[bZ f]at e;exact .inl #[e,f]
 .have P:h=l.length:=by have:=(aO.mp e).1;rw[bK]at this;simp at this;lia
  rw[bU #[],P,jT]at e;cases e;exact .inr #[P,rfl]
def va(f:Int×Int):Rat:=(f.1:Rat)/(f.2:Rat)
def mO(h:0<z):(0:Rat)<z:=by exact_mod_cast h
def lU(h:0<f.2):va f*f.2=f.1:=by
 unfold va;have:=mO h;exact Rat.div_mul_cancel (by grind)
def oB{a b c:Rat}(hc:0<c)(h:a*c=b):a=b/c:=by
 have:c≠0:=by grind
 rw[←h,Rat.div_def,Rat.mul_assoc,Rat.mul_inv_cancel _ this,Rat.mul_one]
def vX{a b c:Rat}(hc:0<c)(h:a*c=b*c):a=b:=by
 have h1:=oB hc h;have h2:=oB (a:=b) hc rfl;rw[h1,←h2]
def va_of{t b:Int}(hf:0<f.2)(hb:0<b)(e:f.1*b=t*f.2):va f=(t:Rat)/b:=by
 have h1:=lU hf;have h2:=mO hf;have R:=mO hb;have M:(f.1:Rat)*b=t*f.2:=by exact_mod_cast congrArg (λz:Int=>(z:Rat)) e
 refine oB R (vX h2 ?_);rw[←M,←h1];grind
def Xi{t b:Int}(hb:0<b)(l:Lo t b x y):va (x,y)=(t:Rat)/b:=va_of l.pos hb l.eq
def Fd(hf:0<f.2)(hg:0<g.2):va f<=va g↔f.1*g.2<=g.1*f.2:=by
 have h1:=lU hf;have h2:=lU hg;have p1:=mO hf;have w:=mO hg;have s:=Rat.mul_pos p1 w;have e1:va f*((f.2:Rat)*g.2)=((f.1*g.2:Int):Rat):=by rw[eV,←h1];grind
 have C:va g*((f.2:Rat)*g.2)=((g.1*f.2:Int):Rat):=by rw[eV,←h2];grind
 constructor
 .intro h;have:=eK h (c:=(f.2:Rat)*g.2) (by grind);rw[e1,C]at this;exact Rat.intCast_le_intCast.mp this
 .intro h;refine iI (c:=(f.2:Rat)*g.2) ?_ s;rw[e1,C];exact Rat.intCast_le_intCast.mpr h
def Dq:va (1,1)=1:=by unfold va;decide+kernel
def qH:va (0,1)=0:=by unfold va;decide+kernel
def qP(hf:0<f.2)(h:0<=f.1):0<=va f:=by
 have:=(Fd (f:=(0,1)) (g:=f) (by decide) hf).mpr (by simpa using h);rwa [qH]at this
noncomputable def rsm:Nat->(Nat->Rat)->Rat
 |0,_=>0
 |n+1,f=>rsm n f+f n
def gT{f g:Nat->Rat}:∀{n:Nat},(∀k,k<n->f k=g k)->rsm n f=rsm n g
 |0,_=>rfl
 |n+1,h=>by
  show rsm n f+f n=rsm n g+g n;rw[gT (n:=n) λk hk=>h k #[],h n #[]]
def jY{f:Nat->Rat}{c:Rat}:∀{n:Nat},rsm n (λk=>f k*c)=rsm n f*c
 |0=>by show(0:Rat)=0*c;grind
 |n+1=>by
  show rsm n (λk=>f k*c)+f n*c=(rsm n f+f n)*c;rw[jY];grind
def Fj{f g:Nat->Rat}:∀{n:Nat},rsm n (λk=>f k+g k)=rsm n f+rsm n g
 |0=>by show(0:Rat)=0+0;grind
 |n+1=>by
  show rsm n (λk=>f k+g k)+(f n+g n)=rsm n f+f n+(rsm n g+g n);rw[Fj];grind
def rsm_le{f g:Nat->Rat}:∀{n:Nat},(∀k,k<n->f k<=g k)->rsm n f<=rsm n g
 |0,_=>by show(0:Rat)<=0;grind
 |n+1,h=>by
  show rsm n f+f n<=rsm n g+g n;have h1:=rsm_le (n:=n) λk hk=>h k #[];have h2:=h n #[];grind
def rD{f:Nat->Rat}:∀{n:Nat},(∀k,k<n->0<=f k)->0<=rsm n f
 |0,_=>by show(0:Rat)<=0;grind
 |n+1,h=>by
  show 0<=rsm n f+f n;have h1:=rD (n:=n) λk hk=>h k #[];have h2:=h n #[];grind
def Yi{f:Nat->Rat}:∀{n:Nat},(∀k,k<n->0<=f k)->rsm n f=0->∀k,k<n->f k=0
 |0,_,_,_,hk=>absurd hk (fE _)
 |n+1,h,e,k,hk=>by
  have e:rsm n f+f n=0:=e;have h1:=rD (n:=n) λk hk=>h k #[];have h2:=h n #[];by_cases hn:k=n
  .subst hn;grind
  .exact Yi (n:=n) (λk hk=>h k #[]) (by grind) k #[]
def Ob{f:Nat->Rat}:∀{n:Nat},(∀k,k<n->f k=0)->rsm n f=0
 |0,_=>rfl
 |n+1,h=>by
  show rsm n f+f n=0;rw[Ob (n:=n) λk hk=>h k #[],h n #[]];grind
def Dp{f g:Nat->Int×Int}:∀{n:Nat},(∀k,k<n->0<(f k).2)->(∀k,k<n->0<(g k).2)->va (kZ n f g)=rsm n λk=>va (f k)*va (g k)
 |0,_,_=>qH
 |n+1,hf,hg=>by
  have m:=Dp (n:=n) (λk hk=>hf k #[]) (λk hk=>hg k #[]);have p:=kL (n:=n) (λk hk=>hf k #[]) (λk hk=>hg k #[]);have F:=hf n #[];have g2:=hg n #[];show va (kZ (n+1) f g)=rsm n (λk=>va (f k)*va (g k))+va (f n)*va (g n);rw[←m];have G:=lU p;have P:=lU F;have l:=lU g2;have q:0<(kZ (n+1) f g).2:=bL (bL p F) g2;refine vX (mO q) ?_;rw[lU q];show(((kZ n f g).1*(f n).2*(g n).2+(f n).1*(g n).1*(kZ n f g).2:Int):Rat)=(va (kZ n f g)+va (f n)*va (g n))*(((kZ n f g).2*(f n).2*(g n).2:Int):Rat);simp only[Rat.intCast_add,eV];rw[←G,←P,←l];grind
structure Gm(m n:Nat)(r:Nat->Nat->Rat)(v:Rat)(p q:Nat->Rat):Prop where
 p0:∀i,i<m->0<=p i
 p1:rsm m p=1
 q0:∀j,j<n->0<=q j
 q1:rsm n q=1
 lo:∀j,j<n->v<=rsm m λi=>p i*r i j
 hi:∀i,i<m->(rsm n λj=>r i j*q j)<=v
def vL(a b:Rat):a/b=a*b⁻¹:=Rat.div_def a b
def game_of{n:Nat}{a:Nat->Nat->Rat}{x y:Nat->Rat}{S:Rat}(l:Rat)(S0:0<S)(x0:∀j,j<n->0<=x j)(y0:∀i,i<m->0<=y i)(hx:∀i,i<m->(rsm n λj=>a i j*x j)<=1)(hy:∀j,j<n->1<=rsm m λi=>y i*a i j)(sx:rsm n x=S)(sy:rsm m y=S):
  Gm m n (λi j=>a i j-l) (1/S-l) (λi=>y i/S) (λj=>x j/S):=by
 have c:S≠0:=by grind
 have sc:S*S⁻¹=1:=Rat.mul_inv_cancel _ c;have b:0<=S⁻¹:=by have:=Rat.inv_pos.mpr S0;grind
 have r:∀{k:Nat}{f:Nat->Rat},rsm k (λi=>f i/S)=rsm k f*S⁻¹:=λ{k f}=>by
  rw[←jY];exact gT λi _=>vL _ _
 refine#[λi hi=>?_,?_,λj A=>?_,?_,λj A=>?_,λi hi=>?_]
 .rw[vL];exact Rat.mul_nonneg (y0 i hi) b
 .rw[r,sy,sc]
 .rw[vL];exact Rat.mul_nonneg (x0 j A) b
 .rw[r,sx,sc]
 .have e:(rsm m λi=>y i/S*(a i j-l))=(rsm m λi=>y i*a i j)*S⁻¹+(rsm m y*S⁻¹)*(-l):=by
   rw[←jY,←jY,←jY,←Fj];exact gT λi _=>by rw[vL];grind
  have h:=eK (hy j A) b;rw[e,sy,sc,vL];grind
 .have e:(rsm n λj=>(a i j-l)*(x j/S))=(rsm n λj=>a i j*x j)*S⁻¹+(rsm n x*S⁻¹)*(-l):=by
   rw[←jY,←jY,←jY,←Fj];exact gT λi _=>by rw[vL];grind
  have h:=eK (hx i hi) b;rw[e,sx,sc,vL];grind
def pay_pos{a:Nat->Rat}{y:Nat->Rat}(y0:∀i,i<m->0<=y i)(hy:1<=rsm m λi=>y i*a i):0<rsm m y:=by
 have h:=rD y0;by_cases z:rsm m y=0
 .have:=Yi y0 z;have:(rsm m λi=>y i*a i)=0:=Ob λi hi=>by rw[this i hi];grind
  grind
 .grind
def pay_le{n:Nat}{a x:Nat->Rat}(x0:∀j,j<n->0<=x j)(ha:∀j,j<n->1<=a j):rsm n x<=rsm n λj=>a j*x j:=rsm_le λj A=>by
 have:=eK (ha j A) (x0 j A);grind
section
variable{fl:Bool}{frs:hU}{fb fg:fV}{s:Nat->Nat}
def va_eqv(hf:0<f.2)(hg:0<g.2)(e:f.1*g.2=g.1*f.2):va f=va g:=by
 have h1:=(Fd hf hg).mpr #[];have h2:=(Fd hg hf).mpr #[];grind
theorem no_way(B:BeO frs fb fg)(ok:(bP fl frs fb fg).Ok s)(io:kQ (bP fl frs fb fg) s)(hg:∀j,j<fg.length->fg.getD j (0,1)=(1,1))(b:∀i j,i<frs.length->j<fg.length->1<=va (rwF frs i j))(m1:1<=frs.length)(un:UnO (bP fl frs fb fg) s (some c)):False:=by
 have d:∀j,0<(kF (bP fl frs fb fg) s c j).2/\0<=va (kF (bP fl frs fb fg) s c j):=λj=>let h:=Xh ok un j;#[h.1,qP h.1 h.2.2.1];have g2:∀j,j<fg.length->0<(fg.getD j (0,1)).2:=λj A=>by rw[hg j A];decide
 have N:∀j,j<fg.length->0<(rwF frs 0 j).2:=λj A=>Bm B m1 A;have h1:=Qx B ok io un;have p1:=kL (n:=fg.length) (f:=λj=>fg.getD j (0,1)) (g:=kF (bP fl frs fb fg) s c) g2 λj _=>(d j).1;have e1:=Dp (n:=fg.length) (f:=λj=>fg.getD j (0,1)) (g:=kF (bP fl frs fb fg) s c) g2 λj _=>(d j).1;have h2:=Wl B ok io un m1;have w:=kL (n:=fg.length) (f:=rwF frs 0) (g:=kF (bP fl frs fb fg) s c) N λj _=>(d j).1;have C:=Dp (n:=fg.length) (f:=rwF frs 0) (g:=kF (bP fl frs fb fg) s c) N λj _=>(d j).1;have Z:va (kZ fg.length (rwF frs 0) (kF (bP fl frs fb fg) s c))<=0:=by
  have:=(Fd (g:=(0,1)) w (by decide)).mpr #[];rwa [qH]at this
 have e:¬va (kZ fg.length (λj=>fg.getD j (0,1)) (kF (bP fl frs fb fg) s c))<=0:=λz=>by
  have:=(Fd (g:=(0,1)) p1 (by decide)).mp (by rw[qH];exact z);lia
 refine e ?_;rw[e1];rw[C]at Z;have:=pay_le (n:=fg.length) (a:=λj=>va (rwF frs 0 j)) (x:=λj=>va (kF (bP fl frs fb fg) s c j)) (λj _=>(d j).2) (λj A=>b 0 j m1 A);have T:(rsm fg.length λj=>va (fg.getD j (0,1))*va (kF (bP fl frs fb fg) s c j))=rsm fg.length λj=>va (kF (bP fl frs fb fg) s c j):=gT λj A=>by rw[hg j A,Dq];grind
 rw[T];grind
structure LpG(m n:Nat)(a:Nat->Nat->Rat)(x y:Nat->Rat)(S:Rat):Prop where
 S0:0<S
 S1:S<=1
 x0:∀j,j<n->0<=x j
 y0:∀i,i<m->0<=y i
 hx:∀i,i<m->(rsm n λj=>a i j*x j)<=1
 hy:∀j,j<n->1<=rsm m λi=>y i*a i j
 sx:rsm n x=S
 sy:rsm m y=S
def lp_game(B:BeO frs fb fg)(ok:(bP fl frs fb fg).Ok s)(io:kQ (bP fl frs fb fg) s)(un:UnO (bP fl frs fb fg) s none)(hb:∀i,i<frs.length->fb.getD i (0,1)=(1,1))(hg:∀j,j<fg.length->fg.getD j (0,1)=(1,1))(b:∀i j,i<frs.length->j<fg.length->1<=va (rwF frs i j))(m1:1<=frs.length)(n1:1<=fg.length):
  LpG frs.length fg.length (λi j=>va (rwF frs i j)) (λj=>va (xF fl frs fb fg s j)) (λi=>va (yF fl frs fb fg s i)) (rsm fg.length λj=>va (xF fl frs fb fg s j)):=by
 have x0:∀j,0<(xF fl frs fb fg s j).2/\0<=va (xF fl frs fb fg s j):=λj=>let h:=Rr B ok j;#[h.1,qP h.1 h.2.2.1];have y0:∀i,i<frs.length->0<(yF fl frs fb fg s i).2/\0<=va (yF fl frs fb fg s i):=λi hi=>let h:=Rq B ok un hi;#[h.1,qP h.1 h.2.2.1];have g2:∀j,j<fg.length->0<(fg.getD j (0,1)).2:=λj A=>by rw[hg j A];decide
 have d:∀j,j<frs.length->0<(fb.getD j (0,1)).2:=λj A=>by rw[hb j A];decide
 have hx:∀i,i<frs.length->(rsm fg.length λj=>va (rwF frs i j)*va (xF fl frs fb fg s j))<=1:=λi hi=>by
  have N:∀j,j<fg.length->0<(rwF frs i j).2:=λj A=>Bm B hi A;have h:=jJ9 B ok io hi;have p:=kL (n:=fg.length) (f:=rwF frs i) (g:=xF fl frs fb fg s) N λj _=>(x0 j).1;rw[←Dp N λj _=>(x0 j).1,←Dq];rw[hb i hi]at h;exact(Fd p (by decide)).mpr h
 have hy:∀j,j<fg.length->1<=rsm frs.length λi=>va (yF fl frs fb fg s i)*va (rwF frs i j):=λj A=>by
  have N:∀i,i<frs.length->0<(rwF frs i j).2:=λi hi=>Bm B hi A;have h:=ys_pay B ok un A;have p:=kL (n:=frs.length) (f:=yF fl frs fb fg s) (g:=λi=>rwF frs i j) (λi hi=>(y0 i hi).1) N;rw[←Dp (λi hi=>(y0 i hi).1) N,←Dq];rw[hg j A]at h;exact(Fd (by decide) p).mpr h
 have same:rsm fg.length (λj=>va (xF fl frs fb fg s j))=rsm frs.length λi=>va (yF fl frs fb fg s i):=by
  have h:=jVY B ok io un;have p1:=kL (n:=fg.length) (f:=λj=>fg.getD j (0,1)) (g:=xF fl frs fb fg s) g2 λj _=>(x0 j).1;have w:=kL (n:=frs.length) (f:=λi=>fb.getD i (0,1)) (g:=yF fl frs fb fg s) d λi hi=>(y0 i hi).1;have e:=va_eqv p1 w h;rw[Dp g2 λj _=>(x0 j).1,Dp d λi hi=>(y0 i hi).1]at e;have e1:(rsm fg.length λj=>va (fg.getD j (0,1))*va (xF fl frs fb fg s j))=rsm fg.length λj=>va (xF fl frs fb fg s j):=gT λj A=>by rw[hg j A,Dq];grind
  have C:(rsm frs.length λj=>va (fb.getD j (0,1))*va (yF fl frs fb fg s j))=rsm frs.length λj=>va (yF fl frs fb fg s j):=gT λj A=>by rw[hb j A,Dq];grind
  rw[e1,C]at e;exact e
 refine#[?_,?_,λj _=>(x0 j).2,λi hi=>(y0 i hi).2,hx,hy,rfl,same.symm]
 .rw[same];exact pay_pos (λi hi=>(y0 i hi).2) (hy 0 n1)
 .have:=pay_le (n:=fg.length) (a:=λj=>va (rwF frs 0 j)) (x:=λj=>va (xF fl frs fb fg s j)) (λj _=>(x0 j).2) (λj A=>b 0 j m1 A);have h:=hx 0 m1;grind
end
def Fq{M:Int}(h:x*M=z*y)(g:Int.gcd x y=1):y∣M:=by
 have h1:y∣x*M:=#[z,by rw[h,gI]];have h2:=Int.natAbs_dvd_natAbs.mpr h1;rw[cQ]at h2;have c:Nat.Coprime y.natAbs x.natAbs:=by show Nat.gcd _ _=1;rw[Nat.gcd_comm];exact g
 exact Int.natAbs_dvd_natAbs.mp (c.dvd_of_dvd_mul_left h2)
def Ik(hf:0<f.2)(h:va f<=1):f.1<=f.2:=by
 rw[←Dq]at h;have:=(Fd hf (by decide)).mp h;simpa using this
def Dx{n:Nat}{M:Int}(h:BB n M)(X:0<M)(d:x∣M):BB n x:=h.of_le (Nat.le_of_dvd #[] (Int.natAbs_dvd_natAbs.mpr d))
def va_add(hf:0<f.2)(hg:0<g.2):va (lo2 (f.1*g.2+g.1*f.2) (f.2*g.2))=va f+va g:=by
 have z:=bL hf hg;rw[show va (lo2 (f.1*g.2+g.1*f.2) (f.2*g.2))=((f.1*g.2+g.1*f.2:Int):Rat)/((f.2*g.2:Int):Rat)from Xi z (eO z)];symm;refine oB (mO z) ?_;have h1:=lU hf;have h2:=lU hg;simp only[Rat.intCast_add,eV];rw[←h1,←h2];grind
def va_sub(hf:0<f.2)(hg:0<g.2):va (lo2 (f.1*g.2-g.1*f.2) (f.2*g.2))=va f-va g:=by
 have z:=bL hf hg;rw[show va (lo2 (f.1*g.2-g.1*f.2) (f.2*g.2))=((f.1*g.2-g.1*f.2:Int):Rat)/((f.2*g.2:Int):Rat)from Xi z (eO z)];symm;refine oB (mO z) ?_;have h1:=lU hf;have h2:=lU hg;simp only[Rat.intCast_sub,eV];rw[←h1,←h2];grind
def va_pos(hg:0<g.2)(D:0<g.1):0<va g:=by
 have h2:=lU hg;have a:=mO D;have:=qP hg (bW D);by_cases e:va g=0
 .rw[e]at h2;grind
 .grind
def jJg(hf:0<f.2)(hg:0<g.2)(D:0<g.1):va (fov f g)=va f/va g:=by
 have z:=bL hf D;have l:=eO (t:=f.1*g.2) z;have e:va (fov f g)*((f.2*g.1:Int):Rat)=((f.1*g.2:Int):Rat):=by
  unfold fov;rw[show va (lo2 (f.1*g.2) (f.2*g.1))=((f.1*g.2:Int):Rat)/((f.2*g.1:Int):Rat)from Xi z l];exact Rat.div_mul_cancel (by have:=mO z;grind)
 have h1:=lU hf;have h2:=lU hg;have p1:=mO hf;have w:=mO hg;refine oB (va_pos hg D) (vX (Rat.mul_pos p1 w) ?_);simp only[eV]at e;rw[←h1,←h2]at e;grind
def sum_dvd{M:Int}(hf:0<f.2)(hg:0<g.2)(c:f.2∣M)(a:g.2∣M):(lo2 (f.1*g.2+g.1*f.2) (f.2*g.2)).2∣M:=by
 obtain⟨u,rfl⟩:=c;obtain⟨v,hv⟩:=a;have z:=bL hf hg;have l:=eO (t:=f.1*g.2+g.1*f.2) z;refine Fq (x:=(lo2 (f.1*g.2+g.1*f.2) (f.2*g.2)).1) (z:=f.1*u+g.1*v) ?_ l.cop;have e:=l.eq;have b:f.2*g.2≠0:=#[];refine dU b ?_;generalize (lo2 (f.1*g.2+g.1*f.2) (f.2*g.2)).1=X at e⊢;generalize (lo2 (f.1*g.2+g.1*f.2) (f.2*g.2)).2=Y at e⊢;have:X*(f.2*u)*(f.2*g.2)=(X*(f.2*g.2))*(f.2*u):=by grind
 rw[this,e];grind
def Ga{f:Nat->Rat}{i:Nat}:∀{n:Nat},i<=n->(∀k,k<n->0<=f k)->rsm i f<=rsm n f
 |0,h,_=>by rw[show i=0 by lia];exact Rat.le_refl
 |n+1,h,h0=>by
  by_cases e:i=n+1
  .rw[e];exact Rat.le_refl
  .have h1:=Ga (n:=n) (i:=i) #[] λk hk=>h0 k #[];have h2:=h0 n #[];show _<=rsm n f+f n;grind
def fT(n:Nat):fV:=ofF n λ_=>(1,1)
def jI(n:Nat):(fT n).length=n:=bF _ _
def Js{n:Nat}(h:j<n):(fT n).getD j (0,1)=(1,1):=by
 rw[aJ,show(fT n)[j]?=some (1,1)from eU _ h];rfl
def Ge{n:Nat}(h:f∈fT n):f=(1,1):=(jZ h).choose_spec.2
noncomputable def lft(z:Int)(f:Int×Int):Int×Int:=lo2 (f.1*1+(1-z)*f.2) (f.2*1)
def sW(z:Int)(frs:hU):hU:=frs.map λr=>r.map (lft z)
structure Mnf(frs:hU)(z:Int):Prop where
 at_:∃r∈frs,∃f∈r,z=f.1.fdiv f.2
 le:∀r∈frs,∀f∈r,z<=f.1.fdiv f.2
def va_lft(hf:0<f.2):va (lft z f)=va f+(1-z:Int):=by
 have:=va_add (g:=(1-z,1)) hf (by decide:(0:Int)<1);unfold lft;rw[this]
 congr 1
 unfold va;show((1-z:Int):Rat)/((1:Int):Rat)=_;rw[show((1:Int):Rat)=1 from rfl,Rat.div_def];grind
def fdiv_le(hf:0<f.2):((f.1.fdiv f.2:Int):Rat)<=va f:=by
 refine iI (c:=(f.2:Rat)) ?_ (mO hf);rw[lU hf,←eV];refine Rat.intCast_le_intCast.mpr ?_;have:=Int.mul_fdiv_add_fmod f.1 f.2;have h2:=Int.fmod_nonneg_of_pos f.1 hf;rw[gI];lia
def lft_ge(hf:0<f.2)(h:z<=f.1.fdiv f.2):1<=va (lft z f):=by
 rw[va_lft hf];have h1:=fdiv_le hf;have h2:(z:Rat)<=(f.1.fdiv f.2:Int):=Rat.intCast_le_intCast.mpr h;have R:((1-z:Int):Rat)=1-z:=by rw[Rat.intCast_sub];rfl
 rw[R];grind
def jYW{frs:hU}{n:Nat}(hi:i<frs.length)(hr:∀r∈frs,r.length=n)(A:j<n):rwF (sW z frs) i j=lft z (rwF frs i j):=by
 unfold rwF sW;have e:frs[i]?=some frs[i]:=aD hi;have S:=hr _ (cJ hi);rw[aJ (l:=frs.map _),aZ,e,aJ (l:=frs),e];show((frs[i]).map (lft z)).getD j (0,1)=lft z ((frs[i]).getD j (0,1));rw[aJ,aZ,aD #[],aJ,aD #[]];rfl
structure WoO(R:hU)(m n:Nat):Prop where
 B:BeO R (fT m) (fT n)
 mx:∀fl s,(bP fl R (fT m) (fT n)).Ok s->kQ (bP fl R (fT m) (fT n)) s->∃M,0<M/\BB 4000 M/\∀j,j<n->(xF fl R (fT m) (fT n) s j).2∣M
 my:∀fl s,(bP fl R (fT m) (fT n)).Ok s->UnO (bP fl R (fT m) (fT n)) s none->∀k,k<m->BB 4000 (yF fl R (fT m) (fT n) s k).2
def Gm.congr{n:Nat}{r P:Nat->Nat->Rat}{v t:Rat}{p q o Z:Nat->Rat}(h:Gm m n r v p q)(hr:∀i j,i<m->j<n->r i j=P i j)(hv:v=t)(hp:∀i,i<m->p i=o i)(T:∀j,j<n->q j=Z j):Gm m n P t o Z:=by
 refine#[λi hi=>hp i hi▸h.p0 i hi,?_,λj A=>T j A▸h.q0 j A,?_,λj A=>?_,λi hi=>?_]
 .rw[←h.p1];exact(gT hp).symm
 .rw[←h.q1];exact(gT T).symm
 .rw[←hv,←gT λi hi=>show p i*r i j=o i*P i j by rw[hp i hi,hr i j hi A]];exact h.lo j A
 .rw[←hv,←gT λj A=>show r i j*q j=P i j*Z j by rw[T j A,hr i j hi A]];exact h.hi i hi
def Fz{f:Nat->Rat}{n:Nat}(hi:i<n)(h:∀k,k<n->0<=f k):f i<=rsm n f:=by
 have h1:=Ga (f:=f) (i:=i+1) (n:=n) #[] h;have h2:=rD (f:=f) (n:=i) λk hk=>h k #[];have R:rsm (i+1) f=rsm i f+f i:=rfl;grind
def jUV{a b:Int}(h:0<b):(a.fdiv b).natAbs<=a.natAbs:=by
 have e:=Int.mul_fdiv_add_fmod a b;have h1:=Int.fmod_nonneg_of_pos a h;have h2:=Int.fmod_lt_of_pos a h;generalize a.fdiv b=q at e⊢;generalize a.fmod b=r at e h1 h2;by_cases T:0<=q
 .have:q<=b*q:=by have:=Int.mul_le_mul_of_nonneg_right (show(1:Int)<=b by lia) T;lia
  lia
 .have:b*(q+1)<=q+1:=by have:=Int.mul_le_mul_of_nonpos_right (show(1:Int)<=b by lia) (show q+1<=0 by lia);lia
  have C:b*(q+1)=b*q+b:=by rw[Int.mul_add,fK]
  lia
def Mnf.bb{frs:hU}{n:Nat}(h:Mnf frs z)(hg:∀r∈frs,∀f∈r,0<f.2/\BB n f.1/\BB n f.2):BB (n+1) (1-z):=by
 obtain⟨r,hr,f,hf,rfl⟩:=h.at_;obtain⟨F,t,_⟩:=hg r hr f hf;have h1:BB n (f.1.fdiv f.2):=t.of_le (jUV F);have:(f.1.fdiv f.2).natAbs<2^n:=h1;show(1-f.1.fdiv f.2).natAbs<2^(n+1);rw[Nat.pow_succ];have:=eJ n;lia
def Me{f:Nat->Int}:∀{n:Nat},((sm n f:Int):Rat)=rsm n λk=>((f k:Int):Rat)
 |0=>rfl
 |n+1=>by
  show((sm n f+f n:Int):Rat)=rsm n (λk=>((f k:Int):Rat))+((f n:Int):Rat);rw[Rat.intCast_add,Me]
structure WoR(frs:hU)(n:Nat):Prop where
 m1:1<=frs.length
 m2:frs.length<=100
 n1:1<=n
 n2:n<=100
 hr:∀r∈frs,r.length=n
 hg:∀r∈frs,∀f∈r,0<f.2/\BB 4000 f.1/\BB 4000 f.2
def lo2_dvd{S:Int}(S0:0<S):(lo2 u S).2∣S:=Fq (eO (t:=u) S0).eq (eO S0).cop
structure Ent(S N:Int)(f:Int×Int):Prop where
 p:0<f.2
 c:Int.gcd f.1 f.2=1
 d:f.2∣S
 e:f.1*S=N*f.2
def ent_lft{S:Int}(S0:0<S):Ent S (u+(1-z)*S) (lft z (lo2 u S)):=by
 have l:=eO (t:=u) S0;have v:0<(lo2 u S).2*1:=by have:=l.pos;lia
 have Z:=eO (t:=(lo2 u S).1*1+(1-z)*(lo2 u S).2) v;have d0:(lo2 u S).2∣S:=lo2_dvd S0;have e1:=l.eq;have C:=Z.eq;have p1:=l.pos;refine#[Z.pos,Z.cop,?_,?_]
 .exact jG (Fq C Z.cop) (by rw[fK];exact d0)
 .show(lo2 ((lo2 u S).1*1+(1-z)*(lo2 u S).2) ((lo2 u S).2*1)).1*S=(u+(1-z)*S)*(lo2 ((lo2 u S).1*1+(1-z)*(lo2 u S).2) ((lo2 u S).2*1)).2;generalize (lo2 ((lo2 u S).1*1+(1-z)*(lo2 u S).2) ((lo2 u S).2*1)).1=X at C⊢;generalize (lo2 ((lo2 u S).1*1+(1-z)*(lo2 u S).2) ((lo2 u S).2*1)).2=Y at C⊢;generalize (lo2 u S).1=A at e1 C;generalize (lo2 u S).2=B at e1 C p1;refine dU (show B≠0 by lia) ?_;have:X*S*B=X*(B*1)*S:=by grind
  rw[this,C];have:(A*1+(1-z)*B)*Y*S=(A*S+(1-z)*B*S)*Y:=by grind
  rw[this,e1];grind
def Da{S N d:Int}(S0:0<S)(d0:0<=d)(a:d<=S)(e:x*S=N*d):x.natAbs<=N.natAbs:=by
 have h:x.natAbs*S.natAbs=N.natAbs*d.natAbs:=by rw[←cQ,e,cQ]
 have h2:N.natAbs*d.natAbs<=N.natAbs*S.natAbs:=Nat.mul_le_mul_left _ #[];exact Nat.le_of_mul_le_mul_right (show x.natAbs*S.natAbs<=N.natAbs*S.natAbs by lia) #[]
def ent_bb{S N:Int}(h:Ent S N f)(S0:0<S)(K:BB q N):BB q f.1:=K.of_le (Da S0 (bW h.p) (Int.le_of_dvd S0 h.d) h.e)
structure RwE(S:Int)(q:Nat)(row:fV):Prop where
 h:∀f∈row,∃N,Ent S N f/\BB q N
def RwE.lcd{S:Int}{row:fV}(R:RwE S q row):lc row∣S:=(zR row 1 (by decide) λf hf=>let⟨_,e,_⟩:=R.h f hf;e.p).2.2.2 S (Int.one_dvd _) λf hf=>let⟨_,e,_⟩:=R.h f hf;e.d
def RwE.clr{S:Int}{row:fV}(R:RwE S q row)(S0:0<S):∀x∈clr row,BB q x:=λx hx=>by
 obtain⟨f,hf,rfl⟩:=cV.mp hx;obtain⟨N,e,b⟩:=R.h f hf;have hp:∀f∈row,0<f.2:=λf hf=>let⟨_,e,_⟩:=R.h f hf;e.p;have c:=jJ3 hp hf;have lp:0<lc row:=Nf hp;have le:=e.e;have a:=e.p;refine b.of_le (Da S0 (bW lp) (Int.le_of_dvd S0 R.lcd) ?_);refine dU (show f.2≠0 by lia) ?_;have:f.1*(lc row).fdiv f.2*S*f.2=f.1*(lc row).fdiv f.2*f.2*S:=by grind
 rw[this,c];have:f.1*lc row*S=f.1*S*lc row:=by grind
 rw[this,le];grind
def RwE.lc_bb{S:Int}{row:fV}(R:RwE S q row)(S0:0<S)(bS:BB k S):BB k (lc row):=Dx bS S0 R.lcd
def Yq{f:Nat->Nat->Nat}{p:Nat}:∀m,nsm m (λk=>nsm p λi=>f k i)=nsm p λi=>nsm m λk=>f k i
 |0=>by show 0=nsm p λi=>0;rw[zX λ_ _=>rfl]
 |m+1=>by
  show nsm m (λk=>nsm p λi=>f k i)+nsm p (λi=>f m i)=nsm p λi=>nsm m (λk=>f k i)+f m i;rw[Yq m,Fo]
def jX9{t n:Nat}:∀m,nsm m (λk=>if t=n+k then 1 else 0)=if n<=t/\t<n+m then 1 else 0
 |0=>by rw[aF #[]];rfl
 |m+1=>by
  show nsm m (λk=>if t=n+k then 1 else 0)+(if t=n+m then 1 else 0)=_;rw[jX9 m];by_cases a:t=n+m
  .rw[aK a,aF #[],aK #[]]
  .by_cases b:n<=t/\t<n+m
   .rw[aF a,aK b,aK #[]]
   .rw[aF a,aF b,aF #[]]
def Dl(s:Nat->Nat)(m n k:Nat):Nat:=nsm m λi=>if s i=n+k then 1 else 0
def jY9{n:Nat}(h:¬Dl s m n k=0):∃i,i<m/\s i=n+k:=Classical.byContradiction λz=>h (zX λi hi=>aF λe=>z #[i,hi,e])
def out_few{n:Nat}(inj:∀i j,i<m->j<m->i≠j->s i≠s j)(io:∀i,i<m->s i<n+m):nsm m (λk=>if Dl s m n k=0 then 1 else 0)<=min m n:=by
 have e1:nsm m (λk=>(if Dl s m n k=0 then 1 else 0)+Dl s m n k)=nsm m λ_=>1:=lO λk _=>by
  have:Dl s m n k<=1:=Wh inj;by_cases z:Dl s m n k=0
  .rw[aK z,z]
  .rw[aF z];lia
 rw[Fo,Jt,Nat.mul_one]at e1;have C:nsm m (Dl s m n)=nsm m λi=>if n<=s i then 1 else 0:=by
  show nsm m (λk=>nsm m λi=>if s i=n+k then 1 else 0)=_;rw[Yq];refine lO λi hi=>?_;rw[jX9];have:=io i hi;by_cases a:n<=s i
  .rw[aK a,aK #[a,this]]
  .rw[aF a,aF λz=>a z.1]
 have T:nsm m (λi=>(if s i<n then 1 else 0)+(if n<=s i then 1 else 0))=nsm m λ_=>1:=lO λi _=>by
  by_cases a:s i<n
  .rw[aK a,aF #[]]
  .rw[aF a,aK #[]]
 rw[Fo,Jt,Nat.mul_one]at T;have h1:=jJ2 inj n;have h2:=cnt_m (s:=s) n m;lia
noncomputable def ipr:Nat->(Nat->Int)->Int
 |0,_=>1
 |n+1,f=>ipr n f*f n
def jYa{f:Nat->Int}:∀{n:Nat},(∀k,k<n->0<f k)->0<ipr n f
 |0,_=>by show(0:Int)<1;decide
 |n+1,h=>bL (jYa λk hk=>h k #[]) (h n #[])
def ipr_bb{f:Nat->Int}{c:Nat->Nat}:∀{n:Nat},(∀k,k<n->BB (c k) (f k))->BB (1+nsm n c) (ipr n f)
 |0,_=>by show(1:Int).natAbs<2^1;decide
 |n+1,h=>by
  have:=(ipr_bb (n:=n) λk hk=>h k #[]).mul (h n #[]);exact this.mono (by show 1+nsm n c+c n<=1+(nsm n c+c n);lia)
def jYb{f:Nat->Int}:∀{n k:Nat},k<n->f k∣ipr n f
 |0,_,h=>absurd h (fE _)
 |n+1,k,h=>by
  by_cases e:k=n
  .subst e;exact Int.dvd_mul_left _ _
  .exact jG (jYb (n:=n) #[]) (Int.dvd_mul_right _ _)
def jJq{f:Nat->Int}{d:Int}:∀{n:Nat},(∀k,k<n->d∣f k)->d∣sm n f
 |0,_=>Int.dvd_zero _
 |n+1,h=>Int.dvd_add (jJq λk hk=>h k #[]) (h n #[])
def Vo{f:Nat->Int}{c:Int}:∀{n:Nat},c*sm n f=sm n λk=>c*f k
 |0=>cZ _
 |n+1=>by show c*(sm n f+f n)=sm n (λk=>c*f k)+c*f n;rw[Int.mul_add,Vo]
section
variable{fl:Bool}{frs:hU}{fb fg:fV}{s:Nat->Nat}
def gK(frs:hU)(n:Nat)(s:Nat->Nat)(k:Nat):Int:=if Dl s frs.length n k=0 then(whF (frs.getD k [])).2 else 1
def x_dvd(B:BeO frs fb fg)(ok:(bP fl frs fb fg).Ok s)(hb:∀i,i<frs.length->fb.getD i (0,1)=(1,1))(A:j<fg.length):(xF fl frs fb fg s j).2∣(bP fl frs fb fg).D s*ipr frs.length (gK frs fg.length s):=by
 have w:=Vc B;obtain⟨l,m,_,xe⟩:=Rr B ok j;have key:(whF (bnF frs fb)).1∣(whF (bnF frs fb)).2*ipr frs.length (gK frs fg.length s)*Lpd.spr frs.length s (λi=>(bP fl frs fb fg).T s i (bP fl frs fb fg).be) j:=by
  unfold Lpd.spr;rw[Vo];refine jJq λi hi=>?_;by_cases e:s i=j
  .rw[aK e];show(whF (bnF frs fb)).1∣(whF (bnF frs fb)).2*ipr frs.length (gK frs fg.length s)*(bP fl frs fb fg).T s i (bP fl frs fb fg).be;rw[(bP fl frs fb fg).T_lin (s:=s) (i:=i) (show i<frs.length+1 by lia),Vo];refine jJq λk hk=>?_;by_cases a:k<frs.length
   .by_cases z:Dl s frs.length fg.length k=0
    .obtain⟨q,R⟩:=jYb (f:=gK frs fg.length s) a;have t:gK frs fg.length s k=(whF (frs.getD k [])).2:=by unfold gK;rw[aK z]
     rw[t]at R;have b:=Wi (fl:=fl) B a;rw[hb k a]at b;refine#[(whF (frs.getD k [])).1*q*(bP fl frs fb fg).T s i (e1 k),?_];rw[R];have:(bP fl frs fb fg).be k*(whF (bnF frs fb)).2*(1*(whF (frs.getD k [])).2)=1*(whF (frs.getD k [])).1*(whF (bnF frs fb)).1:=b;grind
    .obtain⟨Q,d,N⟩:=jY9 z;have g:i≠Q:=λh=>by subst h;lia
     have o:=(bP fl frs fb fg).other (s:=s) (i:=i) (j:=Q) (show i<frs.length+1 by lia) d g;rw[N,show fg.length+k=(bP fl frs fb fg).n+k from rfl,Lpd.cv_spare]at o;rw[o,cZ,cZ];exact Int.dvd_zero _
   .have hk:k<frs.length+1:=hk;have c:(bP fl frs fb fg).be k=0:=by
     show(whL (bnF frs fb)).getD k 0=0;rw[aJ,cC (by rw[jO,iZ B.lb];lia)];rfl
    rw[c,gH,cZ];exact Int.dvd_zero _
  .rw[aF e,cZ];exact Int.dvd_zero _
 obtain⟨Z,p⟩:=key;refine Fq (z:=Z) ?_ m;refine dU (show(whF (bnF frs fb)).1≠0 by lia) ?_;generalize (xF fl frs fb fg s j).1=X at xe⊢;generalize (xF fl frs fb fg s j).2=Y at xe⊢;generalize ipr frs.length (gK frs fg.length s)=P at p⊢;generalize Lpd.spr frs.length s (λi=>(bP fl frs fb fg).T s i (bP fl frs fb fg).be) j=T at xe p;have:X*((bP fl frs fb fg).D s*P)*(whF (bnF frs fb)).1=X*((bP fl frs fb fg).D s*(whF (bnF frs fb)).1)*P:=by grind
 rw[this,xe];have:T*(whF (bnF frs fb)).2*Y*P=(whF (bnF frs fb)).2*P*T*Y:=by grind
 rw[this,p];grind
end
def Wb(k:Nat):lc (fT k)=1:=by
 have h1:∀f∈fT k,f.2=1:=λf hf=>by rw[Ge hf]
 have a:=zR (fT k) 1 (by decide) (λf hf=>by rw[h1 f hf];decide);have d:lc (fT k)∣1:=a.2.2.2 1 (Int.dvd_refl _) λf hf=>by rw[h1 f hf];exact Int.dvd_refl _
 have h1:=Int.le_of_dvd (by decide) d;have h2:0<lc (fT k):=a.1;lia
structure GmS(frs:hU)(n:Nat)(S:Int):Prop where
 hr:∀row∈frs,row.length=n
 S0:0<S
 bS:BB 31 S
 RE:∀row∈frs,RwE S 210 row
 n2:n<=24
 sz:frs.length<=4∨(frs.length<=6/\n<=2)
section
variable{frs:hU}{n:Nat}{S:Int}
def GmS.wr(g:GmS frs n S){row:fV}(h:row∈frs):BB 31 (whF row).1/\BB 210 (whF row).2:=(eO (vO _)).bb ((g.RE row h).lc_bb g.S0 g.bS) (mx1_bb (by decide) (jXq ((g.RE row h).clr g.S0)))
def GmS.gr(g:GmS frs n S):∀row∈frs,∀f∈row,Gp 210 31 f:=λrow h f hf=>by
 obtain⟨N,e,b⟩:=(g.RE row h).h f hf;exact#[e.p,ent_bb e g.S0 b,Dx g.bS g.S0 e.d]
def sE:∀f∈fT k,Gp 1 1 f:=λf hf=>by
 have l:BB 1 (1:Int):=by show(1:Int).natAbs<2^1;decide
 rw[Ge hf];exact#[by decide,l,l]
def GmS.gbn(g:GmS frs n S):∀f∈bnF frs (fT frs.length),Gp 31 210 f:=λf hf=>by
 have hb:(fT frs.length).length=frs.length:=jI _;obtain⟨i,hi⟩:=dA hf;have r:i<frs.length:=by have:=(aO.mp hi).1;rwa [iZ hb]at this
 have C:(fT frs.length)[i]?=some (1,1):=eU _ r;rw[vQ C (aD r)]at hi;obtain rfl:=aW hi;have w:=jC λf hf=>(g.gr _ (cJ r) f hf).1;have wb:=g.wr (cJ r);have z:0<1*(whF frs[i]).2:=by have:=w.2;lia
 have lo:=eO (t:=1*(whF frs[i]).1) z;have lb:=lo.bb (by rw[fF];exact wb.1) (by rw[fF];exact wb.2);exact#[lo.pos,lb.1,lb.2]
def GmS.hlm(g:GmS frs n S):BB (1+210*frs.length) (lc (bnF frs (fT frs.length))):=(lc_bbp g.gbn).mono (by rw[iZ (jI _)];exact aU _)
def GmS.ha(g:GmS frs n S)(e:Bool)(j k:Nat):BB 210 ((bP e frs (fT frs.length) (fT n)).a j k):=by
 show BB 210 (if k<frs.length then(whL (frs.getD k [])).getD j 0 else-(whL (fT n)).getD j 0);by_cases h:k<frs.length
 .rw[aK h];have hm:frs.getD k []∈frs:=by rw[aJ,aD h];exact cJ h
  by_cases hi:j<(whL (frs.getD k [])).length
  .exact Sw ((g.RE _ hm).clr g.S0) _ (kM hi)
  .rw[aJ,cC #[]];show(0:Int).natAbs<_;exact eJ _
 .rw[aF h];exact((whL_bb sE (q:=1) (by rw[Wb];show(1:Int).natAbs<2^1;decide) j).neg).mono (by decide)
def GmS.D_bb(g:GmS frs n S)(e:Bool)(o:(bP e frs (fT frs.length) (fT n)).Okn s):BB 1459 ((bP e frs (fT frs.length) (fT n)).D s):=by
 have h:=D_bbk (L:=bP e frs (fT frs.length) (fT n)) (q:=210) (λj k _ _=>g.ha e j k) o;have t:=jI n;refine h.mono ?_;show min frs.length (fT n).length*210+(frs.length+1)+(frs.length+1)*(frs.length+1)+1<=1459;rw[t];have sz:=g.sz;have h1:(frs.length+1)*(frs.length+1)<=7*7:=eP #[] #[];lia
def GmS.T_bb(g:GmS frs n S)(e:Bool)(o:(bP e frs (fT frs.length) (fT n)).Okn s)(i qy:Nat){y:Nat->Int}(hy:∀k,BB qy (y k)):BB (1459+qy) ((bP e frs (fT frs.length) (fT n)).T s i y):=by
 have h:=T_bbk (L:=bP e frs (fT frs.length) (fT n)) (q:=210) (qy:=qy) (λj k _ _=>g.ha e j k) o i λk _=>hy k;have t:=jI n;refine h.mono ?_;show min frs.length (fT n).length*210+qy+(frs.length+1)+(frs.length+1)*(frs.length+1)+1<=1459+qy;rw[t];have sz:=g.sz;have h1:(frs.length+1)*(frs.length+1)<=7*7:=eP #[] #[];lia
def GmS.beo(g:GmS frs n S):BeO frs (fT frs.length) (fT n):=by
 have M:=jI frs.length;have t:=jI n;have sz:=g.sz;have n2:=g.n2;have gbn:=g.gbn;have hlm:=g.hlm;have l:BB 1 (1:Int):=by show(1:Int).natAbs<2^1;decide
 have m:BB 1 (lc (fT n)):=by rw[Wb];exact l
 have wg:=jJf (sE (k:=n)) m (by decide);have wb:=jJf gbn hlm #[];have d:∀e k,BB (31+(1+210*frs.length)) ((bP e frs (fT frs.length) (fT n)).be k):=λe k=>whL_bb gbn hlm k;refine#[λr h=>by rw[t];exact g.hr r h,M,λrow h f hf=>?_,λf hf=>?_,λf hf=>?_,λrow h x hx=>?_,λx hx=>?_,λx hx=>?_,λrow h=>?_,?_,?_,λb a row h=>?_,λe=>#[?_,?_,λj k A hk=>(g.ha e j k).mono (by decide),λs i c o _=>?_,λs i k o _ _=>?_,λs i o _=>?_,λs o=>?_],λe s o=>?_,λe s o row h=>#[?_,λk hk=>?_],?_]
 .have q:=g.gr row h f hf;exact#[q.1,q.2.1.mono (by decide),q.2.2.mono (by decide)]
 .have q:=sE f hf;exact#[q.1,q.2.1.mono (by decide),q.2.2.mono (by decide)]
 .have q:=sE f hf;exact#[q.1,q.2.1.mono (by decide),q.2.2.mono (by decide)]
 .exact((g.RE row h).clr g.S0 x hx).mono (by decide)
 .exact(Mp sE m x hx).mono (by decide)
 .exact(Mp gbn hlm x hx).mono #[]
 .exact#[(g.wr h).1.mono (by decide),(g.wr h).2.mono (by decide)]
 .exact#[wb.1.mono #[],wb.2.mono #[]]
 .exact#[wg.1.mono (by decide),wg.2.mono (by decide)]
 .exact#[((sE b a).2.2.mul (g.wr h).2).mono (by decide),((sE b a).2.1.mul (g.wr h).1).mono (by decide)]
 .show frs.length<=100;lia
 .show(fT n).length<=100;lia
 .refine(g.T_bb e o i 210 λk=>?_).mono (by decide);unfold Lpd.cv;split
  .exact g.ha e _ _
  .exact Mz (by decide) _ _
 .exact(g.T_bb e o i 1 λr=>Mz (aU _) _ _).mono (by decide)
 .exact(g.T_bb e o i _ (d e)).mono #[]
 .exact(g.D_bb e o).mono (by decide)
 .exact((g.D_bb e o).mul wb.1).mono #[]
 .exact(((g.D_bb e o).mul (g.wr h).2).mul wg.1).mono (by decide)
 .exact((g.T_bb e o frs.length 1 λr=>Mz (aU _) _ _).mul (g.wr h).1).mono (by decide)
 .by_cases O:frs.length<=4
  .refine#[31+(1+210*frs.length)+210,1090,#[by decide,#[],#[],?_],#[],λk h=>by lia,λj k=>(g.ha false j k).mono #[],λk=>(d false k).mono #[]];have h1:(frs.length+1)*(frs.length+1)<=5*5:=eP #[] #[];have h2:min frs.length (fT n).length*1090<=4*1090:=iQ _ #[];lia
  .refine#[31+(1+210*frs.length)+210,2560,#[by decide,#[],#[],?_],#[],λk h=>?_,λj k=>(g.ha false j k).mono #[],λk=>(d false k).mono #[]]
   .have h1:(frs.length+1)*(frs.length+1)<=7*7:=eP #[] #[];have h2:min frs.length (fT n).length*2560<=2*2560:=iQ _ #[];lia
   .by_cases hk:k<=6
    .have:=eE (show 0<2 by decide) hk;lia
    .have:=eE (show 0<2 by decide) (show 7<=k by lia);lia
end
def GmS.wo{frs:hU}{n:Nat}{S:Int}(g:GmS frs n S):WoO frs frs.length n:=by
 have B:=g.beo;have t:=jI n;have sz:=g.sz;refine#[B,λfl s ok io=>#[_,?_,?_,λj A=>x_dvd B ok (λi hi=>Js hi) (by rw[t];exact A)],λfl s ok un k hk=>?_]
 .refine bL ok.pos (jYa λk hk=>?_);unfold gK;split
  .exact(Dt B hk).2
  .decide
 .have inj:∀i j,i<frs.length->j<frs.length->i≠j->s i≠s j:=λi j hi A h=>ok.n.inj hi A h;have a:=out_few (n:=(fT n).length) inj io;have h1:=ipr_bb (f:=gK frs (fT n).length s) (c:=λk=>if Dl s frs.length (fT n).length k<1 then 210 else 1) (n:=frs.length) λk hk=>by
   unfold gK;by_cases z:Dl s frs.length (fT n).length k=0
   .rw[aK z,aK #[]];exact(g.wr (by rw[aJ,aD hk];exact cJ hk)).2
   .rw[aF z,aF #[]];show(1:Int).natAbs<2^1;decide
  have h2:=Vw (s:=Dl s frs.length (fT n).length) 1 210 frs.length;have e:nsm frs.length (λk=>if Dl s frs.length (fT n).length k<1 then 1 else 0)=nsm frs.length (λk=>if Dl s frs.length (fT n).length k=0 then 1 else 0):=lO λk _=>by
   by_cases z:Dl s frs.length (fT n).length k=0
   .rw[aK z,aK #[]]
   .rw[aF z,aF #[]]
  rw[e]at h2;rw[t]at a h2 h1⊢;have R:=iQ 210 a;exact((g.D_bb fl ok.n).mul h1).mono #[]
 .obtain⟨v,b,_,d⟩:=Rq B ok un hk;have w:=Dt B hk;have x:=jC λf hf=>(B.gg f hf).1;have l:BB 1 (lc (fT n)):=by rw[Wb];show(1:Int).natAbs<2^1;decide
  have wg:=jJf (sE (k:=n)) l (by decide);have hm:frs.getD k []∈frs:=by rw[aJ,aD hk];exact cJ hk
  exact Dx ((((g.D_bb fl ok.n).mul (g.wr hm).2).mul wg.1).mono (by decide)) (bL (bL ok.pos w.2) x.1) (Fq d b)
def floor_b{S:Int}(S0:0<S):(lo2 u S).1.fdiv (lo2 u S).2*S<=u/\u<((lo2 u S).1.fdiv (lo2 u S).2+1)*S:=by
 have l:=eO (t:=u) S0;have e:=l.eq;have p:=l.pos;have h:=Int.mul_fdiv_add_fmod (lo2 u S).1 (lo2 u S).2;have h1:=Int.fmod_nonneg_of_pos (lo2 u S).1 p;have h2:=Int.fmod_lt_of_pos (lo2 u S).1 p;generalize (lo2 u S).1.fdiv (lo2 u S).2=z at h⊢;generalize (lo2 u S).1.fmod (lo2 u S).2=r at h h1 h2;generalize (lo2 u S).1=A at e h;generalize (lo2 u S).2=B at e h p h2;have D:u*B=z*S*B+r*S:=by rw[←e,←h];grind
 have K:0<=r*S:=dZ h1 (bW S0);have d:r*S<B*S:=Int.mul_lt_mul_of_pos_right h2 S0;constructor
 .exact Int.le_of_mul_le_mul_right (show z*S*B<=u*B by lia) p
 .refine Int.lt_of_mul_lt_mul_right (a:=B) ?_ (bW p);have:(z+1)*S*B=z*S*B+B*S:=by grind
  lia
def lwR(S:Int)(us:List (List Int)):hU:=us.map λrow=>row.map λu=>lo2 u S
structure Sh5(us:List (List Int))(n:Nat):Prop where
 m1:1<=us.length
 n1:1<=n
 n24:n<=24
 sz:us.length<=4∨(us.length<=6/\n<=2)
 hr:∀row∈us,row.length=n
 hu:∀row∈us,∀u∈row,BB 206 u
def Ev(S:Int)(us:List (List Int)):(lwR S us).length=us.length:=by unfold lwR;rw[aB]
def Sh5.wor{us:List (List Int)}{n:Nat}{S:Int}(S0:0<S)(bS:BB 31 S)(h:Sh5 us n):WoR (lwR S us) n:=by
 have sz:=h.sz;have n24:=h.n24;refine#[by rw[Ev];exact h.m1,by rw[Ev];lia,h.n1,#[],λr hr=>?_,λr hr f hf=>?_]
 .obtain⟨row,hm,rfl⟩:=cV.mp hr;rw[aB];exact h.hr row hm
 .obtain⟨row,hm,rfl⟩:=cV.mp hr;obtain⟨u,hu,rfl⟩:=cV.mp hf;have l:=eO (t:=u) S0;have b:=l.bb (h.hu row hm u hu) bS;exact#[l.pos,b.1.mono (by decide),b.2.mono (by decide)]
def Sh5.wo{us:List (List Int)}{n:Nat}{S:Int}(S0:0<S)(bS:BB 31 S)(a:Sh5 us n)(mn:Mnf (lwR S us) z):WoO (sW z (lwR S us)) (lwR S us).length n:=by
 have i:(sW z (lwR S us)).length=(lwR S us).length:=by unfold sW;rw[aB]
 have c:=Ev S us;have sz:=a.sz;obtain⟨r,hr,f,hf,e⟩:=mn.at_;obtain⟨row,F,rfl⟩:=cV.mp hr;obtain⟨Y,o,rfl⟩:=cV.mp hf;have A:=floor_b (u:=Y) S0;rw[←e]at A;have g:=a.hu row F Y o;have b:∀u:Int,BB 206 u->BB 210 (u+(1-z)*S):=λu hu=>by
  unfold BB at*;have k:(2:Nat)^206*4<2^210:=by decide
  have K:(2:Nat)^31<2^206:=by decide
  generalize (2:Nat)^210=W at k⊢;generalize (2:Nat)^206=V at*;generalize (2:Nat)^31=h at*;rw[Int.add_mul,fF]at A;rw[Int.sub_mul,fF];generalize z*S=Z at*;lia
 rw[←i];refine GmS.wo (S:=S) #[λrow hm=>?_,S0,bS,λrow hm=>#[λf hf=>?_],a.n24,#[]]
 .obtain⟨d,h1,rfl⟩:=cV.mp hm;obtain⟨N,h2,rfl⟩:=cV.mp h1;rw[aB,aB];exact a.hr N h2
 .obtain⟨d,h1,rfl⟩:=cV.mp hm;obtain⟨N,h2,rfl⟩:=cV.mp h1;obtain⟨m,R,rfl⟩:=cV.mp hf;obtain⟨u,O,rfl⟩:=cV.mp R;exact#[_,ent_lft S0,b u (a.hu N h2 u O)]
noncomputable def tv(q:List Nat):List V:=q.map λn:Nat=>int (n:Int)
noncomputable def tk(q:List Nat):List Key:=q.map λn:Nat=>(Sum.inl (n:Int):Key)
def Cl(q:List Nat):(tk q).map kV=tv q:=by
 unfold tk tv;rw[List.map_map];exact gM λn _=>rfl
def jJh(a b:List Nat):tv (a++b)=tv a++tv b:=aX
def fZ(q:List Nat):(tv q).length=q.length:=aB _
def nB{q:List Nat}{x:V}(h:(tv q)[i]?=some x):∃n,q[i]?=some n/\x=.int (n:Nat):=by
 unfold tv at h;rw[aZ]at h;cases e:q[i]? with
 |none=>rw[e]at h;cases h
 |some n=>rw[e]at h;exact#[n,rfl,(aW h).symm]
def Mu{q:List Nat}{n:Nat}(h:q[i]?=some n):(tv q)[i]?=some (.int (n:Nat)):=by
 unfold tv;rw[aZ,h];rfl
def Dr:∀{a b:List Nat},tk a=tk b->a=b
 | [],[],_=>rfl
 | [],_::_,h=>by simp [tk]at h
 |_::_,[],h=>by simp [tk]at h
 |x::a,y::b,h=>by
  simp only[tk,bV,List.cons.injEq,Sum.inl.injEq]at h;have h1:x=y:=by have:=h.1;lia
  rw[h1,Dr (a:=a) (b:=b) h.2]
noncomputable def gJ:List Nat->fP
 | []=>[[]]
 |s::rs=>(gJ rs).flatMap λb=>(range s).map λc=>b++[c]
noncomputable def Mr:List Nat->Nat->List Nat
 | [],_=>[]
 |s::rs,n=>Mr rs (n/s)++[n%s]
noncomputable def qV:List Nat->Nat
 | []=>1
 |s::rs=>qV rs*s
def Su(s:Nat):∀m:Nat,range (m*s)=(range m).flatMap λi=>(range s).map λc=>i*s+c
 |0=>by simp
 |m+1=>by
  rw[Nat.succ_mul,List.range_add,List.range_succ,List.flatMap_append,Su s m];simp
def Vu:∀X:List Nat,(∀s∈X,1<=s)->gJ X=(range (qV X)).map (Mr X)
 | [],_=>by simp [gJ,qV,Mr]
 |s::X,h=>by
  have hs:1<=s:=h s (cB ..);have hr:=Vu X λt y=>h t (bO _ y);show(gJ X).flatMap _=(range (qV X*s)).map (Mr (s::X));rw[hr,Su,List.map_flatMap,List.flatMap_map]
  congr 1
  funext i
  rw[List.map_map];refine gM λc hc=>?_;have g:c<s:=gG.mp hc;show Mr X i++[c]=Mr X ((i*s+c)/s)++[(i*s+c)%s];rw[Nat.mul_comm i s,Nat.mul_add_div #[],Nat.div_eq_of_lt g,Nat.mul_add_mod,Nat.mod_eq_of_lt g,Nat.add_zero]
def jJJ(X:List Nat)(h:∀s∈X,1<=s):(gJ X).length=qV X:=by rw[Vu X h,aB,iB]
def Oc:∀X:List Nat,(∀s∈X,s<=6)->qV X<=6^X.length
 | [],_=>aU _
 |s::X,h=>by
  show qV X*s<=6^(X.length+1);rw[Nat.pow_succ];exact eP (Oc X λt y=>h t (bO _ y)) (h s (cB ..))
def kN:∀(X:List Nat)(q:List Nat),q∈gJ X->q.length=X.length
 | [],q,h=>by simp [gJ]at h;subst h;rfl
 |s::X,q,h=>by
  simp only[gJ,List.mem_flatMap,cV]at h;obtain⟨b,hb,c,_,rfl⟩:=h;simp [kN X b hb]
def rE:∀X:List Nat,(gJ X).Nodup
 | []=>by simp [gJ]
 |s::X=>by
  show List.Nodup ((gJ X).flatMap _);unfold List.Nodup;rw[List.pairwise_flatMap];refine#[λb _=>?_,(rE X).imp λ{a b} f x hx y hy e=>?_]
  .rw[List.pairwise_map];exact List.nodup_range.imp λ{c d} p e=>p (by simpa using e)
  .obtain⟨c,_,rfl⟩:=cV.mp hx;obtain⟨d,_,rfl⟩:=cV.mp hy;have:=(List.append_inj' e rfl).1;exact f this
structure Sz(ns:List Nat):Prop where
 len:ns.length<=3
 ge:∀n∈ns,1<=n
 le:∀n∈ns,n<=6
def Sz.rev(h:Sz ns):Sz ns.reverse:=#[by rw[cM];exact h.len,λn hn=>h.ge n (List.mem_reverse.mp hn),λn hn=>h.le n (List.mem_reverse.mp hn)]
def Sz.many(h:Sz ns):qV ns<=216:=cI (Oc ns h.le) (cI (eE (by decide) h.len) (by decide))
def Sz.ord(h:Sz ns):(gJ ns).length<=216:=by rw[jJJ ns h.ge];exact h.many
noncomputable def wo{d:Type}(h:Nat)(q:List d):List d:=q.take h++q.drop (h+1)
def Ps(H:Hp)(xs:List V)(I:fP):Prop:=xs.length=I.length/\∀(i:Nat)(q:List Nat),I[i]?=some q->∃a:Addr,xs[i]?=some (ref a)/\H a=some (.tup (tv q))
def jXt(H O:Hp):Prop:=∀a xs,H a=some (.tup xs)->O a=some (.tup xs)
def jXZ(s:aT H O):jXt H O:=λa F h=>s a _ h
def jWz{l:Addr}(h:H l=some (.lst xs)):jXt H (upd H l o):=λa v e=>by
 rw[cK (kS e h (by intro z;cases z))];exact e
def Ps.keep(p:Ps H xs I)(k:jXt H O):Ps O xs I:=#[p.1,λi q e=>let⟨a,h1,h2⟩:=p.2 i q e;#[a,h1,k a _ h2]]
def Ps.same(p:Ps H xs I)(s:aT H O):Ps O xs I:=p.keep (jXZ s)
def Ps.nil:Ps H [] []:=#[rfl,λi q e=>by simp at e]
def Ps.app{X:fP}(p:Ps H xs I)(r:Ps H ys X):Ps H (xs++ys) (I++X):=by
 refine#[by rw[bK,bK,p.1,r.1],λi q e=>?_];by_cases hi:i<I.length
 .rw[bZ hi]at e;rw[bZ (by rw[p.1];exact hi)];exact p.2 i q e
 .rw[bU #[]]at e;rw[bU (by rw[p.1];lia),p.1];exact r.2 _ q e
def Ps.one{q:List Nat}(h:H a=some (.tup (tv q))):Ps H [.ref a] [q]:=by
 refine#[rfl,λi Z e=>?_];cases i with
 |zero=>simp at e;subst e;exact#[a,rfl,h]
 |succ i=>simp at e
def Ps.get{H:Hp}{xs:List V}{I:fP}{i:Nat}{x:V}(p:Ps H xs I)(h:xs[i]?=some x):∃q a,I[i]?=some q/\x=.ref a/\H a=some (.tup (tv q)):=by
 have S:i<I.length:=by rw[←p.1];exact(aO.mp h).1
 obtain⟨a,e1,C⟩:=p.2 i I[i] (aD S);rw[h]at e1;exact#[I[i],a,aD S,aW e1,C]
def Ps.at(p:Ps H xs I)(h:i<I.length):∃q a,I[i]?=some q/\xs[i]?=some (.ref a)/\H a=some (.tup (tv q)):=by
 obtain⟨a,e1,C⟩:=p.2 i I[i] (aD h);exact#[I[i],a,aD h,e1,C]
def lA{n:Nat}(h:n<=216):n<=sizeLine:=by rw[sizeLine_eq];lia
def small'{n:Nat}(h:n<=216):n<sizeLine:=by rw[sizeLine_eq];lia
def Xd{l:List d}{x:d}(h:l[i]?=some x):l.drop i=x::l.drop (i+1):=by
 obtain⟨S,e⟩:=aO.mp h;rw[List.drop_eq_getElem_cons S,e]
def bb6{n:Nat}(h:n<=6):BB 3 (n:Int):=by unfold BB;lia
def Vb:mY xs none (some (h:Int))=xs.take h:=by
 unfold mY;rw[HT.sIx_none,HT.sIx_nat,List.drop_zero,Nat.sub_zero];by_cases e:h<=xs.length
 .rw[Nat.min_eq_left e]
 .rw[Nat.min_eq_right #[],bY,take_of_length_le #[]]
def Gh:mY xs (some (h:Int)) none=xs.drop h:=by
 unfold mY;rw[HT.sIx_none,HT.sIx_nat];by_cases e:h<=xs.length
 .rw[Nat.min_eq_left e,take_of_length_le (by rw[iU];lia)]
 .rw[Nat.min_eq_right #[],List.drop_eq_nil_of_le (aU _),List.drop_eq_nil_of_le #[]];simp
def sF(xs:List V)(lo hi:Option Int):(mY xs lo hi).length<=xs.length:=Aw xs lo hi
def Eu{l:List d}{x:d}(h:l.Nodup)(e:l[i]?=some x):x∉l.take i:=by
 intro hm;have h2:(l.take (i+1)).Nodup:=(List.take_sublist (i+1) l).nodup h;have a:l.take (i+1)=l.take i++[x]:=by rw[List.take_add_one,e];rfl
 rw[a,List.nodup_append]at h2;exact h2.2.2 x hm x (List.mem_singleton_self x) rfl
def Ki(H:Hp)(kvs:List (List Key×V))(B:List Nat->List V)(q:List Nat):Prop:=∃l,lZ kvs (tk q)=some (.ref l)/\H l=some (.lst (B q))
def Ki.same{B:List Nat->List V}{q:List Nat}(c:Ki H kvs B q)(s:aT H O):Ki O kvs B q:=let⟨l,h1,h2⟩:=c;#[l,h1,s _ _ h2]
def Sv:∀X:List Nat,(∀s∈X,1<=s)->0<qV X
 | [],_=>Nat.one_pos
 |s::X,h=>Nat.mul_pos (Sv X λt y=>h t (bO _ y)) (h s (cB ..))
def Xs{k:List Key}{v:V}(h:lZ kvs k=some v):∃p∈kvs,p.1=k/\p.2=v:=by
 unfold lZ at h;obtain⟨p,hp,e⟩:=Option.map_eq_some_iff.mp h;exact#[p,List.mem_of_find?_eq_some hp,by have:=List.find?_some hp;simpa using this,e]
def Vt:∀(X q:List Nat),q∈gJ X->∀(i n c:Nat),X.reverse[i]?=some n->q[i]?=some c->c<n
 | [],q,h=>by intro i n c e;simp at e
 |s::X,q,h=>by
  simp only[gJ,List.mem_flatMap,cV,gG]at h;obtain⟨b,hb,x,hx,rfl⟩:=h;intro i n c e1 C;have S:=kN X b hb;rw[List.reverse_cons]at e1;by_cases hi:i<X.length
  .rw[bZ (by rw[cM];exact hi)]at e1;rw[bZ (by rw[S];exact hi)]at C;exact Vt X b hb i n c e1 C
  .rw[bU (by rw[cM];lia),cM]at e1;rw[bU (by rw[S];lia),S]at C;cases e3:i-X.length with
   |zero=>rw[e3]at e1 C;simp at e1 C;lia
   |succ k=>rw[e3]at e1;simp at e1
def Kc(H:Hp)(kvs:List (List Key×V))(B:List Nat->List V)(I:fP):Prop:=kvs.length=I.length/\∀(i:Nat)(q:List Nat),I[i]?=some q->∃l,kvs[i]?=some (tk q,ref l)/\H l=some (.lst (B q))
def Ly:∀{kvs:List (List Key×V)},(kvs.map (·.1)).Nodup->∀(i:Nat){k:List Key}{v:V},kvs[i]?=some (k,v)->lZ kvs k=some v
 | [],_,i,k,v,h=>by simp at h
 |p::kvs,nd,i,k,v,h=>by
  rw[bV,List.nodup_cons]at nd;cases i with
  |zero=>
   simp at h;subst h;exact kH rfl
  |succ i=>
   simp at h;have hm:k∈kvs.map (·.1):=cV.mpr #[_,aI h,rfl];rw[kJ (λe=>nd.1 (by rw[e];exact hm))];exact Ly nd.2 i h
def Kc.keys{B:List Nat->List V}(h:Kc H kvs B I):kvs.map (·.1)=I.map tk:=by
 refine List.ext_getElem? λi=>?_;rw[aZ,aZ];cases e:I[i]? with
 |none=>
  have:kvs[i]?=none:=by
   rw[List.getElem?_eq_none_iff]at e⊢;rw[h.1];exact e
  rw[this];rfl
 |some q=>
  obtain⟨l,e1,_⟩:=h.2 i q e;rw[e1];rfl
def Kc.cells{B:List Nat->List V}(h:Kc H kvs B I)(nd:I.Nodup):∀q∈I,Ki H kvs B q:=by
 intro q T;obtain⟨i,hi,e⟩:=List.getElem_of_mem T;obtain⟨l,e1,C⟩:=h.2 i q (by rw[aD hi,e]);refine#[l,Ly ?_ i e1,C];rw[h.keys];unfold List.Nodup;rw[List.pairwise_map];exact nd.imp λf e=>f (Dr e)
def Kc.same{B:List Nat->List V}(h:Kc H kvs B I)(s:aT H O):Kc O kvs B I:=#[h.1,λi q e=>let⟨l,e1,e2⟩:=h.2 i q e;#[l,e1,s _ _ e2]]
def Kc.snoc{B:List Nat->List V}{b:List Nat}{l:Addr}(h:Kc H kvs B (I.take i))(hb:I[i]?=some b)(S:H l=some (.lst (B b))):Kc H (kvs++[(tk b,.ref l)]) B (I.take (i+1)):=by
 rw[dJ hb];refine#[by rw[bK,bK,h.1];rfl,λj q e=>?_];by_cases A:j<(I.take i).length
 .rw[bZ A]at e;rw[bZ (by rw[h.1];exact A)];exact h.2 j q e
 .rw[bU #[]]at e;rw[bU (by rw[h.1];lia),h.1];cases z:j-(I.take i).length with
  |zero=>rw[z]at e;simp at e;subst e;exact#[l,rfl,S]
  |succ n=>rw[z]at e;simp at e
def Kc.new{B:List Nat->List V}{b:List Nat}(h:Kc H kvs B (I.take i))(nd:I.Nodup)(hb:I[i]?=some b):lZ kvs (tk b)=none:=by
 cases e:lZ kvs (tk b)with
 |none=>rfl
 |some v=>
  obtain⟨p,hp,e1,_⟩:=Xs e;have hm:tk b∈kvs.map (·.1):=cV.mpr #[p,hp,e1];rw[h.keys]at hm;obtain⟨q,T,eq⟩:=cV.mp hm;rw[Dr eq]at T;exact absurd T (Eu nd hb)
def Kc.off{B:List Nat->List V}(h:Kc H kvs B I)(k:∀b F,H b=some (.lst F)->O b=some (.lst F)):Kc O kvs B I:=#[h.1,λi q e=>let⟨l,e1,e2⟩:=h.2 i q e;#[l,e1,k _ _ e2]]
def Kc.cong{B a:List Nat->List V}(h:Kc H kvs B I)(k:∀q∈I,a q=B q):Kc H kvs a I:=#[h.1,λi q e=>let⟨l,e1,e2⟩:=h.2 i q e;#[l,e1,by rw[k q (aI e)];exact e2]]
def Oi:∀(X q:List Nat),q.length=X.length->(∀(i n c:Nat),X.reverse[i]?=some n->q[i]?=some c->c<n)->q∈gJ X
 | [],q,hl,_=>by
  have:q=[]:=List.eq_nil_of_length_eq_zero hl;subst this;simp [gJ]
 |s::X,q,hl,h=>by
  rw[dF]at hl;have f:X.length<q.length:=#[];have T:q[X.length]?=some q[X.length]:=aD f;have e:q=q.take X.length++[q[X.length]]:=by
   have:=dJ T;rw[take_of_length_le #[]]at this;exact this
  have hb:q.take X.length∈gJ X:=by
   refine Oi X _ (by rw[cN];lia) λi n c e1 C=>?_;have hi:i<X.length:=by have:=(aO.mp e1).1;rwa [cM]at this
   refine h i n c ?_ ?_
   .rw[List.reverse_cons,bZ (by rw[cM];exact hi)];exact e1
   .rw[List.getElem?_take_of_lt hi]at C;exact C
  have hc:q[X.length]<s:=by
   refine h X.length s _ ?_ T;rw[List.reverse_cons,bU (by rw[cM];lia),cM,jT];rfl
  simp only[gJ,List.mem_flatMap,cV,gG];exact#[_,hb,_,hc,e.symm]
def jVw{q:List Nat}{n:Nat}(T:q∈gJ ns.reverse)(hn:ns[i]?=some n)(hc:c<n):q.set i c∈gJ ns.reverse:=by
 refine Oi _ _ (by rw[length_set];exact kN _ q T) λj g J e1 C=>?_;rw[List.reverse_reverse]at e1;by_cases A:j=i
 .subst A;rw[hn]at e1;obtain rfl:=aW e1;have S:j<q.length:=by
   have:=(aO.mp C).1;rwa [length_set]at this
  rw[List.getElem?_set_self S]at C;obtain rfl:=aW C;exact hc
 .rw[List.getElem?_set_ne #[]]at C;exact Vt _ q T j g J (by rw[List.reverse_reverse];exact e1) C
def tv_iv(q:List Nat):tv q=map int (q.map λn:Nat=>(n:Int)):=by
 unfold tv;rw[List.map_map];rfl
noncomputable def fW:fP->fP
 | []=>[[]]
 |c::rs=>(fW rs).flatMap λb=>c.map λx=>b++[x]
def Yj:∀X:List Nat,gJ X=fW (X.map range)
 | []=>rfl
 |s::X=>by show(gJ X).flatMap _=(fW (X.map range)).flatMap _;rw[Yj X]
def sM:∀w:fP,(fW w).length=qV (w.map List.length)
 | []=>rfl
 |c::rs=>by
  show((fW rs).flatMap _).length=qV (rs.map List.length)*c.length;rw[←sM rs];generalize fW rs=l
  induction l with
  |nil=>simp
  |cons b l ih=>rw[List.flatMap_cons,bK,aB,ih,dF,Nat.succ_mul];lia
def nY:∀(cs:fP)(q:List Nat),q∈fW cs->q.length=cs.length
 | [],q,h=>by simp [fW]at h;subst h;rfl
 |c::rs,q,h=>by
  simp only[fW,List.mem_flatMap,cV]at h;obtain⟨b,hb,x,_,rfl⟩:=h;simp [nY rs b hb]
def Es:∀w:fP,(∀c∈w,c.Nodup)->(fW w).Nodup
 | [],_=>by simp [fW]
 |c::rs,h=>by
  show List.Nodup ((fW rs).flatMap _);unfold List.Nodup;rw[List.pairwise_flatMap];refine#[λb _=>?_,(Es rs λd hd=>h d (.tail _ hd)).imp λ{a b} f x hx y hy e=>?_]
  .rw[List.pairwise_map];exact(h c (.head _)).imp λ{x y} g e=>g (by simpa using e)
  .obtain⟨_,_,rfl⟩:=cV.mp hx;obtain⟨_,_,rfl⟩:=cV.mp hy;exact f (List.append_inj' e rfl).1
def Od:∀(cs:fP)(q:List Nat),q∈fW cs->∀(i:Nat) c x,cs.reverse[i]?=some c->q[i]?=some x->x∈c
 | [],q,h=>by intro i n c e;simp at e
 |s::rs,q,h=>by
  simp only[fW,List.mem_flatMap,cV]at h;obtain⟨b,hb,x,hx,rfl⟩:=h;intro i n c e1 C;have S:=nY rs b hb;rw[List.reverse_cons]at e1;by_cases hi:i<rs.length
  .rw[bZ (by rw[cM];exact hi)]at e1;rw[bZ (by rw[S];exact hi)]at C;exact Od rs b hb i n c e1 C
  .rw[bU (by rw[cM];lia),cM]at e1;rw[bU (by rw[S];lia),S]at C;cases e3:i-rs.length with
   |zero=>rw[e3]at e1 C;simp at e1 C;rw[←e1,←C];exact hx
   |succ k=>rw[e3]at e1;simp at e1
structure Ch(cs:fP):Prop where
 len:cs.length<=3
 le:∀c∈cs,c.length<=6
def Ch.rev(h:Ch cs):Ch cs.reverse:=#[by rw[cM];exact h.len,λn hn=>h.le n (List.mem_reverse.mp hn)]
def Ch.many(h:Ch cs):(fW cs).length<=6^cs.length:=by
 rw[sM];have:=Oc (cs.map List.length) λs hs=>by obtain⟨c,hc,rfl⟩:=cV.mp hs;exact h.le c hc
 rwa [aB]at this
def Ch.ord(h:Ch cs):(fW cs).length<=216:=cI h.many (cI (eE (by decide) h.len) (by decide))
def Lg(H:Hp)(xs:List V)(cs:fP):Prop:=xs.length=cs.length/\∀(i:Nat) c,cs[i]?=some c->∃a:Addr,xs[i]?=some (.ref a)/\H a=some (.lst (tv c))
def Lg.same(h:Lg H xs cs)(s:aT H O):Lg O xs cs:=#[h.1,λi n e=>let⟨c,e1,e2⟩:=h.2 i n e;#[c,e1,s _ _ e2]]
def Lg.nil:Lg H [] []:=#[rfl,λi q e=>by simp at e]
def Lg.app{X:fP}(p:Lg H xs I)(r:Lg H ys X):Lg H (xs++ys) (I++X):=by
 refine#[by rw[bK,bK,p.1,r.1],λi q e=>?_];by_cases hi:i<I.length
 .rw[bZ hi]at e;rw[bZ (by rw[p.1];exact hi)];exact p.2 i q e
 .rw[bU #[]]at e;rw[bU (by rw[p.1];lia),p.1];exact r.2 _ q e
def Lg.one{q:List Nat}(h:H a=some (.lst (tv q))):Lg H [.ref a] [q]:=by
 refine#[rfl,λi Z e=>?_];cases i with
 |zero=>simp at e;subst e;exact#[a,rfl,h]
 |succ i=>simp at e
def Lg.snoc{c:List Nat}(h:Lg H xs cs)(hc:H a=some (.lst (tv c))):Lg H (xs++[.ref a]) (cs++[c]):=h.app (.one hc)
def Lg.get{H:Hp}{xs:List V}{cs:fP}{i:Nat}{x:V}(h:Lg H xs cs)(e:xs[i]?=some x):∃c a,cs[i]?=some c/\x=.ref a/\H a=some (.lst (tv c)):=by
 have S:i<cs.length:=by rw[←h.1];exact(aO.mp e).1
 obtain⟨c,e1,C⟩:=h.2 i cs[i] (aD S);rw[e]at e1;exact#[cs[i],c,aD S,aW e1,C]
def Lg.take(h:Lg H xs cs)(n:Nat):Lg H (xs.take n) (cs.take n):=by
 refine#[by rw[cN,cN,h.1],λi c e=>?_];have hi:i<n:=by have:=(aO.mp e).1;rw[cN]at this;lia
 rw[List.getElem?_take_of_lt hi]at e⊢;exact h.2 i c e
def Lg.drop(h:Lg H xs cs)(n:Nat):Lg H (xs.drop n) (cs.drop n):=by
 refine#[by rw[iU,iU,h.1],λi c e=>?_];rw[List.getElem?_drop]at e⊢;exact h.2 _ c e
def Lg.wo(h:Lg H xs cs)(n:Nat):Lg H (xs.take n++xs.drop (n+1)) (wo n cs):=(h.take n).app (h.drop (n+1))
structure Kp(ns:List Nat)(ks:fP):Prop where
 len:ks.length=ns.length
 ne:∀k∈ks,k≠[]
 nd:∀k∈ks,k.Nodup
 lt:∀(i:Nat) k n,ks[i]?=some k->ns[i]?=some n->k.length<=n/\∀x∈k,x<n
def Na{l:List d}{x:d}(m:x∈wo h l):x∈l:=by
 rcases dD.mp m with z |z
 .exact mem_of_mem_take z
 .exact List.mem_of_mem_drop z
def Kp.le(K:Kp ns ks){B:Nat}(h:∀n∈ns,n<=B):∀c∈ks,c.length<=B:=λc hc=>by
 obtain⟨i,hi⟩:=dA hc;have S:i<ns.length:=by rw[←K.len];exact(aO.mp hi).1
 exact cI (K.lt i c _ hi (aD S)).1 (h _ (cJ S))
def Kp.ch(K:Kp ns ks)(sz:Sz ns):Ch ks:=#[by rw[K.len];exact sz.len,K.le sz.le]
def Ch.wo(h:Ch cs)(n:Nat):Ch (wo n cs):=#[by have:=h.len;unfold My.wo;rw[bK,cN,iU];lia,λc hc=>h.le c (Na hc)]
noncomputable def jn(b:List Nat)(h c:Nat):List Nat:=b.take h++c::b.drop h
def jJe{l:List d}(S:h<l.length):(wo h l).length+1=l.length:=by unfold wo;rw[bK,cN,iU];lia
def jJw{k b:List Nat}(K:Kp ns ks)(hb:b∈fW (wo h ks).reverse)(hk:ks[h]?=some k)(hc:c∈k):jn b h c∈gJ ns.reverse:=by
 have S:=(aO.mp hk).1;have e:=jJe S;have bl:=nY _ b hb;rw[cM]at bl;have kl:=K.len;have g:(b.take h).length=h:=by rw[cN];lia
 unfold jn;refine Oi _ _ (by rw[bK,dF,g,iU,cM];lia) λi n x e1 C=>?_;rw[List.reverse_reverse]at e1;have hi:=(aO.mp e1).1;have a:ks[i]?=some ks[i]:=aD #[];refine(K.lt i _ n a e1).2 x ?_;rcases Nat.lt_trichotomy i h with z |z |z
 .rw[bZ #[],List.getElem?_take_of_lt z]at C;refine Od _ b hb i _ x ?_ C;rw[List.reverse_reverse];unfold wo;rw[bZ (by rw[cN];lia),List.getElem?_take_of_lt z];exact a
 .subst z;rw[bU #[],g,jT]at C;simp at C;rw[hk]at a;rw[←aW a,←C];exact hc
 .rw[bU #[],g,show i-h=(i-h-1)+1 by lia,Lq1,List.getElem?_drop]at C;refine Od _ b hb (i-1) _ x ?_ (by rw[show i-1=h+(i-h-1) by lia];exact C);rw[List.reverse_reverse];unfold wo;rw[bU (by rw[cN];lia),cN,List.getElem?_drop,show h+1+(i-1-min h ks.length)=i by lia];exact a
def wB(h:I.Nodup):(I.map tk).Nodup:=by
 unfold List.Nodup;rw[List.pairwise_map];exact h.imp λ{a b} f e=>f (Dr e)
def Lg.push{l:Addr}{c:List Nat}(lg:Lg G xs ks)(ne:∀k∈ks,k≠[])(hp:G p=some (.lst xs))(S:G l=some (.lst (tv c)))(hc:c≠[]):Lg (upd G p (.lst (xs++[.ref l]))) (xs++[.ref l]) (ks++[c]):=by
 have key:∀b d,G b=some (.lst (tv d))->d≠[]->(upd G p (.lst (xs++[.ref l]))) b=some (.lst (tv d)):=λb d e hd=>by
  rw[cK λz=>?_]
  .exact e
  .subst z;rw[hp]at e;have e:xs=tv d:=by injection e with e;injection e
   cases d with
   |nil=>exact hd rfl
   |cons x d=>
    obtain⟨_,a,_,C,_⟩:=lg.get (i:=0) (x:=.int (x:Nat)) (by rw[e];rfl);cases C
 exact Lg.snoc #[lg.1,λi k e=>let⟨a,e1,C⟩:=lg.2 i k e;#[a,e1,key a k C (ne k (aI e))]] (key l c S hc)
def Kp.snoc{n:Nat}{c:List Nat}(kp:Kp (ms.take i) ks)(hn:ms[i]?=some n)(ne:c≠[])(nd:c.Nodup)(lt:c.length<=n/\∀x∈c,x<n):Kp (ms.take (i+1)) (ks++[c]):=by
 have kl:=kp.len;have M:∀{P:List Nat->Prop},(∀k∈ks,P k)->P c->∀k∈ks++[c],P k:=λh hc k hk=>by
  rcases dD.mp hk with z |z
  .exact h k z
  .rw[cP.mp z];exact hc
 refine#[by rw[dJ hn,bK,bK,kl];rfl,M kp.ne ne,M kp.nd nd,λj k m e1 C=>?_];rw[dJ hn]at C;by_cases A:j<ks.length
 .rw[bZ A]at e1;rw[bZ #[]]at C;exact kp.lt j k m e1 C
 .rw[bU #[]]at e1;rw[bU #[],←kl]at C;cases z:j-ks.length with
  |zero=>rw[z]at e1 C;simp at e1 C;subst e1 C;exact lt
  |succ k=>rw[z]at e1;simp at e1
def Kp.range(h:∀n∈ns,1<=n):Kp ns (ns.map range):=by
 refine#[aB _,λk hk=>?_,λk hk=>?_,λi k n e1 C=>?_]
 .obtain⟨n,hn,rfl⟩:=cV.mp hk;intro e;have h1:=congrArg List.length e;rw[iB]at h1;have h2:=h n hn;have R:n=0:=h1;lia
 .obtain⟨n,hn,rfl⟩:=cV.mp hk;exact List.nodup_range
 .rw[aZ,C]at e1;obtain rfl:=aW e1;exact#[by rw[iB];exact aU _,λx hx=>gG.mp hx]
def Lj:LS:=["_law_script","_law_k"]
def dY(K:aQ):Sp:=λvs H Q _=>∃a ns k,vs=[.ref a,.int k]/\SqL K H a (map int ns)/\0<=k/\Q (.int (ns.getD k.toNat 0)) H
def Ai(K:aQ):TS:=(cE (fX (dB (tOp kO (aE 1) (tCB (iY K) (aH (aE 0) bG)))) (cT (tOp (fS K) (aE 0) (aE 1))) eA) (cT (tC (.int 0))))
def Ws{K}:RdS K dY Ai Lj:=by
 rintro j H Q E ⟨a,ns,k,rfl,I,hk,q⟩;rw[show start Lj [ref a,int k]=[some (.ref a),some (.int k)]from rfl];(dsimp?[Ai]);refine#[_,.inl I,mC (λS=>?_) (λS=>?_)]
 .rw[aB]at S;exact#[_,I,_,Fr hk S,q]
 .rw[aB]at S;rw[aJ,cC #[]]at q;exact q
def Ub:LS:=["_law_script","_law_hands","_law_few"]
def S6(ms:List Nat):Prop:=(ms.length=3/\∀n∈ms,1<=n/\n<=3)∨(ms.length=2/\∀n∈ms,1<=n/\n<=4)∨∃f,(f=1∨f=2)/\(ms=[6,f]∨ms=[f,6])
def S6.hm(h:S6 ms):2<=ms.length/\ms.length<=3/\∀n∈ms,1<=n/\n<=6:=by
 rcases h with⟨e,h⟩|⟨e,h⟩|⟨f,h,rfl |rfl⟩
 .exact#[#[],#[],λn hn=>by have:=h n hn;lia]
 .exact#[#[],#[],λn hn=>by have:=h n hn;lia]
 .exact#[by show 2<=2;decide,by show 2<=3;decide,λn hn=>by simp at hn;lia]
 .exact#[by show 2<=2;decide,by show 2<=3;decide,λn hn=>by simp at hn;lia]
def S6.sz(h:S6 ms):Sz ms:=#[h.hm.2.1,λn hn=>(h.hm.2.2 n hn).1,λn hn=>(h.hm.2.2 n hn).2]
def El(K:aQ):Sp:=λvs H Q _=>∃a ns,vs=[.ref a]/\SqL K H a (map int ns)/\∀l ms O,aT H O->O l=some (.lst (tv ms))->S6 ms->Q (.ref l) O
def wP(K:aQ):TE:=(tOp hE (tC (.int 1)) (tOp gP (cD (dY K) [] E0 (aH (aE 1) (aH (tOp hE (tC (.int 1)) (aE 0)) bG))) (tOp lS (tC (.int 6)) (aE 2))))
def wO(K:aQ):TS:=(cT (dL (iE (aH (aE 1) bG)) [0,1] (wP K)))
def wN(K:aQ):TS:=(cT (tOp (fS K) (mB (aH (mB (aH (tC (.int 6)) (aH (aE 2) bG))) (aH (mB (aH (aE 2) (aH (tC (.int 6)) bG))) bG))) (tOp gP (cD (dY K) [] E0 (aH (aE 0) (aH (tC (.int 2)) bG))) (tC (.int 2)))))
def wM(K:aQ):TS:=(cE (fX (Ih (dB (tOp rEq (aE 1) (tC (.int 2)))) (dB (tOp rEq (tOp gP (tOp zL (cD (dY K) [] E0 (aH (aE 0) (aH (tC (.int 0)) bG))) (tC (.int 2))) (tC (.int 8))) (tC (.int 1))))) (cE (cS (tOp hE (tC (.int 1)) (tOp gP (cD (dY K) [] E0 (aH (aE 0) (aH (tC (.int 1)) bG))) (tC (.int 2)))) (bA 2)) (wN K)) eA) (wO K))
def Bu(K:aQ):TS:=(cE (cS (tOp hE (tC (.int 2)) (tOp gP (cD (dY K) [] E0 (aH (aE 0) (aH (tC (.int 0)) bG))) (tC (.int 2)))) (bA 1)) (wM K))
def jZg{K}:RdS K El Bu Ub:=by
 rintro j H Q E ⟨a,ns,rfl,I,q⟩;rw[show start Ub [ref a]=[some (.ref a),none,none]from rfl];(dsimp?[Bu];try simp_arith[Bu,dY])
 refine#[ns,I,by decide,by decide,?_];have hm:∃m:Nat,2+ns.getD (Int.toNat 0) 0%2=(m:Int)/\2<=m/\m<=3:=#[(2+ns.getD (Int.toNat 0) 0%2).toNat,#[],#[],#[]];obtain⟨m,Z,m2,t⟩:=hm;rw[Z];have d:wO K (eQ Q) [some (.ref a),some (.int m),none] H:=by
  (dsimp?[wO,dL,iE]);refine#[#[],#[],?_];rw[cA];refine lE (lo:=0) (n:=m) (W:=WEq H λi J=>∃P:List Nat,J=tv P/\P.length=i/\∀n∈P,1<=n/\n+m<=6) (by rw[sizeLine_eq];lia) #[rfl,[],rfl,rfl,by simp] ?_ ?_
  .rintro i v Y hi _ ⟨rfl,P,rfl,y,m2⟩;(dsimp?[wP,cY,bV,cX,bI];try simp_arith[wP,dY,cY,bV,cX,bI,eX])
   refine#[ns,I,#[],#[],rfl,P++[(1+ns.getD (1+(i:Int)).toNat 0%(6-(m:Int))).toNat],?_,by rw[bK,y];rfl,λn hn=>?_]
   .have:=Int.emod_nonneg (ns.getD (1+(i:Int)).toNat 0) (show(6-(m:Int))≠0 by lia);unfold tv;rw[aX,bV,cX,Int.toNat_of_nonneg #[]]
   .rcases dD.mp hn with hn |hn
    .exact m2 n hn
    .have a:=Int.emod_nonneg (ns.getD (1+(i:Int)).toNat 0) (show(6-(m:Int))≠0 by lia);have b:=Int.emod_lt_of_pos (ns.getD (1+(i:Int)).toNat 0) (show 0<(6-(m:Int)) by lia);rw[cP.mp hn];lia
  .rintro v Y _ ⟨rfl,P,rfl,y,hn⟩ l S;refine q l P _ (aT.upd S) aL ?_;by_cases e:m=3
   .exact .inl #[#[],λn h=>by have:=hn n h;lia]
   .exact .inr (.inl #[#[],λn h=>by have:=hn n h;lia])
 (dsimp?[wM];try simp_arith[wM,dY])
 refine mC (λ_=>#[ns,I,by decide,#[by decide,by decide],by decide,mC (λ_=>#[ns,I,by decide,by decide,?_]) (λ_=>d)]) (λ_=>by rw[aF bT];exact d);obtain⟨f,s,hf⟩:∃f:Nat,1+ns.getD (Int.toNat 1) 0%2=(f:Int)/\(f=1∨f=2):=#[(1+ns.getD (Int.toNat 1) 0%2).toNat,#[],#[]];rw[s];(dsimp?[wN];try simp_arith[wN,dY])
 refine#[sz2,λp1 h1=>#[sz2,λw h2=>#[sz2,λg R=>?_]]];have F:=aT.upd (o:=lst [int 6,int f]) h1;have u:=aT.upd (o:=lst [int f,int 6]) h2;have c:=aT.upd (o:=lst [ref p1,ref w]) R;have N:=F.trans (u.trans c);refine#[ns,N.seq I,by decide,by decide,_,SqL.of aL,?_];have k:ns.getD (Int.toNat 2) 0%2=0∨ns.getD (Int.toNat 2) 0%2=1:=#[];rcases k with h |h<;>rw[h]
 .exact#[_,kP,q p1 [6,f] _ N (c _ _ (u _ _ aL)) (.inr (.inr #[f,hf,.inl rfl]))]
 .exact#[_,jR,q w [f,6] _ N (c _ _ aL) (.inr (.inr #[f,hf,.inr rfl]))]
def Uf:LS:=["_law_script","_law_k","_law_cell","_law_j"]
def Eo(K:aQ):Sp:=λvs H Q _=>∃a ns,∃k:Nat,vs=[.ref a,.int k]/\SqL K H a (map int ns)/\∀z:Int,0<=z->z<2147483587->Q (.int z) H
def xD(K:aQ):TS:=(cT (tOp gP (aE 2) (tC (.int 2147483587))))
def Hn(K:aQ):TS:=(cS (tOp jE (aE 2) (tC (.int 2147483587))) (bA 2))
def xC(K:aQ):TS:=(cE (gD (iE (aH (tOp gP (aE 1) (tC (.int 8))) bG)) (bA 3) (Hn K)) (xD K))
def Jd(K:aQ):TS:=(cE (cS (tC (.int 0)) (bA 2)) (cE (fX (dB (tOp kO (tOp hE (tC (.int 1)) (tOp gP (tOp zL (aE 1) (tC (.int 8))) (tC (.int 62)))) (tCB (iY K) (aH (aE 0) bG)))) (cS (tOp jE (tOp (fS K) (aE 0) (tOp hE (tC (.int 1)) (tOp gP (tOp zL (aE 1) (tC (.int 8))) (tC (.int 62))))) (tOp zK (tC (.int 10)) (tC (.int 64)))) (bA 2)) eA) (xC K)))
def jZk{K}:RdS K Eo Jd Uf:=by
 rintro j H Q E ⟨a,ns,k,rfl,I,q⟩;rw[show start Uf [ref a,int k]=[some (.ref a),some (.int k),none,none]from rfl];have b:∀c:Int,xC K (eQ Q) [some (.ref a),some (.int k),some (.int c),none] H:=by
  intro c;(dsimp?[xC,gD,iE]);have x:=Int.emod_nonneg (k:Int) (show(8:Int)≠0 by decide);have u:=Int.emod_lt_of_pos (k:Int) (show(0:Int)<8 by decide);refine#[by decide,#[],#[],qR (lo:=0) (g:=bA 3) (D:={ nx:=xD K (eQ Q),rt:=Q }) (SEq H λ_ Z=>∃c o,Z=[some (.ref a),some (.int k),some (.int c),o]) ?_ ?_ ?_]
  .exact#[rfl,c,none,rfl]
  .rintro i Z Y _ ⟨rfl,c,o,rfl⟩;(dsimp?[Hn]);exact#[#[by decide,BB.mono (m:=40) (by unfold BB;decide) (by decide)],rfl,_,_,rfl]
  .rintro Z Y ⟨rfl,c,o,rfl⟩;(dsimp?[xD]);exact#[by decide,q _ (Int.emod_nonneg _ (by decide)) (Int.emod_lt_of_pos _ (by decide))]
 (dsimp?[Jd]);refine#[#[by decide,by decide],by decide,_,.inl I,mC (λS=>?_) (λ_=>b 0)];rw[aB]at S;have x:=Int.emod_nonneg ((k:Int)/8) (show(62:Int)≠0 by decide);exact#[#[by decide,by decide],by decide,_,I,_,Fr #[] S,#[by decide,by decide,by decide],_,rfl,#[by decide,BB.mono (m:=220) (by unfold BB;decide) (by decide)],b _]
def Ud:LS:=["_law_script","_law_k","_law_cell","_law_number"]
def vV(K:aQ):Sp:=λvs H Q _=>∃a ns,∃k:Nat,vs=[.ref a,.int k]/\SqL K H a (map int ns)/\k<=1000/\∀z:Int,0<=z->z<2147483587->Q (.int z) H
def wU(K:aQ):TS:=(cE (cS (tOp hE (tOp gP (aE 2) (tOp zK (tC (.int 10)) (tC (.int 18)))) (tOp fO (tC (.int 48271)) (tOp hE (aE 1) (tC (.int 1))))) (bA 3)) (cE (cS (tOp hE (tOp gP (tOp fO (aE 3) (aE 3)) (tC (.int 2147483629))) (tOp fO (tC (.int 69621)) (aE 1))) (bA 3)) (cT (tOp gP (tOp fO (aE 3) (aE 3)) (tC (.int 2147483587))))))
def wT(K:aQ):TS:=(cE (fX (dB (tOp zF (tCB (iY K) (aH (aE 0) bG)) (tC (.int 0)))) (cS (tOp (fS K) (aE 0) (tOp gP (aE 1) (tCB cMin (aH (tC (.int 63)) (aH (tCB (iY K) (aH (aE 0) bG)) bG))))) (bA 2)) eA) (wU K))
def wS(K:aQ):TS:=(cE (fX (dB (tOp rEq (tOp gP (tOp jE (aE 2) (tOp zK (tC (.int 10)) (tC (.int 6)))) (tC (.int 2))) (tC (.int 1)))) (cT (cD (Eo K) [] E0 (aH (aE 0) (aH (aE 1) bG)))) eA) (wT K))
def Jc(K:aQ):TS:=(cE (cS (tC (.int 0)) (bA 2)) (cE (fX (dB (tOp zF (tCB (iY K) (aH (aE 0) bG)) (tC (.int 0)))) (cS (tOp (fS K) (aE 0) (tC (.int 0))) (bA 2)) eA) (wS K)))
def jZi{K}:RdS K vV Jc Ud:=by
 rintro j H Q E ⟨a,ns,k,rfl,I,hk,q⟩;rw[show start Ud [ref a,int k]=[some (.ref a),some (.int k),none,none]from rfl];have d:∀c:Int,wU K (eQ Q) [some (.ref a),some (.int k),some (.int c),none] H:=by
  intro c;(dsimp?[wU]);have x:=Int.emod_nonneg c (show(10^Int.toNat 18:Int)≠0 by decide);have u:=Int.emod_lt_of_pos c (show(0:Int)<10^Int.toNat 18 by decide);have b:(10^Int.toNat 18:Int)=1000000000000000000:=by decide
  have t:BB 64 (c%10^Int.toNat 18+48271*((k:Int)+1)):=by
   rw[b]at x u⊢;unfold BB;have:(2:Nat)^64=18446744073709551616:=by decide
   rw[this];lia
  refine#[#[by decide,by decide,by decide],by decide,.l (by unfold BB;decide),.l t,by decide,.l (by unfold BB;decide),?_];have n:=Int.emod_nonneg ((c%10^Int.toNat 18+48271*((k:Int)+1))*(c%10^Int.toNat 18+48271*((k:Int)+1))) (show(2147483629:Int)≠0 by decide);have o:=Int.emod_lt_of_pos ((c%10^Int.toNat 18+48271*((k:Int)+1))*(c%10^Int.toNat 18+48271*((k:Int)+1))) (show(0:Int)<2147483629 by decide);generalize (c%10^Int.toNat 18+48271*((k:Int)+1))*(c%10^Int.toNat 18+48271*((k:Int)+1))%2147483629=y at n o;refine#[.l ?_,by decide,q _ (Int.emod_nonneg _ (by decide)) (Int.emod_lt_of_pos _ (by decide))];unfold BB;have:(2:Nat)^64=18446744073709551616:=by decide
  rw[this];lia
 have N:∀c:Int,wT K (eQ Q) [some (.ref a),some (.int k),some (.int c),none] H:=by
  intro c;(dsimp?[wT,cMin]);refine#[_,.inl I,mC (λB=>?_) (λ_=>d c)];rw[aB]at B;refine#[_,.inl I,?_];rw[aB];have hm:0<(if(ns.length:Int)<63 then(ns.length:Int)else 63)/\(if(ns.length:Int)<63 then(ns.length:Int)else 63)<=ns.length:=by split<;>lia
  generalize (if(ns.length:Int)<63 then(ns.length:Int)else 63)=m at hm;have v:=Int.emod_nonneg (k:Int) (show m≠0 by lia);have e:=Int.emod_lt_of_pos (k:Int) hm.1;exact#[hm.1,_,I,_,Fr v #[],d _]
 have g:∀c:Int,wS K (eQ Q) [some (.ref a),some (.int k),some (.int c),none] H:=by
  intro c;(dsimp?[wS]);exact#[#[by decide,by decide,by decide],#[by decide,BB.mono (m:=40) (by unfold BB;decide) (by decide)],by decide,mC (λ_=>#[_,_,k,rfl,I,q]) (λ_=>N c)]
 (dsimp?[Jc]);refine#[_,.inl I,mC (λB=>?_) (λ_=>g 0)];rw[aB]at B;exact#[_,I,_,Fr (by decide) B,g _]
def Zg:LS:=["_law_script","_law_place","_law_way","_law_cell","_law_number","_law_far"]
def Jn(K:aQ):Sp:=λvs H Q _=>∃a ns,∃k w:Nat,vs=[.ref a,.int k,.int w]/\SqL K H a (map int ns)/\k<=1000/\w<16/\∀(u:Int) H',aT H H'->u.natAbs<10^60->Q (.int u) H'
def Kq(K:aQ):TS:=(cE (cS (tOp (fS K) (mB (aH (tOp zK (tC (.int 10)) (tC (.int 18))) (aH (tOp zK (tC (.int 10)) (tC (.int 60))) bG))) (tOp zL (aE 2) (tC (.int 15)))) (bA 5)) (cT (tOp lS (tOp gP (tOp hE (aE 3) (aE 4)) (tOp lS (tOp fO (tC (.int 2)) (aE 5)) (tC (.int 1)))) (tOp lS (aE 5) (tC (.int 1))))))
def Ko(K:aQ):TS:=(cE (fX (dB (tOp kO (aE 2) (tC (.int 11)))) (cT (tOp gP (aE 4) (tC (.int 3)))) eA) (Kq K))
def Ft(K:aQ):TS:=(cE (cS (cD (dY K) [] E0 (aH (aE 0) (aH (tOp gP (aE 1) (tCB cMax (aH (tC (.int 1)) (aH (tCB cMin (aH (tC (.int 63)) (aH (tCB (iY K) (aH (aE 0) bG)) bG))) bG)))) bG))) (bA 3)) (cE (cS (cD (vV K) [] E0 (aH (aE 0) (aH (aE 1) bG))) (bA 4)) (cE (fX (dB (tOp kO (aE 2) (tC (.int 6)))) (cT (tOp lS (tOp gP (aE 4) (tC (.int 61))) (tC (.int 30)))) eA) (Ko K))))
def jWa{K}:RdS K Jn Ft Zg:=by
 rintro j H Q E ⟨a,ns,k,w,rfl,I,hk,hw,q⟩;rw[show start Zg [ref a,int k,int w]=[some (.ref a),some (.int k),some (.int w),none,none,none]from rfl];(dsimp?[Ft,cMax,cMin];try simp_arith[Ft,cMax,cMin,dY,vV])
 refine#[_,.inl I,?_];rw[aB];have hm:0<(if(if(ns.length:Int)<63 then(ns.length:Int)else 63)>1 then(if(ns.length:Int)<63 then(ns.length:Int)else 63)else 1):=by
  split
  .omega
  .decide
 generalize (if(if(ns.length:Int)<63 then(ns.length:Int)else 63)>1 then(if(ns.length:Int)<63 then(ns.length:Int)else 63)else 1)=D at hm;have b:(100:Nat)<10^60:=by decide
 refine#[hm,_,I,Int.emod_nonneg _ #[],_,k,rfl,I,hk,λz f v=>mC (λ_=>#[by decide,q _ _ (aT.refl _) ?_]) (λy=>?_)]
 .have h1:=Int.emod_nonneg z (show(61:Int)≠0 by decide);have h2:=Int.emod_lt_of_pos z (show(0:Int)<61 by decide);lia
 generalize ns.getD ((k:Int)%D).toNat 0=c;(dsimp?[Ko]);refine mC (λ_=>#[by decide,q _ _ (aT.refl _) ?_]) (λd=>?_)
 .have h1:=Int.emod_nonneg z (show(3:Int)≠0 by decide);have h2:=Int.emod_lt_of_pos z (show(0:Int)<3 by decide);lia
 (dsimp?[Kq]);obtain⟨M,e,A,g⟩:∃M:Int,atI [int (10^Int.toNat 18),int (10^Int.toNat 60)] ((w:Int)/15)=some (.int M)/\0<M/\M<=10^60:=by
  by_cases h:w=15
  .rw[h];exact#[_,jR,by decide,by decide]
  .rw[show(w:Int)/15=0 by lia];exact#[_,kP,by decide,by decide]
 refine#[#[by decide,by decide,by decide],#[by decide,by decide,by decide],sz2,λp hp=>#[#[by decide,by decide],_,SqL.of aL,_,e,_,rfl,.l (by show(2:Int).natAbs<2^64;decide),#[],_,rfl,q _ _ (aT.upd hp) ?_]];have h1:=Int.emod_nonneg (c+z) (show 2*M-1≠0 by lia);have h2:=Int.emod_lt_of_pos (c+z) (show(0:Int)<2*M-1 by lia);lia
def Tz:LS:=["_law_script","_law_order_here","_law_hands","_law_way","_law_found","_law_k"]
structure UD(H0 H:Hp)(d:Addr)(kv:List (List Key×V))(qs:fP)(ad:List Nat->Addr)(un:List Nat->List Int)(n b:Nat):Prop where
 hd:H d=some (.dT kv)
 d0:H0 d=none
 ks:kv.map (·.1)=qs.map tk
 at_:∀q∈qs,lZ kv (tk q)=some (.ref (ad q))/\H (ad q)=some (.lst (map int (un q)))/\H0 (ad q)=none/\(un q).length=n/\∀u∈un q,BB b u
 inj:∀q∈qs,∀r∈qs,ad q=ad r->q=r
def UD.same{N:Hp}{d:Addr}{f:List Nat->Addr}{un:List Nat->List Int}{n b:Nat}(U:UD N H d M I f un n b)(s:aT H O):UD N O d M I f un n b:=#[s _ _ U.hd,U.d0,U.ks,λq T=>let⟨a,b,c⟩:=U.at_ q T;#[a,s _ _ b,c],U.inj]
def UD.put{N:Hp}{d l:Addr}{f:List Nat->Addr}{un:List Nat->List Int}{n b:Nat}{q:List Nat}{us:List Int}(U:UD N H d M (I.take i) f un n b)(nd:I.Nodup)(eq:I[i]?=some q)(S:H l=some (.lst (map int us)))(y:N l=none)(j:∀r∈I.take i,f r≠l)(s:us.length=n)(p:∀u∈us,BB b u):
  UD N (upd H d (.dT (yU M (tk q) (.ref l)))) d (M++[(tk q,.ref l)]) (I.take (i+1)) (λr=>if r=q then l else f r) (λr=>if r=q then us else un r) n b:=by
 have k:=Eu nd eq;have g:lZ M (tk q)=none:=by
  cases e:lZ M (tk q)with
  |none=>rfl
  |some v=>
   obtain⟨w,hw,T,_⟩:=Xs e;have m:tk q∈M.map (·.1):=cV.mpr #[w,hw,T];rw[U.ks]at m;obtain⟨r,hr,t⟩:=cV.mp m;exact absurd (by rw[Dr t]at hr;exact hr) k
 have hd:=U.hd;have off:∀c F,H c=some (.lst F)->(upd H d (.dT (yU M (tk q) (.ref l)))) c=some (.lst F):=λc F h=>by rw[cK λz=>by rw[z,hd]at h;cases h];exact h
 rw[dJ eq];refine#[by rw[aL,zW _ g],U.d0,by rw[aX,U.ks,aX];rfl,λr hr=>?_,λr hr P o e=>?_]
 .rw[←zW (.ref l) g,Nm];show(if tk r=tk q then _ else _)=some (ref (if r=q then l else f r))/\(upd H d (.dT (yU M (tk q) (.ref l)))) (if r=q then l else f r)=some (.lst (map int (if r=q then us else un r)))/\N (if r=q then l else f r)=none/\(if r=q then us else un r).length=n/\∀u∈(if r=q then us else un r),BB b u;by_cases e:r=q
  .subst e;rw[aK rfl,aK rfl,aK rfl];exact#[rfl,off _ _ S,y,s,p]
  .rw[aF e,aF e,aF λz=>e (Dr z)];rcases dD.mp hr with hr |hr
   .obtain⟨a,b,c⟩:=U.at_ r hr;exact#[a,off _ _ b,c]
   .exact absurd (cP.mp hr) e
 .have e:(if r=q then l else f r)=(if P=q then l else f P):=e;have J:∀{x},x∈I.take i++[q]->x≠q->x∈I.take i:=λhx ne=>(dD.mp hx).resolve_right λz=>ne (cP.mp z);by_cases e1:r=q
  .by_cases C:P=q
   .rw[e1,C]
   .rw[aK e1,aF C]at e;exact absurd e.symm (j P (J o C))
  .by_cases C:P=q
   .rw[aF e1,aK C]at e;exact absurd e (j r (J hr e1))
   .rw[aF e1,aF C]at e;exact U.inj r (J hr e1) P (J o C) e
def Ej(K:aQ):Sp:=λvs H Q _=>∃sc ns o xs ms,vs=[.ref sc,.ref o,.int (ms.length:Nat)]/\SqL K H sc (map int ns)/\H o=some (.lst xs)/\Ps H xs (gJ ms.reverse)/\S6 ms/\∀d M f un O,aT H O->UD H O d M (gJ ms.reverse) f un ms.length 200->Q (.ref d) O
def jXW(N:Hp)(pre:St)(d:Addr)(I:fP)(n:Nat):NS:=λi Z Y=>∃M f un O,Z=pre++[some (.ref d),O]/\aT N Y/\UD N Y d M (I.take i) f un n 200
def wH(K:aQ):TE:=(cD (Jn K) [] E0 (aH (aE 1) (aH (tOp hE (tOp fO (aE 3) (aE 4)) (aE 0)) (aH (aE 2) bG))))
def wI(K:aQ):TS:=(Kh (aE 4) (tOp (fS K) (aE 1) (aE 5)) (dL (iE (aH (aE 2) bG)) [0,3,5,2] (wH K)))
def Hd(K:aQ):TS:=(cE (gD (iE (aH (tCB (iY K) (aH (aE 1) bG)) bG)) (bA 5) (wI K)) (cT (aE 4)))
def Hc(K:aQ):TS:=(cE (cS Ds (bA 4)) (Hd K))
def Bt(K:aQ):TS:=(cE (cS (tOp gP (cD (dY K) [] E0 (aH (aE 0) (aH (tC (.int 4)) bG))) (tC (.int 16))) (bA 3)) (Hc K))
def jZe{K}:RdS K Ej Bt Tz:=by
 rintro vs H Q E ⟨sc,ns,o,F,P,rfl,I,ho,R,X,q⟩;rw[show start Tz [ref sc,ref o,int P.length]=[some (.ref sc),some (.ref o),some (.int P.length),none,none,none]from rfl];have t:=X.hm.2.1;have C:=X.sz.rev.ord;have pn:=R.1;(dsimp?[Bt];try simp_arith[Bt,dY])
 refine#[ns,I,by decide,by decide,?_];have hw:∃w:Nat,ns.getD (Int.toNat 4) 0%16=(w:Int)/\w<16:=#[(ns.getD (Int.toNat 4) 0%16).toNat,#[],#[]];obtain⟨w,e,a0⟩:=hw;rw[e];(dsimp?[Hc,Ds]);intro d hd;have v:=aT.upd (o:=HO.dT []) hd;(dsimp?[Hd,gD,iE]);refine#[_,.inl (SqL.of (v _ _ ho)),#[],#[],?_];rw[show((F.length:Nat):Int).toNat=(gJ P.reverse).length by lia];refine qR (lo:=0) (g:=bA 5) (D:={ nx:=cT (aE 4) (eQ Q),rt:=Q }) (jXW H [some (.ref sc),some (.ref o),some (.int P.length),some (.int w)] d (gJ P.reverse) P.length) #[[],λ_=>0,λ_=>[],none,rfl,v,aL,hd,rfl,λq T=>by simp at T,λq T=>by simp at T] ?_ ?_
 .rintro i Z Y hi ⟨M,f,un,O,rfl,N,U⟩;obtain⟨pq,c,eq,ea,a⟩:=(R.same N).at hi;have x:atI F (i:Int)=some (.ref c):=fC ea;(dsimp?[wI,Kh,dL,iE,Lca,Lna];try simp_arith[wI,Kh,dL,iE,Lca,Lna,eX])
  refine#[#[],#[],?_];rw[cA];refine lE (lo:=0) (n:=P.length) (λj J H4=>aT Y H4/\∃k,J=map int k/\k.length=j/\∀u∈k,BB 200 u) (by rw[sizeLine_eq];lia) #[aT.refl _,[],rfl,rfl,by simp] ?_ ?_
  .rintro j J H4 A _ ⟨G,k,rfl,s,p⟩;(dsimp?[wH,cY,bV,cX,bI];try simp_arith[wH,cY,bV,cX,bI,eX])
   have kb:i*P.length+j<=1000:=by
    have:i*P.length<=216*3:=eP #[] t;lia
   refine#[.b (m:=10) (n:=10) (by unfold BB;lia) (by unfold BB;lia),?_];rw[show((i:Int)*(P.length:Int)+j)=((i*P.length+j:Nat):Int) by push_cast;rfl];refine#[sc,ns,_,w,rfl,(N.trans G).seq I,kb,a0,λu H5 B hu=>#[G.trans B,k++[u],by rw[aX];rfl,by rw[bK,s];rfl,λz hz=>?_]];rcases dD.mp hz with hz |hz
   .exact p z hz
   .rw[cP.mp hz];have a1:(10:Nat)^60<2^200:=by decide
    have a2:1000000<(2:Nat)^200:=by decide
    unfold BB;lia
  .rintro J H4 _ ⟨G,k,rfl,s,p⟩ l S;have B:=G.trans (aT.upd (o:=lst (map int k)) S);have y:=N.free (G.free S);have U5:=U.same B;have kl:M.length<=216:=by
    have:M.length=(M.map (·.1)).length:=(aB ..).symm;rw[U.ks,aB,cN]at this;lia
   refine#[_,SqL.of ((N.trans B) _ _ ho),_,x,_,.inr #[M,tk pq,c,U5.hd,rfl,by rw[Cl];exact B _ _ a,by rw[sizeLine_eq];lia,rfl],_,_,_,_,rfl,(N.trans B).put hd,U5.put (rE _) eq aL y (λr hr z=>?_) s p];have:=G _ _ (U.at_ r hr).2.1;rw[z,S]at this;cases this
 .rintro Z Y ⟨M,f,un,O,rfl,N,U⟩;rw[bY]at U;(dsimp?[Lca,Lna]);exact q d M f un Y N U
def Zi:LS:=["_law_sizes_here","_law_number","_law_found","_law_size"]
def Jo(K:aQ):Sp:=λvs H Q _=>∃l ns k,vs=[.ref l,.int (k:Nat)]/\SqL K H l (tv ns)/\Sz ns/\∀p O,aT H O->O p=some (.tup (tv (Mr ns.reverse k)))->Q (.ref p) O
def jW3(l:Addr)(H:Hp)(ns:List Nat)(k:Nat):NS:=λi Z Y=>∃n a x o,Z=[some (.ref l),some (.int (n:Nat)),some (.ref a),o]/\aT H Y/\Y a=some (.tup (tv x))/\x.length=i/\Mr (ns.reverse.drop i) n++x=Mr ns.reverse k
def Kt(K:aQ):TS:=(cE (cS (tOp pZ (iW (aH (tOp gP (aE 1) (aE 3)) bG)) (aE 2)) (bA 2)) (cS (tOp jE (aE 1) (aE 3)) (bA 1)))
def Nv(K:aQ):TS:=(cE (cS (iW bG) (bA 2)) (cE (gD (iRev K (aE 0)) (bA 3) (Kt K)) (cT (aE 2))))
def jWc{K}:RdS K Jo Nv Zi:=by
 rintro j H Q E ⟨l,ns,k,rfl,I,sz,q⟩;rw[show start Zi [ref l,int k]=[some (.ref l),some (.int k),none,none]from rfl];(dsimp?[Nv,gD,iRev]);refine#[sz0,λa ha=>?_];have M:aT H (upd H a (.tup [])):=aT.upd ha;refine#[_,M.seq I,for_rev (K:=K) (a:=l) (xs:=tv ns) (g:=bA 3) (D:={ nx:=cT (aE 2) (eQ Q),rt:=Q }) (jW3 l H ns k) ?_ ?_ ?_ ?_]
 .exact#[k,a,[],none,rfl,M,aL,rfl,by simp]
 .rintro i Z Y _ ⟨_,_,_,_,_,N,_⟩;exact N.seq I
 .rintro i x Z Y r hi ⟨n,a,x,o,rfl,N,A,hx,e⟩;obtain⟨m,hm,rfl⟩:=nB hi;rw[fZ]at hm r;have m1:=sz.ge m (aI hm);have b:=sz.le m (aI hm);have R:=sz.len;(dsimp?[Kt,pZ]);refine#[#[],sz1,λp hp=>#[_,aL,_,(aT.upd hp) _ _ A,?_,λp1 d G O=>#[#[#[],(bb6 b).mono (by decide)],?_]]]
  .rw[fZ];exact lA (by show 1+_<=_;lia)
  .refine#[n/m,p1,(n%m)::x,some (.int m),?_,N.trans ((aT.upd hp).trans G),?_,by rw[dF,hx],?_]
   .rw[Int.fdiv_eq_ediv_of_nonneg _ #[]];rfl
   .rw[O];rfl
   .rw[Xd (l:=ns.reverse) (i:=i) (x:=m) (by rw[List.getElem?_reverse r];exact hm)]at e;rw[←e];show _=(Mr (ns.reverse.drop (i+1)) (n/m)++[n%m])++x;rw[List.append_assoc];rfl
 .rintro Z Y ⟨n,a,x,o,rfl,N,A,hx,e⟩;(dsimp![aE,tC,tOp,rI0,rNe,iN,cT,dB]);rw[fZ,List.drop_eq_nil_of_le (by rw[cM];exact aU _)]at e;exact q a Y N (by rw[A,←e];rfl)
def Uc:LS:=["_law_sizes_here","_law_many","_law_size"]
def Em(K:aQ):Sp:=λvs H Q _=>∃l ns,vs=[.ref l]/\SqL K H l (tv ns)/\Sz ns/\∀p xs O,aT H O->H p=none->O p=some (.lst xs)->Ps O xs (gJ ns.reverse)->Q (.ref p) O
def jXU(l:Addr)(H:Hp)(ns:List Nat):NS:=λi Z Y=>Y=H/\∃o,Z=[some (.ref l),some (.int (qV (ns.take i).reverse:Nat)),o]
def qM(K:aQ):TE:=(cD (Jo K) [] E0 (aH (aE 1) (aH (aE 0) bG)))
def wR(K:aQ):TS:=(cT (dL (iE (aH (aE 1) bG)) [0] (qM K)))
def Hg(K:aQ):TS:=(cS (tOp fO (aE 1) (aE 2)) (bA 1))
def Jb(K:aQ):TS:=(cE (cS (tC (.int 1)) (bA 1)) (cE (gD (cU K (aE 0)) (bA 2) (Hg K)) (wR K)))
def jZh{K}:RdS K Em Jb Uc:=by
 rintro j H Q E ⟨l,ns,rfl,I,sz,q⟩;rw[show start Uc [ref l]=[some (.ref l),none,none]from rfl];(dsimp?[Jb,gD,cU]);refine#[#[_,I],iA (K:=K) (a:=l) (xs:=tv ns) (g:=bA 2) (D:={ nx:=wR K _,rt:=Q }) (jXU l H ns) ?_ ?_ ?_ ?_]
 .exact#[rfl,none,rfl]
 .rintro i Z Y _ ⟨rfl,_⟩;exact I
 .rintro i x Z Y hi ⟨rfl,o,rfl⟩;obtain⟨n,hn,rfl⟩:=nB hi;have A:=sz.le n (aI hn);(dsimp?[Hg]);refine#[.r ((bb6 A).mono (by decide)),rfl,some (.int n),?_];rw[dJ hn,List.reverse_append];show _=[some (ref l),some (int ((qV (ns.take i).reverse*n:Nat):Int)),_];rw[Int.natCast_mul]
 .rintro Z Y ⟨rfl,o,rfl⟩;rw[fZ,bY];(dsimp?[wR,dL,iE]);have hm:=sz.rev.many;rw[cA];refine#[#[],#[],lE (W:=λk J u=>aT Y u/\Ps u J ((range k).map (Mr ns.reverse))) (lA hm) #[aT.refl _,Ps.nil] ?_ ?_]
  .rintro k J u hk _ ⟨T,S⟩;show qM K [some (.int (0+k)),some (.ref l)] u _;(dsimp?[qM];try simp_arith[qM,eX])
   refine#[l,ns,k,rfl,T.seq I,sz,λp m s hp=>#[T.trans s,?_]];rw[List.range_succ,aX];exact(S.same s).app (Ps.one hp)
  .rintro J u hz ⟨T,S⟩ p hp;refine q p J _ (T.trans (aT.upd hp)) (T.free hp) aL ?_;rw[Vu _ sz.rev.ge];exact S.same (aT.upd hp)
def Zf:LS:=["_law_play_here","_law_hand","_law_choice"]
def uB(_:aQ):Sp:=λvs H Q _=>∃a J h c,vs=[.ref a,.int (h:Nat),.int c]/\H a=some (.tup (map int J))/\h<J.length/\J.length<=100/\∀p O,aT H O->O p=some (.tup (map int (J.set h c)))->Q (.ref p) O
def Nu(K:aQ):TS:=(cT (tOp pZ (tOp pZ (tSl Qv (aE 0) hJ (mD (aE 1))) (iW (aH (aE 2) bG))) (tSl Qv (aE 0) (mD (tOp hE (aE 1) (tC (.int 1)))) hJ)))
def jWQ{K}:RdS K uB Nu Zf:=by
 rintro j H Q E ⟨a,J,h,c,rfl,ha,S,i,q⟩;rw[show start Zf [ref a,int h,int c]=[some (.ref a),some (.int h),some (.int c)]from rfl];(dsimp?[Nu,pZ,Qv]);have m:=sF (map int J) none (some (h:Int));have k:=sF (map int J) (some ((h:Int)+1)) none;rw[aB]at m k;refine#[_,ha,λp1 U M h1=>#[sz1,λw n=>?_]];have P:aT U (upd U w (.tup [.int c])):=aT.upd n;refine#[_,P _ _ h1,_,aL,lA (by show _+1<=216;lia),λg Y N R=>?_];refine#[_,N _ _ (P _ _ (M _ _ ha)),λe d G O=>?_];refine#[_,G _ _ R,_,O,lA (by rw[bK];show _+1+_<=216;lia),λf u B I=>q f u (M.trans (P.trans (N.trans (G.trans B)))) ?_];rw[I,Vb,show((h:Int)+1)=((h+1:Nat):Int) by lia,Gh,List.set_eq_take_append_cons_drop,aK S,aX,bV,map_take,List.map_drop,List.append_assoc];rfl
def Ue:LS:=["_law_script","_law_sizes_here","_law_units_here","_law_hand","_law_number","_law_at","_law_one","_law_other","_law_by_here","_law_play_here","_law_row","_law_total"]
structure UR(H0 H:Hp)(kv:List (List Key×V))(qs:fP)(ad:List Nat->Addr)(un:List Nat->List Int)(n b:Nat):Prop where
 ks:kv.map (·.1)=qs.map tk
 at_:∀q∈qs,lZ kv (tk q)=some (.ref (ad q))/\H (ad q)=some (.lst (map int (un q)))/\H0 (ad q)=none/\(un q).length=n/\∀u∈un q,BB b u
 inj:∀q∈qs,∀r∈qs,ad q=ad r->q=r
section
variable{H0 H H':Hp}{d:Addr}{kv:List (List Key×V)}{qs:fP}{ad:List Nat->Addr}{un:List Nat->List Int}{n b c:Nat}
def UD.ur(U:UD H0 H d kv qs ad un n b):UR H0 H kv qs ad un n b:=#[U.ks,U.at_,U.inj]
def UR.lists(U:UR H0 H kv qs ad un n b)(s:∀a F,H a=some (.lst F)->H' a=some (.lst F)):UR H0 H' kv qs ad un n b:=#[U.ks,λq T=>let⟨a,b,c⟩:=U.at_ q T;#[a,s _ _ b,c],U.inj]
def UR.mono(U:UR H0 H kv qs ad un n b)(h:b<=c):UR H0 H kv qs ad un n c:=#[U.ks,λq T=>let⟨a,b,d,e,f⟩:=U.at_ q T;#[a,b,d,e,λu hu=>(f u hu).mono h],U.inj]
def UR.set{q:List Nat}(U:UR H0 H kv qs ad un n b)(T:q∈qs)(hv:BB b v):UR H0 (upd H (ad q) (.lst (map int ((un q).set h v)))) kv qs ad (λr=>if r=q then(un q).set h v else un r) n b:=by
 refine#[U.ks,λr hr=>?_,U.inj];obtain⟨G,P,l,F,f⟩:=U.at_ r hr;show _/\_=some (lst (map int (if r=q then(un q).set h v else un r)))/\_/\(if r=q then(un q).set h v else un r).length=n/\∀u∈(if r=q then(un q).set h v else un r),BB b u;by_cases e:r=q
 .subst e;rw[aK rfl];refine#[G,aL,l,by rw[length_set];exact F,λu hu=>?_];rcases mem_or_eq_of_mem_set hu with hu |rfl
  .exact f u hu
  .exact hv
 .rw[aF e];exact#[G,by rw[cK λz=>e (U.inj r hr q T z)];exact P,l,F,f]
def UR.key(U:UR H0 H kv qs ad un n b)(nd:qs.Nodup){w:List Key×V}(e:kv[i]?=some w):∃q∈qs,qs[i]?=some q/\w.1=tk q/\w.2=.ref (ad q):=by
 have e1:(kv.map (·.1))[i]?=some w.1:=by rw[aZ,e];rfl
 rw[U.ks,aZ]at e1;cases eq:qs[i]? with
 |none=>rw[eq]at e1;cases e1
 |some q=>
  rw[eq]at e1;have C:w.1=tk q:=(aW e1).symm;have T:=aI eq;have v:=Ly (by rw[U.ks];exact wB nd) i (show kv[i]?=some (w.1,w.2)from e);rw[C,(U.at_ q T).1]at v;exact#[q,T,rfl,C,(aW v).symm]
end
def En(K:aQ):Sp:=λvs H Q _=>∃(N:Hp)(sc s d:Addr)(ns:List Int)(ms:List Nat),∃M f un,vs=[.ref sc,.ref s,.ref d]/\SqL K N sc (map int ns)/\SqL K N s (tv ms)/\2<=ms.length/\ms.length<=3/\(∀n∈ms,1<=n/\n<=6)/\aT N H/\UD N H d M (gJ ms.reverse) f un ms.length 200/\∀a O,aT N O->UD N O d M (gJ ms.reverse) f a ms.length 204->Q .non O
def Pl(N:Hp)(pre:St)(d:Addr)(ob:Obj)(M:List (List Key×V))(I:fP)(f:List Nat->Addr)(n b:Nat)(hb:Addr)(B:HO)(X:Nat->(List Nat->List Int)->Prop):NS:=λi Z Y=>∃un O U a,Z=pre++[O,U,a]/\aT N Y/\Y d=some (.frz ob (.dT M))/\Y hb=some B/\UR N Y M I f un n b/\X i un
def Hm(K:aQ):TS:=(cS (tOp lS (tOp hE (tOp jE (aE 11) (tOp hE (tOp (eZ K) (aE 8) (tC (.int 0))) (tOp (eZ K) (aE 8) (tC (.int 1))))) (tOp zL (aE 4) (tC (.int 9)))) (tC (.int 1))) (Dm (aE 10) (aE 3) qT))
def Hl(K:aQ):TS:=(cE (cS (tOp hE (aE 11) (tOp fO (tOp (eZ K) (aE 8) (tC (.int 1))) (tOp (fS K) (mZ (aE 2) (cD (uB K) [] E0 (aH (aE 9) (aH (aE 3) (aH (aE 7) bG))))) (aE 3)))) (bA 11)) (Hm K))
def xB(K:aQ):TS:=(fX (dB (tOp rEq (tOp (eZ K) (aE 9) (aE 3)) (aE 5))) (cE (cS (tOp fO (tOp (eZ K) (aE 8) (tC (.int 0))) (tOp (fS K) (mZ (aE 2) (cD (uB K) [] E0 (aH (aE 9) (aH (aE 3) (aH (aE 6) bG))))) (aE 3))) (bA 11)) (Hl K)) eA)
def wZ(K:aQ):TG:=(jV K 2 (eL (bA 9) (eL (bA 10) jW)))
def wX(K:aQ):TS:=(vI (gD (Dw (aE 2)) (wZ K) (xB K)))
def xA(K:aQ):TS:=(fX (dB (tOp rNe (tOp (eZ K) (aE 9) (aE 3)) (aE 5))) (cS (tOp fO (tOp (fS K) (aE 10) (aE 3)) (tOp hE (tOp (eZ K) (aE 8) (tC (.int 0))) (tOp (eZ K) (aE 8) (tC (.int 1))))) (Dm (aE 10) (aE 3) qT)) eA)
def wY(K:aQ):TG:=(jV K 2 (eL (bA 9) (eL (bA 10) jW)))
def Hk(K:aQ):TS:=(cE (vI (gD (Dw (aE 2)) (wY K) (xA K))) (wX K))
def Hj(K:aQ):TS:=(cE (cS (iW (aH (tOp hE (tC (.int 1)) (tOp gP (aE 4) (tC (.int 3)))) (aH (tOp hE (tC (.int 1)) (tOp gP (tOp zL (aE 4) (tC (.int 3))) (tC (.int 3)))) bG))) (bA 8)) (Hk K))
def Hi(K:aQ):TS:=(cE (cS (tOp gP (tOp hE (aE 5) (tC (.int 2))) (tOp (fS K) (aE 1) (aE 3))) (bA 7)) (Hj K))
def Hh(K:aQ):TS:=(cE (cS (tOp gP (tOp hE (aE 5) (tC (.int 1))) (tOp (fS K) (aE 1) (aE 3))) (bA 6)) (Hi K))
def wW(K:aQ):TS:=(fX (dB (tOp zF (tOp (fS K) (aE 1) (aE 3)) (tC (.int 2)))) (cE (cS (tOp gP (cD (dY K) [] E0 (aH (aE 0) (aH (tC (.int 7)) bG))) (tOp (fS K) (aE 1) (aE 3))) (bA 5)) (Hh K)) eA)
def wV(K:aQ):TS:=(cE (cS (tOp gP (cD (dY K) [] E0 (aH (aE 0) (aH (tC (.int 6)) bG))) (tC (.int 27))) (bA 4)) (wW K))
def Bv(K:aQ):TS:=(cE (cS (tOp gP (cD (dY K) [] E0 (aH (aE 0) (aH (tC (.int 5)) bG))) (tCB (iY K) (aH (aE 1) bG))) (bA 3)) (wV K))
def mean_bb{p t w:Int}(h0:1<=p)(h1:1<=t)(c:BB 203 u)(b:BB 203 v)(d:-10<=w)(x:w<=10):BB 204 ((p*u+t*v).fdiv (p+t)+w):=by
 have hn:0<p+t:=#[];have e:=Int.mul_fdiv_add_fmod (p*u+t*v) (p+t);have m0:=Int.fmod_nonneg_of_pos (p*u+t*v) hn;have m1:=Int.fmod_lt_of_pos (p*u+t*v) hn;have k:(2:Nat)^203*2=2^204:=by decide
 have K:100<(2:Nat)^203:=by decide
 unfold BB at*;generalize (2:Nat)^204=W at k⊢;generalize (2:Nat)^203=V at*;generalize (p*u+t*v).fdiv (p+t)=f at e⊢;generalize (p*u+t*v).fmod (p+t)=m at e m0 m1;have G:p*u<=p*(V:Int):=Int.mul_le_mul_of_nonneg_left #[] #[];have P:t*v<=t*(V:Int):=Int.mul_le_mul_of_nonneg_left #[] #[];have l:p*(-(V:Int))<=p*u:=Int.mul_le_mul_of_nonneg_left #[] #[];have F:t*(-(V:Int))<=t*v:=Int.mul_le_mul_of_nonneg_left #[] #[];have g:f<=V:=by
  refine Int.le_of_mul_le_mul_left (a:=p+t) ?_ hn;rw[Int.add_mul p t (V:Int)];lia
 have lo:-(V:Int)-1<=f:=by
  refine Int.le_of_mul_le_mul_left (a:=p+t) ?_ hn;have:(p+t)*(-(V:Int)-1)=p*(-(V:Int))+t*(-(V:Int))-(p+t):=by grind
  lia
 lia
def UR.turn{N:Hp}{f:List Nat->Addr}{un:List Nat->List Int}{b:Nat}{w:List Key×V}{I s:Addr}(R:UR N Y M (gJ ms.reverse) f un ms.length b)(S:h<ms.length)(hw:M[i]?=some w)(c:Y s=none)(t:Y I=some (.tup (w.1.map kV))):
  ∃r e d,upd Y s (.tup [.ref I,w.2])=d/\aT Y d/\d s=some (.tup [.ref I,.ref (f r)])/\r∈gJ ms.reverse/\(gJ ms.reverse)[i]?=some r/\r.length=ms.length/\UR N d M (gJ ms.reverse) f un ms.length b/\d I=some (.tup (tv r))/\r[h]?=some e/\atI (tv r) (h:Int)=some (.int e):=by
 obtain⟨r,hr,U,g,j⟩:=R.key (rE ms.reverse) hw;rw[g,Cl]at t;have G:=aT.upd (o:=tup [ref I,w.2]) c;have v:r.length=ms.length:=by rw[kN _ r hr,cM]
 have k:=aD (l:=r) (i:=h) #[];exact#[r,_,_,rfl,G,by rw[aL,j],hr,U,v,R.lists λa F h=>G _ _ h,G _ _ t,k,fC (by unfold tv;rw[aZ,k];rfl)]
def jZj{K}:RdS K En Bv Ue:=by
 rintro vs H Q E ⟨H0,sc,s,d,ns,P,kv,ad,un,rfl,I,hs,m2,m3,hm,s0,U,q⟩;rw[show start Ue [ref sc,ref s,ref d]=[some (.ref sc),some (.ref s),some (.ref d),none,none,none,none,none,none,none,none,none]from rfl];have tl:(tv P).length=P.length:=aB ..;(dsimp?[Bv,wV];try simp_arith[Bv,wV,dY])
 refine#[ns,s0.seq I,by decide,_,.inl (s0.seq hs),by rw[tl];lia,ns,s0.seq I,by decide,by decide,?_];have hh:∃h:Nat,ns.getD (Int.toNat 5) 0%((tv P).length:Int)=(h:Int)/\h<P.length:=by
  have a:=Int.emod_nonneg (ns.getD (Int.toNat 5) 0) (show((tv P).length:Int)≠0 by rw[tl];lia);have b:=Int.emod_lt_of_pos (ns.getD (Int.toNat 5) 0) (show 0<((tv P).length:Int) by rw[tl];lia);exact#[(ns.getD (Int.toNat 5) 0%((tv P).length:Int)).toNat,#[],#[]]
 obtain⟨h,eh,S⟩:=hh;rw[eh];have hx:0<=ns.getD (Int.toNat 6) 0%27/\ns.getD (Int.toNat 6) 0%27<27:=#[];generalize ns.getD (Int.toNat 6) 0%27=x at hx;have em:=aD S;have bm:=hm _ (aI em);have am:atI (tv P) (h:Int)=some (.int P[h]):=fC (by unfold tv;rw[aZ,em];rfl);generalize P[h]=m at em bm am;(dsimp?[wW];try simp_arith[wW,dY])
 refine#[_,s0.seq hs,_,am,_,rfl,mC (λe3=>?_) λ_=>q un H s0 #[U.hd,U.d0,U.ks,(U.ur.mono (c:=204) (by decide)).at_,U.inj]];have mI:(0:Int)<m:=#[];have mo:∀z:Int,∃o:Nat,z%(m:Int)=(o:Int)/\o<m:=λz=>by
  have a:=Int.emod_nonneg z (show(m:Int)≠0 by lia);have b:=Int.emod_lt_of_pos z mI;exact#[(z%(m:Int)).toNat,#[],#[]]
 refine#[ns,s0.seq I,by decide,_,s0.seq hs,_,am,_,rfl,mI,?_];obtain⟨a,ea,a3⟩:=mo (ns.getD (Int.toNat 7) 0);rw[ea];(dsimp?[Hh,Hi]);refine#[_,s0.seq hs,_,am,_,rfl,mI,_,s0.seq hs,_,am,_,rfl,mI,?_];obtain⟨O,e1,c9⟩:=mo ((a:Int)+1);obtain⟨o2,C,d3⟩:=mo ((a:Int)+2);have e5:a≠O/\a≠o2:=by
  have hd:∀c:Int,0<c->c<m->∀o:Nat,((a:Int)+c)%(m:Int)=o->a≠o:=λc c0 cm o e z=>by
   subst z;have z:=Int.emod_add_mul_ediv ((a:Int)+c) m;rw[e]at z;generalize ((a:Int)+c)/m=k at z;by_cases k0:k<=0
   .have:=Int.mul_le_mul_of_nonneg_left k0 (bW mI);lia
   .have:=Int.mul_le_mul_of_nonneg_left (show 1<=k by lia) (bW mI);lia
  exact#[hd 1 (by decide) #[] _ e1,hd 2 (by decide) #[] _ C]
 rw[e1,C];(dsimp?[Hj]);refine#[by decide,#[by decide,by decide],by decide,sz2,λbp d4=>?_];have c3:1<=1+x%3/\1+x%3<=3:=#[];have c4:1<=1+x/3%3/\1+x/3%3<=3:=#[];generalize 1+x%3=p at c3;generalize 1+x/3%3=t at c4;have sb:=aT.upd (o:=tup [int p,int t]) d4;have U1:=U.same sb;have M:=s0.trans sb;have c5:(upd H bp (.tup [.int p,.int t])) bp=some (.tup [.int p,.int t]):=aL;generalize upd H bp (.tup [.int p,.int t])=H1 at U1 M c5;have nd:=rE P.reverse;have e6:∀q∈gJ P.reverse,q.length=P.length:=λq T=>by rw[kN _ q T,cM]
 have offD:∀{G:Hp}{u o:HO},G d=some u->(∀F,u≠.lst F)->∀a F,G a=some (.lst F)->(upd G d o) a=some (.lst F):=λhu ne a F h=>by rw[cK λz=>by rw[z,hu]at h;exact ne _ (aW h)];exact h
 have b2:∀{G:Hp}{u o:HO},G d=some u->(∀F,u≠.tup F)->∀a F,G a=some (.tup F)->(upd G d o) a=some (.tup F):=λhu ne a F h=>by rw[cK λz=>by rw[z,hu]at h;exact ne _ (aW h)];exact h
 (dsimp?[Hk,vI,gD,Dw]);intro NF nf;refine#[kv,U1.hd,λob=>?_];refine Jy (g:=wY K) (tb:=xA K) (D:=Xj NF { nx:=wX K (eQ Q),rt:=Q }) (Pl H0 [some (.ref sc),some (.ref s),some (.ref d),some (.int h),some (.int x),some (.int a),some (.int O),some (.int o2),some (.ref bp)] d ob kv (gJ P.reverse) ad P.length 203 bp (.tup [.int p,.int t]) λi un=>∀j q,i<=j->(gJ P.reverse)[j]?=some q->∀u∈un q,BB 200 u) #[un,none,none,none,rfl,M.put U.d0,aL,b2 U1.hd (λ_ z=>by cases z) _ _ c5,(U1.ur.mono (by decide)).lists (offD U1.hd λ_ z=>by cases z),λj q _ e=>(U.at_ q (aI e)).2.2.2.2] ?_ ?_ ?_
 .rintro i Z Y _ ⟨_,_,_,_,_,_,a0,_⟩;exact a0
 .rintro i w ka pp Z Y hw ⟨a5,p1,p2,p3,rfl,N,a0,a9,R,X⟩ b7 b8;obtain⟨r,rh,H4,e4,s4,p4,hr,ei,rn,R4,b4,c6,ah⟩:=R.turn S hw b7 b8;rw[e4];obtain⟨_,b5,r0,rl,rb⟩:=R4.at_ r hr;have J:=N.trans s4;have a6:=s4 _ _ a0;have a4:=s4 _ _ a9;have er:=aD (l:=a5 r) (i:=h) #[];have bu:=X i r (aU _) ei _ (aI er);have au:atI (map int (a5 r)) (h:Int)=some (.int ((a5 r)[h]'#[])):=fC (by rw[aZ,er];rfl);generalize (a5 r)[h]'#[]=u at er bu au;(dsimp?[wY,xA,Dm,qT,Lca,Lna]);refine#[_,SqT.of p4,rfl,_,_,rfl,_,_,rfl,rfl,?_];refine#[_,rfl,_,SqT.of b4,_,ah,rfl,?_];by_cases e:rh=a
  .subst e;rw[aF (by simp)];exact#[a5,_,_,_,rfl,J,a6,a4,R4,λj q A=>X j q #[]]
  .rw[aK (by simp;lia)];have b6:BB 3 (p+t):=by unfold BB;lia
   have bv:BB 203 (u*(p+t)):=bu.mul b6;refine#[_,rfl,_,SqL.of b5,_,au,_,SqT.of a4,_,kP,_,SqT.of a4,_,jR,_,rfl,_,rfl,_,rfl,.b bu b6,_,rfl,_,b5,h,by rw[aB,rl];exact vP #[] #[],?_];rw[←List.map_set];have dr:d≠ad r:=λz=>by rw[z,b5]at a6;cases a6
   have br:bp≠ad r:=λz=>by rw[z,b5]at a4;cases a4
   refine#[_,_,_,_,rfl,J.put r0,by rw[cK dr];exact a6,by rw[cK br];exact a4,R4.set hr bv,λj q A ej=>?_];have:q≠r:=λz=>by
    subst z;have:=(List.getElem?_inj (aO.mp ei).1 nd).mp (ei.trans ej.symm);lia
   show ∀u∈(if q=r then _ else a5 q),BB 200 u;rw[aF this];exact X j q #[] ej
 .rintro Z Y ⟨a5,p1,p2,p3,rfl,N,a0,a9,R,_⟩;refine#[d,kv,ob,(nf d λo u z=>by rw[U1.hd]at z;cases z),a0,?_];have B:=N.put (o:=.dT kv) U.d0;have c7:=b2 (o:=.dT kv) a0 (λ_ z=>by cases z) _ _ a9;have R5:=R.lists (offD (o:=.dT kv) a0 λ_ z=>by cases z);have d5:(upd Y d (.dT kv)) d=some (.dT kv):=aL;generalize upd Y d (.dT kv)=H5 at B c7 R5 d5;(dsimp?[wX,vI,gD,Dw,Lca,Lna]);intro d6 d7;refine#[kv,d5,λob=>?_];refine Jy (g:=wZ K) (tb:=xB K) (D:=Xj d6 (eQ Q)) (Pl H0 [some (.ref sc),some (.ref s),some (.ref d),some (.int h),some (.int x),some (.int a),some (.int O),some (.int o2),some (.ref bp)] d ob kv (gJ P.reverse) ad P.length 204 bp (.tup [.int p,.int t]) λ_ un=>∀q∈gJ P.reverse,q[h]?≠some a->∀u∈un q,BB 203 u) #[a5,p1,p2,p3,rfl,B.put U.d0,aL,b2 d5 (λ_ z=>by cases z) _ _ c7,(R5.mono (by decide)).lists (offD d5 λ_ z=>by cases z),λq T _=>(R5.at_ q T).2.2.2.2] ?_ ?_ ?_
  .rintro i Z Y _ ⟨_,_,_,_,_,_,a0,_⟩;exact a0
  .rintro i w ka pp Z Y hw ⟨a7,p1,p2,p3,rfl,N,a0,a9,R,X⟩ b7 b8;obtain⟨r,rh,H4,e4,s4,p4,hr,ei,rn,R4,b4,c6,ah⟩:=R.turn S hw b7 b8;rw[e4];obtain⟨_,_,r0,rl,rb⟩:=R4.at_ r hr;have J:=N.trans s4;have a6:=s4 _ _ a0;have a4:=s4 _ _ a9;(dsimp?[wZ,xB,Dm,qT,mZ,Lca,Lna]);refine#[_,SqT.of p4,rfl,_,_,rfl,_,_,rfl,rfl,_,rfl,_,SqT.of b4,_,ah,rfl,?_];by_cases e:rh=a
   .subst e;rw[aK rfl];have tz:∀r:List Nat,map int (r.map λn:Nat=>(n:Int))=tv r:=λr=>by unfold tv;rw[List.map_map];rfl
    have other:∀(o:Nat)(G:Hp)(y:Addr),o<m->o≠rh->aT H4 G->G y=some (.tup (tv (r.set h o)))->∃l u,Ij G d (.ref y) (some (.ref l))/\SqL K G l (map int (a7 (r.set h o)))/\atI (map int (a7 (r.set h o))) (h:Int)=some (.int u)/\BB 203 u:=by
     intro o G y o3 ne sG hy;have mem:=jVw hr em o3;obtain⟨v1,v2,_,v4,v5⟩:=R4.at_ _ mem;have eu:=aD (l:=a7 (r.set h o)) (i:=h) #[];refine#[_,(a7 (r.set h o))[h]'#[],.inr #[kv,tk (r.set h o),y,.inr #[ob,sG _ _ a6],rfl,by rw[Cl];exact hy,v1.symm],SqL.of (sG _ _ v2),fC (by rw[aZ,eu];rfl),X _ mem ?_ _ (aI eu)];rw[List.getElem?_set_self #[]];simp only[ne_eq,Option.some.injEq];exact ne
    have c8:∀(o:Nat)(G:Hp)(Q':VK),aT H4 G->(∀y G',aT G G'->G' y=some (.tup (tv (r.set h o)))->Q' (.ref y) G')->uB K [.ref ka,.int h,.int o] G Q' E0:=λo G Q' sG k=>#[ka,r.map λn:Nat=>(n:Int),h,o,rfl,by rw[tz];exact sG _ _ b4,by rw[aB];lia,by rw[aB];lia,λy G' s' hy=>k y G' s' (by rw[hy,show(r.map λn:Nat=>(n:Int)).set h (o:Int)=(r.set h o).map λn:Nat=>(n:Int) by rw[List.map_set],tz])];refine#[_,SqT.of a4,_,kP,c8 O H4 _ (aT.refl _) λy G1 B hy=>?_];obtain⟨f,u1,d1,q1,a1,c1⟩:=other O G1 y c9 #[] B hy;have d8:BB 3 p:=by unfold BB;lia
    have d9:BB 3 t:=by unfold BB;lia
    refine#[_,d1,_,rfl,_,q1,_,a1,_,rfl,_,rfl,.b d8 c1,?_];(dsimp?[Hl,mZ]);refine#[_,SqT.of (B _ _ a4),_,jR,c8 o2 G1 _ B λy2 G2 s6 e0=>?_];have v:=B.trans s6;obtain⟨l2,u2,d2,q2,a2,c2⟩:=other o2 G2 y2 d3 #[] v e0;refine#[_,d2,_,rfl,_,q2,_,a2,_,rfl,_,rfl,.b d9 c2,?_];have a8:=v _ _ (R4.at_ r hr).2.1;have b3:=v _ _ a4;have b9:=v _ _ a6;have R6:=R4.lists λa F h=>v _ _ h;have w0:-10<=x/9-1/\x/9-1<=10:=#[];(dsimp?[Hm,Dm,qT]);refine#[_,SqT.of b3,_,kP,_,SqT.of b3,_,jR,_,rfl,_,rfl,#[#[],by unfold BB;have:=Nat.pow_lt_pow_right (show 1<2 by decide) (show 3<9000 by decide);lia],#[by decide,by decide],_,a8,h,by rw[aB,rl];exact vP #[] #[],?_];rw[←List.map_set];have dr:d≠ad r:=λz=>by rw[z,a8]at b9;cases b9
    have br:bp≠ad r:=λz=>by rw[z,a8]at b3;cases b3
    have mb:=mean_bb c3.1 c4.1 c1 c2 w0.1 w0.2;rw[show(p*u1+t*u2).fdiv (p+t)+(x/9-1)=(p*u1+t*u2).fdiv (p+t)+x/9-1 by lia]at mb;refine#[_,_,_,_,rfl,(J.trans v).put r0,by rw[cK dr];exact b9,by rw[cK br];exact b3,R6.set hr mb,λq T ne=>?_];have:q≠r:=λz=>by rw[z,c6]at ne;exact ne rfl
    show ∀u∈(if q=r then _ else a7 q),BB 203 u;rw[aF this];exact X q T ne
   .rw[aF (by simp;lia)];exact#[a7,_,_,_,rfl,J,a6,a4,R4,X]
  .rintro Z Y ⟨a7,p1,p2,p3,rfl,N,a0,a9,R,_⟩;refine#[d,kv,ob,(d7 d λo u z=>by rw[d5]at z;cases z),a0,?_];have R5:=R.lists (offD (o:=.dT kv) a0 λ_ z=>by cases z);exact q a7 _ (N.put U.d0) #[aL,U.d0,R5.ks,R5.at_,R5.inj]
def Li:LS:=["_law_one","_law_other"]
def jK(_:aQ):Sp:=λvs H Q _=>∃a b,vs=[.int a,.int b]/\Q (.int (Int.gcd a b:Nat)) H
def Az(K:aQ):TS:=(Xf 0 1 (aH (aE 1) (aH (tOp gP (aE 0) (aE 1)) bG)))
def Ah(K:aQ):TS:=(cE (cS (tCB Ii (aH (aE 0) bG)) (bA 0)) (cE (cS (tCB Ii (aH (aE 1) bG)) (bA 1)) (cE (zO (dB (tOp zF (aE 1) (tC (.int 0)))) (Az K)) (cT (aE 0)))))
def Wr{K}:RdS K jK Ah Li:=by
 rintro f H Q E ⟨a,b,rfl,k⟩;rw[show start Li [int a,int b]=[some (.int a),some (.int b)]from rfl];(dsimp![Ah,cE,cS,bA,aE,zF,aH,bG,tCB,Ii,jJ5]);refine Nl (λZ O=>O=H/\∃g s,Z=[some (.int g),some (.int s)]/\0<=g/\0<=s/\Int.gcd g s=Int.gcd a b) (λZ _=>(intO (Z.getD 1 none)).toNat) ?_ ?_ ?_
 .exact#[rfl,_,_,rfl,#[],#[],by simp [Int.gcd]]
 .rintro Z O ⟨rfl,g,s,rfl,hg,hs,e⟩;(dsimp![Az,aE,tC,tOp,rI0,rI,gP,cT,dB,aH,bG,Xf,dH]);refine mC (λhp=>?_) (λhp=>?_)
  .have h1:=Int.emod_nonneg g (b:=s) #[];have h2:=Int.emod_lt_of_pos g hp;simp [hp,h1,hs];refine#[?_,?_]
   .rw[←e,Int.gcd_comm g s,Int.emod_def,Int.gcd_sub_mul_left_right]
   .show max (g%s) 0<s;lia
  .have B:s=0:=#[];subst B;rw[←e,Int.gcd_zero_right]at k;have:((g.natAbs:Nat):Int)=g:=#[];rw[this]at k;exact k
 .intro Z O c d D h;dsimp only[dB,tOp,tC,rI0]at h⊢
  first
  | (obtain⟨v,hv,q⟩:=Bj h
     exact Bi hv (jUU q λi q=>D _ _ q))
  | (obtain⟨v,hv,i,j,hi,A,b,hb,q⟩:=Bj h
     exact Bi hv #[i,j,hi,A,b,hb,D _ _ q])
def Pu:LS:=["_law_top","_law_bottom","_law_by_here"]
def Am(_:aQ):Sp:=λvs H Q _=>∃t b,vs=[.int t,.int b]/\0<b/\BB 9000 b/\∀x y p O,aT H O->O p=some (.tup [.int x,.int y])->Lo t b x y->Q (.ref p) O
def vS(K:aQ):TS:=(cE (cS (cD (jK K) [] E0 (aH (aE 0) (aH (aE 1) bG))) (bA 2)) (cT (iW (aH (tOp jE (aE 0) (aE 2)) (aH (tOp jE (aE 1) (aE 2)) bG)))))
def Zr{K}:RdS K Am vS Pu:=by
 rintro j H Q E ⟨t,b,rfl,hb,bb,q⟩;rw[show start Pu [int t,int b]=[some (.int t),some (.int b),none]from rfl]
 (try dsimp only[vS,cE,cS,bA,aE,tC,tOp,tUn,rI0,rI,rU,hE,lS,fO,jE,zL,gP,zK,jD,kO,rLeI,zF,rGeI,rEq,rNe,iN,cT,fX,dB,tB,zC,eA,cD,aH,bG,iW,mB,tCB,Ii,iY,Qw,tSl,mD,hJ,vG,fS,eZ,xR,tOrV,Ih,tOr,Fe,Xf,jN,jV,eL,jW,Lq0,Lq1,Ls0,Ls1,Lca,Lna,gB,gC,gA];try simp only[vS,cE,cS,bA,aE,tC,tOp,tUn,rI0,rI,rU,hE,lS,fO,jE,zL,gP,zK,jD,kO,rLeI,zF,rGeI,rEq,rNe,iN,cT,fX,dB,tB,zC,eA,cD,aH,bG,iW,mB,tCB,Ii,iY,Qw,tSl,mD,hJ,vG,fS,eZ,xR,tOrV,Ih,tOr,Fe,Xf,jN,jV,eL,jW,Lq0,Lq1,Ls0,Ls1,Option.some.injEq,exists_eq_left',exists_eq_left,V.int.injEq,V.ref.injEq,V.bl.injEq,V.ty.injEq,List.cons.injEq,and_true,true_and,cW,exists_and_left,dH,Lca,Lna,and_assoc,jK,gB,gC,gA,gZ,kR,iM])
 have a:=bb.gcd (i:=t) #[];have r:0<Int.gcd t b:=Int.gcd_pos_of_ne_zero_right _ #[];exact#[#[#[],a],#[#[],a],sz2,λp hp=>q _ _ p _ (aT.upd hp) aL (jJv hb)]
def Dg:LS:=["sizes","size"]
def rO(K:aQ):Sp:=λvs H Q _=>∃l ns,vs=[.ref l]/\SqL K H l (tv ns)/\2<=ns.length/\Sz ns/\Q .non H
def Qs(l:Addr)(H:Hp):NS:=λ_ Z Y=>Y=H/\∃o,Z=[some (.ref l),o]
def uO(K:aQ):TS:=(fX (tOr (dB (tOp kO (aE 1) (tC (.int 1)))) (dB (tOp zF (aE 1) (tC (.int 6))))) jN eA)
def tH(K:aQ):TS:=(cE (fX (tOr (dB (tOp kO (tCB (iY K) (aH (aE 0) bG)) (tC (.int 2)))) (dB (tOp zF (tCB (iY K) (aH (aE 0) bG)) (tC (.int 3))))) jN eA) (gD (cU K (aE 0)) (bA 1) (uO K)))
def Qe{K}:RdS K rO tH Dg:=by
 rintro j H Q E ⟨l,ns,rfl,I,h2,sz,q⟩;have R:=sz.len;rw[show start Dg [ref l]=[some (.ref l),none]from rfl];(dsimp?[tH,gD,cU]);refine#[_,.inl I,?_];rw[fZ,aF #[]];refine#[_,.inl I,?_];rw[fZ,aF #[]];refine#[#[_,I],iA (K:=K) (a:=l) (xs:=tv ns) (g:=bA 1) (D:=(eQ Q)) (Qs l H) ?_ ?_ ?_ ?_]
 .exact#[rfl,none,rfl]
 .rintro i Z Y _ ⟨rfl,_⟩;exact I
 .rintro i x Z Y hi ⟨rfl,o,rfl⟩;obtain⟨n,hn,rfl⟩:=nB hi;have m:=sz.ge n (aI hn);have g2:=sz.le n (aI hn);(dsimp?[uO]);rw[aF #[],aF #[]];exact#[rfl,_,rfl]
 .rintro Z Y ⟨rfl,o,rfl⟩;exact q
def Db:LS:=["lists","told","choices","longer","begun"]
def nI(_:aQ):Sp:=λvs H Q _=>∃l ls cs,vs=[.ref l]/\H l=some (.lst ls)/\Lg H ls cs/\Ch cs/\∀p xs O,aT H O->H p=none->O p=some (.lst xs)->Ps O xs (fW cs.reverse)->Q (.ref p) O
def Fb(c:List Nat)(b:List Nat):fP:=c.map λx=>b++[x]
def Qr(l:Addr)(H:Hp)(cs:fP):NS:=λi Z Y=>∃t xs O U f,Z=[some (.ref l),some (.ref t),O,U,f]/\aT H Y/\H t=none/\Y t=some (.lst xs)/\Ps Y xs (fW (cs.take i).reverse)
def Lu(l t a:Addr)(c:List Nat)(H:Hp)(I:fP):NS:=λj Z Y=>∃g ys f,Z=[some (.ref l),some (.ref t),some (.ref a),some (.ref g),f]/\aT H Y/\H g=none/\Y g=some (.lst ys)/\Ps Y ys ((I.take j).flatMap (Fb c))
def oF(K:aQ):TS:=(cS (aE 3) (bA 1))
def oG(K:aQ):TE:=(tOp pZ (aE 1) (iW (aH (aE 0) bG)))
def uG(K:aQ):TS:=(mE (tBM K "list" jXy (aE 3) (aH (dL (cU K (aE 2)) [4] (oG K)) bG)))
def uF(K:aQ):TS:=(cE (cS (mB bG) (bA 3)) (cE (gD (cU K (aE 1)) (bA 4) (uG K)) (oF K)))
def sZ(K:aQ):TS:=(cE (cS (mB (aH (iW bG) bG)) (bA 1)) (cE (gD (cU K (aE 0)) (bA 2) (uF K)) (cT (aE 1))))
def Jv(c:List Nat):∀I:fP,(I.flatMap (Fb c)).length=I.length*c.length
 | []=>by simp
 |b::I=>by rw[List.flatMap_cons,bK,Jv c I,dF,Nat.succ_mul,Fb,aB];lia
def Qa{K}:RdS K nI sZ Db:=by
 rintro vs H Q E ⟨l,ls,w,rfl,I,rg,ch,q⟩;rw[show start Db [ref l]=[some (.ref l),none,none,none,none]from rfl];(dsimp?[sZ,gD,cU]);refine#[sz0,λa ha=>#[sz1,λt y=>?_]];have M:aT H (upd H a (.tup [])):=aT.upd ha;have P:aT (upd H a (.tup [])) (upd (upd H a (.tup [])) t (.lst [.ref a])):=aT.upd y;have N:=M.trans P;refine#[#[_,SqL.of (N _ _ I)],iA (K:=K) (a:=l) (xs:=ls) (g:=bA 2) (D:={ nx:=cT (aE 1) (eQ Q),rt:=Q }) (Qr l H w) ?_ ?_ ?_ ?_]
 .exact#[t,_,none,none,none,rfl,N,M.free y,aL,Ps.one (P _ _ aL)]
 .rintro i Z Y _ ⟨_,_,_,_,_,_,G,_⟩;exact SqL.of (G _ _ I)
 .rintro i x Z Y hi ⟨t,F,O,U,f,rfl,G,y,hT,R⟩;obtain⟨n,c,hn,rfl,hc⟩:=(rg.same G).get hi;have a3:i<w.length:=(aO.mp hn).1;have n6:=ch.le n (aI hn);have C:=ch.len;have a1:Ch (w.take i).reverse:=Ch.rev #[by rw[cN];lia,λd hd=>ch.le d (mem_of_mem_take hd)];have a2:(fW (w.take i).reverse).length<=36:=cI a1.many (cI (eE (j:=2) (by decide) (by rw[cM,cN];lia)) (by decide));have el:F.length=(fW (w.take i).reverse).length:=R.1;(dsimp?[uF,gD,cU]);refine#[sz0,λg hg=>?_];have B:aT Y (upd Y g (.lst [])):=aT.upd hg;refine#[#[_,SqL.of (B _ _ hT)],iA (K:=K) (a:=t) (xs:=F) (g:=bA 4) (D:={ nx:=oF K _,rt:=Q }) (Lu l t c n Y (fW (w.take i).reverse)) ?_ ?_ ?_ ?_]
  .exact#[g,[],_,rfl,B,hg,aL,Ps.nil]
  .rintro j Z H4 _ ⟨_,_,_,_,X,_⟩;exact SqL.of (X _ _ hT)
  .rintro j x Z H4 A ⟨g,v,o4,rfl,X,hg,o,r⟩;obtain⟨b,a,hb,rfl,ha⟩:=(R.same X).get A;have a4:j<(fW (w.take i).reverse).length:=(aO.mp hb).1;have hy:v.length=j*n.length:=by rw[r.1,Jv,cN];congr 1;lia
   have a0:=X _ _ hc;(dsimp?[uG,mE,tBM,dL,cU]);refine#[.inl #[rfl,_,SqL.of o],#[_,SqL.of a0],dR (K:=K) (a:=c) (xs:=tv n) (λk J u=>aT H4 u/\Ps u J (Fb (n.take k) b)) ?_ #[aT.refl _,Ps.nil] ?_ ?_ ?_]
   .rw[fZ];exact lA #[]
   .rintro k J u _ ⟨T,_⟩;exact SqL.of (T _ _ a0)
   .rintro k x J u hk _ ⟨T,S⟩;obtain⟨m,hm,rfl⟩:=nB hk;show oG K [some (.int m),some (.ref a)] u _;(dsimp?[oG,pZ]);refine#[sz1,λz hz=>?_];have s:aT u (upd u z (.tup [.int m])):=aT.upd hz;refine#[_,s _ _ (T _ _ ha),_,aL,?_,λp H6 e hp=>#[T.trans (s.trans e),?_]]
    .rw[fZ];have:=nY _ b (aI hb);rw[cM,cN]at this;exact lA (by show _+1<=216;lia)
    .unfold Fb;rw[dJ hm,aX];exact(S.same (s.trans e)).app (Ps.one (by rw[hp,jJh];rfl))
   .rintro J u hz ⟨T,S⟩ p hp;rw[fZ,bY]at S;rw[fZ]at hz;have s:aT u (upd u p (.lst J)):=aT.upd hp;refine#[g,p,v,J,rfl,rfl,s _ _ (T _ _ o),aL,?_,?_]
    .rw[hy,hz];have:j*n.length+n.length<=216:=by
      have h1:(j+1)*n.length<=36*6:=eP #[] n6;rw[Nat.succ_mul]at h1;exact h1
     exact lA this
    .refine#[g,_,_,rfl,((X.trans T).trans s).put hg,hg,aL,?_];rw[dJ hb,List.flatMap_append];refine Ps.keep (Ps.app ((r.same T).same s) ?_) (jWz (s _ _ (T _ _ o)));rw[List.flatMap_cons,List.flatMap_nil,cW];exact S.same s
  .rintro Z H4 ⟨g,v,o4,rfl,X,hg,o,r⟩;(dsimp?[oF]);refine#[g,v,_,_,_,rfl,G.trans X,G.free hg,o,?_];rw[el,bY]at r;rw[dJ hn,List.reverse_append];exact r
 .rintro Z Y ⟨t,F,O,U,f,rfl,G,y,hT,R⟩;(dsimp![aE,tC,tOp,rI0,rNe,iN,cT,dB]);rw[rg.1,bY]at R;exact q t F Y G y hT R
def Px:LS:=["sizes"]
def Ao(K:aQ):Sp:=λvs H Q _=>∃l ns,vs=[.ref l]/\SqL K H l (tv ns)/\Sz ns/\∀p xs O,aT H O->H p=none->O p=some (.lst xs)->Ps O xs (gJ ns.reverse)->Q (.ref p) O
def Cs(K:aQ):TE:=(zJ (aE 0))
def Ed(K:aQ):TS:=(cT (cD (nI K) [] E0 (aH (dL (cU K (aE 0)) [] (Cs K)) bG)))
def rng_tv(n:Nat):map int (tU n)=tv (range n):=by unfold tU tv;rw[List.map_map];rfl
def Sz.ch(sz:Sz ns):Ch (ns.map range):=#[by rw[aB];exact sz.len,λc hc=>by obtain⟨n,hn,rfl⟩:=cV.mp hc;rw[iB];exact sz.le n hn]
def Vz{n:Nat}(b:Lg Y ys ((ns.take i).map range))(hn:ns[i]?=some n)(hp:Y p=none):Lg (upd Y p (.lst (map int (tU n)))) (ys++[.ref p]) ((ns.take (i+1)).map range):=by
 rw[dJ hn,aX];exact(b.same (aT.upd hp)).snoc (by rw[aL,rng_tv])
def Zt{K}:RdS K Ao Ed Px:=by
 rintro j H Q E ⟨l,ns,rfl,I,sz,q⟩;rw[show start Px [ref l]=[some (.ref l)]from rfl];have u:=sz.len;(dsimp?[Ed,dL,cU]);refine#[#[_,I],dR (K:=K) (a:=l) (xs:=tv ns) (λi J Y=>aT H Y/\Lg Y J ((ns.take i).map range)) ?_ #[aT.refl _,Lg.nil] ?_ ?_ ?_]
 .rw[fZ];exact lA #[]
 .rintro i v Y _ ⟨N,_⟩;exact N.seq I
 .rintro i x v Y hi _ ⟨N,b⟩;obtain⟨n,hn,rfl⟩:=nB hi;have A:=sz.le n (aI hn);(dsimp?[Cs,cY,cX,zJ]);exact#[n,rfl,#[],λp hp=>#[N.trans (aT.upd hp),Vz b hn hp]]
 .rintro v Y _ ⟨N,b⟩ p hp;rw[fZ,bY]at b;have G:aT Y (upd Y p (.lst v)):=aT.upd hp;refine#[p,v,ns.map range,rfl,aL,b.same G,sz.ch,λo F O B m c R=>q o F O ((N.trans G).trans B) ((N.trans G).free m) c ?_];rw[Yj,List.map_reverse];exact R
def Dh:LS:=["cells","plays","hands","play"]
def rP(K:aQ):Sp:=λvs H Q _=>∃c p kvs xs I d B,vs=[.ref c,.ref p,.int (d:Nat)]/\H c=some (.dT kvs)/\H p=some (.lst xs)/\Ps H xs I/\(∀q∈I,Ki H kvs B q)/\(∀q∈I,(B q).length=d)/\kvs.length=I.length/\Q .non H
def Qt(c p:Addr)(d:Nat)(H:Hp):NS:=λ_ Z Y=>Y=H/\∃o,Z=[some (.ref c),some (.ref p),some (.int d),o]
def oM(K:aQ):TS:=(fX (dB (tOp rNe (tCB Xq (aH (aE 0) bG)) (tCB (iY K) (aH (aE 1) bG)))) jN eA)
def uP(K:aQ):TS:=(cE (fX (tB (Vj (aE 3) (aE 0))) jN eA) (fX (dB (tOp rNe (tCB (iY K) (aH (mZ (aE 0) (aE 3)) bG)) (aE 2))) jN eA))
def tI(K:aQ):TS:=(cE (gD (cU K (aE 1)) (bA 3) (uP K)) (oM K))
def Qf{K}:RdS K rP tI Dh:=by
 rintro j H Q E ⟨c,p,J,F,I,d,B,rfl,hc,hp,R,ok,e,S,q⟩;rw[show start Dh [ref c,ref p,int d]=[some (.ref c),some (.ref p),some (.int d),none]from rfl];(dsimp?[tI,gD,cU]);refine#[#[_,SqL.of hp],iA (K:=K) (a:=p) (xs:=F) (g:=bA 3) (D:={ nx:=oM K _,rt:=Q }) (Qt c p d H) ?_ ?_ ?_ ?_]
 .exact#[rfl,none,rfl]
 .rintro i Z Y _ ⟨rfl,_⟩;exact SqL.of hp
 .rintro i x Z Y hi ⟨rfl,o,rfl⟩;obtain⟨b,a,hb,rfl,ha⟩:=R.get hi;obtain⟨l,hv,C⟩:=ok b (aI hb);have f:=e b (aI hb);have y:Y a=some (.tup ((tk b).map kV)):=by rw[Cl];exact ha
  (dsimp?[uP,Vj,mZ]);refine#[_,Ij.t hc y,?_];rw[hv];refine yV ?_;refine#[_,by rw[←hv];exact Ij.t hc y,?_];exact#[l,rfl,_,.inl (SqL.of C),iteNS (by rw[f]) #[rfl,_,rfl]]
 .rintro Z Y ⟨rfl,o,rfl⟩;(dsimp?[oM,Xq]);refine#[_,hc,_,.inl (SqL.of hp),?_];rw[S,R.1];refine iteNS rfl q
def Ic:LS:=["self","sizes","cells","plays","play"]
noncomputable def Dn(m d:Addr):List (Str×V):=gX "cells" (.ref d) (gX "many" (.ref m) [])
structure zN(K:aQ)(H:Hp)(t:Addr)(ns:List Nat)(cont:List Nat->List V):Prop where
 ob:∃dx m d kv,H t=some (.ins (eI K "Table") dx (Dn m d))/\H m=some (.lst (tv ns))/\H d=some (.dT kv)/\∀q∈gJ ns.reverse,Ki H kv cont q
def tR(K:aQ):Sp:=λvs H Q _=>∃t w s c ns kvs B,vs=[.ref t,.ref s,.ref c]/\H t=some (.ins (eI K "Table") w [])/\SqL K H s (tv ns)/\2<=ns.length/\Sz ns/\H c=some (.dT kvs)/\(∀q∈gJ ns.reverse,Ki H kvs B q)/\(∀q∈gJ ns.reverse,(B q).length=ns.length)/\kvs.length=(gJ ns.reverse).length/\
 ∀O,Sb t H O->zN K O t ns B->Q .non O
def Rn(K:aQ)(t w s c p m d:Addr)(ns:List Nat)(B:List Nat->List V)(H:Hp)(xs:List V):NS:=λi Z Y=>∃kvs o,Z=[some (.ref t),some (.ref s),some (.ref c),some (.ref p),o]/\Sb t H Y/\Y t=some (.ins (eI K "Table") w (Dn m d))/\Y m=some (.lst (tv ns))/\Y p=some (.lst xs)/\Ps Y xs (gJ ns.reverse)/\
 H d=none/\Y d=some (.dT kvs)/\kvs.length<=i/\∀q∈(gJ ns.reverse).take i,Ki Y kvs B q
def yL(K:aQ):TS:=(Kh (gW K (aE 0) "cells") (aE 4) (tCB (sB K) (aH (mZ (aE 2) (aE 4)) bG)))
def xK(K:aQ):TS:=(cE (mE (cD (rO K) [] E0 (aH (aE 1) bG))) (cE (cS (cD (Ao K) [] E0 (aH (aE 1) bG)) (bA 3)) (cE (mE (cD (rP K) [] E0 (aH (aE 2) (aH (aE 3) (aH (tCB (iY K) (aH (aE 1) bG)) bG))))) (cE (zE K (aE 0) (tCB (sB K) (aH (aE 1) bG)) "many") (cE (zE K (aE 0) Ds "cells") (gD (cU K (aE 3)) (bA 4) (yL K)))))))
def cm:¬("many":Str)="cells":=by decide+kernel
def Tf(m d:Addr):(Dn m d).lookup ("many":Str)=some (.ref m):=by
 unfold Dn;rw[lF,aF cm,lF,aK rfl]
def Pp(m d:Addr):(Dn m d).lookup ("cells":Str)=some (.ref d):=by
 unfold Dn;rw[lF,aK rfl]
def We(m d:Addr){x:Str}(h1:¬x="cells")(h2:¬x="many"):(Dn m d).lookup x=none:=by
 unfold Dn;rw[lF,aF h1,lF,aF h2]
 all_goals rfl
def Sb.keepT{t w:Addr}{fs:List (Str×V)}(s:Sb t H O)(h:H t=some (.ins C w fs)):jXt H O:=λa F e=>s a _ e (kS e h (by intro z;cases z))
def Sb.put{t d:Addr}(s:Sb t H G)(h:H d=none):Sb t H (upd G d o):=λb u e hb=>by rw[cK (dW e h)];exact s b u e hb
def Rg{K vs H Q E}(T:TabK K)(h:tR K vs H Q E):xK K (eQ Q) (start Ic vs) H:=by
 obtain⟨t,w,s,c,ns,J,B,rfl,y,I,h2,sz,hc,ok,oh,S,q⟩:=h;rw[show start Ic [ref t,ref s,ref c]=[some (.ref t),some (.ref s),some (.ref c),none,none]from rfl];(dsimp?[xK,mE,zE,Ds,sB,gD,cU]);refine#[s,ns,rfl,I,h2,sz,s,ns,rfl,I,sz,λp F U M hp hP R=>?_];refine#[_,.inl (M.seq I),?_];rw[fZ];refine#[c,p,J,F,gJ ns.reverse,ns.length,B,rfl,M _ _ hc,hP,R,λq hq=>(ok q hq).same M,oh,S,?_];refine#[_,.inl (M.seq I),λm hm=>?_];have P:aT U (upd U m (.lst (tv ns))):=aT.upd hm;generalize C:upd U m (.lst (tv ns))=j at P;have m2:j m=some (.lst (tv ns)):=by rw[←C];exact aL
 have A:j t=some (.ins (eI K "Table") w []):=P _ _ (M _ _ y);refine#[_,w,[],A,T.cl,T.nM,by show 0<1000;decide,λd hd=>?_];have t3:(upd j t (.ins (eI K "Table") w (gX "many" (.ref m) []))) t=some (.ins (eI K "Table") w (gX "many" (.ref m) [])):=aL;have a0:t≠d:=dW t3 hd;refine#[_,w,_,(by rw[cK a0];exact t3),T.cl,T.nC,by show 1<1000;decide,?_];have b1:Sb t j (upd (upd (upd j t (.ins (eI K "Table") w (gX "many" (.ref m) []))) d (.dT [])) t (.ins (eI K "Table") w (Dn m d))):=(Sb.at.trans (Sb.of (aT.upd hd))).trans Sb.at;have O:(upd (upd (upd j t (.ins (eI K "Table") w (gX "many" (.ref m) []))) d (.dT [])) t (.ins (eI K "Table") w (Dn m d))) d=some (.dT []):=by rw[cK a0.symm];exact aL
 have Y:(upd (upd (upd j t (.ins (eI K "Table") w (gX "many" (.ref m) []))) d (.dT [])) t (.ins (eI K "Table") w (Dn m d))) t=some (.ins (eI K "Table") w (Dn m d)):=aL;have a3:H d=none:=Sb.free ((Sb.of (M.trans P)).trans Sb.at) hd a0.symm;rw[show gX "cells" (ref d) (gX "many" (ref m) [])=Dn m d from rfl];generalize (upd (upd (upd j t (.ins (eI K "Table") w (gX "many" (.ref m) []))) d (.dT [])) t (.ins (eI K "Table") w (Dn m d)))=u at b1 O Y;have b0:Sb t H u:=(Sb.of (M.trans P)).trans b1;have mt:m≠t:=kS m2 A (by intro z;cases z);have pt:p≠t:=kS (P _ _ hP) A (by intro z;cases z);have p5:u p=some (.lst F):=b1 _ _ (P _ _ hP) pt;have k:Ps u F (gJ ns.reverse):=(R.same P).keep (b1.keepT A);have a7:(gJ ns.reverse).length<=216:=sz.rev.ord;refine#[p,rfl,#[_,SqL.of p5],iA (K:=K) (a:=p) (xs:=F) (g:=bA 4) (D:=(eQ Q)) (Rn K t w s c p m d ns B H F) ?_ ?_ ?_ ?_]
 .exact#[[],none,rfl,b0,Y,b1 _ _ m2 mt,p5,k,a3,O,aU _,λq hq=>(by simp at hq)]
 .rintro i Z G _ ⟨_,_,_,_,_,_,hp,_⟩;exact SqL.of hp
 .rintro i x Z G hi ⟨kv,o,rfl,v,tG,mG,pG,a1,hd,dG,hk,N⟩;obtain⟨b,a,hb,rfl,ha⟩:=a1.get hi;have r:i<(gJ ns.reverse).length:=(aO.mp hb).1;obtain⟨l,hv,hL⟩:=ok b (aI hb);have cG:G c=some (.dT J):=v _ _ hc (kS hc y (by intro z;cases z));have lG:G l=some (.lst (B b)):=v _ _ hL (kS hL y (by intro z;cases z));have aG:G a=some (.tup ((tk b).map kV)):=by rw[Cl];exact ha
  (dsimp?[yL,Kh,mZ,gW,sB]);refine#[_,by rw[←hv];exact Ij.t cG aG,?_];refine#[l,rfl,_,.inl (SqL.of lG),λf a4=>?_];have X:aT G (upd G f (.lst (B b))):=aT.upd a4;have d6:(upd G f (.lst (B b))) d=some (.dT kv):=X _ _ dG;refine#[_,_,_,X _ _ tG,T.cl,T.nC,_,Pp _ _,d,rfl,_,DPut.t d6 (X _ _ aG) (small' #[]),?_];refine#[_,_,rfl,(v.trans (Sb.of X)).put hd,?_,?_,?_,?_,hd,aL,?_,?_]
  .rw[cK (kS (X _ _ tG) d6 (by intro z;cases z))];exact X _ _ tG
  .rw[cK (kS (X _ _ mG) d6 (by intro z;cases z))];exact X _ _ mG
  .rw[cK (kS (X _ _ pG) d6 (by intro z;cases z))];exact X _ _ pG
  .exact(a1.same X).keep λb F e=>by rw[cK (kS e d6 (by intro z;cases z))];exact e
  .have:=Av kv (tk b) (ref f);lia
  .intro q hq;rw[dJ hb]at hq;have a5:f≠d:=kS aL d6 (by intro z;cases z);by_cases e:q=b
   .subst e;exact#[f,by rw[Nm,aK rfl],by rw[cK a5];exact aL]
   .have n:q∈(gJ ns.reverse).take i:=by
     rcases dD.mp hq with h |h
     .exact h
     .exact absurd (cP.mp h) e
    obtain⟨l2,a6,a2⟩:=N q n;exact#[l2,by rw[Nm,aF (λz=>e (Dr z))];exact a6,by rw[cK (kS (X _ _ a2) d6 (by intro z;cases z))];exact X _ _ a2]
 .rintro Z G ⟨kv,o,rfl,v,tG,mG,_,_,_,dG,_,N⟩;rw[show F.length=(gJ ns.reverse).length from R.1,bY]at N;exact q G v #[w,m,d,kv,tG,mG,dG,N]
def zN.same{t:Addr}{B:List Nat->List V}(h:zN K H t ns B)(s:aT H O):zN K O t ns B:=let⟨dx,m,d,kv,h1,h2,h3,h4⟩:=h.ob;#[dx,m,d,kv,s _ _ h1,s _ _ h2,s _ _ h3,λq T=>(h4 q T).same s]
def zN.ins{K:aQ}{H:Hp}{t:Addr}{ns:List Nat}{B:List Nat->List V}(h:zN K H t ns B):∃w m d,H t=some (.ins (eI K "Table") w (Dn m d)):=let⟨w,m,d,_,h1,_⟩:=h.ob;#[w,m,d,h1]
def Ua:LS:=["_law_units_here","_law_sizes_here","_law_scale","_law_cells","_law_play_here","_law_row"]
structure TabF(K:aQ)(H:Hp)(t:Addr)(ns:List Nat)(e:List Nat->Nat->Int×Int):Prop where
 ex:∃cont,zN K H t ns cont/\∀q∈gJ ns.reverse,∃ps,cont q=map ref ps/\dC K H ps (ofF ns.length (e q))
def TabF.same{t:Addr}(h:TabF K H t ns e)(s:aT H O):TabF K O t ns e:=let⟨c,a,b⟩:=h.ex;#[c,a.same s,λq T=>let⟨ps,x,y⟩:=b q T;#[ps,x,y.same s]]
def Ek(K:aQ):Sp:=λvs H Q _=>∃(N:Hp)(d s:Addr)(S:Int)(ms:List Nat),∃M f un,vs=[.ref d,.ref s,.int S]/\0<S/\BB 31 S/\SqL K H s (tv ms)/\2<=ms.length/\ms.length<=3/\(∀n∈ms,1<=n/\n<=6)/\UD N H d M (gJ ms.reverse) f un ms.length 204/\∀t O,aT H O->TabF K O t ms (λq i=>lo2 ((un q).getD i 0) S)->Q (.ref t) O
def FrL(S:Int)(K:aQ)(H:Hp)(vs:List V)(us:List Int):Prop:=∃ps,vs=map ref ps/\dC K H ps (us.map λu=>lo2 u S)
def jXV(S:Int)(K:aQ)(b:Hp)(d s c:Addr)(ob:Obj)(M:List (List Key×V))(I:fP)(un:List Nat->List Int):NS:=λi Z Y=>∃a B O U,Z=[some (.ref d),some (.ref s),some (.int S),some (.ref c),O,U]/\aT b Y/\Y c=some (.dT a)/\Kc Y a B (I.take i)/\∀q∈I.take i,FrL S K Y (B q) (un q)
def wJ(K:aQ):TS:=(cT (Cm (eI K "Table") (tR K) [] E0 (aH (tCB (sB K) (aH (aE 1) bG)) (aH (aE 3) bG))))
def Hf(K:aQ):TE:=(cD (Am K) [] E0 (aH (aE 0) (aH (aE 1) bG)))
def wL(K:aQ):TS:=(Kh (aE 3) (aE 4) (dL (cU K (aE 5)) [2] (Hf K)))
def wK(K:aQ):TG:=(jV K 2 (eL (bA 4) (eL (bA 5) jW)))
def He(K:aQ):TS:=(cE (vI (gD (Dw (aE 0)) (wK K) (wL K))) (wJ K))
def Ja(K:aQ):TS:=(cE (cS Ds (bA 3)) (He K))
def SqT.offD{r:Addr}(h:SqT K H p xs)(hr:Rd H r (.dT M)):SqT K (upd H r o) p xs:=by
 have n:∀{u:HO},H p=some u->(u=.tup xs∨∃o,u=.frz o (.tup xs))->p≠r:=λhp hu e=>by
  subst e;rcases hr with hr |⟨o,hr⟩<;>rw[hp]at hr<;>cases hr<;>rcases hu with hu |⟨_,hu⟩<;>cases hu
 rcases h with(h |⟨o,h⟩)|h
 .exact .inl (.inl (by rw[cK (n h (.inl rfl))];exact h))
 .exact .inl (.inr #[o,by rw[cK (n h (.inr #[_,rfl]))];exact h])
 .exact .inr h
def dC.offD{r:Addr}(hr:Rd H r (.dT M)):∀{ps:List Addr}{fs:fV},dC K H ps fs->dC K (upd H r o) ps fs
 | [],[],_=>trivial
 |_::_,_::_,⟨h,t⟩=>#[SqT.offD h hr,dC.offD hr t]
def jZf{K}:RdS K Ek Ja Ua:=by
 rintro vs H Q E ⟨H0,d,s,S,P,M,ad,un,rfl,S0,bS,hs,m2,m3,hm,U,q⟩;rw[show start Ua [ref d,ref s,int S]=[some (.ref d),some (.ref s),some (.int S),none,none,none]from rfl];(dsimp?[Ja,Ds]);intro c hc;(dsimp?[He,vI,gD,Dw]);intro NF nf;have cd:d≠c:=λz=>by have:=U.hd;rw[z,hc]at this;cases this
 have b0:(upd H c (.dT [])) d=some (.dT M):=by rw[cK cd];exact U.hd
 refine#[M,b0,λob=>?_];have nd:=rE P.reverse;have sz:Sz P:=#[m3,λn h=>(hm n h).1,λn h=>by have:=(hm n h).2;lia];have d1:=sz.rev.ord;have cb:(upd H d (.frz ob (.dT M))) c=none:=by rw[cK (Ne.symm cd)];exact hc
 have base:aT (upd H d (.frz ob (.dT M))) (upd (upd H c (.dT [])) d (.frz ob (.dT M))):=λb o e=>by
  by_cases z:b=d
  .rw[z,aL]at e⊢;exact e
  .rw[cK z]at e⊢;rw[cK λw=>by rw[w,hc]at e;cases e];exact e
 have RB:UR H0 (upd H d (.frz ob (.dT M))) M (gJ P.reverse) ad un P.length 204:=U.ur.lists λa F h=>by rw[cK λz=>by rw[z,U.hd]at h;cases h];exact h
 have db:(upd H d (.frz ob (.dT M))) d=some (.frz ob (.dT M)):=aL;have thaw:∀O,aT (upd H d (.frz ob (.dT M))) O->aT H (upd O d (.dT M)):=λO s b v e=>by
  by_cases z:b=d
  .rw[z,aL,←e,z,U.hd]
  .rw[cK z];exact s b v (by rw[cK z];exact e)
 have c1:(upd (upd H c (.dT [])) d (.frz ob (.dT M))) c=some (.dT []):=by rw[cK (Ne.symm cd)];exact aL
 generalize upd H d (.frz ob (.dT M))=Hb at cb base RB db thaw;refine Jy (g:=wK K) (tb:=wL K) (D:=Xj NF { nx:=wJ K (eQ Q),rt:=Q }) (jXV S K Hb d s c ob M (gJ P.reverse) un) #[[],λ_=>[],none,none,rfl,base,c1,#[rfl,λi q e=>by simp at e],λq T=>by simp at T] ?_ ?_ ?_
 .rintro i Z Y _ ⟨_,_,_,_,_,N,_⟩;exact N _ _ db
 .rintro i w I pp Z Y hw ⟨a0,B,o1,o2,rfl,N,a7,kc,fl⟩ b9 b1;obtain⟨r,hr,ei,c2,c3⟩:=RB.key nd hw;rw[c2]at b1;rw[c3];obtain⟨_,b2,_,rl,rb⟩:=RB.at_ r hr;have G:=aT.upd (o:=tup [ref I,ref (ad r)]) b9;have c4:=N.trans G;have a3:=c4 _ _ b2;(dsimp?[wK,wL,Kh,dL,cU]);refine#[_,SqT.of aL,rfl,_,_,rfl,_,_,rfl,rfl,_,rfl,#[_,SqL.of a3],dR (K:=K) (a:=ad r) (xs:=map int (un r)) (λj J H5=>aT (upd Y pp (.tup [.ref I,.ref (ad r)])) H5/\FrL S K H5 J ((un r).take j)) (by rw[aB,sizeLine_eq];lia) #[aT.refl _,[],rfl,trivial] ?_ ?_ ?_]
  .rintro j J H5 _ ⟨s5,_⟩;exact SqL.of (s5 _ _ a3)
  .rintro j x J H5 hx _ ⟨s5,X,rfl,hf⟩;obtain⟨u,rfl,hu⟩:=fJ hx;(dsimp?[Hf]);simp only[cY,bV,cX,bI];refine#[u,S,rfl,S0,bS.mono (by decide),λx y p m s6 hp lo=>#[s5.trans s6,X++[p],by rw[aX];rfl,?_]];rw[dJ hu,aX];have e:(x,y)=lo2 u S:=by
    obtain⟨e1,C⟩:=(eO (t:=u) S0).uniq S0 lo;exact Prod.ext e1.symm C.symm
   refine dC.snoc (hf.same s6) ?_;show SqT K m p [int (lo2 u S).1,int (lo2 u S).2];rw[←e];exact SqT.of hp
  .rintro J H5 _ ⟨s5,fz⟩ p b3;rw[aB,bY]at fz;have s6:=s5.trans (aT.upd (o:=lst J) b3);have p6:(upd H5 p (.lst J)) p=some (.lst J):=aL;have b4:FrL S K (upd H5 p (.lst J)) J (un r):=let⟨R,a,b⟩:=fz;#[R,a,b.same (aT.upd b3)];generalize upd H5 p (.lst J)=m at s6 p6 b4;have a4:=G.trans s6;have a1:=a4 _ _ a7;have n0:=kc.new nd ei;have nt:=Eu nd ei;have kl:=kc.1;rw[cN]at kl;have a5:∀b F,m b=some (.lst F)->(upd m c (.dT (a0++[(tk r,.ref p)]))) b=some (.lst F):=λb F e=>by rw[cK λz=>by rw[z,a1]at e;cases e];exact e
   have a6:∀{vs:List V}{k:List Int},FrL S K m vs k->FrL S K (upd m c (.dT (a0++[(tk r,.ref p)]))) vs k:=λ⟨R,a,b⟩=>#[R,a,dC.offD (.inl a1) b];refine#[_,.inr #[a0,tk r,I,a1,rfl,a4 _ _ b1,by rw[sizeLine_eq];lia,rfl],a0++[(tk r,.ref p)],λq'=>if q'=r then J else B q',_,_,rfl,(N.trans a4).put cb,by rw[aL,zW _ n0],?_,λq' a2=>?_]
   .rw[zW _ n0];refine Kc.snoc (((kc.same a4).off a5).cong λq' h'=>aF λ(z:q'=r)=>nt (by rw[←z];exact h')) ei (a5 _ _ ?_);rw[aK rfl];exact p6
   .rw[zW _ n0];rw[dJ ei]at a2;show FrL S K _ (if q'=r then J else B q') (un q');by_cases e:q'=r
    .rw[aK e,e];exact a6 b4
    .rw[aF e];rcases dD.mp a2 with a2 |a2
     .obtain⟨R,a,b⟩:=fl q' a2;exact a6 #[R,a,b.same a4]
     .exact absurd (cP.mp a2) e
 .rintro Z Y ⟨a0,B,o1,o2,rfl,N,a7,kc,fl⟩;have c5:M.length=(gJ P.reverse).length:=by rw[←aB (f:=(·.1)),U.ks,aB]
  rw[c5,bY]at kc fl;refine#[d,M,ob,(nf d λo u z=>by rw[b0]at z;cases z),N _ _ db,?_];have s5:=thaw _ N;have d3:=N _ _ db;have b5:(upd Y d (.dT M)) c=some (.dT a0):=by rw[cK (Ne.symm cd)];exact a7
  have a8:Kc (upd Y d (.dT M)) a0 B (gJ P.reverse):=kc.off λb F e=>by rw[cK λz=>by rw[z,d3]at e;cases e];exact e
  have a9:∀q∈gJ P.reverse,FrL S K (upd Y d (.dT M)) (B q) (un q):=λq T=>let⟨R,a,b⟩:=fl q T;#[R,a,dC.offD (.inr #[ob,d3]) b];generalize upd Y d (.dT M)=H5 at s5 b5 a8 a9;(dsimp?[wJ,Cm,sB]);refine#[tv P,.inl (s5.seq hs),λsl c6=>?_];have s6:=aT.upd (o:=lst (tv P)) c6;have b6:(upd H5 sl (.lst (tv P))) sl=some (.lst (tv P)):=aL;have a1:=s6 _ _ b5;generalize upd H5 sl (.lst (tv P))=m at s6 b6 a1;intro t dx ht c7 ne;have s7:aT m (upd (upd m dx (.own t)) t (.ins (eI K "Table") dx [])):=(aT.upd c7).put ht;have t7:(upd (upd m dx (.own t)) t (.ins (eI K "Table") dx [])) t=some (.ins (eI K "Table") dx []):=aL;generalize (upd (upd m dx (.own t)) t (.ins (eI K "Table") dx []))=H7 at s7 t7;have cl:∀q∈gJ P.reverse,(B q).length=P.length:=λq T=>by
   obtain⟨R,a,b⟩:=a9 q T;rw[a,aB,b.length,aB];exact(U.at_ q T).2.2.2.1
  refine#[t,dx,sl,c,P,a0,B,rfl,t7,SqL.of (s7 _ _ b6),m2,sz,s7 _ _ a1,λq T=>(a8.cells nd q T).same (s6.trans s7),cl,a8.1,λH8 b8 c8=>#[rfl,?_]];have c9:aT m H8:=λb u e=>b8 b u (s7 b u e) (dW e ht);have b7:=s6.trans c9;refine q t H8 (s5.trans b7) #[B,c8,λq T=>?_]
  .obtain⟨R,a,b⟩:=a9 q T;refine#[R,a,?_];have e:(un q).map (λu=>lo2 u S)=ofF P.length λi=>lo2 ((un q).getD i 0) S:=by
    have l:=(U.at_ q T).2.2.2.1;refine List.ext_getElem? λj=>?_;by_cases A:j<P.length
    .rw[eU _ A,aZ,aD #[],aJ,aD #[]];rfl
    .rw[cC (by rw[aB];lia),cC (by rw[bF];lia)]
   rw[←e];exact b.same b7
def Zj:LS:=["_law_script","_law_sizes_here","_law_kept_here","_law_hand","_law_bits","_law_some"]
def Jp(K:aQ):Sp:=λvs H Q _=>∃a b ns ms,vs=[.ref a,.ref b]/\SqL K H a (map int ns)/\H b=some (.lst (tv ms))/\ms.length<=3/\(∀n∈ms,1<=n/\n<=6)/\∀p xs ks O,aT H O->O p=some (.lst xs)->Lg O xs ks->Kp ms ks->Q (.ref p) O
def uC(a b:Addr)(ms:List Nat)(H:Hp):NS:=λi Z Y=>∃p xs ks O U f,Z=[some (.ref a),some (.ref b),some (.ref p),O,U,f]/\aT H Y/\H p=none/\Y p=some (.lst xs)/\Lg Y xs ks/\Kp (ms.take i) ks
def sH(K:aQ):TS:=(mE (tBM K "list" vM (aE 2) (aH (aE 5) bG)))
def Kv(K:aQ):TS:=(cE (fX (tOr (dB (tOp rEq (tOp gP (aE 4) (tC (.int 2))) (tC (.int 0)))) (dB (tOp (rEqD K 0) (aE 5) (mB bG)))) (cS (zJ (tOp (fS K) (aE 1) (aE 3))) (bA 5)) eA) (sH K))
def Af(K:aQ):TE:=(aE 0)
def Ku(K:aQ):TS:=(cE (cS (pL (iE (aH (tOp (fS K) (aE 1) (aE 3)) bG)) [4] (dB (tOp rEq (tOp gP (tOp jE (aE 1) (tOp (fS K) (mB (aH (tC (.int 2)) (aH (tC (.int 4)) (aH (tC (.int 8)) (aH (tC (.int 16)) (aH (tC (.int 32)) (aH (tC (.int 64)) bG))))))) (aE 0))) (tC (.int 2))) (tC (.int 0)))) (Af K)) (bA 5)) (Kv K))
def Ag(K:aQ):TS:=(cE (cS (tOp gP (cD (dY K) [] E0 (aH (aE 0) (aH (tOp hE (tC (.int 8)) (aE 3)) bG))) (tC (.int 128))) (bA 4)) (Ku K))
def Nw(K:aQ):TS:=(cE (cS (mB bG) (bA 2)) (cE (gD (iE (aH (tCB (iY K) (aH (aE 1) bG)) bG)) (bA 3) (Ag K)) (cT (aE 2))))
def jWd{K}:RdS K Jp Nw Zj:=by
 rintro vs H Q E ⟨a,b,ns,P,rfl,I,hb,t,hm,q⟩;rw[show start Zj [ref a,ref b]=[some (.ref a),some (.ref b),none,none,none,none]from rfl];(dsimp?[Nw,gD,iE]);refine#[sz0,λp hp=>?_];have M:=aT.upd (o:=lst []) hp;refine#[_,.inl (SqL.of (M _ _ hb)),?_];rw[fZ,cA];refine#[#[],#[],qR (lo:=0) (g:=bA 3) (D:={ nx:=cT (aE 2) (eQ Q),rt:=Q }) (uC a b P H) ?_ ?_ ?_]
 .exact#[p,[],[],_,_,_,rfl,M,hp,aL,Lg.nil,#[rfl,(λ_ h=>nomatch h),(λ_ h=>nomatch h),λi k n e=>by simp at e]]
 .rintro i Z Y hi ⟨p,F,ks,O,U,f,rfl,N,hp,R,lg,kp⟩;have a1:i<P.length:=#[];obtain⟨n,hn⟩:∃n,P[i]?=some n:=#[_,aD a1];obtain⟨n1,n3⟩:=hm n (aI hn);(dsimp?[Ag];try simp_arith[Ag,eX])
  refine#[a,ns,8+(i:Int),rfl,N.seq I,#[],_,rfl,by decide,?_];generalize ns.getD (8+(i:Int)).toNat 0%128=a0;(dsimp?[Ku,pL,iE]);refine#[_,SqL.of (N _ _ hb),_,fC (Mu hn),_,rfl,#[],#[],?_];rw[cA];refine jJc (W:=λj J u=>aT Y u/\∃c:List Nat,J=tv c/\c.Nodup/\(∀x∈c,x<j)/\c.length<=j) (lA #[]) #[aT.refl _,[],rfl,List.nodup_nil,(λ_ h=>nomatch h),aU _] ?_ ?_
  .rintro j J u A _ ⟨s4,c,rfl,nd,lt,cl⟩;(dsimp?[Af,cY,bV,cX,bI];try simp_arith[Af,cY,bV,cX,bI,eX])
   refine#[by show 6<=sizeLine;decide,λp4 r=>?_];obtain⟨d,hd,d0,d5⟩:∃d:Int,atI [int 2,int 4,int 8,int 16,int 32,int 64] (j:Int)=some (.int d)/\0<d/\d<65:=by
    rcases(show j=0∨j=1∨j=2∨j=3∨j=4∨j=5 by lia)with e |e |e |e |e |e<;>subst e<;>exact#[_,rfl,by decide,by decide]
   refine#[_,SqL.of aL,_,hd,_,rfl,#[#[],by show d.natAbs<2^9000;exact cL (show d.natAbs<2^7 by lia) (eE (by decide) (by decide))],by decide,?_];split
   .refine#[s4.trans (aT.upd r),c++[j],by rw[jJh];rfl,?_,λx hx=>?_,by rw[bK];exact Nat.succ_le_succ cl]
    .rw[List.nodup_append];exact#[nd,by simp,λx hx y hy e=>by rw[cP.mp hy]at e;have:=lt x hx;lia]
    .rcases dD.mp hx with h |h
     .have:=lt x h;lia
     .rw[cP.mp h];lia
   .exact#[s4.trans (aT.upd r),c,rfl,nd,λx hx=>by have:=lt x hx;lia,#[]]
  .rintro J u ⟨s4,c,rfl,nd,lt,cl⟩ l S;have fin:∀(G:Hp)(l:Addr)(c:List Nat)(T:Option V),aT Y G->G l=some (.lst (tv c))->c≠[]->c.Nodup->(c.length<=n/\∀x∈c,x<n)->sH K { nx:=uC a b P H (i+1),rt:=Q,bk:=cT (aE 2) (eQ Q),ct:=uC a b P H (i+1) } [some (.ref a),some (.ref b),some (.ref p),some (.int i),T,some (.ref l)] G:=λG l c T s S ne nd lt=>by
    (dsimp?[sH,mE,tBM,vM]);have w:=s _ _ R;refine#[.inl #[rfl,_,SqL.of w],_,w,by have:=lg.1;have:=kp.len;rw[cN]at this;exact small' #[],?_];exact#[p,_,ks++[c],_,_,_,rfl,(N.trans s).put hp,hp,aL,(lg.same s).push kp.ne w S ne,kp.snoc hn ne nd lt]
   have B:=s4.trans (aT.upd (o:=lst (tv c)) S);have all:∀(G:Hp),aT Y G->∃F,SqL K G b F/\∃v,atI F (i:Int)=some v/\∃m:Nat,v=int m/\m<=10000/\∀p1:Addr,G p1=none->sH K { nx:=uC a b P H (i+1),rt:=Q,bk:=cT (aE 2) (eQ Q),ct:=uC a b P H (i+1) } [some (.ref a),some (.ref b),some (.ref p),some (.int i),some (.int a0),some (.ref p1)] (upd G p1 (.lst (map int (tU m)))):=λG s=>by
    refine#[_,SqL.of (s _ _ (N _ _ hb)),_,fC (Mu hn),n,rfl,#[],λp1 C=>?_];refine fin _ p1 (range n) _ (s.trans (aT.upd C)) (by rw[aL,rng_tv]) (λz=>by have:=congrArg List.length z;rw[iB]at this;simp at this;lia) List.nodup_range #[by rw[iB];lia,λx hx=>gG.mp hx]
   (dsimp?[Kv,rEqD,zJ]);refine#[by decide,mC (λ_=>?_) (λ_=>?_)]
   .rw[aK trivial];exact all _ B
   refine#[sz0,λe he=>?_];have X:=B.trans (aT.upd (o:=lst []) he);refine#[_,REq.ints (n:=0) (ns:=c.map λn:Nat=>(n:Int)) (ms:=[]) (by rw[←tv_iv];exact SqL.of (aT.upd he _ _ aL)) (SqL.of aL),?_];by_cases hc:c=[]
   .rw[decide_eq_true (by rw[hc];rfl)];exact iteT (all _ X)
   .rw[decide_eq_false (by simpa using hc)];exact yV (fin _ l c _ X (aT.upd he _ _ aL) hc nd #[cl,lt])
 .rintro Z Y ⟨p,F,ks,O,U,f,rfl,N,hp,R,lg,kp⟩;(dsimp![aE,tC,tOp,rI0,rNe,iN,cT,dB]);rw[bY]at kp;exact q p F ks Y N R lg kp
def Di:LS:=["self"]
def nJ(K:aQ):Sp:=λvs H Q _=>∃t ns B,vs=[.ref t]/\zN K H t ns B/\∀l,H l=none->Q (.ref l) (upd H l (.lst (tv ns)))
def tK(K:aQ):TS:=(cT (tCB (sB K) (aH (gW K (aE 0) "many") bG)))
def Qh{K vs H Q E}(T:TabK K)(h:nJ K vs H Q E):tK K (eQ Q) (start Di vs) H:=by
 obtain⟨t,ns,B,rfl,⟨w,m,d,M,y,hm,_⟩,q⟩:=h;rw[show start Di [ref t]=[some (.ref t)]from rfl];(dsimp?[tK,gW,sB]);exact#[_,_,_,y,T.cl,T.nM,_,Tf _ _,m,rfl,_,.inl (SqL.of hm),q]
def Pz:LS:=["table"]
def Ap(K:aQ):Sp:=λvs H Q _=>∃t ns B,vs=[.ref t]/\zN K H t ns B/\Sz ns/\∀p xs O,aT H O->O p=some (.lst xs)->Lg O xs (ns.map range)->Q (.ref p) O
def Cu(K:aQ):TE:=(zJ (aE 0))
def Ef(K:aQ):TS:=(cT (dL (cU K (fN (eI K "Table") "sizes" (nJ K) [] E0 (aE 0) bG)) [] (Cu K)))
def Zx{K}:RdS K Ap Ef Pz:=by
 rintro j H Q E ⟨t,ns,B,rfl,g,sz,q⟩;rw[show start Pz [ref t]=[some (.ref t)]from rfl];have u:=sz.len;obtain⟨w,m,d,y⟩:=g.ins;(dsimp?[Ef,dL,cU,fN]);refine#[_,_,y,We _ _ (by decide+kernel) (by decide+kernel),t,ns,B,rfl,g,λl S=>?_];have M:aT H (upd H l (.lst (tv ns))):=aT.upd S;have I:(upd H l (.lst (tv ns))) l=some (.lst (tv ns)):=aL;generalize upd H l (.lst (tv ns))=U at M I;refine#[_,rfl,#[_,SqL.of I],dR (K:=K) (a:=l) (xs:=tv ns) (λi J Y=>aT U Y/\Lg Y J ((ns.take i).map range)) ?_ #[aT.refl _,Lg.nil] ?_ ?_ ?_]
 .rw[fZ];exact lA #[]
 .rintro i v Y _ ⟨N,_⟩;exact SqL.of (N _ _ I)
 .rintro i x v Y hi _ ⟨N,b⟩;obtain⟨n,hn,rfl⟩:=nB hi;have A:=sz.le n (aI hn);(dsimp?[Cu,cY,cX,zJ]);exact#[n,rfl,#[],λp hp=>#[N.trans (aT.upd hp),Vz b hn hp]]
 .rintro v Y _ ⟨N,b⟩ p hp;rw[fZ,bY]at b;exact q p v _ ((M.trans N).trans (aT.upd hp)) aL (b.same (aT.upd hp))
def Bg:LS:=["self","play","hand","size"]
def pY(K:aQ):Sp:=λvs H Q _=>∃t a ns B q,vs=[.ref t,.ref a]/\zN K H t ns B/\H a=some (.tup (tv q))/\q∈gJ ns.reverse/\∀l O,aT H O->H l=none->O l=some (.lst (B q))->Q (.ref l) O
def Lw(t a:Addr)(H:Hp):NS:=λ_ Z Y=>∃O U,Z=[some (.ref t),some (.ref a),O,U]/\aT H Y
def nO(K:aQ):TS:=(cT (tCB (sB K) (aH (mZ (gW K (aE 0) "cells") (aE 1)) bG)))
def sR(K:aQ):TS:=(fX (tOr (dB (tOp kO (tOp (eZ K) (aE 1) (aE 2)) (tC (.int 0)))) (dB (tOp rGeI (tOp (eZ K) (aE 1) (aE 2)) (aE 3)))) jN eA)
def nP(K:aQ):TG:=(jV K 2 (eL (bA 2) (eL (bA 3) jW)))
def rK(K:aQ):TS:=(cE (gD (Ff K (gW K (aE 0) "many")) (nP K) (sR K)) (nO K))
def Lr{K vs H Q E}(T:TabK K)(h:pY K vs H Q E):rK K (eQ Q) (start Bg vs) H:=by
 obtain⟨t,a,ns,B,q,rfl,⟨w,m,d,M,y,hm,hd,ok⟩,ha,c,k⟩:=h;have hql:q.length=ns.length:=by rw[kN _ q c,cM]
 rw[show start Bg [ref t,ref a]=[some (.ref t),some (.ref a),none,none]from rfl];(dsimp?[rK,gD,Ff,gW]);refine#[_,_,_,y,T.cl,T.nM,_,Tf _ _,m,rfl,#[_,SqL.of hm],On (K:=K) (a:=m) (xs:=tv ns) (g:=nP K) (D:={ nx:=nO K (eQ Q),rt:=Q }) (Lw t a H) ?_ ?_ ?_ ?_]
 .exact#[_,_,rfl,aT.refl _]
 .rintro i Z Y _ ⟨_,_,_,N⟩;exact SqL.of (N _ _ hm)
 .rintro i x p Z Y hi ⟨O,U,rfl,N⟩ hp;obtain⟨n,hn,rfl⟩:=nB hi;have r:i<q.length:=by rw[hql];exact(aO.mp hn).1
  have b:q[i]?=some q[i]:=aD r;have lt:=Vt _ q c i n q[i] (by rw[List.reverse_reverse];exact hn) b;have G:aT Y (upd Y p (.tup [.int i,.int n])):=aT.upd hp;(dsimp?[nP,sR]);refine#[_,SqT.of aL,rfl,_,_,rfl,_,_,rfl,rfl,_,rfl,_,SqT.of (G _ _ (N _ _ ha)),_,fC (Mu b),_,rfl,?_];rw[aF #[]];refine#[_,rfl,_,SqT.of (G _ _ (N _ _ ha)),_,fC (Mu b),_,rfl,_,rfl,?_];rw[aF #[]];exact#[_,_,rfl,N.trans G]
 .rintro Z Y ⟨O,U,rfl,N⟩;(dsimp?[nO,mZ,gW,sB]);obtain⟨l,hv,C⟩:=ok q c;exact#[_,_,_,N _ _ y,T.cl,T.nC,_,Pp _ _,d,rfl,_,(by rw[←hv];exact Ij.t (N _ _ hd) (by rw[Cl];exact N _ _ ha)),l,rfl,_,.inl (SqL.of (N _ _ C)),λf o=>k f _ (N.trans (aT.upd o)) (N.free o) aL]
def Zk:LS:=["rest","hand","choice"]
def Jq(_:aQ):Sp:=λvs H Q _=>∃a q h c,vs=[.ref a,.int (h:Nat),.int (c:Nat)]/\H a=some (.tup (tv q))/\q.length<=100/\∀p O,aT H O->O p=some (.tup (tv (q.take h++c::q.drop h)))->Q (.ref p) O
def Nx(K:aQ):TS:=(cT (tOp pZ (tOp pZ (tSl Qv (aE 0) hJ (mD (aE 1))) (iW (aH (aE 2) bG))) (tSl Qv (aE 0) (mD (aE 1)) hJ)))
def jWe{K}:RdS K Jq Nx Zk:=by
 rintro j H Q E ⟨a,q,h,c,rfl,ha,S,k⟩;rw[show start Zk [ref a,int h,int c]=[some (.ref a),some (.int h),some (.int c)]from rfl];(dsimp?[Nx,pZ,Qv]);have e1:=sF (tv q) none (some (h:Int));have C:=sF (tv q) (some (h:Int)) none;rw[fZ]at e1 C;refine#[_,ha,λp1 U M h1=>#[sz1,λz hz=>?_]];have P:aT U (upd U z (.tup [.int c])):=aT.upd hz;refine#[_,P _ _ h1,_,aL,lA (by show _+1<=216;lia),λg Y N R=>#[_,N _ _ (P _ _ (M _ _ ha)),λe d G O=>#[_,G _ _ R,_,O,?_,λf u B I=>?_]]]
 .rw[bK];exact lA (by show _+1+_<=216;lia)
 .refine k f u ((((M.trans P).trans N).trans G).trans B) ?_;rw[I,Vb,Gh];simp only[tv,aX,bV,map_take,List.map_drop,List.append_assoc,Lca,Lna]
def De:LS:=["table","rest","hand","choice"]
def rN(K:aQ):Sp:=λvs H Q _=>∃t r ns B b i c v,vs=[.ref t,.ref r,.int (i:Nat),.int (c:Nat)]/\zN K H t ns B/\H r=some (.tup (tv b))/\b.length<=100/\b.take i++c::b.drop i∈gJ ns.reverse/\(B (b.take i++c::b.drop i))[i]?=some v/\∀O,aT H O->Q v O
def oS(K:aQ):TS:=(cT (tOp (fS K) (fN (eI K "Table") "earned" (pY K) [] E0 (aE 0) (aH (cD (Jq K) [] E0 (aH (aE 1) (aH (aE 2) (aH (aE 3) bG)))) bG)) (aE 2)))
def Qd{K}:RdS K rN oS De:=by
 rintro f H Q E ⟨t,r,ns,B,b,i,c,v,rfl,T,hr,hb,d,hv,k⟩;rw[show start De [ref t,ref r,int i,int c]=[some (.ref t),some (.ref r),some (.int i),some (.int c)]from rfl];obtain⟨w,m0,d0,y⟩:=T.ins;(dsimp?[oS,fN];try simp_arith[oS,fN,if_true])
 refine#[w,_,y,We _ _ (by decide+kernel) (by decide+kernel),r,b,i,c,rfl,hr,hb,λe U M n=>#[t,e,ns,B,_,rfl,T.same M,n,d,λl j P _ a=>?_]];exact#[_,rfl,_,SqL.of a,_,fC hv,k _ (M.trans P)]
def Py:LS:=["table","hand","choice","others"]
def sJ(K:aQ):Sp:=λvs H Q _=>∃(t o:Addr)(ns:List Nat)(e:List Nat->Nat->Int×Int)(bs:fP)(h c:Nat)(xs:List V),vs=[.ref t,.int h,.int c,.ref o]/\TabF K H t ns e/\H o=some (.lst xs)/\Ps H xs bs/\h<ns.length/\(∀b∈bs,b.length<=3/\jn b h c∈gJ ns.reverse)/\bs.length<=216/\
 ∀l I O,aT H O->O l=some (.lst (map ref I))->dC K O I (bs.map λb=>e (jn b h c) h)->Q (.ref l) O
def Ct(K:aQ):TE:=(cD (rN K) [] E0 (aH (aE 1) (aH (aE 0) (aH (aE 2) (aH (aE 3) bG)))))
def Ee(K:aQ):TS:=(cT (dL (cU K (aE 3)) [0,1,2] (Ct K)))
def Zu{K}:RdS K sJ Ee Py:=by
 rintro j H Q E ⟨t,o,ns,e,bs,h,c,F,rfl,T,D,R,hn,hb,bl,q⟩;rw[show start Py [ref t,int h,int c,ref o]=[some (.ref t),some (.int h),some (.int c),some (.ref o)]from rfl];(dsimp?[Ee,dL,cU]);refine#[#[_,SqL.of D],dR (K:=K) (a:=o) (xs:=F) (λi J Y=>aT H Y/\∃I,J=map ref I/\dC K Y I ((bs.take i).map λb=>e (jn b h c) h)) (by rw[R.1];exact lA bl) #[aT.refl _,[],rfl,trivial] ?_ ?_ ?_]
 .rintro i J Y _ ⟨N,_⟩;exact SqL.of (N _ _ D)
 .rintro i x J Y hi _ ⟨N,I,rfl,r⟩;obtain⟨b,a,M,rfl,ha⟩:=R.get hi;obtain⟨v,k⟩:=hb b (aI M);obtain⟨B,g,fr⟩:=T.ex;obtain⟨X,n,hf⟩:=fr _ k;have m:=hf.length;rw[bF]at m;obtain⟨p,hp⟩:∃p,X[h]?=some p:=#[_,aD #[]];obtain⟨f,s,P⟩:=hf.get hp;obtain⟨_,rfl⟩:=gL s;(dsimp?[Ct,cY,bV,cX,bI]);refine#[t,a,ns,B,b,h,c,.ref p,rfl,g.same N,N _ _ ha,#[],k,by rw[show b.take h++c::b.drop h=jn b h c from rfl,n,aZ,hp];rfl,λd G=>#[N.trans G,I++[p],by rw[aX];rfl,?_]];rw[dJ M,aX];exact dC.snoc (r.same G) (G.tup (N.tup P))
 .rintro J Y _ ⟨N,I,rfl,r⟩ l S;rw[R.1,bY]at r;exact q l I _ (N.trans (aT.upd S)) aL (r.same (aT.upd S))
def Dc:LS:=["row"]
def rL(K:aQ):Sp:=λvs H Q _=>∃a ps fs,vs=[.ref a]/\SqL K H a (map ref ps)/\dC K H ps fs/\(∀f∈fs,0<f.2/\BB 4000 f.2)/\fs≠[]/\fs.length<=100/\∀z O,aT H O->(∃f∈fs,z=f.1.fdiv f.2)->(∀f∈fs,z<=f.1.fdiv f.2)->Q (.int z) O
def uH(K:aQ):TE:=(tOp jE (tOp (eZ K) (aE 0) (tC (.int 0))) (tOp (eZ K) (aE 0) (tC (.int 1))))
def tD(K:aQ):TS:=(cT (tCB (Mv K) (aH (dL (cU K (aE 0)) [] (uH K)) bG)))
def Qb{K}:RdS K rL tD Dc:=by
 rintro j H Q E ⟨a,R,fs,rfl,I,hf,hg,ne,hn,q⟩;have hpl:=hf.length;rw[show start Dc [ref a]=[some (.ref a)]from rfl];(dsimp?[tD,dL,cU,Mv]);refine#[#[_,I],dR (K:=K) (a:=a) (xs:=map ref R) (λi J Y=>aT H Y/\J=map int ((fs.take i).map λf=>f.1.fdiv f.2)) (by rw[aB,sizeLine_eq];lia) #[aT.refl _,rfl] ?_ ?_ ?_]
 .rintro i J Y _ ⟨N,_⟩;exact N.seq I
 .rintro i x J Y hi _ ⟨N,rfl⟩;obtain⟨p,rfl,hp⟩:=eN hi;obtain⟨f,s,P⟩:=(hf.same N).get hp;have g:=hg f (aI s);(dsimp?[uH]);refine#[_,P,_,kP,_,P,_,jR,_,rfl,_,rfl,#[#[],g.2.mono (by decide)],N,?_];rw[dJ s,aX,aX];rfl
 .rintro J Y _ ⟨N,rfl⟩ p hp;rw[aB,hpl,bY];refine#[_,SqL.of aL,λe=>ne (map_eq_nil_iff.mp e),λz hz A=>?_];obtain⟨f,C,rfl⟩:=cV.mp hz;exact q _ _ (N.trans (aT.upd hp)) #[f,C,rfl] λg b=>A _ (cV.mpr #[g,b,rfl])
def Tu:LS:=["rows"]
def Eh(K:aQ):Sp:=λvs H Q _=>∃a g frs n,vs=[.ref a]/\SqL K H a (map ref g)/\qS K H g frs/\WoR frs n/\∀z p O,aT H O->O p=some (.tup [.int (1-z),.int 1])->Mnf frs z->Q (.ref p) O
def Gz(K:aQ):TE:=(cD (rL K) [] E0 (aH (aE 0) bG))
def Iy(K:aQ):TS:=(cT (iW (aH (tOp lS (tC (.int 1)) (tCB (Mv K) (aH (dL (cU K (aE 0)) [] (Gz K)) bG))) (aH (tC (.int 1)) bG))))
def jZQ{K}:RdS K Eh Iy Tu:=by
 rintro j H Q E ⟨a,g,frs,n,rfl,D,hf,W,q⟩;have hpl:=hf.length;have m2:=W.m2;rw[show start Tu [ref a]=[some (.ref a)]from rfl];(dsimp?[Iy,dL,cU,Mv]);refine#[#[_,D],dR (K:=K) (a:=a) (xs:=map ref g) (λi J Y=>aT H Y/\∃zz:List Int,J=map int zz/\zz.length=i/\(∀z∈zz,∃r∈frs,∃f∈r,z=f.1.fdiv f.2)/\∀(k:Nat) z r,zz[k]?=some z->frs[k]?=some r->∀f∈r,z<=f.1.fdiv f.2) (by rw[aB,sizeLine_eq];lia) #[aT.refl _,[],rfl,rfl,(λ_ h=>nomatch h),λk z r e=>by simp at e] ?_ ?_ ?_]
 .rintro i J Y _ ⟨N,_⟩;exact N.seq D
 .rintro i x J Y hi _ ⟨N,zz,rfl,o,v,l⟩;obtain⟨p,rfl,hp⟩:=eN hi;obtain⟨r,I,M,F,u⟩:=hf.get hp;have R:=aI M;have m:=W.hr r R;have n1:=W.n1;have n2:=W.n2;(dsimp?[Gz]);refine#[p,I,r,rfl,N.seq (SqL.of F),u.same N,λf Z=>#[(W.hg r R f Z).1,(W.hg r R f Z).2.2],λe=>by rw[e]at m;simp at m;lia,#[],λz d G#[f,c,e] le=>#[N.trans G,zz++[z],by rw[aX];rfl,by rw[bK,o];rfl,λT w=>?_,λk T P e1 C s Z=>?_]]
  .rcases dD.mp w with h |h
   .exact v T h
   .rw[cP.mp h];exact#[r,R,f,c,e]
  .rcases zV e1 with⟨e1,_⟩|⟨B,rfl⟩
   .exact l k T P e1 C s Z
   .rw[B,o,M]at C;obtain rfl:=aW C;exact le s Z
 .rintro J Y _ ⟨N,zz,rfl,o,v,l⟩ p hp;rw[aB,hpl]at o;have m1:=W.m1;refine#[_,SqL.of aL,λe=>by rw[e]at o;simp at o;lia,λz hz A=>#[sz2,λt y=>q z t _ ((N.trans (aT.upd hp)).trans (aT.upd y)) aL #[v z hz,λr hr f Z=>?_]]];obtain⟨k,hk⟩:=dA hr;have b:k<zz.length:=by have:=(aO.mp hk).1;lia
  have h1:=A _ (cJ b);have h2:=l k _ r (aD b) hk f Z;lia
def Uh:LS:=["one","other","great","small","left"]
def lD(_:aQ):Sp:=λvs H Q _=>∃a b,vs=[.int a,.int b]/\Q (.int (Int.gcd a b:Nat)) H
def Ht(K:aQ):TS:=(cE (cS (tOp gP (aE 2) (aE 3)) (bA 4)) (cE (cS (aE 3) (bA 2)) (cS (aE 4) (bA 3))))
def Je(K:aQ):TS:=(cE (cS (tCB Ii (aH (aE 0) bG)) (bA 2)) (cE (cS (tCB Ii (aH (aE 1) bG)) (bA 3)) (cE (zO (dB (tOp rNe (aE 3) (tC (.int 0)))) (Ht K)) (cT (aE 2)))))
def jZm{K}:RdS K lD Je Uh:=by
 rintro j H Q E ⟨a,b,rfl,k⟩;rw[show start Uh [int a,int b]=[some (.int a),some (.int b),none,none,none]from rfl];(dsimp![Je,cE,cS,bA,aE,aH,bG,tCB,Ii,jJ5]);refine Nl (λZ O=>O=H/\∃g s l,Z=[some (.int a),some (.int b),some (.int g),some (.int s),l]/\0<=g/\0<=s/\Int.gcd g s=Int.gcd a b) (λZ _=>(intO (Z.getD 3 none)).toNat) ?_ ?_ ?_
 .exact#[rfl,_,_,_,rfl,#[],#[],by simp [Int.gcd]]
 .rintro Z O ⟨rfl,g,s,l,rfl,hg,hs,e⟩;(dsimp![Ht,cE,cS,bA,aE,tC,tOp,rI,gP,rNe,iN,cT,dB]);by_cases B:s=0
  .subst B;simp only[decide_true,Bool.not_true,Option.some.injEq,exists_eq_left',exists_eq_left,V.int.injEq,V.ref.injEq,V.bl.injEq,List.cons.injEq,and_true,true_and,exists_and_left,and_assoc,gB,gC,gA,gZ,kR,iM];rw[←e,Int.gcd_zero_right]at k;have:((g.natAbs:Nat):Int)=g:=#[];rw[this]at k;simpa using k
  .have hp:0<s:=#[];have h1:=Int.emod_nonneg g B;have h2:=Int.emod_lt_of_pos g hp;simp [B,hp,h1,hs];refine#[?_,?_]
   .rw[←e,Int.gcd_comm g s,Int.emod_def,Int.gcd_sub_mul_left_right]
   .show max (g%s) 0<s;lia
 .intro Z O c d D h;dsimp only[dB,tOp,tC,rNe]at h⊢
  first
  | (obtain⟨v,hv,hs,q⟩:=Bj h
     exact Bi hv #[hs,D _ _ q])
  | (obtain⟨v,hv,hs,b,hb,q⟩:=Bj h
     exact Bi hv #[hs,b,hb,D _ _ q])
def jYy:LS:=["top","bottom","shared"]
def nF(_:aQ):Sp:=λvs H Q _=>∃t b,vs=[.int t,.int b]/\b≠0/\BB 9000 b/\∀x y p O,aT H O->O p=some (.tup [.int x,.int y])->Lo t b x y->Q (.ref p) O
def Ma(K:aQ):TS:=(cE (fX (dB (tOp rEq (aE 1) (tC (.int 0)))) jN eA) (cE (cS (cD (lD K) [] E0 (aH (aE 0) (aH (aE 1) bG))) (bA 2)) (cE (fX (dB (tOp kO (aE 1) (tC (.int 0)))) (cS (tUn jD (aE 2)) (bA 2)) eA) (cT (iW (aH (tOp jE (aE 0) (aE 2)) (aH (tOp jE (aE 1) (aE 2)) bG)))))))
def jVj{K}:RdS K nF Ma jYy:=by
 rintro j H Q E ⟨t,b,rfl,hb,bb,q⟩;rw[show start jYy [int t,int b]=[some (.int t),some (.int b),none]from rfl]
 (try dsimp only[Ma,cE,cS,bA,aE,tC,tOp,tUn,rI0,rI,rU,jE,jD,kO,rEq,iN,cT,fX,dB,eA,cD,aH,bG,iW,jN,Lq0,Lq1,Ls0,Ls1,gB,gC,gA];try simp only[Ma,cE,cS,bA,aE,tC,tOp,tUn,rI0,rI,rU,jE,jD,kO,rEq,iN,cT,fX,dB,eA,cD,aH,bG,iW,jN,Lq0,Lq1,Ls0,Ls1,Option.some.injEq,exists_eq_left',V.int.injEq,V.bl.injEq,List.cons.injEq,and_true,true_and,cW,exists_and_left,dH,and_assoc,lD,exists_eq_left,V.ref.injEq,gB,gC,gA,gZ,kR,iM])
 rw[aF hb];have a:=bb.gcd (i:=t) hb;have r:0<Int.gcd t b:=Int.gcd_pos_of_ne_zero_right _ hb;refine mC (λhn=>?_) (λhn=>?_)
 .refine#[#[#[],a.neg],#[#[],a.neg],sz2,λp hp=>q _ _ p _ (aT.upd hp) aL (lo_neg hn)]
 .refine#[#[#[],a],#[#[],a],sz2,λp hp=>q _ _ p _ (aT.upd hp) aL (jJv #[])]
def N_plus:LS:=["one","other"]
def Mc(K:aQ):Sp:=λvs H Q _=>∃p q a b c d,vs=[.ref p,.ref q]/\Tw K H p q a b c d/\0<b/\0<d/\BB 9000 (b*d)/\∀r O,aT H O->O r=some (.tup [.int (lo2 (a*d+c*b) (b*d)).1,.int (lo2 (a*d+c*b) (b*d)).2])->Q (.ref r) O
def jJk(K:aQ):TS:=(cT (cD (nF K) [] E0 (aH (tOp hE (tOp fO (tOp (eZ K) (aE 0) (tC (.int 0))) (tOp (eZ K) (aE 1) (tC (.int 1)))) (tOp fO (tOp (eZ K) (aE 1) (tC (.int 0))) (tOp (eZ K) (aE 0) (tC (.int 1))))) (aH (tOp fO (tOp (eZ K) (aE 0) (tC (.int 1))) (tOp (eZ K) (aE 1) (tC (.int 1)))) bG))))
def rd_plus{K}:RdS K Mc jJk N_plus:=by
 rintro j H Q E ⟨p,q,a,b,c,d,rfl,⟨hp,T,ba,bb,bc,f⟩,g,d0,e,k⟩;rw[show start N_plus [ref p,ref q]=[some (.ref p),some (.ref q)]from rfl];(dsimp?[jJk]);refine#[_,hp,_,kP,_,T,_,jR,_,rfl,_,rfl,.b ba f,_,T,_,kP,_,hp,_,jR,_,rfl,_,rfl,.b bc bb,_,hp,_,jR,_,T,_,jR,_,rfl,_,rfl,.b bb f,?_];have z:0<b*d:=bL g d0;refine#[_,_,rfl,#[],e,λx y r O s h l=>k r O s ?_];obtain⟨e1,C⟩:=l.uniq z (eO z);rw[←e1,←C];exact h
def Ze:LS:=["row","lift"]
def Jm(K:aQ):Sp:=λvs H Q _=>∃a t ps fs,∃z:Int,vs=[.ref a,.ref t]/\SqL K H a (map ref ps)/\dC K H ps fs/\SqT K H t [.int (1-z),.int 1]/\BB 9000 (1-z)/\(∀f∈fs,0<f.2/\BB 4000 f.1/\BB 4000 f.2)/\fs.length<=100/\∀l I O,aT H O->O l=some (.lst (map ref I))->dC K O I (fs.map (lft z))->Q (.ref l) O
def Kn(K:aQ):TE:=(cD (Mc K) [] E0 (aH (aE 0) (aH (aE 1) bG)))
def Nr(K:aQ):TS:=(cT (dL (cU K (aE 0)) [1] (Kn K)))
def jWU{K}:RdS K Jm Nr Ze:=by
 rintro j H Q E ⟨a,t,R,fs,z,rfl,c,hf,y,b,hg,hn,q⟩;have hpl:=hf.length;rw[show start Ze [ref a,ref t]=[some (.ref a),some (.ref t)]from rfl];(dsimp?[Nr,dL,cU]);refine#[#[_,c],dR (K:=K) (a:=a) (xs:=map ref R) (λi J Y=>aT H Y/\∃I,J=map ref I/\dC K Y I ((fs.take i).map (lft z))) (by rw[aB,sizeLine_eq];lia) #[aT.refl _,[],rfl,trivial] ?_ ?_ ?_]
 .rintro i J Y _ ⟨N,_⟩;exact N.seq c
 .rintro i x J Y hi _ ⟨N,I,rfl,T⟩;obtain⟨p,rfl,hp⟩:=eN hi;obtain⟨f,s,P⟩:=(hf.same N).get hp;have g:=hg f (aI s);have one:BB 20000 (1:Int):=by show(1:Int).natAbs<2^20000;exact Nat.one_lt_two_pow (by decide)
  (dsimp?[Kn,cY,bV,cX,bI]);refine#[_,_,_,_,_,_,rfl,#[P,N.tup y,g.2.1.mono (by decide),g.2.2.mono (by decide),b.mono (by decide),one],g.1,by decide,by rw[fK];exact g.2.2.mono (by decide),λr d G hr=>#[N.trans G,I++[r],by rw[aX];rfl,?_]];rw[dJ s,aX];exact dC.snoc (T.same G) (SqT.of hr)
 .rintro J Y _ ⟨N,I,rfl,T⟩ l S;rw[aB,hpl,bY]at T;exact q l I _ (N.trans (aT.upd S)) aL (T.same (aT.upd S))
def jY1:LS:=["one","other"]
def Fy(K:aQ):Sp:=λvs H Q _=>∃p q a b c d,vs=[.ref p,.ref q]/\Tw K H p q a b c d/\Q (.bl (decide (a*d<c*b))) H
def Vi(K:aQ):TS:=(cT (tOp kO (tOp fO (tOp (eZ K) (aE 0) (tC (.int 0))) (tOp (eZ K) (aE 1) (tC (.int 1)))) (tOp fO (tOp (eZ K) (aE 1) (tC (.int 0))) (tOp (eZ K) (aE 0) (tC (.int 1))))))
def jVm{K}:RdS K Fy Vi jY1:=by
 rintro j H Q E ⟨p,q,a,b,c,d,rfl,⟨hp,T,ba,bb,bc,f⟩,k⟩;rw[show start jY1 [ref p,ref q]=[some (.ref p),some (.ref q)]from rfl];(dsimp![Vi,aE,tC,tOp,rI0,rI,fO,kO,cT,eZ]);exact#[_,hp,_,kP,_,T,_,jR,_,rfl,_,rfl,.b ba f,_,T,_,kP,_,hp,_,jR,_,rfl,_,rfl,.b bc bb,k]
def Uj:LS:=["row","number","fraction"]
def Er(K:aQ):Sp:=λvs H Q _=>∃a ps fs,vs=[.ref a]/\SqL K H a (map ref ps)/\dC K H ps fs/\(∀f∈fs,G9 f)/\fs.length<=100/\∀l p O,aT H O->O l=some (.lst (map int (clr fs)))->O p=some (.tup [.int (lc fs),.ref l])->Q (.ref p) O
def jXa(a:Addr)(N:Hp)(fs:fV):NS:=λi Z Y=>Y=N/\∃o,Z=[some (.ref a),some (.int (lc (fs.take i))),o]/\BB (9000*i+1) (lc (fs.take i))
noncomputable def jXh(N:Hp)(fs:fV):Nat->List V->Hp->Prop:=WEq N λi ys=>ys=map int ((clr fs).take i)
def Hv(K:aQ):TE:=(tOp fO (tOp (eZ K) (aE 0) (tC (.int 0))) (tOp jE (aE 1) (tOp (eZ K) (aE 0) (tC (.int 1)))))
def xJ(K:aQ):TS:=(cT (iW (aH (aE 1) (aH (dL (cU K (aE 0)) [1] (Hv K)) bG))))
def Wm(K:aQ):TS:=(cS (tOp fO (aE 1) (tOp jE (tOp (eZ K) (aE 2) (tC (.int 1))) (cD (lD K) [] E0 (aH (aE 1) (aH (tOp (eZ K) (aE 2) (tC (.int 1))) bG))))) (bA 1))
def Jg(K:aQ):TS:=(cE (cS (tC (.int 1)) (bA 1)) (cE (gD (cU K (aE 0)) (bA 2) (Wm K)) (xJ K)))
def jZo{K}:RdS K Er Jg Uj:=by
 rintro j H Q E ⟨a,R,fs,rfl,I,hf,hg,hn,q⟩;have hpl:=hf.length;have t:∀f∈fs,0<f.2:=λf hf=>(hg f hf).1;rw[show start Uj [ref a]=[some (.ref a),none,none]from rfl];(dsimp![Jg,gD,cU,cE,cS,bA,aE,tC]);refine#[#[_,I],iA (K:=K) (a:=a) (xs:=map ref R) (g:=bA 2) (D:={ nx:=xJ K (eQ Q),rt:=Q }) (jXa a H fs) ?_ ?_ ?_ ?_]
 .exact#[rfl,none,rfl,by show BB 1 1;unfold BB;decide]
 .rintro i Z Y _ ⟨rfl,_⟩;exact I
 .rintro i x Z Y hi ⟨rfl,o,rfl,bl⟩;obtain⟨p,rfl,hp⟩:=eN hi;obtain⟨f,s,P⟩:=hf.get hp;have w:=hg f (aI s);have lp:0<lc (fs.take i):=Nf λf hf=>t f (mem_of_mem_take hf);obtain⟨O,_,_,_,u⟩:=Uy lp w.1;have e:=jYV s;have z:i<fs.length:=(aO.mp s).1;have y:=w.2.2.of_le u;have c:f.2≠0:=Int.ne_of_gt w.1;have r:0<Int.gcd (lc (fs.take i)) f.2:=Int.gcd_pos_of_ne_zero_right _ c;unfold lcf at e
  (try dsimp only[cS,bA,aE,tC,tOp,rI,fO,jE,cD,aH,bG,eZ,Lq0,Lq1,Ls0,Ls1,gB,gC,gA];try simp only[lD,cS,bA,aE,tC,tOp,rI,fO,jE,cD,aH,bG,eZ,Lq0,Lq1,Ls0,Ls1,Option.some.injEq,exists_eq_left',V.int.injEq,V.ref.injEq,List.cons.injEq,and_true,cW,exists_and_left,and_assoc,exists_eq_left,V.bl.injEq,true_and,gB,gC,gA,gZ,kR,iM])
  refine#[_,P,_,jR,_,P,_,jR,_,rfl,_,rfl,#[#[],w.2.2.gcd c],.b (m:=900001) (n:=9000) (bl.mono #[]) y,?_];rw[←e];refine#[rfl,_,rfl,?_];rw[e];exact(bl.mul y).mono #[]
 .rintro Z Y ⟨rfl,o,rfl,bl⟩;rw[aB,hpl,bY]at bl⊢;(dsimp![xJ,dL,cU,aE,cT,aH,bG,iW]);refine#[#[_,I],dR (K:=K) (a:=a) (xs:=map ref R) (jXh Y fs) ?_ ?_ ?_ ?_ ?_]
  .rw[aB,hpl,sizeLine_eq];lia
  .exact#[rfl,by simp]
  .rintro i v d _ ⟨rfl,_⟩;exact I
  .rintro i x v d hi _ ⟨rfl,rfl⟩;obtain⟨p,rfl,hp⟩:=eN hi;obtain⟨f,s,P⟩:=hf.get hp;have w:=hg f (aI s);obtain⟨k,hk⟩:=(zR fs 1 (by decide) t).2.2.1 f (aI s);have hk:lc fs=f.2*k:=hk;have c:f.2≠0:=Int.ne_of_gt w.1;have B:(lc fs).fdiv f.2=k:=by rw[hk];exact Int.mul_fdiv_cancel_left _ c
   have bk:BB (9000*fs.length+1) ((lc fs).fdiv f.2):=by
    refine bl.of_le ?_;rw[B,hk,cQ];exact Nat.le_mul_of_pos_left _ #[]
   (dsimp![Hv,cY,bV,cX,bI,aE,tC,tOp,rI,fO,jE,eZ]);refine#[_,P,_,kP,_,P,_,jR,_,rfl,#[c,w.2.2],_,rfl,.b (m:=20000) (n:=900001) w.2.1 (bk.mono #[]),rfl,?_];show _=map int (List.take (i+1) (clr fs));rw[dJ (jYp s),aX];rfl
  .rintro v d _ ⟨rfl,rfl⟩ l S;have G:(clr fs).length=fs.length:=by unfold clr;rw[aB]
   rw[aB,hpl,←G,bY];refine#[sz2,λp hp=>q l p _ ((aT.upd S).trans (aT.upd hp)) (aT.upd hp _ _ aL) aL]
def Zd:LS:=["row","told","number"]
def Bx(K:aQ):Sp:=λvs H Q _=>∃a ns,vs=[.ref a]/\SqL K H a (map int ns)/\Q (.int (gl ns)) H
def jW2(a:Addr)(N:Hp)(ns:List Int):NS:=λi Z Y=>Y=N/\∃o,Z=[some (.ref a),some (.int (gl (ns.take i))),o]
def Zm(K:aQ):TS:=(cE (cS (cD (lD K) [] E0 (aH (aE 1) (aH (aE 2) bG))) (bA 1)) (fX (dB (tOp rEq (aE 1) (tC (.int 1)))) (cT (aE 1)) eA))
def Nq(K:aQ):TS:=(cE (cS (tC (.int 0)) (bA 1)) (cE (gD (cU K (aE 0)) (bA 2) (Zm K)) (cT (aE 1))))
def jWV{K}:RdS K Bx Nq Zd:=by
 rintro j H Q E ⟨a,ns,rfl,I,q⟩;rw[show start Zd [ref a]=[some (.ref a),none,none]from rfl];(dsimp![Nq,gD,cU,cE,cS,bA,aE,tC,cT]);refine#[#[_,I],iA (K:=K) (a:=a) (xs:=map int ns) (g:=bA 2) (D:={ nx:=cT (aE 1) (eQ Q),rt:=Q }) (jW2 a H ns) ?_ ?_ ?_ ?_]
 .exact#[rfl,none,rfl]
 .rintro i Z Y _ ⟨rfl,_⟩;exact I
 .rintro i x Z Y hi ⟨rfl,o,rfl⟩;obtain⟨c,rfl,hc⟩:=fJ hi;have e:=gl_snoc hc;unfold glf at e
  (try dsimp only[cE,cS,bA,aE,tC,tOp,rEq,iN,cT,fX,dB,eA,cD,aH,bG,Lq0,Lq1,Ls0,Ls1,gB,gC,gA];try simp only[lD,cE,cS,bA,aE,tC,tOp,rEq,iN,cT,fX,dB,eA,cD,aH,bG,Lq0,Lq1,Ls0,Ls1,Option.some.injEq,exists_eq_left',V.int.injEq,V.bl.injEq,List.cons.injEq,and_true,true_and,cW,exists_and_left,dH,and_assoc,exists_eq_left,V.ref.injEq,gB,gC,gA,gZ,kR,iM])
  rw[←e];refine mC (λh1=>?_) (λh1=>?_)
  .have e1:=gl_one h1;rw[h1];rwa [e1]at q
  .exact#[rfl,_,rfl]
 .rintro Z Y ⟨rfl,o,rfl⟩;(dsimp![aE,tC,tOp,rI0,rNe,iN,cT,dB]);rwa [aB,bY]
def jYz:LS:=["row","common"]
def Oa(K:aQ):Sp:=λvs H Q _=>∃a ns,vs=[.ref a]/\SqL K H a (map int ns)/\ns.length<=1000/\(∀n∈ns,BB 9000 n)/\∀l O,aT H O->H l=none->O l=some (.lst (map int (vK ns)))->Q (.ref l) O
noncomputable def jUc(N:Hp)(ns:List Int):Nat->List V->Hp->Prop:=λi ys Y=>Y=N/\ys=map int ((ns.take i).map λn=>n.fdiv (gl ns))
def Pc(K:aQ):TE:=(tOp jE (aE 0) (aE 1))
def Vg(K:aQ):TS:=(cE (cS (cD (Bx K) [] E0 (aH (aE 0) bG)) (bA 1)) (cE (fX (dB (tOp kO (aE 1) (tC (.int 2)))) (cT (tCB (sB K) (aH (aE 0) bG))) eA) (cT (dL (cU K (aE 0)) [1] (Pc K)))))
def jVk{K}:RdS K Oa Vg jYz:=by
 rintro j H Q E ⟨a,ns,rfl,I,hn,hb,q⟩;rw[show start jYz [ref a]=[some (.ref a),none]from rfl];(dsimp![Vg,dL,cU,sB,cE,cS,bA,aE,tC,tOp,rI0,kO,cT,fX,dB,eA,cD,aH,bG,tCB,cW,dH]);refine#[_,_,rfl,I,_,rfl,mC (λh2=>?_) (λh2=>?_)]
 .refine#[_,.inl I,λl S=>q l _ (aT.upd S) S ?_];unfold vK;rw[aK h2];exact aL
 .refine#[#[_,I],dR (K:=K) (a:=a) (xs:=map int ns) (jUc H ns) ?_ ?_ ?_ ?_ ?_]
  .rw[aB,sizeLine_eq];lia
  .exact#[rfl,rfl]
  .rintro i v Y _ ⟨rfl,_⟩;exact I
  .rintro i x v Y hi _ ⟨rfl,rfl⟩;obtain⟨c,rfl,hc⟩:=fJ hi;(dsimp![Pc,cY,bV,cX,bI,aE,tOp,rI,jE]);refine#[#[#[],jXq hb],rfl,?_];rw[dJ hc];simp
  .rintro v Y _ ⟨rfl,rfl⟩ p hp;refine q p _ (aT.upd hp) hp ?_;rw[aB,bY];unfold vK;rw[aF h2];exact aL
def jYw:LS:=["row","made"]
def zU(K:aQ):Sp:=λvs H Q _=>∃a ps fs,vs=[.ref a]/\SqL K H a (map ref ps)/\dC K H ps fs/\(∀f∈fs,G9 f)/\fs.length<=100/\(∀x∈clr fs,BB 9000 x)/\
 ∀r f l O,aT H O->O r=some (.tup [.ref f,.ref l])->O f=some (.tup [.int (whF fs).1,.int (whF fs).2])->O l=some (.lst (map int (whL fs)))->Q (.ref r) O
def Ve(K:aQ):TS:=(cE (cS (cD (Er K) [] E0 (aH (aE 0) bG)) (bA 1)) (cT (iW (aH (cD (nF K) [] E0 (aH (tOp (eZ K) (aE 1) (tC (.int 0))) (aH (tCB cMax (aH (cD (Bx K) [] E0 (aH (tOp (eZ K) (aE 1) (tC (.int 1))) bG)) (aH (tC (.int 1)) bG))) bG))) (aH (cD (Oa K) [] E0 (aH (tOp (eZ K) (aE 1) (tC (.int 1))) bG)) bG)))))
def jVh{K}:RdS K zU Ve jYw:=by
 rintro d H Q E ⟨a,R,fs,rfl,I,hf,hg,hn,hb,q⟩;rw[show start jYw [ref a]=[some (.ref a),none]from rfl];(dsimp![Ve,cMax,cE,cS,bA,aE,tC,tOp,cT,cD,aH,bG,iW,tCB,eZ,cW]);refine#[_,_,_,rfl,I,hf,hg,hn,λl p U M S hp=>#[_,rfl,_,SqT.of hp,_,kP,_,rfl,_,SqT.of hp,_,jR,_,_,rfl,SqL.of S,_,rfl,?_]];have G:(clr fs).length=fs.length:=by unfold clr;rw[aB]
 have z:=vO (gl (clr fs));have e:BB 9000 (mx1 (gl (clr fs))):=by
  unfold mx1;split
  .show(1:Int).natAbs<2^9000;exact Nat.one_lt_two_pow (by decide)
  .exact jXq hb
 refine#[_,_,rfl,show mx1 (gl (clr fs))≠0 by lia,e,λx y f j P b lo=>?_];obtain⟨e1,C⟩:=lo.uniq z (eO z);have c:j f=some (.tup [.int (whF fs).1,.int (whF fs).2]):=by unfold whF;rw[←e1,←C];exact b
 refine#[_,rfl,_,SqT.of (P _ _ hp),_,jR,_,_,rfl,SqL.of (P _ _ S),#[],hb,λZ Y N _ g=>?_];refine#[sz2,λr hr=>q r f Z _ (((M.trans P).trans N).trans (aT.upd hr)) aL (aT.upd hr _ _ (N _ _ c)) (aT.upd hr _ _ g)]
def jYx:LS:=["one","other"]
def Fw(K:aQ):Sp:=λvs H Q _=>∃p q a b c d,vs=[.ref p,.ref q]/\Tw K H p q a b c d/\0<b/\0<d/\BB 9000 (b*d)/\∀r O,aT H O->O r=some (.tup [.int (lo2 (a*c) (b*d)).1,.int (lo2 (a*c) (b*d)).2])->Q (.ref r) O
def Vf(K:aQ):TS:=(cT (cD (nF K) [] E0 (aH (tOp fO (tOp (eZ K) (aE 0) (tC (.int 0))) (tOp (eZ K) (aE 1) (tC (.int 0)))) (aH (tOp fO (tOp (eZ K) (aE 0) (tC (.int 1))) (tOp (eZ K) (aE 1) (tC (.int 1)))) bG))))
def jVi{K}:RdS K Fw Vf jYx:=by
 rintro j H Q E ⟨p,q,a,b,c,d,rfl,⟨hp,T,ba,bb,bc,f⟩,g,d0,e,k⟩;rw[show start jYx [ref p,ref q]=[some (.ref p),some (.ref q)]from rfl];(dsimp![Vf,aE,tC,tOp,rI,fO,cT,cD,aH,bG,eZ,cW]);refine#[_,hp,_,kP,_,T,_,kP,_,rfl,_,rfl,.b ba bc,_,hp,_,jR,_,T,_,jR,_,rfl,_,rfl,.b bb f,?_];have z:0<b*d:=bL g d0;refine#[_,_,rfl,#[],e,λx y r O s h l=>k r O s ?_];obtain⟨e1,C⟩:=l.uniq z (eO z);rw[←e1,←C];exact h
def Ts:LS:=["row"]
def vU(K:aQ):Sp:=λvs H Q _=>∃a ns,vs=[.ref a]/\SqL K H a (map int ns)/\ns≠[]/\ns.length<=200/\∀(M:Nat) H',aT H H'->(∀n∈ns,ib n<=M)->(∃n∈ns,ib n=M)->Q (.int M) H'
def Gy(K:aQ):TE:=(tBM0 K "int" Xl (aE 0))
def Ix(K:aQ):TS:=(cT (tCB (Mw K) (aH (dL (cU K (aE 0)) [] (Gy K)) bG)))
def jZU{K}:RdS K vU Ix Ts:=by
 rintro j H Q E ⟨a,ns,rfl,ha,ne,F,q⟩;rw[show start Ts [ref a]=[some (.ref a)]from rfl];(dsimp?[Ix,dL,cU,Mw]);refine#[#[_,ha],dR (K:=K) (a:=a) (xs:=map int ns) (λi J Y=>Y=H/\J=map int ((ns.take i).map λn=>(ib n:Int))) (by rw[aB,sizeLine_eq];lia) #[rfl,rfl] ?_ ?_ ?_]
 .rintro i J Y _ ⟨rfl,_⟩;exact ha
 .rintro i x J Y hi _ ⟨rfl,rfl⟩;obtain⟨n,rfl,hn⟩:=fJ hi;(dsimp?[Gy,tBM0,Xl]);refine#[rfl,?_];rw[dJ hn,aX,aX];rfl
 .rintro J Y _ ⟨rfl,rfl⟩ p hp;rw[aB,bY];refine#[_,SqL.of aL,λz=>ne (map_eq_nil_iff.mp z),λM X A=>?_];obtain⟨n,hn,rfl⟩:=cV.mp X;refine q (ib n) _ (aT.upd hp) (λm hm=>?_) #[n,hn,rfl];have:=A _ (cV.mpr #[m,hm,rfl]);lia
def Lk:LS:=["rows","place"]
def kC(K:aQ):Sp:=λvs H Q _=>∃a ps X,∃k:Int,∃c:Nat,vs=[.ref a,.int k]/\SqL K H a (map ref ps)/\eF H ps X/\X.length<=200/\(∀r∈X,atI (map int r) k=some (.int (r.getD c 0)))/\∀l O,aT H O->H l=none->O l=some (.lst (map int (X.map λr=>r.getD c 0)))->Q (.ref l) O
def Ba(K:aQ):TE:=(tOp (fS K) (aE 0) (aE 1))
def Aj(K:aQ):TS:=(cT (dL (cU K (aE 0)) [1] (Ba K)))
def Wt{K}:RdS K kC Aj Lk:=by
 rintro j H Q E ⟨a,R,X,k,c,rfl,I,hr,hn,hc,q⟩;have hpl:=hr.length;rw[show start Lk [ref a,int k]=[some (.ref a),some (.int k)]from rfl];(dsimp![Aj,dL,cU,aE,cT]);refine#[#[_,I],dR (K:=K) (a:=a) (xs:=map ref R) (WEq H λi J=>J=map int ((X.take i).map λr=>r.getD c 0)) ?_ #[rfl,rfl] ?_ ?_ ?_]
 .rw[aB,sizeLine_eq];lia
 .rintro i v Y _ ⟨rfl,_⟩;exact I
 .rintro i x v Y hi _ ⟨rfl,rfl⟩;obtain⟨p,rfl,hp⟩:=eN hi;obtain⟨r,n,F⟩:=hr.get hp;(dsimp![Ba,cY,bV,cX,bI,aE,tOp,fS]);refine#[_,SqL.of F,_,hc r (aI n),rfl,?_];show _=map int ((X.take (i+1)).map λr=>r.getD c 0);rw[dJ n,aX,aX];rfl
 .rintro v Y _ ⟨rfl,rfl⟩ l S;rw[aB,hpl,bY];exact q l _ (aT.upd S) S aL
def N_span:LS:=["column"]
def Mb(K:aQ):Sp:=λvs H Q _=>∃a ns,vs=[.ref a]/\SqL K H a (map int ns)/\ns.length<=200/\(∀n∈ns,BB 20000 n)/\∀n O,aT H O->BB 30000 n->Q (.int n) O
def Rz(K:aQ):TE:=(tCB Ii (aH (aE 0) bG))
def jJj(K:aQ):TS:=(cT (tOp hE (tC (.int 1)) (tCB (Ms K) (aH (dL (cU K (aE 0)) [] (Rz K)) bG))))
def rd_span{K}:RdS K Mb jJj N_span:=by
 rintro j H Q E ⟨a,ns,rfl,I,hn,hb,q⟩;rw[show start N_span [ref a]=[some (.ref a)]from rfl];(dsimp![jJj,dL,cU,Ms,aE,tC,tOp,rI0,hE,cT,aH,bG,tCB]);refine#[#[_,I],dR (K:=K) (a:=a) (xs:=map int ns) (WEq H λi J=>J=map int ((ns.take i).map λn=>(n.natAbs:Int))) ?_ #[rfl,rfl] ?_ ?_ ?_]
 .rw[aB,sizeLine_eq];lia
 .rintro i v Y _ ⟨rfl,_⟩;exact I
 .rintro i x v Y hi _ ⟨rfl,rfl⟩;obtain⟨c,rfl,hc⟩:=fJ hi;(dsimp![Rz,jJ5,aE,aH,bG,tCB,Ii]);refine#[rfl,?_];show _=map int ((ns.take (i+1)).map λn=>(n.natAbs:Int));rw[dJ hc,aX,aX];rfl
 .rintro v Y _ ⟨rfl,rfl⟩ l S;rw[aB,bY];refine#[_,SqL.of aL,q _ _ (aT.upd S) ?_];have h1:=jJp (l:=ns.map λn=>(n.natAbs:Int)) (p:=20000) λx hx=>by
   obtain⟨n,hm,rfl⟩:=cV.mp hx;have:=hb n hm;unfold BB at this⊢;rwa [Int.natAbs_natCast]
  rw[aB]at h1;have one:BB (20000+ns.length) 1:=by show(1:Int).natAbs<2^_;exact Nat.one_lt_two_pow #[]
  exact(one.add h1).mono #[]
def N_unit:LS:=["many","place"]
def Vl(K:aQ):Sp:=λvs H Q _=>∃n k:Nat,vs=[.int n,.int k]/\n<=200/\∀l O,aT H O->H l=none->O l=some (.lst (map int (ofF n λr=>if r=k then 1 else 0)))->Q (.ref l) O
def Ry(K:aQ):TE:=(tIf (dB (tOp rEq (aE 0) (aE 1))) (tC (.int 1)) (tC (.int 0)))
def jJi(K:aQ):TS:=(cT (dL (iE (aH (aE 0) bG)) [1] (Ry K)))
def rd_unit{K}:RdS K Vl jJi N_unit:=by
 rintro j H Q E ⟨n,k,rfl,hn,q⟩;rw[show start N_unit [int n,int k]=[some (.int n),some (.int k)]from rfl];(dsimp![jJi,dL,iE,aE,cT,aH,bG]);refine#[#[],#[],lE (lo:=0) (W:=WEq H λi J=>J=map int (ofF i λr=>if r=k then 1 else 0)) (by rw[sizeLine_eq];lia) #[rfl,rfl] ?_ ?_]
 .rintro i v Y _ _ ⟨rfl,rfl⟩;(dsimp![Ry,tIf,cY,bV,cX,bI,aE,tC,tOp,rEq,iN,dB,dH]);refine mC (λh=>#[rfl,?_]) (λh=>#[rfl,?_])
  .show _=map int (ofF (i+1) λr=>if r=k then 1 else 0);have:i=k:=#[];rw[fD,aX,aK this];rfl
  .show _=map int (ofF (i+1) λr=>if r=k then 1 else 0);have:¬i=k:=#[];rw[fD,aX,aF this];rfl
 .rintro v Y _ ⟨rfl,rfl⟩ l S;rw[cA];exact q l _ (aT.upd S) S aL
def Dk:LS:=["self","lists"]
def jU(K:aQ):Sp:=λvs H Q _=>∃t w r g L,vs=[.ref t,.ref r]/\H t=some (.ins (eI K "Corner") w [])/\yZ H r g L/\L.Lim/\L.fl=false/\
 ∀ins O,H ins=none->Sb t H O->iS K O t ins L L.ins0->Q .non O
def vB(K:aQ):TE:=(tOp hE (tCB (iY K) (aH (gW K (aE 1) "begun") bG)) (aE 0))
def uV(K:aQ):TS:=(zE K (aE 0) (dL (iE (aH (tOp lS (tCB (iY K) (aH (aE 1) bG)) (tC (.int 1))) bG)) [0] (vB K)) "inside")
def vA(K:aQ):TE:=(tOp sV (cD (Vl K) [] E0 (aH (tCB (iY K) (aH (aE 2) bG)) (aH (aE 0) bG))) (mB (aH (tOp (fS K) (aE 1) (tUn jD (tC (.int 1)))) bG)))
def uW(K:aQ):TG:=(jV K 2 (eL (bA 0) (eL (bA 1) jW)))
def uU(K:aQ):TS:=(cE (zE K (aE 0) (gY (Ff K (aE 1)) 2 [1] (uW K) (vA K)) "kept") (uV K))
def uZ(K:aQ):TE:=(cD (Mb K) [] E0 (aH (tSl (vG K) (aE 0) hJ (mD (tUn jD (tC (.int 1))))) bG))
def uY(K:aQ):TE:=(cD (Mb K) [] E0 (aH (mB (aH (tC (.int 1)) bG)) bG))
def uT(K:aQ):TS:=(cE (zE K (aE 0) (tOp sV (dL (cU K (gW K (aE 0) "begun")) [] (uZ K)) (dL (cU K (tSl (vG K) (aE 1) hJ (mD (tUn jD (tC (.int 1)))))) [] (uY K))) "spans") (uU K))
def uX(K:aQ):TE:=(cD (kC K) [] E0 (aH (aE 1) (aH (aE 0) bG)))
def tM(K:aQ):TS:=(cE (zE K (aE 0) (dL (iE (aH (tOp lS (tCB (iY K) (aH (tOp (fS K) (aE 1) (tC (.int 0))) bG)) (tC (.int 1))) bG)) [1] (uX K)) "begun") (uT K))
def jUd(L:Lpd)(A:j<L.n):(ofF (L.m+1) L.rowL).map (λr=>r.getD j 0)=L.colL j:=by
 unfold Lpd.colL;have e:(ofF (L.m+1) L.rowL).map (λr=>r.getD j 0)=ofF (L.m+1) λi=>(L.rowL i).getD j 0:=by unfold ofF;rw[List.map_map];rfl
 rw[e];exact jF λi _=>iP (L.rowL_get i A)
def yZ.sb{t:Addr}{g:List Addr}{L:Lpd}(h:yZ H a g L)(s:Sb t H O)(i:IsI H t):yZ O a g L:=#[s.lst i h.ha,s.rws i h.hr]
def Rp(xs:List V)(m:Nat)(h:xs.length=m+1):(mY xs none (some (-1))).length=m:=by rw[Gg,cN];lia
def oc2(h:m<=100):m+1<=16777216:=#[]
def oc3(h:m<=100):m+1+1<=16777216:=#[]
def oc7(h:m<=100):-(2^62)<=(m:Int)/\(m:Int)<2^62:=#[]
def oc8{a b n:Nat}(h1:a=n)(h2:b=m)(I:m<=100)(y:n<=100):a+b<=16777216:=#[]
def oc9(h:m<=100):m<=16777216:=#[]
def oc10:((m+1:Nat):Int)-1=(m:Int):=#[]
def oc12(h:m<=100):m+1<=200:=#[]
def Qj{K vs H Q E}(C:zB K)(h:jU K vs H Q E):tM K (eQ Q) (start Dk vs) H:=by
 obtain⟨t,w,r,g,L,rfl,y,R,lim,fl,q⟩:=h;have rl:=R.len;have m1:=lim.m1;have n1:=lim.n1;have hI:IsI H t:=#[_,_,_,y];rw[show start Dk [ref t,ref r]=[some (.ref t),some (.ref r)]from rfl];obtain⟨p0,f6,e6⟩:=R.row (eC L.m);(dsimp?[tM,zE,dL,iE]);refine#[_,SqL.of R.ha,ref p0,fC (j:=0) (by rw[aZ,f6];rfl),p0,rfl,_,.inl (SqL.of e6),?_];rw[aB,Lpd.rowL_length,oc10,cA];refine#[(oc7 n1).1,(oc7 n1).2,lE (lo:=0) (W:=λi J Y=>aT H Y/\∃b,J=map ref b/\eF Y b (ofF i L.colL)) (by rw[sizeLine_eq];exact oc9 n1) #[aT.refl _,[],rfl,trivial] ?_ ?_]
 .rintro i v Y hi _ ⟨N,f7,rfl,hc⟩;(dsimp?[uX,cY,bV,cX,bI]);refine#[r,g,_,0+(i:Int),i,rfl,SqL.of (N _ _ R.ha),(R.same N).hr,by rw[bF];exact oc12 m1,λrow F=>?_,λl d G S f8=>#[N.trans G,f7++[l],by rw[aX];rfl,?_]]
  .obtain⟨k,hk,rfl⟩:=jZ F;rw[eX];exact lC (by rw[Lpd.rowL_length];lia)
  .rw[fD];exact eF.snoc (hc.same G) (by rw[f8,jUd L hi])
 .rintro v Y _ ⟨N,b,rfl,e7⟩ bl d3;have G:=N.trans (aT.upd (o:=lst (map ref b)) d3);have b0:=e7.same (aT.upd (o:=lst (map ref b)) d3);have b7:(upd Y bl (.lst (map ref b))) bl=some (.lst (map ref b)):=aL;generalize upd Y bl (.lst (map ref b))=d at G b0 b7;clear N e7 d3;have d4:b.length=L.n:=by rw[b0.length,bF]
  have t4:d t=some (.ins (eI K "Corner") w []):=G _ _ y;have I4:IsI d t:=#[_,_,_,t4];refine#[_,_,_,t4,C.cl,C.nb,by show 0<1000;decide,?_];have b5:Sb t d (upd d t (.ins (eI K "Corner") w (gX "begun" (.ref bl) []))):=Sb.at;have t5:(upd d t (.ins (eI K "Corner") w (gX "begun" (.ref bl) []))) t=some (.ins (eI K "Corner") w (gX "begun" (.ref bl) [])):=aL;generalize upd d t (.ins (eI K "Corner") w (gX "begun" (.ref bl) []))=u at b5 t5;have d5:Sb t H u:=(Sb.of G).trans b5;have I5:IsI u t:=#[_,_,_,t5];have b8:=b5.rws I4 b0;have b1:=b5.lst I4 b7;have R5:=R.sb d5 hI;clear b5 G t4 I4 b0 b7 e6;(dsimp?[uT,zE,dL,cU,sV,gW]);refine#[_,_,_,t5,C.cl,C.nb,_,rfl,bl,rfl,#[_,SqL.of b1],dR (K:=K) (a:=bl) (xs:=map ref b) (λi J Y=>aT u Y/\∃c:List Int,J=map int c/\c.length=i/\∀x∈c,BB 30000 x) ?_ #[aT.refl _,[],rfl,rfl,(λ_ h=>nomatch h)] ?_ ?_ ?_]
  .rw[aB,d4,sizeLine_eq];exact oc9 n1
  .rintro i J Y _ ⟨N,_⟩;exact N.seq (SqL.of b1)
  .rintro i x J Y hi _ ⟨N,c,rfl,sl,sb⟩;obtain⟨z,rfl,hz⟩:=eN hi;obtain⟨row,er,F⟩:=b8.get hz;obtain⟨f9,rfl⟩:=gL er;(dsimp?[uZ,vG]);refine#[_,N.seq (SqL.of F),λzc g0=>?_];have ec:mY (map int (L.colL i)) none (some (-1))=map int ((L.colL i).take ((L.colL i).length-1)):=by rw[Gg,aB,map_take]
   rw[ec];refine#[zc,_,rfl,SqL.of aL,?_,λx hx=>?_,λn H6 X bn=>#[(N.trans (aT.upd g0)).trans X,c++[n],by rw[aX];rfl,by rw[bK,sl];rfl,λx hx=>?_]]
   .unfold Lpd.colL;rw[cN,bF];exact cI (Nat.min_le_right _ _) (oc12 m1)
   .obtain⟨k,hk,rfl⟩:=jZ (mem_of_mem_take hx);exact lim.ba _ _ f9 (Nat.le_of_lt_succ hk)
   .rcases dD.mp hx with hx |hx
    .exact sb x hx
    .rw[cP.mp hx];exact bn
  .rintro J Y _ ⟨N,c,rfl,sl,sb⟩ f I;rw[aB,d4]at sl;have X:=N.trans (aT.upd (o:=lst (map int c)) I);have d6:(upd Y f (.lst (map int c))) f=some (.lst (map int c)):=aL;generalize upd Y f (.lst (map int c))=H6 at X d6;refine#[_,SqL.of (X _ _ R5.ha),λlc d7=>?_];have d8:=Rp (map ref g) L.m (by rw[aB];exact rl);generalize mY (map ref g) none (some (-1))=cs at d8;have d9:=X.trans (aT.upd (o:=lst cs) d7);have c7:(upd H6 lc (lst cs)) lc=some (lst cs):=aL;have c2:=aT.upd (o:=lst cs) d7 _ _ d6;generalize upd H6 lc (lst cs)=g1 at d9 c7 c2;refine#[#[_,SqL.of c7],dR (K:=K) (a:=lc) (xs:=cs) (λi J Y=>aT g1 Y/\∃c:List Int,J=map int c/\c.length=i/\∀x∈c,BB 30000 x) ?_ #[aT.refl _,[],rfl,rfl,(λ_ h=>nomatch h)] ?_ ?_ ?_]
   .rw[d8,sizeLine_eq];exact oc9 m1
   .rintro i J H7 _ ⟨T,_⟩;exact T.seq (SqL.of c7)
   .rintro i x J H7 hi _ ⟨T,P,rfl,b3,c8⟩;(dsimp?[uY]);refine#[sz1,λZ M=>#[_,[1],rfl,SqL.of aL,by decide,λn hn=>by rw[cP.mp hn];show(1:Int).natAbs<2^20000;exact Nat.one_lt_two_pow (by decide),λn H8 s bn=>#[(T.trans (aT.upd M)).trans s,P++[n],by rw[aX];rfl,by rw[bK,b3];rfl,λx hx=>?_]]];rcases dD.mp hx with hx |hx
    .exact c8 x hx
    .rw[cP.mp hx];exact bn
   .rintro J H7 _ ⟨T,P,rfl,b3,c8⟩ Z M;rw[d8]at b3;refine#[_,aT.upd M _ _ (T _ _ c2),_,aL,by rw[aB,aB,sizeLine_eq];exact oc8 sl b3 m1 n1,λsp e8=>?_];have s:=(d9.trans (T.trans (aT.upd (o:=lst (map int P)) M))).trans (aT.upd (o:=lst (map int c++map int P)) e8);have b2:(upd (upd H7 Z (.lst (map int P))) sp (.lst (map int c++map int P))) sp=some (.lst (map int (c++P))):=by rw[aL,aX]
    generalize upd (upd H7 Z (.lst (map int P))) sp (.lst (map int c++map int P))=H8 at s b2;clear X d6 T M e8 N I d9 c7 c2 d7;have e9:∀x∈c++P,BB 30000 x:=λx hx=>by
     rcases dD.mp hx with hx |hx
     .exact sb x hx
     .exact c8 x hx
    have f1:(c++P).length=L.n+L.m:=by rw[bK,sl,b3]
    generalize c++P=g3 at e9 f1 b2;clear sb c8 sl b3;have t8:=s _ _ t5;have I8:IsI H8 t:=#[_,_,_,t8];refine#[_,_,_,t8,C.cl,C.ns,by show 1<1000;decide,?_];have b9:Sb t H8 (upd H8 t (.ins (eI K "Corner") w (gX "spans" (.ref sp) (gX "begun" (.ref bl) [])))):=Sb.at;have t9:(upd H8 t (.ins (eI K "Corner") w (gX "spans" (.ref sp) (gX "begun" (.ref bl) [])))) t=some (.ins (eI K "Corner") w (gX "spans" (.ref sp) (gX "begun" (.ref bl) []))):=aL;generalize upd H8 t (.ins (eI K "Corner") w (gX "spans" (.ref sp) (gX "begun" (.ref bl) [])))=H9 at b9 t9;have e0:Sb t H H9:=d5.trans ((Sb.of s).trans b9);have I9:IsI H9 t:=#[_,_,_,t9];have c9:=b9.rws I8 (b8.same s);have d1:=b9.lst I8 (s _ _ b1);have d2:=b9.lst I8 b2;have R9:=R.sb e0 hI;clear b9 s I8 t8 b8 b1 d5 I5 t5 b2 R5;(dsimp?[uU,zE,gY,Ff,sV]);refine#[#[_,SqL.of R9.ha],jXk (K:=K) (a:=r) (xs:=map ref g) (λi J Y=>aT H9 Y/\∃a0,J=map ref a0/\eF Y a0 (ofF i (L.keptL L.ins0))) ?_ #[aT.refl _,[],rfl,trivial] ?_ ?_ ?_]
    .rw[aB,rl,sizeLine_eq];exact oc2 m1
    .rintro i J Y _ ⟨N,_⟩;exact N.seq (SqL.of R9.ha)
    .rintro i x p J Y hi _ ⟨N,a0,rfl,c3⟩ hp os D;obtain⟨z,rfl,hz⟩:=eN hi;obtain⟨im,F⟩:=(R9.same N).inv hz;obtain⟨O,U,rfl⟩:∃O U,os=[O,U]:=by
      match os,D with
      | [O,U],_=>exact#[O,U,rfl]
     have G:=aT.upd (o:=tup [.int i,.ref z]) hp;(dsimp?[uW,vA,sV,cY,bV,cX,bI]);refine#[_,SqT.of aL,rfl,_,_,rfl,_,_,rfl,rfl,#[[some (.int i),some (.ref z)],rfl,rfl],_,.inl ((N.trans G).seq (SqL.of R9.ha)),?_];rw[aB,rl];refine#[L.m+1,i,rfl,oc12 m1,λf d B _ I=>?_];have la:atI (map int (L.rowL i)) (-1)=some (.int (L.be i)):=zZ (by rw[aB,Lpd.rowL_length,aZ,Nat.add_sub_cancel,L.rowL_last];rfl);refine#[z,rfl,_,SqL.of ((G.trans B) _ _ F),_,la,sz1,λZ M=>#[f,rfl,_,aT.upd M _ _ I,_,aL,by rw[aB,bF,sizeLine_eq];exact oc3 m1,λl3 f2=>?_]];refine#[(((N.trans G).trans B).trans (aT.upd M)).trans (aT.upd f2),a0++[l3],by rw[aX];rfl,?_];rw[fD i (L.keptL L.ins0)];refine eF.snoc ((((c3.same G).same B).same (aT.upd M)).same (aT.upd f2)) ?_;rw[aL];unfold Lpd.keptL;rw[Lpd.T_start fl (Nat.lt_succ_of_le im),aX]
     congr 3
     show _=_
     congr 1
     refine jF λk hk=>?_;rw[Lpd.T_start fl (Nat.lt_succ_of_le im)];unfold e1;by_cases e:i=k
     .rw[aK e.symm,aK e]
     .rw[aF (Ne.symm e),aF e]
    .rintro J Y _ ⟨N,a0,rfl,c3⟩ kl e2;rw[aB,rl]at c3;have A:=N.trans (aT.upd (o:=lst (map ref a0)) e2);have a4:=c3.same (aT.upd (o:=lst (map ref a0)) e2);have a5:(upd Y kl (.lst (map ref a0))) kl=some (.lst (map ref a0)):=aL;generalize upd Y kl (.lst (map ref a0))=c4 at A a4 a5;have e3:=A _ _ t9;have b4:IsI c4 t:=#[_,_,_,e3];refine#[_,_,_,e3,C.cl,C.nk,by show 2<1000;decide,?_];have a3:Sb t c4 (upd c4 t (.ins (eI K "Corner") w (gX "kept" (.ref kl) (gX "spans" (.ref sp) (gX "begun" (.ref bl) []))))):=Sb.at;have b6:(upd c4 t (.ins (eI K "Corner") w (gX "kept" (.ref kl) (gX "spans" (.ref sp) (gX "begun" (.ref bl) []))))) t=some (.ins (eI K "Corner") w (gX "kept" (.ref kl) (gX "spans" (.ref sp) (gX "begun" (.ref bl) [])))):=aL;generalize upd c4 t (.ins (eI K "Corner") w (gX "kept" (.ref kl) (gX "spans" (.ref sp) (gX "begun" (.ref bl) []))))=e4 at a3 b6;have c5:Sb t H e4:=e0.trans ((Sb.of A).trans a3);have f3:IsI e4 t:=#[_,_,_,b6];have a6:=a3.rws b4 (c9.same A);have a2:=a3.lst b4 (A _ _ d1);have a7:=a3.lst b4 (A _ _ d2);have a8:=a3.rws b4 a4;have a9:=a3.lst b4 a5;have g4:=R.sb c5 hI;clear a3 A b4 e3 c9 d1 d2 c3 a4 a5 N e0 t9 I9 R9 e2;(dsimp?[uV,zE,dL,iE]);refine#[_,.inl (SqL.of g4.ha),?_];rw[aB,rl,oc10,cA];refine#[(oc7 m1).1,(oc7 m1).2,lE (lo:=0) (W:=WEq e4 λi J=>J=map int (ofF i λi=>((L.ins0 i:Nat):Int))) (by rw[sizeLine_eq];exact oc9 m1) #[rfl,rfl] ?_ ?_]
     .rintro i J c6 hi _ ⟨rfl,rfl⟩;(dsimp?[vB,gW,cY,bV,cX,bI]);refine#[_,_,_,b6,C.cl,C.nb,_,rfl,bl,rfl,_,.inl (SqL.of a2),rfl,?_];show _=map int (ofF (i+1) λi=>((L.ins0 i:Nat):Int));rw[fD,aX,aB,d4]
      congr 3
      unfold Lpd.ins0;show(L.n:Int)+(0+(i:Int))=((L.n+i:Nat):Int);lia
     .rintro J c6 _ ⟨rfl,rfl⟩ ins a1;have f4:=aT.upd (o:=lst (map int (L.insL L.ins0))) a1;have g5:(upd c6 ins (.lst (map int (L.insL L.ins0)))) ins=some (.lst (map int (L.insL L.ins0))):=aL;have f5:ins≠t:=λe=>by rw[e,b6]at a1;cases a1
      have e5:H ins=none:=c5.free a1 f5;show ∃x g6 g7,upd c6 ins (.lst (map int (L.insL L.ins0))) t=some (HO.ins x g6 g7)/\_;have g8:=f4 _ _ b6;have nb:∀{a:Addr}{o:HO},c6 a=some o->a≠ins:=λe z=>by rw[z,a1]at e;cases e
      have nt:∀{a:Addr}{xs:List V},c6 a=some (.lst xs)->a≠t:=λe=>kS e b6 (by intro z;cases z);refine#[_,_,_,g8,C.cl,C.ni,by show 3<1000;decide,q ins _ e5 ((c5.trans (Sb.of f4)).trans Sb.at) #[w,bl,sp,kl,b,g3,a0,?_,?_,?_,?_,f1,e9,?_,?_,?_]]
      .rw[aL];rfl
      .rw[nW (.inl rfl),nW (.inr rfl)];exact zM a2 (nt a2) (nb a2)
      .rw[nW (.inl rfl),nW (.inr rfl)];exact a6.mn (a6.notI f3) (a6.notN a1)
      .rw[nW (.inl rfl),nW (.inr rfl)];exact zM a7 (nt a7) (nb a7)
      .rw[nW (.inl rfl),nW (.inr rfl)];exact zM a9 (nt a9) (nb a9)
      .rw[nW (.inl rfl),nW (.inr rfl)];exact a8.mn (a8.notI f3) (a8.notN a1)
      .rw[cK f5];exact g5
def tT:LS:=["column","longs"]
def rQ(K:aQ):Sp:=λvs H Q _=>∃a b xs ls,vs=[.ref a,.ref b]/\SqL K H a (map int xs)/\SqL K H b (map int ls)/\xs.length=ls.length/\xs.length<=200/\∀(w:Int) H',aT H H'->(∀(i:Nat) x l,xs[i]?=some x->ls[i]?=some l->x≠0->(ib x:Int)-l<=w)->(w=0∨∃(i:Nat)(x l:Int),xs[i]?=some x/\ls[i]?=some l/\w=(ib x:Int)-l)->Q (.int w) H'
def uR(K:aQ):TE:=(tOp lS (tBM0 K "int" Xl (aE 0)) (aE 1))
def uQ(K:aQ):TG:=(jV K 2 (eL (bA 0) (eL (bA 1) jW)))
def tJ(K:aQ):TS:=(cT (tMaxD K (aH (Vk (mX K (aH (aE 0) (aH (aE 1) bG))) 2 [] (uQ K) (dB (tOp rNe (aE 0) (tC (.int 0)))) (uR K)) bG) (tC (.int 0))))
def Qg{K}:RdS K rQ tJ tT:=by
 rintro j H Q E ⟨a,b,F,ls,rfl,ha,hb,c,g,q⟩;rw[show start tT [ref a,ref b]=[some (.ref a),some (.ref b)]from rfl];(dsimp?[tJ,Vk,mX,tMaxD]);refine#[#[_,ha],#[_,hb],jXl (K:=K) (a:=a) (b:=b) (xs:=map int F) (ys:=map int ls) (λi J Y=>aT H Y/\∃ns:List Int,J=map int ns/\(∀n∈ns,∃(k:Nat)(x l:Int),F[k]?=some x/\ls[k]?=some l/\n=(ib x:Int)-l)/\∀(k:Nat) x l,k<i->F[k]?=some x->ls[k]?=some l->x≠0->(ib x:Int)-l∈ns) (by rw[aB,sizeLine_eq];lia) (by rw[aB,aB];exact c) #[aT.refl _,[],rfl,(λ_ h=>nomatch h),λk x l h=>absurd h (fE _)] ?_ ?_ ?_]
 .rintro i J Y _ ⟨N,_⟩;exact#[N.seq ha,N.seq hb]
 .rintro i x y p J Y hx hy _ ⟨N,ns,rfl,n1,n2⟩ hp os D;obtain⟨u,rfl,hu⟩:=fJ hx;obtain⟨l,rfl,S⟩:=fJ hy;obtain⟨O,U,rfl⟩:∃O U,os=[O,U]:=by
   match os,D with
   | [O,U],_=>exact#[O,U,rfl]
  have G:=N.trans (aT.upd (o:=tup [.int u,.int l]) hp);(dsimp?[uQ,uR,tBM0,Xl,cY,bV,cX,bI]);refine#[_,SqT.of aL,rfl,_,_,rfl,_,_,rfl,rfl,#[[some (.int u),some (.int l)],rfl,rfl],rfl,?_];have r:∀n∈ns,∃(k:Nat)(x:Int),F[k]?=some x/\∃l:Int,ls[k]?=some l/\n=(ib x:Int)-l:=λn hn=>let⟨k,x,l,e1,C,T⟩:=n1 n hn;#[k,x,e1,l,C,T];by_cases d:u=0
  .rw[decide_eq_true (by rw[d]:int u=int 0)];refine yV #[G,ns,rfl,r,λk x f hk e1 C B=>?_];by_cases e:k=i
   .subst e;rw[hu]at e1;exact absurd ((aW e1).symm.trans d) B
   .exact n2 k x f #[] e1 C B
  .rw[decide_eq_false (λz=>d (by injection z):¬int u=int 0)];refine iteT #[rfl,u,rfl,l,rfl,G,ns++[(ib u:Int)-l],by rw[aX];rfl,λn hn=>?_,λk x f hk e1 C hx=>?_]
   .rcases dD.mp hn with h |h
    .exact r n h
    .exact#[i,u,hu,l,S,cP.mp h]
   .by_cases e:k=i
    .subst e;rw[hu]at e1;rw[S]at C;obtain rfl:=aW e1;obtain rfl:=aW C;exact dI _ (cP.mpr rfl)
    .exact iF _ (n2 k x f #[] e1 C hx)
 .rintro J Y ⟨N,ns,rfl,n1,n2⟩ p hp;rw[aB]at n2;have G:=N.trans (aT.upd (o:=lst (map int ns)) hp);have lt:∀{k:Nat}{x:Int},F[k]?=some x->k<F.length:=λe=>(aO.mp e).1;refine#[ns,SqL.of aL,λz=>q 0 _ G (λk x l e1 C hx=>?_) (.inl rfl),λ_ M X A=>q M _ G (λk x l e1 C hx=>A _ (n2 k x l (lt e1) e1 C hx)) ?_]
  .have:=n2 k x l (lt e1) e1 C hx;rw[z]at this;exact nomatch this
  .obtain⟨k,x,l,e1,C,T⟩:=n1 M X;exact .inr #[k,x,l,e1,C,T]
def Hy:LS:=["number","bits"]
def tO(K:aQ):Sp:=λvs H Q _=>∃n b,vs=[.int n,.int b]/\0<=n/\ib n<=20000/\-1000000<=b/\b<=1000000/\∀r,Uo n b r->Q (.int r) H
def wE(K:aQ):TS:=(cE (fX (dB (tOp kO (aE 0) (tC (.int 0)))) jN eA) (cT (tIf (dB (tOp zF (aE 1) (tC (.int 0)))) (tOp rShl (aE 0) (aE 1)) (tOp rShr (aE 0) (tUn jD (aE 1))))))
def Rb{K}:RdS K tO wE Hy:=by
 rintro j H Q E ⟨n,b,rfl,g,hi,t,d,q⟩;rw[show start Hy [int n,int b]=[some (.int n),some (.int b)]from rfl];(dsimp?[wE,tIf,rShl,rShr]);rw[aF #[]];refine mC (λh=>#[#[#[],by show(ib n:Int)+b<=_;lia],q _ (str_up #[] g)]) (λh=>#[#[],q _ ?_]);have:=Yf (n:=n) (b:=-b) #[] g;rwa [Int.neg_neg]at this
def Lf:LS:=["number","bits"]
def xL(K:aQ):Sp:=λvs H Q _=>∃n b,vs=[.int n,.int b]/\ib n<=20000/\-1000000<=b/\b<=1000000/\∀r,Uo n b r->Q (.int r) H
def Ab(K:aQ):TS:=(cE (fX (dB (tOp kO (aE 0) (tC (.int 0)))) (cT (tUn jD (cD (tO K) [] E0 (aH (tUn jD (aE 0)) (aH (aE 1) bG))))) eA) (cT (tIf (dB (tOp zF (aE 1) (tC (.int 0)))) (tOp rShl (aE 0) (aE 1)) (tOp rShr (aE 0) (tUn jD (aE 1))))))
def Wp{K}:RdS K xL Ab Lf:=by
 rintro j H Q E ⟨n,b,rfl,hi,t,d,q⟩;rw[show start Lf [int n,int b]=[some (.int n),some (.int b)]from rfl];(dsimp?[Ab,tIf,rShl,rShr]);refine mC (λh=>#[-n,b,rfl,#[],by rw[ib_neg];exact hi,t,d,λr hr=>#[r,rfl,q _ (str_neg hr h)]]) (λh=>?_);refine mC (λh=>#[#[#[],by show(ib n:Int)+b<=_;lia],q _ (str_up #[] #[])]) (λh=>#[#[],q _ ?_]);have:=Yf (n:=n) (b:=-b) #[] #[];rwa [Int.neg_neg]at this
def Lh:LS:=["row","bits","wides"]
def xM(K:aQ):Sp:=λvs H Q _=>∃a w xs Z,∃b:Int,vs=[.ref a,.int b,.ref w]/\SqL K H a (map int xs)/\SqL K H w (map int Z)/\xs.length=Z.length/\xs.length<=200/\(∀x∈xs,ib x<=20000)/\(-500000<=b/\b<=500000)/\(∀v∈Z,-500000<=v/\v<=500000)/\
 ∀l X O,aT H O->H l=none->O l=some (.lst (map int X))->X.length=xs.length->(∀(i:Nat) x v r,xs[i]?=some x->Z[i]?=some v->X[i]?=some r->Uo x (b-v) r)->Q (.ref l) O
def Ay(K:aQ):TE:=(cD (xL K) [] E0 (aH (aE 0) (aH (tOp lS (aE 2) (aE 1)) bG)))
def Ax(K:aQ):TG:=(jV K 2 (eL (bA 0) (eL (bA 1) jW)))
def Ad(K:aQ):TS:=(cT (gY (mX K (aH (aE 0) (aH (aE 2) bG))) 2 [1] (Ax K) (Ay K)))
def Wq{K}:RdS K xM Ad Lh:=by
 rintro j H Q E ⟨a,w,F,Z,b,rfl,ha,hw,c,g,bx,⟨t,d⟩,I,q⟩;rw[show start Lh [ref a,int b,ref w]=[some (.ref a),some (.int b),some (.ref w)]from rfl];(dsimp?[Ad,gY,mX]);refine#[#[_,ha],#[_,hw],lP (K:=K) (a:=a) (b:=w) (xs:=map int F) (ys:=map int Z) (λi J Y=>aT H Y/\∃X:List Int,J=map int X/\X.length=i/\∀(k:Nat) x v r,F[k]?=some x->Z[k]?=some v->X[k]?=some r->Uo x (b-v) r) (by rw[aB,sizeLine_eq];lia) (by rw[aB,aB];exact c) #[aT.refl _,[],rfl,rfl,λk x v r _ _ e=>by simp at e] ?_ ?_ ?_]
 .rintro i J Y _ ⟨N,_⟩;exact#[N.seq ha,N.seq hw]
 .rintro i x y p J Y hx hy _ ⟨N,X,rfl,m,ok⟩ hp os D;obtain⟨u,rfl,hu⟩:=fJ hx;obtain⟨v,rfl,hv⟩:=fJ hy;obtain⟨O,U,rfl⟩:∃O U,os=[O,U]:=by
   match os,D with
   | [O,U],_=>exact#[O,U,rfl]
  have G:=N.trans (aT.upd (o:=tup [.int u,.int v]) hp);have n:=I v (aI hv);(dsimp?[Ax,Ay,cY,bV,cX,bI]);refine#[_,SqT.of aL,rfl,_,_,rfl,_,_,rfl,rfl,#[[some (.int u),some (.int v)],rfl,rfl],?_];refine#[_,rfl,u,b-v,rfl,bx u (aI hu),#[],#[],λr hr=>#[G,X++[r],by rw[aX];rfl,by rw[bK,m];rfl,λk M f P e1 C T=>?_]];rcases zV T with⟨T,_⟩|⟨B,rfl⟩
  .exact ok k M f P e1 C T
  .rw[B,m,hu]at e1;rw[B,m,hv]at C;obtain rfl:=aW e1;obtain rfl:=aW C;exact hr
 .rintro J Y _ ⟨N,X,rfl,m,ok⟩ l S;rw[aB]at m;exact q l X _ (N.trans (aT.upd S)) (N.free S) aL m ok
def Tr:LS:=["lists","bits","longs","wides"]
structure Rnd(L L2:Lpd)(b:Nat):Prop where
 m:L2.m=L.m
 n:L2.n=L.n
 fl:L2.fl=false
 ba:∀j k,j<L.n->k<=L.m->BB b (L2.a j k)
 bb:∀k,k<=L.m->BB b (L2.be k)
 nn:∀k,k<=L.m->0<=L.be k->0<=L2.be k
def Eg(K:aQ):Sp:=λvs H Q _=>∃a g L,∃b:Nat,vs=[.ref a,.int b]/\yZ H a g L/\1<=L.n/\L.n<=100/\L.m<=100/\b<=9000/\(∀i,i<=L.m->∀x∈L.rowL i,BB 20000 x)/\
 ∀l I r O,aT H O->yZ O l I r->Rnd L r b->Q (.ref l) O
def Gx(K:aQ):TE:=(cD (xM K) [] E0 (aH (aE 0) (aH (tOp lS (aE 3) (aE 1)) (aH (aE 2) bG))))
def Gv(K:aQ):TG:=(jV K 2 (eL (bA 0) (eL (bA 1) jW)))
def Gu(K:aQ):TS:=(cT (gY (mX K (aH (aE 0) (aH (aE 2) bG))) 2 [3,1] (Gv K) (Gx K)))
def wF(K:aQ):TE:=(cD (rQ K) [] E0 (aH (cD (kC K) [] E0 (aH (aE 2) (aH (aE 0) bG))) (aH (aE 1) bG)))
def Gs(K:aQ):TS:=(cE (cS (dL (iE (aH (tCB (iY K) (aH (tOp (fS K) (aE 0) (tC (.int 0))) bG)) bG)) [2,0] (wF K)) (bA 3)) (Gu K))
def Gw(K:aQ):TE:=(cD (vU K) [] E0 (aH (tSl (vG K) (aE 0) hJ (mD (tUn jD (tC (.int 1))))) bG))
def Iw(K:aQ):TS:=(cE (cS (dL (cU K (aE 0)) [] (Gw K)) (bA 2)) (Gs K))
def jZV{K}:RdS K Eg Iw Tr:=by
 rintro vs H Q E ⟨a,g,L,b,rfl,R,n1,n2,m2,b2,bx,q⟩;have rl:=R.len;rw[show start Tr [ref a,int b]=[some (.ref a),some (.int b),none,none]from rfl];(dsimp?[Iw,dL,cU]);refine#[#[_,SqL.of R.ha],dR (K:=K) (a:=a) (xs:=map ref g) (λi J Y=>aT H Y/\∃ls:List Int,J=map int ls/\ls.length=i/\∀(k:Nat) l,ls[k]?=some l->(0<=l/\l<=20000)/\∀j,j<L.n->(ib (L.a j k):Int)<=l) (by rw[aB,sizeLine_eq];lia) #[aT.refl _,[],rfl,rfl,λk l e=>by simp at e] ?_ ?_ ?_]
 .rintro i J Y _ ⟨N,_⟩;exact SqL.of (N _ _ R.ha)
 .rintro i x J Y hi _ ⟨N,ls,rfl,P,lo⟩;obtain⟨p,rfl,hp⟩:=eN hi;obtain⟨im,F⟩:=(R.same N).inv hp;(dsimp?[Gw,vG]);refine#[_,SqL.of F,λz hz=>?_];rw[cut_row];refine#[z,_,rfl,SqL.of aL,λe=>?_,by rw[bF];lia,λM d G hM#[n,hn,eM]=>#[(N.trans (aT.upd hz)).trans G,ls++[(M:Int)],by rw[aX];rfl,by rw[bK,P];rfl,λk l e=>?_]]
  .have:=congrArg List.length e;rw[bF]at this;simp at this;lia
  .rcases zV e with⟨e,_⟩|⟨ek,rfl⟩
   .exact and_assoc.mp (lo k l e)
   .rw[ek,P];obtain⟨j,A,rfl⟩:=jZ hn;have:ib (L.a j i)<=20000:=Ru (bx i im _ (iF _ (aI (eU (λj=>L.a j i) A))));refine and_assoc.mp #[#[],λj A=>?_];have:=hM _ (aI (eU (λj=>L.a j i) A));lia
 .rintro J Y _ ⟨N,ls,rfl,P,lo⟩ lz a1;rw[aB,rl]at P;have G:=N.trans (aT.upd (o:=lst (map int ls)) a1);have a0:(upd Y lz (lst (map int ls))) lz=some (lst (map int ls)):=aL;generalize upd Y lz (lst (map int ls))=d at G a0;clear N a1;have R4:=R.same G;obtain⟨p0,a2,a3⟩:=R4.row (eC L.m);(dsimp?[Gs,dL,iE]);refine#[_,SqL.of R4.ha,ref p0,fC (j:=0) (by rw[aZ,a2];rfl),p0,rfl,_,.inl (SqL.of a3),?_];rw[aB,Lpd.rowL_length,cA];refine#[#[],#[],lE (lo:=0) (W:=λj J u=>aT d u/\∃Z:List Int,J=map int Z/\Z.length=j/\∀(k:Nat) w,Z[k]?=some w->(-20000<=w/\w<=20000)/\∀(i:Nat) x l,i<=L.m->(L.rowL i)[k]?=some x->ls[i]?=some l->x≠0->(ib x:Int)-l<=w) (by rw[sizeLine_eq];lia) #[aT.refl _,[],rfl,rfl,λk l e=>by simp at e] ?_ ?_]
  .rintro j J u A _ ⟨B,Z,rfl,wl,wo⟩;(dsimp?[wF,cY,bV,cX,bI];try simp_arith[wF,cY,bV,cX,bI,eX])
   refine#[a,g,_,(j:Int),j,rfl,SqL.of (B _ _ R4.ha),(R4.same B).hr,by rw[bF];lia,λr hr=>?_,λc H6 s6 b4 a4=>?_]
   .obtain⟨i,hi,rfl⟩:=jZ hr;exact lC (by rw[Lpd.rowL_length];lia)
   .have e:(ofF (L.m+1) L.rowL).map (λr=>r.getD j 0)=ofF (L.m+1) λi=>(L.rowL i).getD j 0:=by unfold ofF;rw[List.map_map];rfl
    rw[e]at a4;have a5:=B.trans s6;refine#[c,lz,_,ls,rfl,SqL.of a4,SqL.of (a5 _ _ a0),by rw[bF,P],by rw[bF];lia,λw H7 s7 w1 w2=>#[a5.trans s7,Z++[w],by rw[aX];rfl,by rw[bK,wl];rfl,λk w' e'=>?_]];rcases zV e' with⟨e',_⟩|⟨ek,rfl⟩
    .exact and_assoc.mp (wo k w' e')
    .rw[ek,wl];refine and_assoc.mp #[?_,λi x l hi ex el hx=>?_]
     .rcases w2 with w0 |⟨i,x,l,ex,el,ew⟩
      .omega
      .obtain⟨b5,rfl⟩:=gL ex;have hb:ib ((L.rowL i).getD j 0)<=20000:=Ru (bx i #[] _ (kM (by rw[Lpd.rowL_length];lia)));have:=(lo i l el).1;lia
     .have:=w1 i x l (by rw[eU _ (show i<L.m+1 by lia),iP ex]) el hx;exact this
  .rintro J u _ ⟨B,Z,rfl,wl,wo⟩ wz a6;have s6:=B.trans (aT.upd (o:=lst (map int Z)) a6);have a7:(upd u wz (lst (map int Z))) wz=some (lst (map int Z)):=aL;generalize upd u wz (lst (map int Z))=H6 at s6 a7;have a8:=G.trans s6;have R6:=R.same a8;have a9:=s6 _ _ a0;clear B a6 s6 a0 R4 a3 a2;(dsimp?[Gu,gY,mX]);refine#[#[_,SqL.of R6.ha],#[_,SqL.of a9],lP (K:=K) (a:=a) (b:=lz) (xs:=map ref g) (ys:=map int ls) (λi J H7=>aT H6 H7/\∃I f,J=map ref I/\eF H7 I f/\f.length=i/\∀(k:Nat) row,f[k]?=some row->row.length=L.n+1/\∀(j:Nat) x v r l,(L.rowL k)[j]?=some x->Z[j]?=some v->row[j]?=some r->ls[k]?=some l->Uo x ((b:Int)-l-v) r) (by rw[aB,sizeLine_eq];lia) (by rw[aB,aB];lia) #[aT.refl _,[],[],rfl,trivial,rfl,λk row e=>by simp at e] ?_ ?_ ?_]
   .rintro i J H7 _ ⟨s7,_⟩;exact#[SqL.of (s7 _ _ R6.ha),SqL.of (s7 _ _ a9)]
   .rintro i x y p J H7 hx hy _ ⟨s7,I,f,rfl,T,ql,ok⟩ hp os D;obtain⟨z,rfl,hz⟩:=eN hx;obtain⟨l,rfl,hl⟩:=fJ hy;obtain⟨O,U,rfl⟩:∃O U,os=[O,U]:=by
     match os,D with
     | [O,U],_=>exact#[O,U,rfl]
    obtain⟨im,F⟩:=(R6.same s7).inv hz;have s:=aT.upd (o:=tup [.ref z,.int l]) hp;have bl:=(lo i l hl).1;(dsimp?[Gv,Gx,cY,bV,cX,bI]);refine#[_,SqT.of aL,rfl,_,_,rfl,_,_,rfl,rfl,#[[some (.ref z),some (.int l)],rfl,rfl],?_];generalize upd H7 p (tup [.ref z,.int l])=H8 at s;refine#[_,rfl,z,wz,L.rowL i,Z,(b:Int)-l,rfl,SqL.of (s _ _ F),SqL.of ((s7.trans s) _ _ a7),by rw[Lpd.rowL_length,wl],by rw[Lpd.rowL_length];lia,λx hx=>Ru (bx i im x hx),#[#[],#[]],λv hv=>?_,λlr X H9 s9 b6 b1 b3 st=>#[(s7.trans s).trans s9,I++[lr],by rw[aX];rfl,f++[X],eF.snoc ((T.same s).same s9) b1,by rw[bK,ql];rfl,λk row e=>?_]]
    .obtain⟨j,A⟩:=dA hv;have:=(wo j v A).1;lia
    .rcases zV e with⟨e,_⟩|⟨ek,rfl⟩
     .exact ok k row e
     .rw[ek,ql];refine#[by rw[b3,Lpd.rowL_length],λj x v r l' e1 C e3 e4=>?_];rw[hl]at e4;obtain rfl:=aW e4;exact st j x v r e1 C e3
   .rintro J H7 _ ⟨s7,I,f,rfl,T,ql,ok⟩ l hl;rw[aB,rl]at ql;have s:=aT.upd (o:=lst (map ref I)) hl;have b0:∀r∈f,r.length=L.n+1:=λr hr=>by
     obtain⟨k,hk⟩:=dA hr;exact(ok k r hk).1
    have er:=jUh ql b0;refine q l I (LpR f L.m L.n) _ ((a8.trans s7).trans s) #[aL,by show eF _ I (ofF (L.m+1) (LpR f L.m L.n).rowL);rw[er];exact T.same s] ?_;have cell:∀(k j:Nat),k<=L.m->j<L.n+1->∀x,(L.rowL k)[j]?=some x->BB b ((f.getD k []).getD j 0)/\(0<=x->0<=(f.getD k []).getD j 0):=λk j hk A x hx=>by
     have ek:f[k]?=some f[k]:=aD #[];obtain⟨len,st⟩:=ok k _ ek;have t:f.getD k []=f[k]:=by rw[aJ,ek];rfl
     have el:ls[k]?=some ls[k]:=aD #[];have ew:Z[j]?=some Z[j]:=aD #[];have S:=st j x _ _ _ hx ew (Gf (show j<(f[k]).length by lia)) el;rw[t];refine#[?_,S.nn];by_cases x0:x=0
     .rw[S.zz x0];show(0:Int).natAbs<_;exact eJ _
     .exact S.bb b (by have:=(wo j _ ew).2 k x _ hk hx el x0;lia)
    exact#[rfl,rfl,rfl,λj k A hk=>(cell k j hk #[] _ (L.rowL_get k A)).1,λk hk=>(cell k L.n hk #[] _ (L.rowL_last k)).1,λk hk h0=>(cell k L.n hk #[] _ (L.rowL_last k)).2 h0]
def Pt:LS:=["one","other"]
def sI(K:aQ):Sp:=λvs H Q _=>∃a b,∃n:Nat,∃xs ys,∃f g:Nat->Int,vs=[.ref a,.ref b]/\SqL K H a (map int xs)/\SqL K H b (map int ys)/\n<=200/\n<=xs.length/\n<=ys.length/\(xs.length<=n∨ys.length<=n)/\(∀k,k<n->xs[k]?=some (f k)/\ys[k]?=some (g k)/\BB 20000 (f k)/\BB 20000 (g k))/\∀O,aT H O->Q (.int (sm n λk=>f k*g k)) O
def Cq(K:aQ):TE:=(tOp fO (aE 0) (aE 1))
def Cp(K:aQ):TG:=(jV K 2 (eL (bA 0) (eL (bA 1) jW)))
def Eb(K:aQ):TS:=(cT (tCB (Ms K) (aH (gY (mX K (aH (aE 0) (aH (aE 1) bG))) 2 [] (Cp K) (Cq K)) bG)))
def Zq{K}:RdS K sI Eb Pt:=by
 rintro j H Q E ⟨a,b,n,F,v,f,g,rfl,A,T,hn,h1,h2,R,m,q⟩;rw[show start Pt [ref a,ref b]=[some (.ref a),some (.ref b)]from rfl];(dsimp![Eb,gY,mX,Ms,aE,cT,aH,bG,tCB]);refine#[#[_,A],#[_,T],jXj (K:=K) (a:=a) (b:=b) (xs:=map int F) (ys:=map int v) n (λi J Y=>aT H Y/\J=map int (ofF i λk=>f k*g k)) (by rw[sizeLine_eq];lia) (by rw[aB];lia) (by rw[aB];lia) (by rw[aB,aB];exact R) #[aT.refl _,rfl] ?_ ?_ ?_]
 .rintro i J Y _ ⟨N,_⟩;exact#[N.seq A,N.seq T]
 .rintro i x y p J Y hx hy hi _ ⟨N,rfl⟩ hp os D;obtain⟨e1,C,t,o⟩:=m i hi;obtain⟨c,rfl,hc⟩:=fJ hx;obtain⟨d,rfl,hd⟩:=fJ hy;rw[hc]at e1;rw[hd]at C;obtain rfl:=aW e1;obtain rfl:=aW C;obtain⟨O,U,rfl⟩:∃O U,os=[O,U]:=by
   match os,D with
   | [O,U],_=>exact#[O,U,rfl]
  (dsimp![Cp,Cq,bA,aE,tOp,rI,fO,jV,eL,jW,Lca,Lna]);refine#[_,SqT.of aL,rfl,_,_,rfl,_,_,rfl,rfl,#[[some (.int (f i)),some (.int (g i))],rfl,rfl],_,rfl,_,rfl,.b t o,N.trans (aT.upd hp),?_];rw[fD,aX];rfl
 .rintro e Y _ ⟨N,rfl⟩ l S;refine#[_,SqL.of aL,?_];rw[Fn];exact q _ (N.trans (aT.upd S))
def sT:LS:=["self","last","lacks","found","place","lack"]
noncomputable def oV:Option Nat->V
 |none=>.non
 |some f=>.int f
noncomputable def EntO(L:Lpd)(s:Nat->Nat)(i:Nat):Option Nat->Prop
 |none=>∀c,c<i->0<=L.T s L.m (L.cv c)
 |some c=>c<i/\L.T s L.m (L.cv c)<0
def jB(K:aQ):Sp:=λvs H Q _=>∃t ins L s,vs=[.ref t]/\iS K H t ins L s/\L.Lim/\L.Okn s/\∀o O,aT H O->EntO L s (L.n+L.m) o->Q (oV o) O
def jJa(t p l:Addr)(L:Lpd)(s:Nat->Nat)(N:Hp):NS:=λi Z Y=>∃o O U,Z=[some (.ref t),some (.ref p),some (.ref l),some (oV o),O,U]/\aT N Y/\EntO L s i o
def pB(K:aQ):TS:=(fX (Ih (dB (tOp kO (aE 5) (tC (.int 0)))) (tOr (dB (tOp Fa (aE 3) (tC .non))) (dB (tOp kO (tOp fO (aE 5) (tOp (fS K) (gW K (aE 0) "spans") (aE 3))) (tOp fO (tOp (fS K) (aE 2) (aE 3)) (tOp (fS K) (gW K (aE 0) "spans") (aE 4))))))) (cS (aE 4) (bA 3)) eA)
def lH(K:aQ):TG:=(jV K 2 (eL (bA 4) (eL (bA 5) jW)))
def oZ(K:aQ):TS:=(cE (cS (tC .non) (bA 3)) (cE (gD (Ff K (aE 2)) (lH K) (pB K)) (cT (aE 3))))
def pA(K:aQ):TE:=(cD (sI K) [] E0 (aH (aE 0) (aH (aE 1) bG)))
def oY(K:aQ):TS:=(cE (cS (tOp sV (dL (cU K (gW K (aE 0) "begun")) [1] (pA K)) (tSl (vG K) (aE 1) hJ (mD (tCB (iY K) (aH (gW K (aE 0) "inside") bG))))) (bA 2)) (oZ K))
def nQ(K:aQ):TS:=(cE (cS (tOp (fS K) (gW K (aE 0) "kept") (tUn jD (tC (.int 1)))) (bA 1)) (oY K))
def jYo{ns:List Int}{n:Nat}(h:n<=ns.length):mY (map int ns) none (some (n:Int))=map int (ns.take n):=by
 unfold mY;have e:HT.sIx (map int ns).length (map int ns).length (some (n:Int))=n:=by
  show(if(n:Int)<0 then((n:Int)+((map int ns).length:Int)).toNat else min (n:Int).toNat (map int ns).length)=n;rw[aF #[],aB,cA];exact Nat.min_eq_left h
 rw[HT.sIx_none,e,List.drop_zero,Nat.sub_zero,map_take]
def ofF_add(n m:Nat)(f:Nat->d):ofF n f++ofF m (λk=>f (n+k))=ofF (n+m) f:=by
 induction m with
 |zero=>exact cW _
 |succ m ih=>rw[fD,←List.append_assoc,ih,←Nat.add_assoc,fD]
def Pk(L:Lpd)(s:Nat->Nat)(i:Nat):(L.keptL s i).take L.m=ofF L.m λk=>L.T s i (e1 k):=by
 apply List.ext_getElem?;intro k;by_cases hk:k<L.m
 .rw[List.getElem?_take_of_lt hk,L.keptL_get s i #[],eU _ hk]
 .rw[cC (by rw[cN];lia),cC (by rw[bF];lia)]
def Ex{K vs H Q E}(C:zB K)(h:jB K vs H Q E):nQ K (eQ Q) (start sT vs) H:=by
 obtain⟨t,ins,L,s,rfl,⟨w,b,sp,k,bs,ss,ks,P⟩,lim,ok,q⟩:=h;have bl:=P.bl;have kl:=P.kl;have m1:=lim.m1;have n1:=lim.n1;obtain⟨p,_,a3,F⟩:=P.last;rw[show start sT [ref t]=[some (.ref t),none,none,none,none,none]from rfl];(dsimp?[nQ,gW]);refine#[_,_,_,P.ob,C.cl,C.nk,_,jS _ _ _ _,_,rfl,_,SqL.of P.Kp,_,a3,?_];(dsimp?[oY,gW,dL,cU,sV]);refine#[_,_,_,P.ob,C.cl,C.nb,_,mW _ _ _ _,_,rfl,#[_,SqL.of P.B],dR (K:=K) (a:=b) (xs:=map ref bs) (λi J Y=>aT H Y/\J=map int (ofF i λj=>L.T s L.m (L.cv j))) ?_ #[aT.refl _,rfl] ?_ ?_ ?_]
 .rw[aB,sizeLine_eq];lia
 .rintro i ys Y _ ⟨N,_⟩;exact N.seq (SqL.of P.B)
 .rintro i x ys Y hi _ ⟨N,rfl⟩;obtain⟨pc,rfl,hp⟩:=eN hi;have a1:i<L.n:=by have:=(aO.mp hp).1;lia
  obtain⟨r,er,a2⟩:=P.Bs.get hp;obtain⟨_,rfl⟩:=gL er;(dsimp![pA,cY,bV,cX,bI,aE,cD,aH,bG,cW]);refine#[_,_,L.m+1,_,_,L.a i,λk=>L.T s L.m (e1 k),rfl,N.seq (SqL.of a2),N.seq (SqL.of F),#[],?_,?_,.inl ?_,λj A=>#[eU _ A,L.keptL_get s L.m #[],lim.ba _ _ a1 #[],lim.bk _ _ _ ok (aU _) #[]],λd G=>#[N.trans G,?_]]
  .unfold Lpd.colL;rw[bF];exact aU _
  .rw[Lpd.keptL_length];lia
  .unfold Lpd.colL;rw[bF];exact aU _
  .rw[L.T_prod s (aU _) a1,fD,aX];rfl
 .rintro ys Y _ ⟨N,rfl⟩ l1 I;rw[aB,bl];have G:=N.trans (aT.upd (o:=lst (map int (ofF L.n λj=>L.T s L.m (L.cv j)))) I);have u:(upd Y l1 (.lst (map int (ofF L.n λj=>L.T s L.m (L.cv j))))) l1=_:=aL;generalize upd Y l1 (.lst (map int (ofF L.n λj=>L.T s L.m (L.cv j))))=d at G u;refine#[_,_,_,G _ _ P.ob,C.cl,C.ni,_,oE _ _ _ _,_,rfl,_,.inl (G.seq (SqL.of P.hi)),?_];have il:(L.insL s).length=L.m:=by unfold Lpd.insL;rw[bF]
  rw[aB,il];refine#[_,G.seq (SqL.of F),λl2 M=>?_];rw[jYo (by rw[Lpd.keptL_length];lia),Pk];have s5:=G.trans (aT.upd (o:=lst (map int (ofF L.m λk=>L.T s L.m (e1 k)))) M);refine#[_,aT.upd M _ _ u,_,aL,by rw[aB,aB,bF,bF,sizeLine_eq];lia,λy a4=>?_];have X:=s5.trans (aT.upd (o:=lst (map int (ofF L.n λj=>L.T s L.m (L.cv j))++map int (ofF L.m λk=>L.T s L.m (e1 k)))) a4);have e:map int (ofF L.n λj=>L.T s L.m (L.cv j))++map int (ofF L.m λk=>L.T s L.m (e1 k))=map int (ofF (L.n+L.m) λc=>L.T s L.m (L.cv c)):=by
   rw[←aX,←ofF_add]
   congr 2
   exact jF λk _=>by rw[L.cv_spare]
  rw[e]at X⊢;have R:(upd (upd d l2 (.lst (map int (ofF L.m λk=>L.T s L.m (e1 k))))) y (.lst (map int (ofF (L.n+L.m) λc=>L.T s L.m (L.cv c))))) y=_:=aL;generalize upd (upd d l2 (.lst (map int (ofF L.m λk=>L.T s L.m (e1 k))))) y (.lst (map int (ofF (L.n+L.m) λc=>L.T s L.m (L.cv c))))=H6 at X R;(dsimp?[oZ,gD,Ff]);refine#[#[_,SqL.of R],On (K:=K) (a:=y) (xs:=map int (ofF (L.n+L.m) λc=>L.T s L.m (L.cv c))) (g:=lH K) (D:={ nx:=cT (aE 3) (eQ Q),rt:=Q }) (jJa t p y L s H6) ?_ ?_ ?_ ?_]
  .exact#[none,none,none,rfl,aT.refl _,λc hc=>absurd hc (fE _)]
  .rintro i Z H7 _ ⟨_,_,_,_,s7,_⟩;exact s7.seq (SqL.of R)
  .rintro i x pp Z H7 hi ⟨o,O,U,rfl,s7,l⟩ a5;obtain⟨v,rfl,hv⟩:=fJ hi;obtain⟨a1,rfl⟩:=gL hv;have s8:=s7.trans (aT.upd (o:=tup [.int i,.int (L.T s L.m (L.cv i))]) a5);have stay:0<=L.T s L.m (L.cv i)∨o≠none->EntO L s (i+1) o:=λhz=>by
    cases o with
    |none=>
     intro c hc;by_cases a6:c=i
     .rw[a6];exact hz.resolve_right (λz=>z rfl)
     .exact l c #[]
    |some f=>exact#[by have:=l.1;lia,l.2]
   (dsimp![lH,pB,Fa,gW,cS,bA,aE,tC,tOp,rI0,rI,fO,kO,fX,dB,eA,fS,Ih,tOr,jV,eL,jW,dH]);refine#[_,SqT.of aL,rfl,_,_,rfl,_,_,rfl,rfl,_,rfl,mC (λa0=>?_) (λhn=>#[o,_,_,rfl,s8,stay (.inl #[])])];cases o with
   |none=>
    simp only[oV,if_true,exists_eq_left',V.int.injEq,Option.some.injEq,exists_eq_left,V.ref.injEq,V.bl.injEq,List.cons.injEq,and_true,true_and,exists_and_left,and_assoc,gB,gC,gA,gZ,kR,iM];exact#[some i,_,_,rfl,s8,#[],a0]
   |some f=>
    have hf:=l.1;have a7:=P.sl;simp only[oV,reduceCtorEq,if_false,exists_eq_left',V.int.injEq,Option.some.injEq,exists_eq_left,V.ref.injEq,V.bl.injEq,List.cons.injEq,and_true,true_and,exists_and_left,and_assoc,gB,gC,gA,gZ,kR,iM];have b1:=lim.bc s L.m i ok (aU _);have b2:=lim.bc s L.m f ok (aU _);refine#[_,_,_,(X.trans s8) _ _ P.ob,C.cl,C.ns,_,Ce _ _ _ _,_,rfl,_,(X.trans s8).seq (SqL.of P.S),_,lC (i:=f) #[],_,rfl,.b b1 (P.sb _ (kM #[])),?_];refine#[_,s8.seq (SqL.of R),_,lC (i:=f) (by rw[bF];lia),_,_,_,(X.trans s8) _ _ P.ob,C.cl,C.ns,_,Ce _ _ _ _,_,rfl,_,(X.trans s8).seq (SqL.of P.S),_,lC (i:=i) #[],_,rfl,_,rfl,.b (m:=20000) (by rw[iP (eU (λc=>L.T s L.m (L.cv c)) (show f<L.n+L.m by lia))];exact b2) (P.sb _ (kM #[])),?_];exact mC (λ_=>#[some i,_,_,rfl,s8,#[],a0]) (λ_=>#[some f,_,_,rfl,s8,stay (.inr (by simp))])
  .rintro Z H7 ⟨o,O,U,rfl,s7,l⟩;(dsimp![aE,cT]);refine q o H7 (X.trans s7) ?_;rw[aB,bF]at l;exact l
def vF:LS:=["self","column"]
def iG(K:aQ):Sp:=λvs H Q _=>∃t ins L s,∃c:Nat,vs=[.ref t,.int c]/\iS K H t ins L s/\L.Lim/\L.Okn s/\c<L.n+L.m/\∀l O,aT H O->H l=none->O l=some (.lst (map int (L.numL s c)))->Q (.ref l) O
def qF(K:aQ):TE:=(cD (sI K) [] E0 (aH (tOp (fS K) (gW K (aE 2) "begun") (aE 1)) (aH (aE 0) bG)))
def oO(K:aQ):TS:=(cE (fX (dB (tOp kO (aE 1) (tCB (iY K) (aH (gW K (aE 0) "begun") bG)))) (cT (dL (cU K (gW K (aE 0) "kept")) [1,0] (qF K))) eA) (cT (cD (kC K) [] E0 (aH (gW K (aE 0) "kept") (aH (tOp lS (aE 1) (tCB (iY K) (aH (gW K (aE 0) "begun") bG))) bG)))))
def Ig{K vs H Q E}(C:zB K)(h:iG K vs H Q E):oO K (eQ Q) (start vF vs) H:=by
 obtain⟨t,ins,L,s,c,rfl,⟨w,b,X,k,bs,R,ks,P⟩,lim,ok,hc,q⟩:=h;have bl:=P.bl;have kl:=P.kl;have m1:=lim.m1;rw[show start vF [ref t,int c]=[some (.ref t),some (.int c)]from rfl];(dsimp![oO,gW,dL,cU,cE,aE,tOp,rI0,lS,kO,cT,fX,dB,eA,cD,aH,bG,tCB,iY,cW,dH]);refine#[_,_,_,P.ob,C.cl,C.nb,_,mW _ _ _ _,_,rfl,_,.inl (SqL.of P.B),?_];rw[aB,bl];refine mC (λf=>?_) (λf=>?_)
 .have y:c<L.n:=#[];refine#[_,_,_,P.ob,C.cl,C.nk,_,jS _ _ _ _,_,rfl,#[_,SqL.of P.Kp],dR (K:=K) (a:=k) (xs:=map ref ks) (λi J Y=>aT H Y/\J=map int (ofF i λi=>L.T s i (L.cv c))) ?_ #[aT.refl _,rfl] ?_ ?_ ?_]
  .rw[aB,sizeLine_eq];lia
  .rintro i v Y _ ⟨N,_⟩;exact N.seq (SqL.of P.Kp)
  .rintro i x v Y hi _ ⟨N,rfl⟩;obtain⟨p,rfl,hp⟩:=eN hi;have g:i<=L.m:=by have:=(aO.mp hp).1;lia
   obtain⟨r,I,F⟩:=P.Ks.get hp;obtain⟨_,rfl⟩:=gL I;obtain⟨D,_,z,u⟩:=P.col y;(dsimp![qF,gW,cY,bV,cX,bI,aE,tOp,cD,aH,bG,fS,cW]);refine#[_,_,_,N _ _ P.ob,C.cl,C.nb,_,mW _ _ _ _,_,rfl,_,N.seq (SqL.of P.B),_,z,?_];refine#[_,_,L.m+1,_,_,L.a c,λk=>L.T s i (e1 k),rfl,N.seq (SqL.of u),N.seq (SqL.of F),#[],?_,?_,.inl ?_,λj A=>#[eU _ A,L.keptL_get s i #[],lim.ba _ _ y #[],lim.bk _ _ _ ok g #[]],λd G=>#[N.trans G,?_]]
   .unfold Lpd.colL;rw[bF];exact aU _
   .rw[Lpd.keptL_length];lia
   .unfold Lpd.colL;rw[bF];exact aU _
   .rw[L.T_prod s g y,fD,aX];rfl
  .rintro v Y _ ⟨N,rfl⟩ l S;rw[aB,kl];exact q l _ (N.trans (aT.upd S)) (N.free S) aL
 .have hn:L.n<=c:=#[];refine#[_,_,_,P.ob,C.cl,C.nk,_,jS _ _ _ _,_,_,_,P.ob,C.cl,C.nb,_,mW _ _ _ _,_,rfl,_,.inl (SqL.of P.B),?_];rw[aB,bl];refine#[_,_,_,_,c-L.n,rfl,SqL.of P.Kp,P.Ks,by rw[bF];lia,λr hr=>?_,λl O M S o=>q l O M S ?_]
  .obtain⟨i,hi,rfl⟩:=jZ hr;have:=lC (l:=L.keptL s i) (i:=c-L.n) (by rw[Lpd.keptL_length];lia);rw[show((c-L.n:Nat):Int)=(c:Int)-(L.n:Int) by lia]at this;exact this
  .rw[o]
   congr 3
   unfold Lpd.numL;unfold ofF;rw[List.map_map];refine gM λi hi=>?_;have e:L.cv c=e1 (c-L.n):=by unfold Lpd.cv;rw[aF #[]]
   show(L.keptL s i).getD (c-L.n) 0=L.T s i (L.cv c);rw[e];exact iP (L.keptL_get s i #[])
def Pw:LS:=["row","other","column","listed","place","mine","yours"]
def An(K:aQ):Sp:=λvs H Q _=>∃a b l x y d,∃c w:Nat,vs=[.ref a,.ref b,.int c,.ref l]/\SqL K H a (map int x)/\SqL K H b (map int y)/\SqL K H l (map (λj:Nat=>int j) d)/\Ro x w/\Ro y w/\c<w/\(∀j∈d,j<w)/\Q (.bl (decide (lx x y c d=some true))) H
def jV7(a b l:Addr)(x y:List Int)(c:Nat)(d:List Nat)(N:Hp):NS:=SEq N λi Z=>∃O U f,Z=[some (.ref a),some (.ref b),some (.int c),some (.ref l),O,U,f]/\lx x y c d=lx x y c (d.drop i)
def tF(K:aQ):TS:=(cT (tC (.bl false)))
def Qy(K:aQ):TS:=(cE (cS (tOp fO (tOp (fS K) (aE 0) (aE 4)) (tOp (fS K) (aE 1) (aE 2))) (bA 5)) (cE (cS (tOp fO (tOp (fS K) (aE 1) (aE 4)) (tOp (fS K) (aE 0) (aE 2))) (bA 6)) (fX (dB (tOp rNe (aE 5) (aE 6))) (cT (tOp kO (aE 5) (aE 6))) eA)))
def Ec(K:aQ):TS:=(cE (gD (cU K (aE 3)) (bA 4) (Qy K)) (tF K))
def jUJ{d:List Nat}{x:V}(h:(map (λj:Nat=>int j) d)[i]?=some x):∃c:Nat,x=.int c/\d[i]?=some c:=by
 rw[aZ]at h;cases e:d[i]? with
 |none=>rw[e]at h;cases h
 |some z=>rw[e]at h;exact#[z,(aW h).symm,rfl]
def lx_drop{x y:List Int}{d:List Nat}(h:d[i]?=some j):lx x y c (d.drop i)=if x.getD j 0*y.getD c 0=y.getD j 0*x.getD c 0 then lx x y c (d.drop (i+1))else some (decide (x.getD j 0*y.getD c 0<y.getD j 0*x.getD c 0)):=by
 have f:i<d.length:=(aO.mp h).1;rw[List.drop_eq_getElem_cons f];have:d[i]=j:=(aO.mp h).2;rw[this];rfl
def Zs{K}:RdS K An Ec Pw:=by
 rintro s H Q E ⟨a,b,l,x,y,d,c,w,rfl,r,T,C,⟨m,n⟩,⟨k,o⟩,hc,A,q⟩;rw[show start Pw [ref a,ref b,int c,ref l]=[some (.ref a),some (.ref b),some (.int c),some (.ref l),none,none,none]from rfl];(dsimp![Ec,gD,cU,cE,bA,aE]);refine#[#[_,C],iA (K:=K) (a:=l) (xs:=map (λj:Nat=>int j) d) (g:=bA 4) (D:={ nx:=tF K (eQ Q),rt:=Q }) (jV7 a b l x y c d H) ?_ ?_ ?_ ?_]
 .exact#[rfl,none,none,none,rfl,rfl]
 .rintro i Z Y _ ⟨rfl,_⟩;exact C
 .rintro i v Z Y hi ⟨rfl,O,U,f,rfl,e⟩;obtain⟨j,rfl,J⟩:=jUJ hi;have p:=A j (aI J);rw[lx_drop J]at e;(dsimp![cE,cS,bA,aE,tOp,rI0,rI,fO,kO,rNe,iN,cT,fX,dB,eA,fS]);refine#[_,r,_,lC (i:=j) #[],_,T,_,lC (i:=c) #[],_,rfl,_,rfl,.b (n _ (kM #[])) (o _ (kM #[])),_,T,_,lC (i:=j) #[],_,r,_,lC (i:=c) #[],_,rfl,_,rfl,.b (o _ (kM #[])) (n _ (kM #[])),?_];by_cases hz:x.getD j 0*y.getD c 0=y.getD j 0*x.getD c 0
  .rw[aF (by rw[decide_eq_true hz];decide)];rw[aK hz]at e;exact#[rfl,_,_,_,rfl,e]
  .rw[aK (by rw[decide_eq_false hz];rfl)];rw[aF hz]at e;rw[e]at q;have:decide (some (decide (x.getD j 0*y.getD c 0<y.getD j 0*x.getD c 0))=some true)=decide (x.getD j 0*y.getD c 0<y.getD j 0*x.getD c 0):=by
    by_cases h2:x.getD j 0*y.getD c 0<y.getD j 0*x.getD c 0
    .rw[decide_eq_true h2];rfl
    .rw[decide_eq_false h2];rfl
   rw[this]at q;exact q
 .rintro Z Y ⟨rfl,O,U,f,rfl,e⟩;rw[aB,List.drop_length]at e;rw[e]at q;dsimp only[tF,tC,cT,gB,gC,gA];exact q
def Tv:LS:=["rows","column","listed","found","place","row"]
def Ei(K:aQ):Sp:=λvs H Q _=>∃r l ps X d,∃c w:Nat,vs=[.ref r,.int c,.ref l]/\SqL K H r (map ref ps)/\eF H ps X/\(∀row∈X,Ro row w)/\SqL K H l (map (λj:Nat=>int j) d)/\c<w/\(∀j∈d,j<w)/\∀o O,aT H O->Lv X c d X.length o->Q (oV o) O
def jXY(r l:Addr)(c:Nat)(X:List (List Int))(d:List Nat)(N:Hp):NS:=λi Z Y=>∃o O U,Z=[some (.ref r),some (.int c),some (.ref l),some (oV o),O,U]/\aT N Y/\Lv X c d i o
def Ha(K:aQ):TS:=(fX (Ih (dB (tOp zF (tOp (fS K) (aE 5) (aE 1)) (tC (.int 0)))) (tOr (dB (tOp Fa (aE 3) (tC .non))) (tB (cD (An K) [] E0 (aH (aE 5) (aH (tOp (fS K) (aE 0) (aE 3)) (aH (aE 1) (aH (aE 2) bG)))))))) (cS (aE 4) (bA 3)) eA)
def wG(K:aQ):TG:=(jV K 2 (eL (bA 4) (eL (bA 5) jW)))
def Iz(K:aQ):TS:=(cE (cS (tC .non) (bA 3)) (cE (gD (Ff K (aE 0)) (wG K) (Ha K)) (cT (aE 3))))
def jZa{K}:RdS K Ei Iz Tv:=by
 rintro j H Q E ⟨r,l,R,X,d,c,w,rfl,J,b,e,C,hc,A,q⟩;have hpl:=b.length;rw[show start Tv [ref r,int c,ref l]=[some (.ref r),some (.int c),some (.ref l),none,none,none]from rfl];(dsimp![Iz,gD,Ff,cE,cS,bA,aE,tC,cT]);refine#[#[_,J],On (K:=K) (a:=r) (xs:=map ref R) (g:=wG K) (D:={ nx:=cT (aE 3) (eQ Q),rt:=Q }) (jXY r l c X d H) ?_ ?_ ?_ ?_]
 .exact#[none,none,none,rfl,aT.refl _,λk row hk=>absurd hk (fE _)]
 .rintro i Z Y _ ⟨_,_,_,_,N,_⟩;exact N.seq J
 .rintro i x p Z Y hi ⟨o,O,U,rfl,N,S⟩ hp;obtain⟨z,rfl,hz⟩:=eN hi;obtain⟨row,n,F⟩:=b.get hz;obtain⟨m,B⟩:=e row (aI n);have G:aT H (upd Y p (.tup [.int i,.ref z])):=N.trans (aT.upd hp);(dsimp![wG,Ha,Fa,cS,bA,aE,tC,tOp,rI0,zF,fX,dB,tB,eA,cD,aH,bG,fS,Ih,tOr,jV,eL,jW,cW,dH]);refine#[_,SqT.of aL,rfl,_,_,rfl,_,_,rfl,rfl,_,rfl,_,SqL.of (G _ _ F),_,lC #[],_,rfl,mC (λt=>?_) (λhn=>#[_,_,_,rfl,G,S.skip n hn])];cases o with
  |none=>
   simp only[oV,if_true,Option.some.injEq,exists_eq_left',exists_eq_left,V.int.injEq,V.ref.injEq,V.bl.injEq,List.cons.injEq,and_true,true_and,exists_and_left,and_assoc,gB,gC,gA,gZ,kR,iM];exact#[some i,_,_,rfl,G,S.first n t]
  |some f=>
   obtain⟨P,fr,hf,_⟩:=id S;obtain⟨I,y⟩:∃I,R[f]?=some I:=#[_,aD (by rw[hpl];exact(aO.mp hf).1)];obtain⟨v,s,u⟩:=b.get y;rw[hf]at s;obtain rfl:=aW s;have M:atI (map ref R) (f:Int)=some (.ref I):=fC (by rw[aZ,y];rfl);simp only[oV,reduceCtorEq,if_false,exists_eq_left',V.int.injEq,Option.some.injEq,exists_eq_left,V.ref.injEq,V.bl.injEq,List.cons.injEq,and_true,true_and,exists_and_left,and_assoc,gB,gC,gA,gZ,kR,iM];refine#[_,G.seq J,_,M,_,_,_,_,_,_,_,w,rfl,SqL.of (G _ _ F),SqL.of (G _ _ u),G.seq C,#[m,B],e fr (aI hf),hc,A,_,rfl,mC (λha=>#[some i,_,_,rfl,G,S.take hf n t (by simpa using ha)]) (λha=>#[some f,_,_,rfl,G,S.keep hf n t (by simpa using ha)])]
 .rintro Z Y ⟨o,O,U,rfl,N,S⟩;rw[aB,hpl]at S;(dsimp![aE,tC,tOp,rI0,rNe,iN,cT,dB]);exact q o Y N S
def qG:LS:=["self","numbers","rows","spares"]
noncomputable def LvO(L:Lpd)(s:Nat->Nat)(c:Nat):Option Nat->Prop
 |none=>∀i,i<=L.m->L.T s i (L.cv c)<=0
 |some r=>r<=L.m/\0<L.T s r (L.cv c)/\∀i,i<=L.m->0<L.T s i (L.cv c)->¬lp (λp=>-(L.T s i (L.li p)*L.T s r (L.cv c)-L.T s r (L.li p)*L.T s i (L.cv c))) L.ls
def jM(K:aQ):Sp:=λvs H Q _=>∃t ins L s F,∃c:Nat,vs=[.ref t,.ref F]/\iS K H t ins L s/\L.Lim/\L.Okn s/\H F=some (.lst (map int (L.numL s c)))/\∀o O,aT H O->LvO L s c o->Q (oV o) O
noncomputable def lvr(L:Lpd)(s:Nat->Nat)(c i:Nat):List Int:=L.keptL s i++[L.T s i (L.cv c)]
def nT(K:aQ):TE:=(tOp sV (aE 0) (mB (aH (aE 1) bG)))
def nS(K:aQ):TG:=(jV K 2 (eL (bA 0) (eL (bA 1) jW)))
def lX(K:aQ):TS:=(cE (cS (gY (mX K (aH (gW K (aE 0) "kept") (aH (aE 1) bG))) 2 [] (nS K) (nT K)) (bA 2)) (cE (cS (tCB (iY K) (aH (gW K (aE 0) "inside") bG)) (bA 3)) (cT (cD (Ei K) [] E0 (aH (aE 2) (aH (tOp hE (aE 3) (tC (.int 2))) (aH (tOp sV (mB (aH (tOp hE (aE 3) (tC (.int 1))) bG)) (zJ (aE 3))) bG)))))))
def lvr_k(L:Lpd)(s:Nat->Nat)(c i:Nat)(h:k<=L.m):(lvr L s c i).getD k 0=L.T s i (e1 k):=iP (by unfold lvr;rw[bZ (by rw[Lpd.keptL_length];lia),L.keptL_get s i h])
def lvr_b(L:Lpd)(s:Nat->Nat)(c i:Nat):(lvr L s c i).getD (L.m+1) 0=L.T s i L.be:=iP (by unfold lvr;rw[bZ (by rw[Lpd.keptL_length];lia),L.keptL_last s i])
def Xn(L:Lpd)(s:Nat->Nat)(c i:Nat):(lvr L s c i).getD (L.m+2) 0=L.T s i (L.cv c):=iP (by unfold lvr;rw[bU (by rw[Lpd.keptL_length];lia),Lpd.keptL_length,jT];rfl)
def Bh{K vs H Q E}(C:zB K)(h:jM K vs H Q E):lX K (eQ Q) (start qG vs) H:=by
 obtain⟨t,ins,L,s,nl,c,rfl,⟨w,b,sp,k,bs,ss,ks,P⟩,lim,ok,a1,q⟩:=h;have kl:=P.kl;have m1:=lim.m1;have a4:(L.numL s c).length=L.m+1:=by unfold Lpd.numL;rw[bF]
 rw[show start qG [ref t,ref nl]=[some (.ref t),some (.ref nl),none,none]from rfl];(dsimp![lX,gW,gY,mX,sV,zJ,cE,cS,bA,aE,tC,tOp,rI0,hE,cT,cD,aH,bG,mB,tCB,iY,cW]);refine#[_,_,_,P.ob,C.cl,C.nk,_,jS _ _ _ _,_,rfl,#[_,SqL.of P.Kp],#[_,SqL.of a1],lP (K:=K) (a:=k) (b:=nl) (xs:=map ref ks) (ys:=map int (L.numL s c)) (λi J Y=>aT H Y/\∃I,J=map ref I/\eF Y I (ofF i (lvr L s c))) ?_ ?_ #[aT.refl _,[],rfl,trivial] ?_ ?_ ?_]
 .rw[aB,sizeLine_eq];lia
 .rw[aB,aB];lia
 .rintro i J Y _ ⟨N,_⟩;exact#[N.seq (SqL.of P.Kp),N.seq (SqL.of a1)]
 .rintro i x y p J Y hx hy _ ⟨N,I,rfl,hqs⟩ hp os D;obtain⟨z,rfl,hz⟩:=eN hx;obtain⟨v,rfl,hv⟩:=fJ hy;obtain⟨r,n,F⟩:=P.Ks.get hz;obtain⟨a5,rfl⟩:=gL n;obtain⟨_,rfl⟩:=gL hv;obtain⟨O,U,rfl⟩:∃O U,os=[O,U]:=by
   match os,D with
   | [O,U],_=>exact#[O,U,rfl]
  have G:=aT.upd (o:=tup [.ref z,.int (L.T s i (L.cv c))]) hp;(dsimp![nS,nT,sV,bA,aE,tOp,aH,bG,mB,jV,eL,jW,Lca,Lna]);refine#[_,SqT.of aL,rfl,_,_,rfl,_,_,rfl,rfl,#[[some (.ref z),some (.int (L.T s i (L.cv c)))],rfl,rfl],sz1,λf a0=>?_];have B:=aT.upd (o:=lst [.int (L.T s i (L.cv c))]) a0;refine#[_,rfl,_,(G.trans B) _ _ (N _ _ F),_,aL,by rw[aB,Lpd.keptL_length,sizeLine_eq];show L.m+2+1<=_;lia,λZ M=>?_];have X:=aT.upd (o:=lst (map int (L.keptL s i)++[int (L.T s i (L.cv c))])) M;refine#[((N.trans G).trans B).trans X,I++[Z],by rw[aX];rfl,?_];rw[fD];refine eF.snoc (((hqs.same G).same B).same X) ?_;rw[aL];unfold lvr;rw[aX];rfl
 .rintro J Y _ ⟨N,I,rfl,hqs⟩ l S;rw[aB,kl]at hqs;have G:=N.trans (aT.upd (o:=lst (map ref I)) S);have R:=hqs.same (aT.upd (o:=lst (map ref I)) S);have u:(upd Y l (.lst (map ref I))) l=some (.lst (map ref I)):=aL;generalize upd Y l (.lst (map ref I))=d at G R u;have il:(L.insL s).length=L.m:=by unfold Lpd.insL;rw[bF]
  refine#[_,_,_,G _ _ P.ob,C.cl,C.ni,_,oE _ _ _ _,_,rfl,_,.inl (G.seq (SqL.of P.hi)),?_];rw[aB,il];refine#[sz1,λf a0=>#[L.m,rfl,#[],λZ M=>?_]];have B:=(aT.upd (o:=lst [.int ((L.m:Int)+1)]) a0).trans (aT.upd (o:=lst (map int (tU L.m))) M);refine#[_,aT.upd M _ _ aL,_,aL,by rw[aB,sL,sizeLine_eq];show 1+L.m<=_;lia,λl3 g=>?_];have X:=B.trans (aT.upd (o:=lst ([int ((L.m:Int)+1)]++map int (tU L.m))) g);have e:[int ((L.m:Int)+1)]++map int (tU L.m)=map (λj:Nat=>int j) ((L.m+1)::range L.m):=by
   unfold tU;rw[List.map_map,bV];rfl
  refine#[_,_,_,_,(L.m+1)::range L.m,L.m+2,L.m+3,rfl,X.seq (SqL.of u),R.same X,λrow hr=>?_,?_,#[],λj A=>?_,λo H7 s7 lv=>?_]
  .obtain⟨i,hi,rfl⟩:=jZ hr;refine#[by unfold lvr;rw[bK,Lpd.keptL_length];rfl,λx hx=>?_];unfold lvr at hx;rcases dD.mp hx with hx |hx
   .exact lim.kept ok #[] x hx
   .rw[cP.mp hx];exact lim.bc s i c ok #[]
  .have:=SqL.of (K:=K) (aL (H:=upd (upd d f (.lst [.int ((L.m:Int)+1)])) Z (.lst (map int (tU L.m)))) (a:=l3) (o:=.lst ([int ((L.m:Int)+1)]++map int (tU L.m))));rw[e]at this⊢;exact this
  .rcases eW.mp A with rfl |A
   .omega
   .have:=gG.mp A;lia
  .refine q o H7 ((G.trans X).trans s7) ?_;rw[bF]at lv;cases o with
   |none=>
    intro i hi;have:=lv i _ #[] (eU (lvr L s c) (show i<L.m+1 by lia));rw[Xn]at this;lia
   |some r=>
    obtain⟨hr,fr,a2,hp,hm⟩:=lv;obtain⟨_,rfl⟩:=gL a2;rw[Xn]at hp;refine#[#[],hp,λi hi a3=>?_];have:=(hm i _ #[] (eU (lvr L s c) (show i<L.m+1 by lia)) (by rw[Xn];exact a3)).1;exact Lpd.lx_lp (λk hk=>lvr_k L s c r hk) (lvr_b L s c r) (Xn L s c r) (λk hk=>lvr_k L s c i hk) (lvr_b L s c i) (Xn L s c i) this
def yR:LS:=["self"]
def iX(K:aQ):Sp:=λvs H Q _=>∃t ins L s,vs=[.ref t]/\iS K H t ins L s/\Q (.int (L.D s)) H
def pX(K:aQ):TS:=(cT (tOp (fS K) (tOp (fS K) (gW K (aE 0) "kept") (tUn jD (tC (.int 1)))) (tUn jD (tC (.int 2)))))
def atI_m2{l:List Int}(h2:2<=l.length)(h:l[l.length-2]?=some x):atI (map int l) (-2)=some (.int x):=by
 unfold atI ixN;rw[aB,aF #[],aK #[]];show(map int l)[(-2+(l.length:Int)).toNat]?=_;rw[show(-2+(l.length:Int)).toNat=l.length-2 by lia,aZ,h];rfl
def Kf{K vs H Q E}(C:zB K)(h:iX K vs H Q E):pX K (eQ Q) (start yR vs) H:=by
 obtain⟨t,ins,L,s,rfl,⟨w,b,X,k,bs,c,ks,P⟩,q⟩:=h;rw[show start yR [ref t]=[some (.ref t)]from rfl];(dsimp![pX,gW,aE,tC,tOp,tUn,rU,jD,cT,fS]);obtain⟨p,hp,a,F⟩:=P.last;refine#[_,_,_,P.ob,C.cl,C.nk,_,jS _ _ _ _,_,rfl,_,SqL.of P.Kp,_,a,_,rfl,_,SqL.of F,_,atI_m2 (by rw[Lpd.keptL_length];lia) (by rw[Lpd.keptL_length];exact L.keptL_get s L.m (aU _)),?_];rw[show L.m+2-2=L.m by lia,L.last_own];exact q
def vE:LS:=["self","column","numbers","at","bottom","gone","moved","row","number"]
def kX(K:aQ):Sp:=λvs H Q _=>∃t ins L s F,∃c r:Nat,vs=[.ref t,.int c,.ref F,.int r]/\iS K H t ins L s/\L.Lim/\L.Okn s/\H F=some (.lst (map int (L.numL s c)))/\r<L.m/\
 ∀O,aT (mn t ins H) (mn t ins O)->iS K O t ins L (Lpd.sput s r c)->(∀f,H f≠none->Fc K H t ins L s f->Fc K O t ins L (Lpd.sput s r c) f)->Q .non O
noncomputable def mvr(L:Lpd)(s:Nat->Nat)(c r i:Nat):List Int:=(ofF (L.m+2) λk=>((L.keptL s i).getD k 0*L.T s r (L.cv c)-(L.keptL s r).getD k 0*L.T s i (L.cv c)).fdiv (L.D s))
def jYQ(t F a g:Addr)(c r:Nat)(L:Lpd)(s:Nat->Nat)(N:Hp):NS:=λi Z Y=>∃O U I,Z=[some (.ref t),some (.int c),some (.ref F),some (.int r),some (.int (L.D s)),some (.ref g),some (.ref a),O,U]/\aT N Y/\Y a=some (.lst (map ref I))/\eF Y I (ofF i (mvr L s c r))/\(∀x∈I,N x=none)/\a∉I
def lV(K:aQ):TS:=(cE (cS (aE 5) (Dm (aE 6) (aE 3) qT)) (cE (zE K (aE 0) (aE 6) "kept") (cS (aE 1) (Dm (gW K (aE 0) "inside") (aE 3) qT))))
def qD(K:aQ):TE:=(tOp jE (tOp lS (tOp fO (aE 0) (tOp (fS K) (aE 4) (aE 5))) (tOp fO (aE 1) (aE 3))) (aE 2))
def qC(K:aQ):TG:=(jV K 2 (eL (bA 0) (eL (bA 1) jW)))
def qE(K:aQ):TS:=(mE (tBM K "list" vM (aE 6) (aH (gY (mX K (aH (aE 7) (aH (aE 5) bG))) 2 [4,8,2,3] (qC K) (qD K)) bG)))
def lW(K:aQ):TG:=(jV K 2 (eL (bA 7) (eL (bA 8) jW)))
def qB(K:aQ):TS:=(cE (cS (mB bG) (bA 6)) (cE (gD (mX K (aH (gW K (aE 0) "kept") (aH (aE 2) bG))) (lW K) (qE K)) (lV K)))
def oN(K:aQ):TS:=(cE (cS (fN (eI K "Corner") "bottom" (iX K) [] E0 (aE 0) bG) (bA 4)) (cE (cS (tOp (fS K) (gW K (aE 0) "kept") (aE 3)) (bA 5)) (qB K)))
def mvr_eq{L:Lpd}(ok:L.Okn s){r:Nat}(hr:r<L.m)(hi:i<=L.m)(g:i≠r):mvr L s c r i=L.keptL (Lpd.sput s r c) i:=by
 have b:=ok.ne;have key:∀y,(L.T s i y*L.T s r (L.cv c)-L.T s r y*L.T s i (L.cv c)).fdiv (L.D s)=L.T (Lpd.sput s r c) i y:=λy=>by
  rw[←ok.exch (c:=c) hr #[] g y];exact Int.mul_fdiv_cancel_left _ #[]
 apply List.ext_getElem?;intro k;unfold mvr;by_cases hk:k<=L.m
 .rw[eU _ #[],L.keptL_get _ _ hk,iP (L.keptL_get s i hk),iP (L.keptL_get s r hk),key]
 .by_cases a:k=L.m+1
  .subst a;rw[eU _ #[],L.keptL_last,iP (L.keptL_last s i),iP (L.keptL_last s r),key]
  .rw[cC (by rw[bF];lia),cC (by rw[Lpd.keptL_length];lia)]
def mvr_all{L:Lpd}(ok:L.Okn s){r:Nat}(hr:r<L.m):(ofF (L.m+1) (mvr L s c r)).set r (L.keptL s r)=ofF (L.m+1) (L.keptL (Lpd.sput s r c)):=by
 apply List.ext_getElem?;intro k;rw[getElem?_set];by_cases hk:k<L.m+1
 .rw[eU (L.keptL (Lpd.sput s r c)) hk];by_cases e:r=k
  .subst e;rw[aK rfl,aK (by rw[bF];lia)]
   congr 1
   unfold Lpd.keptL;rw[Lpd.Ok.same hr,jF λk _=>(Lpd.Ok.same (L:=L) (s:=s) (c:=c) hr (e1 k)).symm]
  .rw[aF e,eU _ hk,mvr_eq ok hr #[] (Ne.symm e)]
 .rw[cC (l:=ofF (L.m+1) (L.keptL (Lpd.sput s r c))) (by rw[bF];lia)];by_cases e:r=k
  .omega
  .rw[aF e,cC (by rw[bF];lia)]
def Ie{K vs H Q E}(C:zB K)(h:kX K vs H Q E):oN K (eQ Q) (start vE vs) H:=by
 obtain⟨t,ins,L,s,nl,c,r,rfl,ca,lim,ok,A,hr,q⟩:=h;obtain⟨dx,b,sp,k,bs,ss,ks,P⟩:=id ca;have kl:=P.kl;have m1:=lim.m1;have il:(L.insL s).length=L.m:=by unfold Lpd.insL;rw[bF]
 have c9:(L.numL s c).length=L.m+1:=by unfold Lpd.numL;rw[bF]
 obtain⟨g,hg,b7,a5⟩:=P.row (i:=r) #[];rw[show start vE [ref t,int c,ref nl,int r]=[some (.ref t),some (.int c),some (.ref nl),some (.int r),none,none,none,none,none]from rfl];(dsimp?[oN,gW,fN]);refine#[_,_,P.ob,rfl,_,_,_,_,rfl,ca,_,_,_,P.ob,C.cl,C.nk,_,jS _ _ _ _,_,rfl,_,SqL.of P.Kp,_,b7,?_];(dsimp?[qB,gW,gD,mX]);refine#[sz0,λmv a0=>?_];have M:=aT.upd (o:=lst []) a0;have b2:(upd H mv (.lst [])) mv=some (.lst []):=aL;generalize e1:upd H mv (.lst [])=U at M b2;refine#[_,_,_,M _ _ P.ob,C.cl,C.nk,_,jS _ _ _ _,_,rfl,#[_,M.seq (SqL.of P.Kp)],#[_,M.seq (SqL.of A)],jYg (K:=K) (a:=k) (b:=nl) (xs:=map ref ks) (ys:=map int (L.numL s c)) (g:=lW K) (D:={ nx:=lV K (eQ Q),rt:=Q }) (jYQ t nl mv g c r L s H) ?_ ?_ ?_ ?_ ?_]
 .exact#[none,none,[],rfl,M,b2,trivial,(λ_ h=>nomatch h),(λh=>nomatch h)]
 .rintro i Z Y _ ⟨_,_,_,_,N,_⟩;exact#[N.seq (SqL.of P.Kp),N.seq (SqL.of A)]
 .rw[aB,aB];lia
 .rintro i x y p Z Y hx hy ⟨O,o2,I,rfl,N,b1,hqs,a3,a6⟩ hp;obtain⟨z,rfl,hz⟩:=eN hx;obtain⟨v,rfl,hv⟩:=fJ hy;obtain⟨row,n,a9⟩:=P.Ks.get hz;obtain⟨d1,rfl⟩:=gL n;obtain⟨_,rfl⟩:=gL hv;have G:=aT.upd (o:=tup [.ref z,.int (L.T s i (L.cv c))]) hp;(dsimp![lW,qE,mE,tBM,vM,gY,mX,bA,aE,aH,bG,jV,eL,jW]);refine#[_,SqT.of aL,rfl,_,_,rfl,_,_,rfl,rfl,?_];have a7:=G _ _ b1;have R:=hqs.same G;generalize upd Y p (.tup [.ref z,.int (L.T s i (L.cv c))])=d at G a7 R;have a1:=N.trans G;have bD:=lim.bD s ok;have D0:=ok.ne;have br:=lim.bc s r c ok #[];have bi:=lim.bc s i c ok #[];refine#[.inl #[rfl,_,SqL.of a7],_,rfl,#[_,a1.seq (SqL.of a9)],#[_,a1.seq (SqL.of a5)],lP (K:=K) (a:=z) (b:=g) (xs:=map int (L.keptL s i)) (ys:=map int (L.keptL s r)) (λj J H5=>aT d H5/\J=map int (ofF j λk=>((L.keptL s i).getD k 0*L.T s r (L.cv c)-(L.keptL s r).getD k 0*L.T s i (L.cv c)).fdiv (L.D s))) ?_ ?_ #[aT.refl _,rfl] ?_ ?_ ?_]
  .rw[aB,Lpd.keptL_length,sizeLine_eq];lia
  .rw[aB,aB,Lpd.keptL_length,Lpd.keptL_length]
  .rintro j J H5 _ ⟨B,_⟩;exact#[(a1.trans B).seq (SqL.of a9),(a1.trans B).seq (SqL.of a5)]
  .rintro j x y pp J H5 hx hy _ ⟨B,rfl⟩ b8 os ho;obtain⟨u,rfl,hu⟩:=fJ hx;obtain⟨w,rfl,hw⟩:=fJ hy;obtain⟨q1,q2,rfl⟩:∃O o2,os=[O,o2]:=by
    match os,ho with
    | [O,o2],_=>exact#[O,o2,rfl]
   have X:=aT.upd (o:=tup [.int u,.int w]) b8;have bu:=lim.kept ok (show i<=L.m by lia) u (aI hu);have bw:=lim.kept ok (show r<=L.m by lia) w (aI hw);have eu:=iP hu;have ew:=iP hw;(dsimp![qC,qD,cY,bV,cX,bI,bA,aE,tOp,rI0,rI,lS,fO,jE,fS,jV,eL,jW,Lca,Lna]);refine#[_,SqT.of aL,rfl,_,_,rfl,_,_,rfl,rfl,#[[some (.int u),some (.int w)],rfl,rfl],?_];refine#[_,((a1.trans B).trans X).seq (SqL.of A),_,fC (j:=r) (v:=int (L.T s r (L.cv c))) (by rw[aZ];unfold Lpd.numL;rw[eU _ #[]];rfl),?_];refine#[_,rfl,_,rfl,.b bu br,_,rfl,.b bw bi,#[#[],bD],B.trans X,?_];rw[fD,aX,eu,ew];rfl
  .rintro J H5 _ ⟨B,rfl⟩ l S;rw[aB,Lpd.keptL_length]at*;have X:=aT.upd (o:=lst (map int (mvr L s c r i))) S;have b9:(upd H5 l (.lst (map int (mvr L s c r i)))) l=some (.lst (map int (mvr L s c r i))):=aL;have c2:=X _ _ (B _ _ a7);have c3:=R.same (B.trans X);have c4:=a1.trans (B.trans X);have c5:H l=none:=(a1.trans B).free S;have hlm:l≠mv:=λe=>by rw[e,B _ _ a7]at S;cases S
   show ∃x,upd H5 l (.lst (map int (mvr L s c r i))) mv=some (lst x)/\x.length<sizeLine/\jYQ t nl mv g c r L s H (i+1) _ (upd (upd H5 l (.lst (map int (mvr L s c r i)))) mv (lst (x++[ref l])));generalize upd H5 l (.lst (map int (mvr L s c r i)))=H6 at*;refine#[_,c2,by rw[aB,hqs.length,bF,sizeLine_eq];lia,_,_,I++[l],rfl,c4.put a0,?_,?_,λx hx=>?_,λhx=>?_]
   .rw[aL,aX];rfl
   .refine eF.put ?_ ?_
    .intro hx;rcases dD.mp hx with hx |hx
     .exact a6 hx
     .exact hlm (cP.mp hx).symm
    .rw[fD];exact eF.snoc c3 b9
   .rcases dD.mp hx with hx |hx
    .exact a3 x hx
    .rw[cP.mp hx];exact c5
   .rcases dD.mp hx with hx |hx
    .exact a6 hx
    .exact hlm (cP.mp hx).symm
 .rintro Z Y ⟨O,o2,I,rfl,N,b1,hqs,a3,a6⟩;rw[aB,kl]at hqs;(dsimp![lV,Dm,qT,zE,gW,cE,cS,aE]);have hql:I.length=L.m+1:=by rw[hqs.length,bF]
  have c6:t≠mv:=dW P.ob a0;have c7:ins≠mv:=dW P.hi a0;have b3:t≠ins:=kS P.ob P.hi (by intro z;cases z);have a2:mn t ins H g=some (.lst (map int (L.keptL s r))):=by
   obtain⟨_,e1,e2⟩:=P.hks.get hg;obtain⟨_,rfl⟩:=gL e1;exact e2
  have b4:g≠t/\g≠ins:=by
   constructor
   .rintro rfl;unfold mn at a2;rw[aK (.inl rfl)]at a2;cases a2
   .rintro rfl;unfold mn at a2;rw[aK (.inr rfl)]at a2;cases a2
  have c8:mv≠g:=λe=>by rw[e,a5]at a0;cases a0
  have b5:(map ref I).set r (ref g)=map ref (I.set r g):=by rw[List.map_set]
  have G:aT H (upd Y mv (.lst (map ref (I.set r g)))):=N.put a0;have a4:eF (upd Y mv (.lst (map ref (I.set r g)))) (I.set r g) (ofF (L.m+1) (L.keptL (Lpd.sput s r c))):=by
   rw[←mvr_all ok hr];refine eF.put (λhx=>?_) (eF.setr (N _ _ a5) r hqs);rcases mem_or_eq_of_mem_set hx with hx |hx
   .exact a6 hx
   .exact c8 hx
  have b0:(upd Y mv (.lst (map ref (I.set r g)))) mv=some (.lst (map ref (I.set r g))):=aL;refine#[_,b1,_,by rw[aB,hql];exact vP #[] #[],?_];rw[cA,b5];generalize upd Y mv (.lst (map ref (I.set r g)))=d at G a4 b0;refine#[_,_,_,G _ _ P.ob,C.cl,C.nk,by show 4<1000;decide,_,_,_,aL,C.cl,C.ni,_,oE b sp mv ins,_,rfl,_,(by rw[cK b3.symm];exact G _ _ P.hi),_,(by rw[aB,il];exact vP #[] #[]),?_];rw[cA,jYr];have em:∀o o',mn t ins (upd (upd d t o) ins o')=mn t ins d:=λo o'=>by rw[nW (.inr rfl),nW (.inl rfl)]
  have a8:aT (mn t ins H) (mn t ins d):=iO G;have P5:nV K (upd (upd d t (.ins (eI K "Corner") dx (cfl b sp mv ins))) ins (.lst ((map int (L.insL s)).set r (int c)))) t ins L (Lpd.sput s r c) dx b sp mv bs ss (I.set r g):=by
   refine#[?_,?_,?_,?_,P.sl,P.sb,?_,?_,?_]
   .rw[cK b3,aL]
   .rw[em];exact a8 _ _ P.hb
   .rw[em];exact P.hbs.same a8
   .rw[em];exact a8 _ _ P.hs
   .rw[em];exact zM b0 c6.symm c7.symm
   .rw[em];refine a4.mn (λhx=>?_) (λhx=>?_)
    .rcases mem_or_eq_of_mem_set hx with hx |hx
     .have:=a3 _ hx;rw[P.ob]at this;cases this
     .exact b4.1 hx.symm
    .rcases mem_or_eq_of_mem_set hx with hx |hx
     .have:=a3 _ hx;rw[P.hi]at this;cases this
     .exact b4.2 hx.symm
   .rw[aL,←List.map_set];unfold Lpd.insL;rw[ofF_set]
    congr 3
    refine jF λk _=>?_;unfold Lpd.sput;split<;>rfl
  refine q _ (by rw[em];exact a8) #[_,_,_,_,_,_,_,P5] λf b6 F=>?_;obtain⟨n1,n2,n3,n4,n5⟩:=F.of P;refine#[_,_,_,_,_,_,_,P5,n1,n2,λe=>b6 (by rw[e];exact a0),n4,λhx=>?_];rcases mem_or_eq_of_mem_set hx with hx |hx
  .exact b6 (a3 _ hx)
  .exact n5 (by rw[hx];exact aI hg)
def Le:LS:=["corner","column","numbers","at"]
def qO(K:aQ):Sp:=λvs H Q _=>∃t ins L s,vs=[.ref t]/\iS K H t ins L s/\L.Lim/\L.Okx s/\kQ L s/\
 ∀o R O,aT (mn t ins H) (mn t ins O)->iS K O t ins L R->L.Okx R->kQ L R->UnO L R o->Q (oV o) O
def Fp(K:aQ)(t ins:Addr)(L:Lpd)(N:Hp)(Z:St)(Y:Hp)(s:Nat->Nat)(o:Option Nat):Prop:=(∃O U,Z=[some (.ref t),some (oV o),O,U])/\aT (mn t ins N) (mn t ins Y)/\iS K Y t ins L s/\L.Okx s/\kQ L s/\EntO L s (L.n+L.m) o
open Classical in
def mu_un(K:aQ)(t ins:Addr)(L:Lpd)(H0:Hp)(σ:St)(H3:Hp):Nat:=if h:∃s,∃o,Fp K t ins L H0 σ H3 s o then L.mu (Classical.choose h)else 0
def rF(K:aQ):TS:=(cT (tC .non))
def rG(K:aQ):TS:=(cE (cS (fN (eI K "Corner") "numbers" (iG K) [] E0 (aE 0) (aH (aE 1) bG)) (bA 2)) (cE (cS (fN (eI K "Corner") "leaving_by" (jM K) [] E0 (aE 0) (aH (aE 2) bG)) (bA 3)) (cE (fX (dB (tOp Fa (aE 3) (tC .non))) (cT (aE 1)) eA) (cE (mE (fN (eI K "Corner") "step_in" (kX K) [] E0 (aE 0) (aH (aE 1) (aH (aE 2) (aH (aE 3) bG))))) (cS (fN (eI K "Corner") "entering" (jB K) [] E0 (aE 0) bG) (bA 1))))))
def Aa(K:aQ):TS:=(cE (cS (fN (eI K "Corner") "entering" (jB K) [] E0 (aE 0) bG) (bA 1)) (cE (zO (dB (tOp Xk (aE 1) (tC .non))) (rG K)) (rF K)))
def jV8{L:Lpd}(h:L.insL s=L.insL R)(hi:i<L.m):s i=R i:=by
 unfold Lpd.insL at h;have h1:=eU (λi=>(s i:Int)) hi;rw[h,eU (λi=>(R i:Int)) hi]at h1;have:=aW h1;lia
def jY3{L:Lpd}(h:∀i,i<L.m->s i=R i):L.B s=L.B R:=by
 funext i
 unfold Lpd.B;by_cases hi:i<L.m
 .rw[aK hi,aK hi,h i hi]
 .rw[aF hi,aF hi]
def Yt{L:Lpd}(h:∀i,i<L.m->s i=R i):L.mu s=L.mu R:=by
 have e:=jY3 h;unfold Lpd.mu Lpd.Fur Lpd.T Lpd.D;rw[e]
def iS.ins_eq{t ins:Addr}{L:Lpd}(h:iS K H t ins L s)(h':iS K H t ins L R):∀i,i<L.m->s i=R i:=λi hi=>by
 obtain⟨_,_,_,_,_,_,_,P⟩:=h;obtain⟨_,_,_,_,_,_,_,q⟩:=h';have e:=P.hi.symm.trans q.hi;injection e with e;injection e with e;exact jV8 (List.map_inj_right (λa b h=>by injection h)|>.mp e) hi
def Ys{t ins:Addr}{L:Lpd}{N:Hp}{Z:St}{o:Option Nat}(h:Fp K t ins L N Z Y s o):mu_un K t ins L N Z Y=L.mu s:=by
 unfold mu_un;have hx:∃s,∃o,Fp K t ins L N Z Y s o:=#[s,o,h];rw[dif_pos hx];obtain⟨O,a⟩:=Classical.choose_spec hx;exact Yt (a.2.2.1.ins_eq h.2.2.1)
def mu_step{L:Lpd}(o:L.Okx s)(O:L.Okx R)(hs:kQ L R)(h:L.Fur s R):L.mu R<L.mu s:=by
 have e:∀i,i<L.m->R i=Lpd.sf (ofF L.m R) i:=λi hi=>by
  unfold Lpd.sf;rw[aJ,eU _ hi];rfl
 rw[Yt e];have a:=jY3 e;have b:L.D R=L.D (Lpd.sf (ofF L.m R)):=by unfold Lpd.D;rw[a]
 refine Lpd.mu_lt o.pos (b▸O.pos) (bF _ _) (λc hc=>?_) ?_
 .obtain⟨k,hk,rfl⟩:=jZ hc;exact hs k hk
 .unfold Lpd.Fur Lpd.T Lpd.D at h⊢;rw[←a];exact h
def Wo{K}:RdS K qO Aa Le:=by
 rintro j H Q E ⟨t,ins,L,s,rfl,ca,lim,ok,io,q⟩;obtain⟨w,b,X,k,bs,ss,ks,P⟩:=id ca;rw[show start Le [ref t]=[some (.ref t),none,none,none]from rfl];(dsimp![Aa,fN,cE,cS,bA,aE,bG,cW]);refine#[_,_,P.ob,rfl,_,_,_,_,rfl,ca,lim,ok.n,λo U M l=>?_];refine Nl (λZ O=>∃s o,Fp K t ins L H Z O s o) (mu_un K t ins L H) #[s,o,#[_,_,rfl],iO M,ca.same M,ok,io,l] ?_ ?_
 .rintro Z Y ⟨N,f,iv⟩;have a6:=Ys iv;rw[a6];obtain⟨⟨q1,p,rfl⟩,a2,g,a,a0,x⟩:=iv;(dsimp![Xk,aE,tC,tOp,dB]);cases f with
  |none=>
   (try dsimp only[rF,tC,cT,gB,gC,gA];try simp only[oV,decide_true,Bool.not_true,Bool.false_eq_true,if_false,rF,tC,cT,Option.some.injEq,exists_eq_left',exists_eq_left,V.int.injEq,V.ref.injEq,V.bl.injEq,List.cons.injEq,and_true,true_and,exists_and_left,and_assoc,gB,gC,gA,gZ,kR,iM])
   exact q none N Y a2 g a a0 x
  |some c=>
   (try dsimp only[rG,fN,Fa,mE,cE,cS,bA,aE,tC,tOp,cT,fX,dB,eA,aH,bG,Lq0,Lq1,Ls0,Ls1,gB,gC,gA];try simp only[oV,reduceCtorEq,decide_false,Bool.not_false,if_true,rG,fN,Fa,mE,cE,cS,bA,aE,tC,tOp,cT,fX,dB,eA,aH,bG,Lq0,Lq1,Ls0,Ls1,Option.some.injEq,exists_eq_left',V.ref.injEq,V.bl.injEq,true_and,cW,exists_and_left,dH,exists_eq_left,V.int.injEq,List.cons.injEq,and_true,and_assoc,gB,gC,gA,gZ,kR,iM])
   obtain⟨b1,b3,b2,k3,b4,b5,b7,P3⟩:=id g;refine#[_,_,P3.ob,rfl,_,_,_,_,_,rfl,g,lim,a.n,x.1,λF d G b8 A=>?_];refine#[_,_,(P3.same G).ob,rfl,_,_,_,_,_,_,rfl,g.same G,lim,a.n,A,λo5 u B S=>?_];have y:aT (mn t ins H) (mn t ins u):=a2.trans (iO (G.trans B));have a3:=g.same (G.trans B);cases o5 with
   |none=>
    simp only[oV,if_true,exists_eq_left',V.int.injEq,Option.some.injEq,exists_eq_left,V.ref.injEq,V.bl.injEq,List.cons.injEq,and_true,true_and,exists_and_left,and_assoc,gB,gC,gA,gZ,kR,iM];exact q (some c) N u y a3 a a0 #[x.1,x.2,λi hi=>S i #[]]
   |some r=>
    obtain⟨hr,hp,J⟩:=S;have R:r<L.m:=by
     have:=x.2;rcases Nat.lt_or_ge r L.m with h |h
     .exact h
     .have:r=L.m:=#[];subst this;lia
    have I:=a.step R hp λi hi a7=>J i #[] a7;have a4:kQ L (Lpd.sput N r c):=λi hi=>by
     unfold Lpd.sput;split
     .exact x.1
     .exact a0 i hi
    have a8:=a.further (r:=r) (c:=c) R x.2;simp only[oV,reduceCtorEq,if_false,exists_eq_left',V.int.injEq,Option.some.injEq,exists_eq_left,V.ref.injEq,V.bl.injEq,List.cons.injEq,and_true,true_and,exists_and_left,and_assoc,gB,gC,gA,gZ,kR,iM];refine#[_,_,(P3.same (G.trans B)).ob,rfl,_,_,_,_,_,_,_,rfl,a3,lim,a.n,B _ _ A,R,λH6 a9 a1 _=>?_];obtain⟨b9,b6,c2,k6,c3,c4,c5,P6⟩:=id a1;refine#[_,_,P6.ob,rfl,_,_,_,_,rfl,a1,lim,I.n,λz C T b0=>?_];have a5:Fp K t ins L H [some (.ref t),some (oV z),some (.ref F),some (.int r)] C (Lpd.sput N r c) z:=#[#[_,_,rfl],(y.trans a9).trans (iO T),a1.same T,I,a4,b0];refine#[#[_,_,a5],?_];rw[Ys a5];exact mu_step a I a4 a8
 .intro Z O Q1 Q2 D h;dsimp only[dB,tOp,tUn,Xk]at h⊢
  first
  | (obtain⟨v,hv,hx,e⟩:=Bj h
     exact Bi hv #[hx,D _ _ e])
  | (obtain⟨v,hv,hx,b,hb,e⟩:=Bj h
     exact Bi hv #[hx,b,hb,D _ _ e])
def Be:LS:=["row"]
def mK(K:aQ):Sp:=λvs H Q _=>∃a ns,vs=[.ref a]/\SqL K H a (map int ns)/\ns.length<=200/\∀l O,aT H O->H l=none->O l=some (.lst (map int (ns.map λx=>-x)))->Q (.ref l) O
def sN(K:aQ):TE:=(tUn jD (aE 0))
def rH(K:aQ):TS:=(cT (dL (cU K (aE 0)) [] (sN K)))
def Lp{K}:RdS K mK rH Be:=by
 rintro j H Q E ⟨a,ns,rfl,ha,F,q⟩;rw[show start Be [ref a]=[some (.ref a)]from rfl];(dsimp?[rH,dL,cU]);refine#[#[_,ha],dR (K:=K) (a:=a) (xs:=map int ns) (λi J Y=>Y=H/\J=map int ((ns.take i).map λx=>-x)) (by rw[aB,sizeLine_eq];lia) #[rfl,rfl] ?_ ?_ ?_]
 .rintro i J Y _ ⟨rfl,_⟩;exact ha
 .rintro i x J Y hi _ ⟨rfl,rfl⟩;obtain⟨n,rfl,hn⟩:=fJ hi;(dsimp?[sN]);rw[dJ hn,aX,aX];rfl
 .rintro J Y _ ⟨rfl,rfl⟩ p hp;rw[aB,bY];exact q p _ (aT.upd hp) hp aL
def sU:LS:=["self","inside","first","free","column","numbers","places"]
def mU(K:aQ):Sp:=λvs H Q _=>∃t ins L g,∃z:List Nat,vs=[.ref t,.ref g]/\iS K H t ins L L.ins0/\L.Lim/\L.fl=false/\1<=L.m/\mn t ins H g=some (.lst (map int (z.map λc:Nat=>(c:Int))))/\z.length=L.m/\
 (∀O,aT (mn t ins H) (mn t ins O)->Q (.bl false) O)/\
 ∀r s O,(r=L∨r=L.flip)->aT (mn t ins H) (mn t ins O)->iS K O t ins r s->r.Ok s->kQ r s->Q (.bl true) O
def lK(K:aQ):TS:=(cT (tOp rGeI (tCB (Mv K) (aH (cD (kC K) [] E0 (aH (tSl (vG K) (gW K (aE 0) "kept") hJ (mD (tUn jD (tC (.int 1))))) (aH (tUn jD (tC (.int 1))) bG))) bG)) (tC (.int 0))))
def pJ(K:aQ):TE:=(cD (mK K) [] E0 (aH (aE 0) bG))
def iC(K:aQ):TS:=(cE (fX (dB (tOp kO (fN (eI K "Corner") "bottom" (iX K) [] E0 (aE 0) bG) (tC (.int 0)))) (zE K (aE 0) (dL (cU K (gW K (aE 0) "kept")) [] (pJ K)) "kept") eA) (lK K))
def pI(K:aQ):TE:=(aE 0)
def lJ(K:aQ):TS:=(cE (mE (fN (eI K "Corner") "step_in" (kX K) [] E0 (aE 0) (aH (aE 4) (aH (aE 5) (aH (tOp (fS K) (aE 6) (tC (.int 0))) bG))))) (mE (tBM K "list" Mg (aE 3) (aH (tOp (fS K) (aE 6) (tC (.int 0))) bG))))
def pF(K:aQ):TS:=(cE (fX (zC (tTru K (aE 6))) (cT (tC (.bl false))) eA) (lJ K))
def pH(K:aQ):TE:=(aE 0)
def pE(K:aQ):TS:=(cE (cS (pL (cU K (aE 3)) [5] (dB (tOp rNe (tOp (fS K) (aE 1) (aE 0)) (tC (.int 0)))) (pH K)) (bA 6)) (pF K))
def iD(K:aQ):TS:=(cE (cS (fN (eI K "Corner") "numbers" (iG K) [] E0 (aE 0) (aH (aE 4) bG)) (bA 5)) (pE K))
def pD(K:aQ):TS:=(cE (gD (cU K (pL (cU K (aE 1)) [2] (dB (tOp kO (aE 0) (aE 1))) (pI K))) (bA 4) (iD K)) (iC K))
def lL(K:aQ):TE:=(aE 0)
def pC(K:aQ):TS:=(cE (cS (pL (iE (aH (tCB (iY K) (aH (aE 1) bG)) bG)) [1,2] (dB (tOp (rIn K true) (tOp hE (aE 2) (aE 0)) (aE 1))) (lL K)) (bA 3)) (pD K))
def nR(K:aQ):TS:=(cE (cS (tCB (iY K) (aH (gW K (aE 0) "begun") bG)) (bA 2)) (pC K))
def eF.take:∀{ps:List Addr}{X:List (List Int)}(i:Nat),eF H ps X->eF H (ps.take i) (X.take i)
 |_,_,0,_=>trivial
 | [],[],_+1,_=>trivial
 |_::_,_::_,i+1,h=>#[h.1,eF.take i h.2]
 | [],_::_,_,h=>h.elim
 |_::_,[],_,h=>h.elim
def jVz{n:Nat}{f:Nat->d}(h:i<=n):(ofF n f).take i=ofF i f:=by
 unfold ofF;rw[←map_take,List.take_range,Nat.min_eq_left h]
def jX7{c:Type}{n:Nat}{f:Nat->d}{g:d->c}:(ofF n f).map g=ofF n λk=>g (f k):=by unfold ofF;rw[List.map_map];rfl
def Kw(C:zB K){t ins:Addr}{L:Lpd}{d g f h u p:Option V}(ca:iS K G t ins L s)(lim:L.Lim)(m1:1<=L.m)
  (q:∀O,aT G O->Q (.bl false) O) (D:∀O,aT G O->(∀i,i<L.m->0<=L.T s i L.be)->Q (.bl true) O):
  lK K (eQ Q) [some (.ref t),d,g,f,h,u,p] G:=by
 obtain⟨w,b,X,k,bs,c,ks,P⟩:=ca;have kl:=P.kl;have y:=lim.m1;(dsimp?[lK,gW,vG,Mv]);refine#[_,_,_,P.ob,C.cl,C.nk,_,jS b X k ins,k,rfl,_,SqL.of P.Kp,λz hz=>?_];have n:mY (map ref ks) none (some (-1))=map ref (ks.take L.m):=by rw[Gg,aB,kl,Nat.add_sub_cancel,map_take]
 rw[n];have hks:eF G (ks.take L.m) (ofF L.m (L.keptL s)):=by have:=P.Ks.take L.m;rwa [jVz (Nat.le_succ _)]at this
 refine#[z,_,_,-1,L.m+1,rfl,SqL.of aL,hks.same (aT.upd hz),by rw[bF];lia,λr hr=>?_,λl U j S I=>?_]
 .obtain⟨i,hi,rfl⟩:=jZ hr;rw[iP (L.keptL_last s i)];exact zZ (by rw[aB,Lpd.keptL_length,aZ,show L.m+2-1=L.m+1 by lia,L.keptL_last];rfl)
 .have a:=(aT.upd (o:=lst (map ref (ks.take L.m))) hz).trans j;rw[jX7,jF λi _=>iP (L.keptL_last s i)]at I;refine#[l,rfl,_,SqL.of I,λe=>?_,λM v A=>?_]
  .have:=congrArg List.length e;rw[bF]at this;simp at this;lia
  .by_cases B:0<=M
   .rw[decide_eq_true B];refine D U a λi hi=>?_;have:=A _ (aI (eU (λi=>L.T s i L.be) hi));lia
   .rw[decide_eq_false B];exact q U a
def Zv(C:zB K){t ins:Addr}{L:Lpd}{o1 U f o4 o5 o6:Option V}(ca:iS K G t ins L s)(lim:L.Lim)(m1:1<=L.m)(ok:L.Okn s)(io:kQ L s)
  (k0:∀O,aT (mn t ins G) (mn t ins O)->Q (.bl false) O) (D:∀r O,(r=L∨r=L.flip)->aT (mn t ins G) (mn t ins O)->iS K O t ins r s->r.Ok s->kQ r s->Q (.bl true) O):
  iC K (eQ Q) [some (.ref t),o1,U,f,o4,o5,o6] G:=by
 obtain⟨w,b,X,k,bs,c,ks,P⟩:=id ca;have kl:=P.kl;have ml:=lim.m1;have j:t≠ins:=kS P.ob P.hi (by intro z;cases z);have D0:=ok.ne;(dsimp?[iC,fN,dL,cU,zE,gW];try simp_arith[iC,fN,dL,cU,zE,gW,if_true])
 refine#[_,_,P.ob,rfl,t,ins,L,s,rfl,ca,_,rfl,mC (λg=>?_) (λg=>?_)]
 .refine#[_,_,_,P.ob,C.cl,C.nk,_,jS b X k ins,k,rfl,#[_,SqL.of P.Kp],dR (K:=K) (a:=k) (xs:=map ref ks) (λi J Y=>aT G Y/\∃I,J=map ref I/\eF Y I (ofF i (L.flip.keptL s))/\∀x∈I,G x=none) ?_ #[aT.refl _,[],rfl,trivial,(λ_ h=>nomatch h)] ?_ ?_ ?_]
  .rw[aB,kl,sizeLine_eq];lia
  .rintro i J Y _ ⟨N,_⟩;exact SqL.of (N _ _ P.Kp)
  .rintro i x J Y hi _ ⟨N,I,rfl,T,H⟩;obtain⟨z,rfl,hz⟩:=eN hi;obtain⟨row,n,F⟩:=(P.Ks.same N).get hz;obtain⟨v,rfl⟩:=gL n;(dsimp?[pJ]);refine#[z,_,rfl,SqL.of F,by rw[Lpd.keptL_length];lia,λl d M S a1=>#[N.trans M,I++[l],by rw[aX];rfl,?_,λx hx=>?_]]
   .rw[fD];exact eF.snoc (T.same M) (by rw[a1,L.flip_kept])
   .rcases dD.mp hx with hx |hx
    .exact H x hx
    .rw[cP.mp hx];exact N.free S
  .rintro J Y _ ⟨N,I,rfl,T,H⟩ p hp;rw[aB,kl]at T;have M:=N.trans (aT.upd (o:=lst (map ref I)) hp);have a0:=T.same (aT.upd (o:=lst (map ref I)) hp);have e:(upd Y p (lst (map ref I))) p=some (lst (map ref I)):=aL;have p0:G p=none:=N.free hp;generalize upd Y p (lst (map ref I))=d at M a0 e;refine#[_,_,_,M _ _ P.ob,C.cl,C.nk,by show 4<1000;decide,?_];rw[jYr];have Z:∀o,mn t ins (upd d t o)=mn t ins d:=λo=>nW (.inl rfl);have q:aT (mn t ins G) (mn t ins d):=iO M;have A:iS K (upd d t (.ins (eI K "Corner") w (cfl b X p ins))) t ins L.flip s:=by
    refine#[w,b,X,p,bs,c,I,aL,?_,?_,?_,P.sl,P.sb,?_,?_,?_]
    .rw[Z];exact q _ _ P.hb
    .rw[Z];exact P.hbs.same q
    .rw[Z];exact q _ _ P.hs
    .rw[Z];exact zM e (dW P.ob p0).symm (dW P.hi p0).symm
    .rw[Z];exact a0.mn (λhx=>by have:=H _ hx;rw[P.ob]at this;cases this) (λhx=>by have:=H _ hx;rw[P.hi]at this;cases this)
    .rw[cK j.symm];exact M _ _ P.hi
   have y:aT (mn t ins G) (mn t ins (upd d t (.ins (eI K "Corner") w (cfl b X p ins)))):=by rw[Z];exact q
   generalize upd d t (.ins (eI K "Corner") w (cfl b X p ins))=u at A y;refine Kw C A lim.flip m1 (λO R=>k0 O (y.trans (iO R))) λO R B=>D L.flip O (.inr rfl) (y.trans (iO R)) (A.same R) #[?_,ok.cr,B] io;rw[Lpd.flip_D];lia
 .refine Kw C ca lim m1 (λO R=>k0 O (iO R)) λO R B=>D L O (.inl rfl) (iO R) (ca.same R) #[#[],ok.cr,B] io
structure CmAt(K:aQ)(H0 H:Hp)(t ins f cl:Addr)(L:Lpd)(s:Nat->Nat)(fr cs:List Nat):Prop where
 sm:aT (mn t ins H0) (mn t ins H)
 ca:Fc K H t ins L s f
 ok:L.Okn s
 io:kQ L s
 f0:H0 f=none
 hf:mn t ins H f=some (.lst (map int (fr.map λi:Nat=>(i:Int))))
 fm:∀x∈fr,x<L.m
 fl:fr.length<=L.m
 hc:mn t ins H cl=some (.lst (map int (cs.map λi:Nat=>(i:Int))))
 cf:cl≠f
def jV6(K:aQ)(N:Hp)(t ins g f cl:Addr)(L:Lpd)(cs:List Nat):NS:=λ_ Z Y=>∃s fr T u p,Z=[some (.ref t),some (.ref g),some (.int L.n),some (.ref f),T,u,p]/\CmAt K N Y t ins f cl L s fr cs
def Yy:∀{l:List Nat}{r:Nat},r∈l->∃j:Nat,l[j]?=some r/\∀m:Nat,m<j->l[m]?≠some r
 | [],_,h=>nomatch h
 |a::l,r,h=>by
  by_cases e:a=r
  .exact#[0,by rw[e];rfl,λm hm=>absurd hm (fE _)]
  .rcases eW.mp h with h |h
   .exact absurd h.symm e
   .obtain⟨j,h1,h2⟩:=Yy h;refine#[j+1,by simpa using h1,λm hm=>?_];cases m with
    |zero=>intro z;exact e (by simpa using z)
    |succ m=>have:=h2 m #[];simpa using this
def Wd{x:V}(h:(map int (ns.map λi:Nat=>(i:Int)))[i]?=some x):∃y:Nat,x=.int (y:Int)/\ns[i]?=some y:=by
 rw[aZ,aZ]at h;cases e:ns[i]? with
 |none=>rw[e]at h;cases h
 |some y=>rw[e]at h;exact#[y,(aW h).symm,rfl]
def Zw{D:vH}{N:Hp}{t ins g f cl:Addr}{L:Lpd}{fr cs:List Nat}{u o6:Option V}(lim:L.Lim)(I:CmAt K N G t ins f cl L s fr cs)(hc:c<L.n)
  (k0:∀O,aT (mn t ins N) (mn t ins O)->D.rt (.bl false) O) (k1:∀R a3 u o6 O,CmAt K N O t ins f cl L R a3 cs->D.nx [some (.ref t),some (.ref g),some (.int L.n),some (.ref f),some (.int c),u,o6] O):
  iD K D [some (.ref t),some (.ref g),some (.int L.n),some (.ref f),some (.int c),u,o6] G:=by
 obtain⟨w,b,X,k,bs,ss,ks,P⟩:=id I.ca.at;(dsimp?[iD,fN];try simp_arith[iD,fN,if_true])
 refine#[_,_,P.ob,rfl,t,ins,L,s,c,rfl,I.ca.at,lim,I.ok,#[],λF U M hn a1=>?_];have ml:=lim.m1;have fl:=I.fl;have C:=M _ _ (lM _ _ I.hf);(dsimp?[pE,pL,cU]);refine#[#[_,SqL.of C],Pq (K:=K) (a:=f) (xs:=map int (fr.map λi:Nat=>(i:Int))) (λi J Y=>Y=U/\∃ps:List Nat,J=map int (ps.map λi:Nat=>(i:Int))/\∀x∈ps,x∈fr/\L.T s x (L.cv c)≠0) (by rw[aB,aB,sizeLine_eq];lia) #[rfl,[],rfl,(λ_ h=>nomatch h)] ?_ ?_ ?_]
 .rintro i J Y _ ⟨rfl,_⟩;exact SqL.of C
 .rintro i x J Y hi _ ⟨rfl,ps,rfl,hp⟩;obtain⟨y,rfl,hy⟩:=Wd hi;have ym:=I.fm y (aI hy);(dsimp?[pH,cY,bV,cX,bI]);refine#[_,SqL.of a1,int (L.T s y (L.cv c)),fC (by rw[aZ];unfold Lpd.numL;rw[eU _ #[]];rfl),rfl,?_];by_cases B:L.T s y (L.cv c)=0
  .rw[decide_eq_true (by rw[B]:int (L.T s y (L.cv c))=int 0)];exact yV #[ps,rfl,hp]
  .rw[decide_eq_false (λz=>B (by injection z):¬int (L.T s y (L.cv c))=int 0)];refine iteT #[ps++[y],by rw[aX,aX];rfl,λx hx=>?_];rcases dD.mp hx with hx |hx
   .exact hp x hx
   .rw[cP.mp hx];exact#[aI hy,B]
 .rintro J Y ⟨rfl,ps,rfl,hp⟩ p S;have s2:=aT.upd (o:=lst (map int (ps.map λi:Nat=>(i:Int)))) S;have p2:(upd Y p (lst (map int (ps.map λi:Nat=>(i:Int))))) p=some (lst (map int (ps.map λi:Nat=>(i:Int)))):=aL;generalize upd Y p (lst (map int (ps.map λi:Nat=>(i:Int))))=H2 at s2 p2;have l:=M.trans s2;(dsimp?[pF,tTru]);refine#[_,.inl #[_,SqL.of p2,rfl],?_];cases ps with
  |nil=>exact iteT (k0 H2 (I.sm.trans (iO l)))
  |cons r pr=>
   obtain⟨rf,v⟩:=hp r cB;have rm:=I.fm r rf;have P2:=P.same l;refine yV ?_;(dsimp?[lJ,mE,fN,tBM,Mg];try simp_arith[lJ,mE,fN,tBM,Mg,if_true])
   have a2:p≠t/\p≠ins:=#[(dW (M _ _ P.ob) S).symm,(dW (M _ _ P.hi) S).symm];have a0:f≠t/\f≠ins:=by
    have hf:=I.hf;constructor
    .rintro rfl;unfold mn at hf;rw[aK (.inl rfl)]at hf;cases hf
    .rintro rfl;unfold mn at hf;rw[aK (.inr rfl)]at hf;cases hf
   have pf:p≠f:=λe=>by rw[e,C]at S;cases S
   have F2:=I.ca.same l;refine#[_,_,P2.ob,rfl,_,SqL.of p2,int r,kP,t,ins,L,s,F,c,r,rfl,F2.at,lim,I.ok,s2 _ _ a1,rm,λd q a6 ff=>?_];have F4:=ff f (by rw[l _ _ (lM _ _ I.hf)];exact λz=>nomatch z) F2
   have Q:=q _ _ (iO l _ _ I.hf);have p4:=q _ _ (zM p2 a2.1 a2.2);have c4:=q _ _ (iO l _ _ I.hc);obtain⟨j,A,a4⟩:=Yy rf;refine#[.inl #[rfl,_,SqL.of (lM _ _ Q)],_,SqL.of (lM _ _ p4),int r,kP,fr.map λi:Nat=>(i:Int),(r:Int),rfl,lM _ _ Q,j,by rw[aZ,A];rfl,λm hm e=>?_,?_]
   .rw[aZ]at e;cases e2:fr[m]? with
    |none=>rw[e2]at e;cases e
    |some y=>
     rw[e2]at e;have:(y:Int)=r:=aW e;exact a4 m hm (by rw[e2];congr 1;lia)
   .have er:(fr.map λi:Nat=>(i:Int)).eraseIdx j=(fr.eraseIdx j).map λi:Nat=>(i:Int):=(Va _ _ _).symm;rw[er];have Z:=Bq (H:=d) (o:=lst (map int ((fr.eraseIdx j).map λi:Nat=>(i:Int)))) a0.1 a0.2;have a5:mn t ins N f=none:=by unfold mn;rw[aF (λz=>z.elim a0.1 a0.2)];exact I.f0
    refine k1 (Lpd.sput s r c) (fr.eraseIdx j) _ _ _ #[by rw[Z];exact((I.sm.trans (iO l)).trans q).put a5,F4.upd a0.1 a0.2,I.ok.step rm v,λi hi=>?_,I.f0,by rw[Z,aL],λx hx=>I.fm x (List.mem_of_mem_eraseIdx hx),cI (List.length_eraseIdx_le _ _) I.fl,by rw[Z,cK I.cf];exact c4,I.cf];unfold Lpd.sput;split
    .omega
    .exact I.io i hi
def Ey{K vs H Q E}(C:zB K)(h:mU K vs H Q E):nR K (eQ Q) (start sU vs) H:=by
 obtain⟨t,ins,L,g,z,rfl,ca,lim,fl,m1,hg,gl,q,k1⟩:=h;obtain⟨w,b,X,k,bs,ss,ks,P⟩:=id ca;have ml:=lim.m1;rw[show start sU [ref t,ref g]=[some (.ref t),some (.ref g),none,none,none,none,none]from rfl];(dsimp?[nR,gW]);refine#[_,_,_,P.ob,C.cl,C.nb,_,mW b X k ins,b,rfl,_,.inl (SqL.of P.B),?_];rw[aB,P.bl];(dsimp?[pC,pL,iE]);have a0:=lM _ _ hg;refine#[_,.inl (SqL.of a0),?_];rw[aB,aB,gl,cA];refine#[#[],#[],jVJ (lo:=0) (W:=λj J O=>O=H/\∃fr:List Nat,J=map int (fr.map λi:Nat=>(i:Int))/\(∀x∈fr,x<L.m)/\fr.length<=j) (by rw[sizeLine_eq];lia) #[rfl,[],rfl,(λ_ h=>nomatch h),aU _] ?_ ?_]
 .rintro j J O A _ ⟨rfl,fr,rfl,fm,a1⟩;(dsimp?[lL,rIn,cY,bV,cX,bI];try simp_arith[lL,rIn,cY,bV,cX,bI,eX])
  refine#[_,.inl (SqL.of a0),rfl,?_,?_]
  .rw[List.all_eq_true];intro v hv;obtain⟨c,_,rfl⟩:=cV.mp hv;rfl
  .refine mC (λ_=>#[fr++[j],by rw[aX,aX];rfl,λx hx=>?_,by rw[bK];show fr.length+1<=j+1;lia]) (λ_=>#[fr,rfl,fm,#[]]);rcases dD.mp hx with hx |hx
   .exact fm x hx
   .rw[cP.mp hx];exact A
 .rintro J O ⟨rfl,fr,rfl,fm,a1⟩ f hf;have M:=aT.upd (o:=lst (map int (fr.map λi:Nat=>(i:Int)))) hf;have f1:(upd O f (lst (map int (fr.map λi:Nat=>(i:Int))))) f=some (lst (map int (fr.map λi:Nat=>(i:Int)))):=aL;generalize upd O f (lst (map int (fr.map λi:Nat=>(i:Int))))=U at M f1;have a2:=M _ _ a0;(dsimp?[pD,gD,pL,cU]);refine#[#[_,SqL.of a2],Pq (K:=K) (a:=g) (xs:=map int (z.map λi:Nat=>(i:Int))) (λi J Y=>Y=U/\∃cs:List Nat,J=map int (cs.map λi:Nat=>(i:Int))/\∀x∈cs,x<L.n) (by rw[aB,aB,sizeLine_eq];lia) #[rfl,[],rfl,(λ_ h=>nomatch h)] ?_ ?_ ?_]
  .rintro i J Y _ ⟨rfl,_⟩;exact SqL.of a2
  .rintro i x J Y hi _ ⟨rfl,cs,rfl,hc⟩;obtain⟨y,rfl,hy⟩:=Wd hi;(dsimp?[pI,cY,bV,cX,bI]);by_cases h0:(y:Int)<(L.n:Int)
   .rw[aK h0];refine#[cs++[y],by rw[aX,aX];rfl,λx hx=>?_];rcases dD.mp hx with hx |hx
    .exact hc x hx
    .rw[cP.mp hx];lia
   .rw[aF h0];exact#[cs,rfl,hc]
  .rintro J Y ⟨rfl,cs,rfl,hc⟩ cl G;have s2:=aT.upd (o:=lst (map int (cs.map λi:Nat=>(i:Int)))) G;have N:(upd Y cl (lst (map int (cs.map λi:Nat=>(i:Int))))) cl=some (lst (map int (cs.map λi:Nat=>(i:Int)))):=aL;have a5:cl≠f:=λe=>by rw[e,f1]at G;cases G
   have a3:cl≠t/\cl≠ins:=#[(dW (M _ _ P.ob) G).symm,(dW (M _ _ P.hi) G).symm];have a4:f≠t/\f≠ins:=#[(dW P.ob hf).symm,(dW P.hi hf).symm];have F:=s2 _ _ f1;generalize upd Y cl (lst (map int (cs.map λi:Nat=>(i:Int))))=H2 at s2 N F;have l:=M.trans s2;have I:CmAt K O H2 t ins f cl L L.ins0 fr cs:=#[iO l,((ca.fresh hf).same l),Lpd.Okn.start fl,λi hi=>by show L.n+i<L.n+L.m;lia,hf,zM F a4.1 a4.2,fm,a1,zM N a3.1 a3.2,a5];refine#[#[_,SqL.of N],iA (K:=K) (a:=cl) (xs:=map int (cs.map λi:Nat=>(i:Int))) (g:=bA 4) (D:={ nx:=iC K (eQ Q),rt:=Q }) (jV6 K O t ins g f cl L cs) #[_,_,_,_,_,rfl,I] ?_ ?_ ?_]
   .rintro i Z d _ ⟨_,_,_,_,_,_,S⟩;exact SqL.of (lM _ _ S.hc)
   .rintro i x Z d hi ⟨s,a6,T,o5,p,rfl,S⟩;obtain⟨y,rfl,hy⟩:=Wd hi;show iD K _ [some (.ref t),some (.ref g),some (.int L.n),some (.ref f),some (.int y),o5,p] d;exact Zw lim S (hc y (aI hy)) (λu sm=>q u sm) λR a7 o5 p u I5=>#[R,a7,_,o5,p,rfl,I5]
   .rintro Z d ⟨s,a6,T,o5,p,rfl,S⟩;exact Zv C S.ca.at lim m1 S.ok S.io (λu sm=>q u (S.sm.trans sm)) λr u e sm a8 a9 b0=>k1 r s u e (S.sm.trans sm) a8 a9 b0
def rW:LS:=["self","column","numbers"]
def lY(K:aQ):Sp:=λvs H Q _=>∃t ins L s,∃o:Option Nat,vs=[.ref t,oV o]/\iS K H t ins L s/\L.Lim/\L.Okn s/\(∀c,o=some c->c<L.n+L.m)/\(∀O,aT H O->Q (.bl false) O)/\∀O,aT H O->UnO L s o->Q (.bl true) O
def kE(K:aQ):TS:=(cE (fX (dB (tOp Fa (aE 1) (tC .non))) (cT (tOp Fa (fN (eI K "Corner") "entering" (jB K) [] E0 (aE 0) bG) (tC .non))) eA) (cE (cS (fN (eI K "Corner") "numbers" (iG K) [] E0 (aE 0) (aH (aE 1) bG)) (bA 2)) (cT (xR (tOp kO (tOp (fS K) (aE 2) (tUn jD (tC (.int 1)))) (tC (.int 0))) (tOp Fa (fN (eI K "Corner") "leaving_by" (jM K) [] E0 (aE 0) (aH (aE 2) bG)) (tC .non))))))
def Cj{K vs H Q E}(C:zB K)(h:lY K vs H Q E):kE K (eQ Q) (start rW vs) H:=by
 obtain⟨t,ins,L,s,o,rfl,ca,lim,ok,hc,q,D⟩:=h;obtain⟨w,b,X,k,bs,d,ks,P⟩:=id ca;rw[show start rW [ref t,oV o]=[some (.ref t),some (oV o),none]from rfl];(dsimp?[kE,fN,Fa];try simp_arith[kE,fN,Fa,if_true])
 cases o with
 |none=>
  rw[aK (show oV none=V.non from rfl)];refine#[_,_,P.ob,rfl,t,ins,L,s,rfl,ca,lim,ok,λo U M l=>?_];cases o with
  |none=>rw[decide_eq_true (show oV none=V.non from rfl)];exact D U M l
  |some c=>rw[decide_eq_false (show ¬oV (some c)=V.non from λz=>nomatch z)];exact q U M
 |some c=>
  rw[aF (show ¬oV (some c)=V.non from λz=>nomatch z)]
  refine#[_,_,P.ob,rfl,t,ins,L,s,c,rfl,ca,lim,ok,hc c rfl,λF U M hn u=>#[F,rfl,_,SqL.of u,int (L.T s L.m (L.cv c)),zZ (by rw[aB];unfold Lpd.numL;rw[bF,Nat.add_sub_cancel,aZ,eU _ (gR _)];rfl),_,rfl,mC (λh=>#[_,_,(P.same M).ob,rfl,t,ins,L,s,F,c,rfl,ca.same M,lim,ok,u,λo j a S=>?_]) (λh=>q U M)]];cases o with
  |none=>rw[decide_eq_true (show oV none=V.non from rfl)];exact D j (M.trans a) #[hc c rfl,h,λi hi=>S i (Nat.le_of_lt hi)]
  |some r=>rw[decide_eq_false (show ¬oV (some r)=V.non from λz=>nomatch z)];exact q j (M.trans a)
def Dd:LS:=["lists","bits","guess","column","corner"]
structure Up(H:Hp)(a:Addr)(rps:List Addr)(L:Lpd)(q q':Nat):Prop where
 R:yZ H a rps L
 fl:L.fl=false
 m1:1<=L.m
 n1:1<=L.n
 lim:L.Lim
 F:Fit L.m L.n q'
 q9:q<=9000
 st:∀k,40*2^k<q->40*2^k<=q'
 ba:∀j k,j<L.n->k<=L.m->BB q (L.a j k)
 bb:∀k,k<=L.m->BB q (L.be k)
 nn:∀k,k<L.m->0<=L.be k
structure jXs(K:aQ)(H:Hp)(p t ins:Addr)(L L2:Lpd)(s:Nat->Nat)(o:Option Nat):Prop where
 e:L2=L∨L2=L.flip
 hp:H p=some (.tup [.ref t,oV o])
 ca:iS K H t ins L2 s
 ok:L2.Ok s
 io:kQ L2 s
 un:UnO L2 s o
def rM(K:aQ):Sp:=λvs H Q _=>∃a g L q Z,vs=[.ref a]/\Up H a g L q Z/\∀p t ins r s o O,aT H O->jXs K O p t ins L r s o->Q (.ref p) O
def uM(K:aQ):TS:=(cT (iW (aH (aE 4) (aH (aE 3) bG))))
def uL(K:aQ):TS:=(cE (cS (cD (qO K) [] E0 (aH (aE 4) bG)) (bA 3)) (uM K))
def oJ(K:aQ):TS:=(cE (cS (Cm (eI K "Corner") (jU K) [] E0 (aH (aE 0) bG)) (bA 4)) (uL K))
def uN(K:aQ):TE:=(cD (vU K) [] E0 (aH (aE 0) bG))
def oI(K:aQ):TS:=(cS (tOp fO (tC (.int 2)) (aE 1)) (bA 1))
def oH(K:aQ):TS:=(cE (fX (Ih (tB (fN (eI K "Corner") "comes_to" (mU K) [] E0 (aE 4) (aH (gW K (aE 2) "inside") bG))) (tB (fN (eI K "Corner") "ends_with" (lY K) [] E0 (aE 4) (aH (aE 3) bG)))) (cT (iW (aH (aE 4) (aH (aE 3) bG)))) eA) (oI K))
def uK(K:aQ):TS:=(cE (cS (Cm (eI K "Corner") (jU K) [] E0 (aH (aE 0) bG)) (bA 4)) (oH K))
def uJ(K:aQ):TS:=(cE (cS (cD (qO K) [] E0 (aH (aE 2) bG)) (bA 3)) (uK K))
def oK(K:aQ):TS:=(cE (cS (Cm (eI K "Corner") (jU K) [] E0 (aH (cD (Eg K) [] E0 (aH (aE 0) (aH (aE 1) bG))) bG)) (bA 2)) (uJ K))
def uI(K:aQ):TS:=(cE (zO (dB (tOp kO (aE 1) (tCB (Mw K) (aH (dL (cU K (aE 0)) [] (uN K)) bG)))) (oK K)) (oJ K))
def tE(K:aQ):TS:=(cE (cS (tC (.int 40)) (bA 1)) (uI K))
def Up.same{g:List Addr}{L:Lpd}(h:Up H a g L q Z)(s:aT H O):Up O a g L q Z:=#[h.R.same s,h.fl,h.m1,h.n1,h.lim,h.F,h.q9,h.st,h.ba,h.bb,h.nn]
def Up.row{g:List Addr}{L:Lpd}(h:Up H a g L q Z)(hi:i<=L.m):∀x∈L.rowL i,BB q x:=λx hx=>by
 rcases Lpd.rowL_mem hx with⟨j,A,rfl⟩|rfl
 .exact h.ba j i A hi
 .exact h.bb i hi
def Md{U j:Hp}{t i:Addr}(s:aT H U)(y:H t=none)(hi:H i=none)(m:aT (mn t i U) (mn t i j)):aT H j:=λb o e=>lM _ _ (m b o (zM (s b o e) (dW e y) (dW e hi)))
def Au{g:List Addr}{L:Lpd}{P:Addr->Hp->Prop}(R:yZ G a g L)(lim:L.Lim)(fl:L.fl=false)(k:∀t ins O,G t=none->G ins=none->aT G O->iS K O t ins L L.ins0->P t O):
  ∀(x w:Addr),G x=none->G w=none->w≠x->jU K [.ref x,.ref a] (upd (upd G w (.own x)) x (.ins (eI K "Corner") w [])) (λv j=>v=.non/\P x j) E0:=by
 intro t w y c ne;have M:aT G (upd (upd G w (.own t)) t (.ins (eI K "Corner") w [])):=(aT.upd c).put y;refine#[t,w,a,g,L,rfl,aL,R.same M,lim,fl,λins O hi b ca=>#[rfl,k t ins O y (M.free hi) (λd o e=>b d o (M d o e) (dW e y)) ca]]
def jZb{g:List Addr}{L:Lpd}{e h f T:Option V}(I:Up G a g L q Z)(s:aT H G)(k:∀p t ins r s o O,aT H O->jXs K O p t ins L r s o->Q (.ref p) O):
  oJ K (eQ Q) [some (.ref a),e,h,f,T] G:=by
 (dsimp?[oJ,Cm]);refine Au I.R I.lim I.fl λt ins U y hi M ca=>?_;(dsimp?[uL]);refine#[t,ins,L,L.ins0,rfl,ca,I.lim,Lpd.Okx.start I.fl I.nn,λi hi=>by show L.n+i<L.n+L.m;lia,λo l j sm A c d b=>?_];(dsimp?[uM]);refine#[sz2,λp hp=>k p t ins L l o _ ((s.trans (Md M y hi sm)).trans (aT.upd hp)) #[.inl rfl,aL,A.same (aT.upd hp),c.w,d,b]]
def jZc(C:zB K){D:vH}{g:List Addr}{L:Lpd}{b:Nat}{o2 f T:Option V}(I:Up G a g L q Z)(s:aT H G)(b1:1<=b)(bq:b<q)(b2:b<=Z)(k:∀p t ins r s o O,aT H O->jXs K O p t ins L r s o->D.rt (.ref p) O)
  (kn:∀o2 f T O,aT H O->D.nx [some (.ref a),some (.int ((2*b:Nat):Int)),o2,f,T] O):
  oK K D [some (.ref a),some (.int b),o2,f,T] G:=by
 have q9:=I.q9;(dsimp?[oK,Cm]);refine#[a,g,L,b,rfl,I.R,I.n1,I.F.n1,I.F.m1,#[],λi hi x hx=>(I.row hi x hx).mono #[],λl qs r U M R2 v=>?_];have a1:r.Lim:=by
  have F2:Fit r.m r.n Z:=by rw[v.m,v.n];exact I.F
  exact F2.lim (λj k A hk=>(v.ba j k (by rw[←v.n];exact A) (by rw[←v.m];exact hk)).mono #[]) λk hk=>(v.bb k (by rw[←v.m];exact hk)).mono #[]
 show ∀(x w:Addr),_;refine Au R2 a1 v.fl λt ins H2 y hi P ca=>?_;(dsimp?[uJ]);refine#[t,ins,r,r.ins0,rfl,ca,a1,Lpd.Okx.start v.fl (λi hi=>v.nn i (by have:=v.m;lia) (I.nn i (by have:=v.m;lia))),λi hi=>by show r.n+i<r.n+r.m;lia,λo s' Y sm a7 b6 b7 a8=>?_];have e:aT G Y:=Md (M.trans P) (M.free y) (M.free hi) sm;have z:=I.same e;obtain⟨b8,b3,a9,k3,b9,c2,c3,P3⟩:=id a7;(dsimp?[uK,Cm]);refine Au z.R z.lim z.fl λt2 Q d a2 S s4 a4=>?_;have P4:=P3.same s4;obtain⟨c4,b4,c5,k4,c6,c7,c8,PT⟩:=id a4;have r4:∀O,aT H O->oI K D [some (.ref a),some (.int b),some (.ref t),some (oV o),some (.ref t2)] O:=λO s'=>by
  (dsimp?[oI]);refine#[.l (by show(2:Int).natAbs<2^64;decide),?_];rw[show(2:Int)*(b:Int)=((2*b:Nat):Int) by lia];exact kn _ _ _ O s'
 have J:=s.trans e;have e1:r.insL s'=(ofF L.m s').map λc:Nat=>(c:Int):=by unfold Lpd.insL;rw[v.m,jX7]
 have a5:=P4.hi;rw[e1]at a5;have n1:ins≠t2:=dW P3.hi a2;have n2:ins≠Q:=dW P3.hi S;(dsimp?[oH,fN,gW];try simp_arith[oH,fN,gW,if_true])
 refine#[_,_,PT.ob,rfl,_,_,_,P4.ob,C.cl,C.ni,_,oE b3 a9 k3 ins,t2,Q,L,ins,ofF L.m s',rfl,a4,z.lim,z.fl,z.m1,zM a5 n1 n2,bF _ _,λu a3=>#[false,rfl,yV (yV (r4 u ?_))],λL3 N u e5 a3 h a6 b0=>#[true,rfl,iteT ?_]]
 .exact Md (J.trans s4) (J.free a2) (J.free S) a3
 .have B:=Md (J.trans s4) (J.free a2) (J.free S) a3;obtain⟨c9,b5,d1,k5,d2,d3,d4,P5⟩:=id h;have a0:L3.Lim/\L3.n=L.n/\L3.m=L.m:=by
   rcases e5 with rfl |rfl
   .exact#[z.lim,rfl,rfl]
   .exact#[z.lim.flip,rfl,rfl]
  refine#[_,_,P5.ob,rfl,t2,Q,L3,N,o,rfl,h,a0.1,a6.n,λc ec=>?_,λH6 X=>#[false,rfl,yV (r4 H6 (B.trans X))],λH6 X un=>#[true,rfl,iteT #[sz2,λp hp=>k p t2 Q L3 N o _ ((B.trans X).trans (aT.upd hp)) #[e5,aL,(h.same X).same (aT.upd hp),a6,b0,un]]]];subst ec;have:=a8.1;rw[v.n,v.m]at this;rw[a0.2.1,a0.2.2];exact this
def Qc{K vs H Q E}(C:zB K)(h:rM K vs H Q E):tE K (eQ Q) (start Dd vs) H:=by
 obtain⟨a,g,L,q,q',rfl,I,k⟩:=h;rw[show start Dd [ref a]=[some (.ref a),none,none,none,none]from rfl];(dsimp?[tE,uI,zO,dL,cU,Mw]);have q9:=I.q9;have rl:=I.R.len;have y:=I.F.m1;refine#[λm Z Y=>∃(b e:Nat)(U f T:Option V),Z=[some (.ref a),some (.int b),U,f,T]/\m=9000-b/\b=40*2^e/\1<=b/\aT H Y,#[9000-40,40,0,none,none,none,rfl,rfl,rfl,by decide,aT.refl _],?_];rintro m Z Y ⟨b,e0,U,f,T,rfl,rfl,eb,t,N⟩;have z:=I.same N;simp only[Lq0,Lq1];refine#[a,rfl,#[_,SqL.of z.R.ha],dR (K:=K) (a:=a) (xs:=map ref g) (λi J d=>aT Y d/\∃ls:List Int,J=map int ls/\ls.length=i/\∀l∈ls,l<=q) (by rw[aB,sizeLine_eq];lia) #[aT.refl _,[],rfl,rfl,(λ_ h=>nomatch h)] ?_ ?_ ?_]
 .rintro i J d _ ⟨G,_⟩;exact SqL.of (G _ _ z.R.ha)
 .rintro i x J d hi _ ⟨G,ls,rfl,P,c⟩;obtain⟨p,rfl,hp⟩:=eN hi;obtain⟨D,s⟩:=(z.R.same G).inv hp;(dsimp?[uN]);refine#[p,_,rfl,SqL.of s,λe=>?_,by rw[Lpd.rowL_length];have:=I.F.n1;lia,λM u B _#[n,hn,j]=>#[G.trans B,ls++[(M:Int)],by rw[aX];rfl,by rw[bK,P];rfl,λl S=>?_]]
  .have:=congrArg List.length e;rw[Lpd.rowL_length]at this;simp at this
  .rcases dD.mp S with S |S
   .exact c l S
   .rw[cP.mp S,←j];have:=Ru (I.row D n hn);lia
 .rintro J d _ ⟨G,ls,rfl,P,c⟩ p hp;rw[aB,rl]at P;refine#[ls,SqL.of aL,λe=>by rw[e]at P;simp at P,λM X A=>#[_,rfl,?_]];have B:=(N.trans G).trans (aT.upd (o:=lst (map int ls)) hp);have r:=c M X;refine mC (λh=>#[λv O=>∃U f T,v=[some (.ref a),some (.int ((2*b:Nat):Int)),U,f,T]/\aT H O,λv O#[U,f,T,e,w]=>#[9000-2*b,#[],2*b,e0+1,U,f,T,e,rfl,by rw[eb,Nat.pow_succ];lia,#[],w],?_]) (λh=>?_)
  .exact jZc C (I.same B) B t #[] (by rw[eb];exact I.st e0 #[]) k λU f T O w=>#[U,f,T,rfl,w]
  .exact jZb (I.same B) B k
def N_over:LS:=["one","other"]
def Bk(K:aQ):Sp:=λvs H Q _=>∃p q a b c d,vs=[.ref p,.ref q]/\Tw K H p q a b c d/\0<b/\0<c/\BB 9000 (b*c)/\∀r O,aT H O->O r=some (.tup [.int (lo2 (a*d) (b*c)).1,.int (lo2 (a*d) (b*c)).2])->Q (.ref r) O
def jJl(K:aQ):TS:=(cT (cD (nF K) [] E0 (aH (tOp fO (tOp (eZ K) (aE 0) (tC (.int 0))) (tOp (eZ K) (aE 1) (tC (.int 1)))) (aH (tOp fO (tOp (eZ K) (aE 0) (tC (.int 1))) (tOp (eZ K) (aE 1) (tC (.int 0)))) bG))))
def rd_over{K}:RdS K Bk jJl N_over:=by
 rintro j H Q E ⟨p,q,a,b,c,d,rfl,⟨hp,T,ba,bb,bc,f⟩,g,c0,e,k⟩;rw[show start N_over [ref p,ref q]=[some (.ref p),some (.ref q)]from rfl];(dsimp![jJl,aE,tC,tOp,rI,fO,cT,cD,aH,bG,eZ,cW]);refine#[_,hp,_,kP,_,T,_,jR,_,rfl,_,rfl,.b ba f,_,hp,_,jR,_,T,_,kP,_,rfl,_,rfl,.b bb bc,?_];have z:0<b*c:=bL g c0;refine#[_,_,rfl,#[],e,λx y r O s h l=>k r O s ?_];obtain⟨e1,C⟩:=l.uniq z (eO z);rw[←e1,←C];exact h
def yQ:LS:=["self","numbers","told","number","column"]
def lQ(K:aQ):Sp:=λvs H Q _=>∃t ins L s F,∃f:Nat->Int,vs=[.ref t,.ref F]/\iS K H t ins L s/\L.Lim/\L.Ok s/\H F=some (.lst (map int (ofF (L.m+1) f)))/\
 ∀l ps O,aT H O->H l=none->O l=some (.lst (map ref ps))->dC K O ps (ofF L.n (yT L s f L.m))->Q (.ref l) O
def jW1(K:aQ)(t F l:Addr)(L:Lpd)(s:Nat->Nat)(f:Nat->Int)(N:Hp):NS:=λi Z Y=>∃O U ps,Z=[some (.ref t),some (.ref F),some (.ref l),O,U]/\aT N Y/\Y l=some (.lst (map ref ps))/\dC K Y ps (ofF L.n (yT L s f i))
def rV(K:aQ):TS:=(fX (dB (tOp kO (aE 4) (tCB (iY K) (aH (aE 2) bG)))) (cS (cD (nF K) [] E0 (aH (aE 3) (aH (fN (eI K "Corner") "bottom" (iX K) [] E0 (aE 0) bG) bG))) (Dm (aE 2) (aE 4) qT)) eA)
def mT(K:aQ):TG:=(jV K 2 (eL (bA 3) (eL (bA 4) jW)))
def rT(K:aQ):TE:=(iW (aH (tC (.int 0)) (aH (tC (.int 1)) bG)))
def pW(K:aQ):TS:=(cE (cS (dL (cU K (gW K (aE 0) "begun")) [] (rT K)) (bA 2)) (cE (gD (mX K (aH (aE 1) (aH (gW K (aE 0) "inside") bG))) (mT K) (rV K)) (cT (aE 2))))
def jV3{D:Int}(h:0<D):lo2 0 D=(0,1):=by
 have:Lo 0 D 0 1:=#[by decide,by decide,by simp,aU _,#[]];exact(this.is h).symm
def Yn{n:Nat}{f:Nat->d}{v:d}:(ofF n f).set i v=ofF n λk=>if k=i then v else f k:=by
 apply List.ext_getElem?;intro k;rw[getElem?_set];by_cases hk:k<n
 .rw[eU (λk=>if k=i then v else f k) hk];by_cases e:i=k
  .rw[aK e,aK (by rw[bF];lia),aK e.symm]
  .rw[aF e,aF (Ne.symm e),eU _ hk]
 .rw[cC (l:=ofF n λk=>if k=i then v else f k) (by rw[bF];lia)];by_cases e:i=k
  .rw[aK e,aF (by rw[bF];lia)]
  .rw[aF e,cC (by rw[bF];lia)]
def Yg{L:Lpd}(ok:L.Ok s){f:Nat->Int}(hi:i<L.m):Lpd.spr (i+1) s f j=if j=s i then f i else Lpd.spr i s f j:=by
 show Lpd.spr i s f j+(if s i=j then f i else 0)=_;by_cases e:s i=j
 .rw[aK e,aK e.symm];have:Lpd.spr i s f j=0:=kK λk hk=>aF λz=>ok.inj (show k<L.m by lia) hi #[] (z.trans e.symm);rw[this,eX]
 .rw[aF e,aF (Ne.symm e),Int.add_zero]
def Ke{K vs H Q E}(C:zB K)(h:lQ K vs H Q E):pW K (eQ Q) (start yQ vs) H:=by
 obtain⟨t,ins,L,s,F,f,rfl,ca,lim,ok,a4,q⟩:=h;obtain⟨dx,b,sp,k,bs,c,ks,P⟩:=id ca;have bl:=P.bl;have n1:=lim.n1;have m1:=lim.m1;have D0:=ok.pos;rw[show start yQ [ref t,ref F]=[some (.ref t),some (.ref F),none,none,none]from rfl];(dsimp![pW,gW,dL,cU,gD,mX,cE,cS,bA,aE,cT,aH,bG]);refine#[_,_,_,P.ob,C.cl,C.nb,_,mW _ _ _ _,_,rfl,#[_,SqL.of P.B],dR (K:=K) (a:=b) (xs:=map ref bs) (λi J Y=>aT H Y/\∃R,J=map ref R/\dC K Y R (ofF i λ_=>((0,1):Int×Int))) ?_ #[aT.refl _,[],rfl,trivial] ?_ ?_ ?_]
 .rw[aB,sizeLine_eq];lia
 .rintro i J Y _ ⟨N,_⟩;exact N.seq (SqL.of P.B)
 .rintro i x J Y hi _ ⟨N,R,rfl,hps⟩;dsimp only[rT,tC,aH,bG,iW,gB,gC,gA];refine#[sz2,λp hp=>#[N.trans (aT.upd hp),R++[p],by rw[aX];rfl,?_]];rw[fD];exact dC.snoc (hps.same (aT.upd hp)) (SqT.of aL)
 .rintro J Y _ ⟨N,R,rfl,hps⟩ l S;rw[aB,bl]at hps;have G:=N.trans (aT.upd (o:=lst (map ref R)) S);have a5:=hps.same (aT.upd (o:=lst (map ref R)) S);have a6:(upd Y l (.lst (map ref R))) l=some (.lst (map ref R)):=aL;have a7:=N.free S;generalize upd Y l (.lst (map ref R))=d at G a5 a6;have M:(L.insL s).length=L.m:=by unfold Lpd.insL;rw[bF]
  refine#[_,_,_,G _ _ P.ob,C.cl,C.ni,_,oE _ _ _ _,_,rfl,#[_,G.seq (SqL.of a4)],#[_,G.seq (SqL.of P.hi)],jUX (K:=K) (a:=F) (b:=ins) (xs:=map int (ofF (L.m+1) f)) (ys:=map int (L.insL s)) (g:=mT K) (D:={ nx:=cT (aE 2) (eQ Q),rt:=Q }) L.m (jW1 K t F l L s f H) ?_ ?_ ?_ ?_ ?_ ?_ ?_]
  .refine#[none,none,R,rfl,G,a6,?_];have:(ofF L.n λ_=>((0,1):Int×Int))=ofF L.n (yT L s f 0):=jF λj _=>by
    unfold yT;show _=lo2 0 _;rw[jV3 D0]
   rw[←this];exact a5
  .rintro i Z u _ ⟨_,_,_,_,s5,_⟩;exact#[s5.seq (SqL.of a4),s5.seq (SqL.of P.hi)]
  .rw[aB,bF];lia
  .rw[aB,M];exact aU _
  .rw[aB,aB,M];exact .inr (aU _)
  .rintro i x y p Z u hx hy hi ⟨O,U,a0,rfl,s5,a2,a1⟩ hp;obtain⟨v,rfl,hv⟩:=fJ hx;obtain⟨w,rfl,hw⟩:=fJ hy;obtain⟨_,rfl⟩:=gL hv;obtain⟨_,rfl⟩:=gL hw;have X:=aT.upd (o:=tup [.int (f i),.int (s i)]) hp;have a8:a0.length=L.n:=by rw[a1.length,bF]
   (dsimp![mT,rV,fN,cS,bA,aE,tOp,rI0,kO,fX,dB,eA,cD,aH,bG,tCB,iY,jV,eL,jW,cW,dH]);refine#[_,SqT.of aL,rfl,_,_,rfl,_,_,rfl,rfl,?_];have z:=X _ _ a2;have a3:=a1.same X;have I:=s5.trans X;generalize upd u p (.tup [.int (f i),.int (s i)])=H6 at I z a3;refine#[_,.inl (SqL.of z),?_];rw[aB,a8];refine#[_,rfl,mC (λa9=>?_) (λa9=>?_)]
   .have b1:s i<L.n:=#[];refine#[_,_,I _ _ P.ob,rfl,_,_,_,_,rfl,ca.same I,_,_,rfl,Int.ne_of_gt D0,lim.bD s ok.n,λx y r H7 T b0 lo=>?_];(dsimp![Dm,qT,aE]);refine#[_,T _ _ z,_,by rw[aB,a8];exact vP #[] #[],?_];rw[cA];refine#[_,_,a0.set (s i) r,rfl,(I.trans T).put a7,by rw[aL,List.map_set],?_];have e:ofF L.n (yT L s f (i+1))=(ofF L.n (yT L s f i)).set (s i) (x,y):=by
     rw[Yn];refine jF λj A=>?_;unfold yT;rw[Yg ok hi];by_cases e:j=s i
     .rw[aK e,aK e,lo.is D0]
     .rw[aF e,aF e]
    rw[e];exact dC.off (T _ _ z) (dC.set (SqT.of b0) (s i) (a3.same T))
   .refine#[_,_,a0,rfl,I,z,?_];have e:ofF L.n (yT L s f (i+1))=ofF L.n (yT L s f i):=jF λj A=>by
     unfold yT;rw[Yg ok hi,aF #[]]
    rw[e];exact a3
  .rintro Z u ⟨O,U,a0,rfl,s5,a2,a1⟩;(dsimp![aE,cT]);exact q l a0 u s5 a7 a2 a1
def Lm:LS:=["self"]
def xO(K:aQ):Sp:=λvs H Q _=>∃t ins L s,vs=[.ref t]/\iS K H t ins L s/\L.Lim/\L.Ok s/\
 ∀l ps O,aT H O->H l=none->O l=some (.lst (map ref ps))->dC K O ps (ofF L.n (yT L s (λi=>L.T s i L.be) L.m))->Q (.ref l) O
def Al(K:aQ):TS:=(cT (fN (eI K "Corner") "spread" (lQ K) [] E0 (aE 0) (aH (cD (kC K) [] E0 (aH (gW K (aE 0) "kept") (aH (tUn jD (tC (.int 1))) bG))) bG)))
def atI_end{l:List Int}(h:l[l.length-1]?=some x):atI (map int l) (-1)=some (.int x):=zZ (by rw[aB,aZ,h];rfl)
def Wv{K vs H Q E}(C:zB K)(h:xO K vs H Q E):Al K (eQ Q) (start Lm vs) H:=by
 obtain⟨t,ins,L,s,rfl,ca,lim,ok,q⟩:=h;obtain⟨w,b,X,k,bs,c,ks,P⟩:=id ca;have m1:=lim.m1;rw[show start Lm [ref t]=[some (.ref t)]from rfl];(dsimp![Al,gW,fN,aE,tC,tUn,rU,jD,cT,cD,aH,bG,cW]);refine#[_,_,P.ob,rfl,_,_,_,P.ob,C.cl,C.nk,_,jS _ _ _ _,_,_,_,_,L.m+1,rfl,SqL.of P.Kp,P.Ks,by rw[bF];lia,λr hr=>?_,λF U M hn A=>?_]
 .obtain⟨i,hi,rfl⟩:=jZ hr;rw[iP (L.keptL_last s i)];exact atI_end (by rw[Lpd.keptL_length];exact L.keptL_last s i)
 .have e:(ofF (L.m+1) (L.keptL s)).map (λr=>r.getD (L.m+1) 0)=ofF (L.m+1) λi=>L.T s i L.be:=by
   unfold ofF;rw[List.map_map];exact gM λi _=>iP (L.keptL_last s i)
  rw[e]at A;refine#[_,_,_,_,_,_,rfl,ca.same M,lim,ok,A,λl R j d S a hp=>q l R j (M.trans d) (M.free S) a hp]
def Dj:LS:=["self","column","told"]
def rR(K:aQ):Sp:=λvs H Q _=>∃t ins L s,∃c:Nat,vs=[.ref t,.int c]/\iS K H t ins L s/\L.Lim/\L.Ok s/\c<L.n+L.m/\(∀i,i<L.m->s i≠c)/\
 ∀l ps O,aT H O->H l=none->O l=some (.lst (map ref ps))->dC K O ps (ofF L.n (kF L s c))->Q (.ref l) O
def uS(K:aQ):TE:=(tUn jD (aE 0))
def tL(K:aQ):TS:=(cE (cS (fN (eI K "Corner") "spread" (lQ K) [] E0 (aE 0) (aH (dL (cU K (fN (eI K "Corner") "numbers" (iG K) [] E0 (aE 0) (aH (aE 1) bG))) [] (uS K)) bG)) (bA 2)) (cE (fX (dB (tOp kO (aE 1) (tCB (iY K) (aH (aE 2) bG)))) (cS (iW (aH (tC (.int 1)) (aH (tC (.int 1)) bG))) (Dm (aE 2) (aE 1) qT)) eA) (cT (aE 2))))
def lo2_one{D:Int}(h:0<D):lo2 D D=(1,1):=by
 have:Lo D D 1 1:=#[by decide,by decide,by rw[gI],#[],#[]];exact(this.is h).symm
def Qi{K vs H Q E}(C:zB K)(h:rR K vs H Q E):tL K (eQ Q) (start Dj vs) H:=by
 obtain⟨t,ins,L,s,c,rfl,ca,lim,ok,hc,N,q⟩:=h;obtain⟨w,b,X,k,bs,ss,ks,P⟩:=id ca;have m1:=lim.m1;have Z:=ok.pos;rw[show start Dj [ref t,int c]=[some (.ref t),some (.int c),none]from rfl];(dsimp![tL,fN,dL,cU,cE,cS,bA,aE,tC,tOp,rI0,kO,cT,fX,dB,eA,aH,bG,iW,tCB,iY,cW,dH]);refine#[_,_,P.ob,rfl,_,_,P.ob,rfl,_,_,_,_,_,rfl,ca,lim,ok.n,hc,λF U M hn O=>?_];have D:(L.numL s c).length=L.m+1:=by unfold Lpd.numL;rw[bF]
 refine#[_,rfl,#[_,SqL.of O],dR (K:=K) (a:=F) (xs:=map int (L.numL s c)) (WEq U λi J=>J=map int (ofF i λi=>-L.T s i (L.cv c))) ?_ #[rfl,rfl] ?_ ?_ ?_]
 .rw[aB,D,sizeLine_eq];lia
 .rintro i J Y _ ⟨rfl,_⟩;exact SqL.of O
 .rintro i x J Y hi _ ⟨rfl,rfl⟩;obtain⟨v,rfl,hv⟩:=fJ hi;obtain⟨_,rfl⟩:=gL hv;(dsimp![uS,aE,tUn,rU,jD]);refine#[rfl,?_];show _=map int (ofF (i+1) λi=>-L.T s i (L.cv c));rw[fD,aX];rfl
 .rintro J Y _ ⟨rfl,rfl⟩ l1 I;rw[aB,D];have s2:=M.trans (aT.upd (o:=lst (map int (ofF (L.m+1) λi=>-L.T s i (L.cv c)))) I);refine#[_,_,_,_,_,λi=>-L.T s i (L.cv c),rfl,ca.same s2,lim,ok,aL,λl R d G S u hps=>?_];have y:R.length=L.n:=by rw[hps.length,bF]
  have a0:=s2.trans G;have r:=s2.free S;refine#[_,rfl,_,.inl (SqL.of u),?_];rw[aB,y];have same:∀j,j≠c->kF L s c j=yT L s (λi=>-L.T s i (L.cv c)) L.m j:=λj A=>by
   unfold kF yT;rw[aF A,Int.add_zero]
  refine mC (λf=>#[sz2,λp hp=>?_]) (λf=>?_)
  ·(dsimp![Dm,qT,aE,cT])
   have B:=aT.upd (o:=tup [.int 1,.int 1]) hp;refine#[_,B _ _ u,_,by rw[aB,y];exact vP #[] #[],?_];rw[cA];refine q l (R.set c p) _ ((a0.trans B).put r) r (by rw[aL,List.map_set]) ?_;have e:ofF L.n (kF L s c)=(ofF L.n (yT L s (λi=>-L.T s i (L.cv c)) L.m)).set c (1,1):=by
    rw[Yn];refine jF λj A=>?_;by_cases e:j=c
    .rw[aK e];unfold kF;have:Lpd.spr L.m s (λi=>-L.T s i (L.cv c)) j=0:=kK λi hi=>aF λz=>N i hi (z.trans e);rw[this,aK e,eX,lo2_one Z]
    .rw[aF e,same j e]
   rw[e];exact dC.off (B _ _ u) (dC.set (g:=((1,1):Int×Int)) (SqT.of aL) c (hps.same B))
  .refine q l R d a0 r u ?_;have e:ofF L.n (kF L s c)=ofF L.n (yT L s (λi=>-L.T s i (L.cv c)) L.m):=jF λj A=>same j #[];rw[e];exact hps
def Ll:LS:=["self"]
def xN(K:aQ):Sp:=λvs H Q _=>∃t ins L s,vs=[.ref t]/\iS K H t ins L s/\L.Lim/\L.Ok s/\
 ∀l ps O,aT H O->H l=none->O l=some (.lst (map ref ps))->dC K O ps (ofF L.m λk=>lo2 (L.T s L.m (e1 k)) (L.D s))->Q (.ref l) O
def Bb(K:aQ):TE:=(cD (nF K) [] E0 (aH (aE 0) (aH (fN (eI K "Corner") "bottom" (iX K) [] E0 (aE 1) bG) bG)))
def Ak(K:aQ):TS:=(cT (dL (cU K (tSl (vG K) (tOp (fS K) (gW K (aE 0) "kept") (tUn jD (tC (.int 1)))) hJ (mD (tCB (iY K) (aH (gW K (aE 0) "inside") bG))))) [0] (Bb K)))
def Wu{K vs H Q E}(C:zB K)(h:xN K vs H Q E):Ak K (eQ Q) (start Ll vs) H:=by
 obtain⟨t,ins,L,s,rfl,ca,lim,ok,q⟩:=h;obtain⟨w,b,X,k,bs,c,ks,P⟩:=id ca;have m1:=lim.m1;have Z:=ok.pos;have u:(L.insL s).length=L.m:=by unfold Lpd.insL;rw[bF]
 obtain⟨p,_,d,F⟩:=P.last;rw[show start Ll [ref t]=[some (.ref t)]from rfl];(dsimp![Ak,gW,dL,cU,aE,tC,tOp,tUn,rU,jD,cT,aH,bG,tCB,iY,tSl,mD,hJ,vG,fS]);refine#[_,_,_,P.ob,C.cl,C.nk,_,jS _ _ _ _,_,rfl,_,SqL.of P.Kp,_,d,_,_,_,P.ob,C.cl,C.ni,_,oE _ _ _ _,_,rfl,_,.inl (SqL.of P.hi),?_];rw[aB,u];refine#[_,rfl,_,SqL.of F,λf I=>?_];rw[jYo (by rw[Lpd.keptL_length];lia),Pk];have M:=aT.upd (o:=lst (map int (ofF L.m λk=>L.T s L.m (e1 k)))) I;have h1:(upd H f (.lst (map int (ofF L.m λk=>L.T s L.m (e1 k))))) f=some (.lst (map int (ofF L.m λk=>L.T s L.m (e1 k)))):=aL;generalize upd H f (.lst (map int (ofF L.m λk=>L.T s L.m (e1 k))))=U at M h1;refine#[#[_,SqL.of h1],dR (K:=K) (a:=f) (xs:=map int (ofF L.m λk=>L.T s L.m (e1 k))) (λi J Y=>aT U Y/\∃R,J=map ref R/\dC K Y R (ofF i λk=>lo2 (L.T s L.m (e1 k)) (L.D s))) ?_ #[aT.refl _,[],rfl,trivial] ?_ ?_ ?_]
 .rw[aB,bF,sizeLine_eq];lia
 .rintro i J Y _ ⟨N,_⟩;exact N.seq (SqL.of h1)
 .rintro i x J Y hi _ ⟨N,R,rfl,hps⟩;obtain⟨v,rfl,hv⟩:=fJ hi;obtain⟨g,rfl⟩:=gL hv;(dsimp![Bb,fN,cY,bV,cX,bI,aE,cD,aH,bG,cW]);refine#[_,_,(M.trans N) _ _ P.ob,rfl,_,_,_,_,rfl,ca.same (M.trans N),_,_,rfl,Int.ne_of_gt Z,lim.bD s ok.n,λx y r z j e lo=>#[N.trans j,R++[r],by rw[aX];rfl,?_]];rw[fD];refine dC.snoc (hps.same j) ?_;rw[←lo.is Z];exact SqT.of e
 .rintro J Y _ ⟨N,R,rfl,hps⟩ l S;rw[aB,bF]at hps;exact q l R _ ((M.trans N).trans (aT.upd S)) ((M.trans N).free S) aL (hps.same (aT.upd S))
def N_best:LS:=["rows","bounds","goal","bound","made","limits","aims","lists","ended","xs"]
structure BeIn(K:aQ)(H:Hp)(a b c:Addr)(rps bps gps:List Addr)(frs:hU)(fb fg:fV):Prop where
 ha:H a=some (.lst (map ref rps))
 hr:qS K H rps frs
 hb:H b=some (.lst (map ref bps))
 hbs:dC K H bps fb
 hg:H c=some (.lst (map ref gps))
 hgs:dC K H gps fg
 gb:∀f∈fb,G9 f
noncomputable def wordO:Option Nat->Str
 |none=>"best"
 |some _=>"endless"
noncomputable def wayO(fl:Bool)(frs:hU)(A N:fV)(s:Nat->Nat):Option Nat->fV
 |none=>ofF frs.length λk=>fov (ftm (lo2 ((bP fl frs A N).T s frs.length (e1 k)) ((bP fl frs A N).D s)) (whF (frs.getD k []))) (whF N)
 |some c=>ofF N.length (kF (bP fl frs A N) s c)
structure BeOut(K:aQ)(H':Hp)(v:Addr)(fl:Bool)(frs:hU)(fb fg:fV)(s:Nat->Nat)(o:Option Nat)(x w:Addr)(xp wp:List Addr):Prop where
 ok:(bP fl frs fb fg).Ok s
 io:kQ (bP fl frs fb fg) s
 un:UnO (bP fl frs fb fg) s o
 hv:H' v=some (.tup [.str (wordO o),.ref x,.ref w])
 hx:H' x=some (.lst (map ref xp))
 hxs:dC K H' xp (ofF fg.length λj=>fov (yT (bP fl frs fb fg) s (λi=>(bP fl frs fb fg).T s i (bP fl frs fb fg).be) frs.length j) (whF (bnF frs fb)))
 hw:H' w=some (.lst (map ref wp))
 hws:dC K H' wp (wayO fl frs fb fg s o)
def Vn(K:aQ):Sp:=λvs H Q _=>∃a b c g d k frs A N,vs=[.ref a,.ref b,.ref c]/\BeIn K H a b c g d k frs A N/\
 (∀f∈A,0<=f.1)/\BeO frs A N/\1<=frs.length/\1<=N.length/\∀v fl s o x w h F O,aT H O->H x=none->H w=none->BeOut K O v fl frs A N s o x w h F->Q (.ref v) O
def iv_best(a b c:Addr)(N:Hp)(A:fV):NS:=λi Z Y=>∃O,Z=[some (.ref a),some (.ref b),some (.ref c),O,none,none,none,none,none,none]/\aT N Y/\∀f∈A.take i,0<=f.1
def Sr(K:aQ):TE:=(cD (Bk K) [] E0 (aH (cD (Fw K) [] E0 (aH (aE 0) (aH (tOp (eZ K) (aE 1) (tC (.int 0))) bG))) (aH (tOp (eZ K) (aE 2) (tC (.int 0))) bG)))
def Sl(K:aQ):TG:=(jV K 2 (eL (bA 0) (eL (bA 1) jW)))
def qQ(K:aQ):TS:=(cE (fX (dB (tOp Xk (tOp (eZ K) (aE 8) (tC (.int 1))) (tC .non))) (cT (iW (aH (tC (.str "endless")) (aH (aE 9) (aH (fN (eI K "Corner") "ways" (rR K) [] E0 (tOp (eZ K) (aE 8) (tC (.int 0))) (aH (tOp (eZ K) (aE 8) (tC (.int 1))) bG)) bG))))) eA) (cT (iW (aH (tC (.str "best")) (aH (aE 9) (aH (gY (mX K (aH (fN (eI K "Corner") "ys" (xN K) [] E0 (tOp (eZ K) (aE 8) (tC (.int 0))) bG) (aH (aE 4) bG))) 2 [6] (Sl K) (Sr K)) bG))))))
def Sq(K:aQ):TE:=(cD (Bk K) [] E0 (aH (aE 0) (aH (tOp (eZ K) (aE 1) (tC (.int 0))) bG)))
def Jj(K:aQ):TS:=(cE (cS (dL (cU K (fN (eI K "Corner") "xs" (xO K) [] E0 (tOp (eZ K) (aE 8) (tC (.int 0))) bG)) [5] (Sq K)) (bA 9)) (qQ K))
def Sg(K:aQ):TS:=(cE (cS (cD (rM K) [] E0 (aH (tOp sV (aE 7) (mB (aH (tOp sV (cD (mK K) [] E0 (aH (tOp (eZ K) (aE 6) (tC (.int 1))) bG)) (mB (aH (tC (.int 0)) bG))) bG))) bG)) (bA 8)) (Jj K))
def So(K:aQ):TE:=(tOp sV (tOp (eZ K) (aE 0) (tC (.int 1))) (mB (aH (aE 1) bG)))
def Sk(K:aQ):TG:=(jV K 2 (eL (bA 0) (eL (bA 1) jW)))
def Ji(K:aQ):TS:=(cE (cS (gY (mX K (aH (aE 4) (aH (tOp (eZ K) (aE 5) (tC (.int 1))) bG))) 2 [] (Sk K) (So K)) (bA 7)) (Sg K))
def Sn(K:aQ):TE:=(cD (Fw K) [] E0 (aH (aE 0) (aH (tOp (eZ K) (aE 1) (tC (.int 0))) bG)))
def Sj(K:aQ):TG:=(jV K 2 (eL (bA 0) (eL (bA 1) jW)))
def Sf(K:aQ):TS:=(cE (cS (cD (zU K) [] E0 (aH (gY (mX K (aH (aE 1) (aH (aE 4) bG))) 2 [] (Sj K) (Sn K)) bG)) (bA 5)) (cE (cS (cD (zU K) [] E0 (aH (aE 2) bG)) (bA 6)) (Ji K)))
def Sm(K:aQ):TE:=(cD (zU K) [] E0 (aH (aE 0) bG))
def Jh(K:aQ):TS:=(cE (cS (dL (cU K (aE 0)) [] (Sm K)) (bA 4)) (Sf K))
def jY8(K:aQ):TS:=(fX (tB (cD (Fy K) [] E0 (aH (aE 3) (aH (iW (aH (tC (.int 0)) (aH (tC (.int 1)) bG))) bG)))) jN eA)
def jJo(K:aQ):TS:=(cE (gD (cU K (aE 1)) (bA 3) (jY8 K)) (Jh K))
structure Xr(K:aQ)(G:Hp)(md lv lf ll av af ag:Addr)(ms:List Addr)(frs:hU)(fb fg:fV):Prop where
 hmd:G md=some (.lst (map ref ms))
 hm:zG G ms frs
 hlv:G lv=some (.tup [.ref lf,.ref ll])
 hlf:G lf=some (.tup [.int (whF (bnF frs fb)).1,.int (whF (bnF frs fb)).2])
 hll:G ll=some (.lst (map int (whL (bnF frs fb))))
 hav:G av=some (.tup [.ref af,.ref ag])
 haf:G af=some (.tup [.int (whF fg).1,.int (whF fg).2])
 hag:G ag=some (.lst (map int (whL fg)))
def Xr.same{g:Hp}{S j P b c d:Addr}{ms:List Addr}{frs:hU}(h:Xr K G a S j P b c d ms frs A N)(s:aT G g):Xr K g a S j P b c d ms frs A N:=
 #[s _ _ h.hmd,h.hm.same s,s _ _ h.hlv,s _ _ h.hlf,s _ _ h.hll,s _ _ h.hav,s _ _ h.haf,s _ _ h.hag]
def Yp(l:List Int):ofF l.length (λj=>l.getD j 0)=l:=by
 refine List.ext_getElem? λj=>?_;by_cases h:j<l.length
 .rw[eU _ h,Gf h]
 .rw[cC (by rw[bF];lia),cC #[]]
def rowL_of{e:Bool}{frs:hU}(B:BeO frs A N){r:fV}(n:frs[i]?=some r):(bP e frs A N).rowL i=whL r++[(whL (bnF frs A)).getD i 0]:=by
 unfold Lpd.rowL;have S:=(aO.mp n).1;have eq:frs.getD i []=r:=by rw[aJ,n];rfl
 have e1:ofF N.length (λj=>(bP e frs A N).a j i)=whL r:=by
  rw[show(λj=>(bP e frs A N).a j i)=λj=>(whL r).getD j 0 from funext λj=>by
   show(if i<frs.length then(whL (frs.getD i [])).getD j 0 else _)=_;rw[aK S,eq],←B.lr r (aI n),←jO]
  exact Yp _
 show ofF N.length (λj=>(bP e frs A N).a j i)++_=_;rw[e1];rfl
def jWZ{e:Bool}{frs:hU}(B:BeO frs A N):(bP e frs A N).rowL frs.length=((whL N).map λx=>-x)++[0]:=by
 unfold Lpd.rowL;have e1:ofF N.length (λj=>(bP e frs A N).a j frs.length)=(whL N).map λx=>-x:=by
  conv=>rhs;rw[←Yp (whL N),jO]
  unfold ofF;rw[List.map_map];refine gM λj _=>?_;show(if frs.length<frs.length then _ else _)=_;rw[aF (fB _)];rfl
 have C:(whL (bnF frs A)).getD frs.length 0=0:=by
  rw[aJ,cC (by rw[jO,iZ B.lb];exact aU _)];rfl
 show ofF N.length (λj=>(bP e frs A N).a j frs.length)++[(whL (bnF frs A)).getD frs.length 0]=_;rw[e1,C]
def jJ0{frs:hU}(B:BeO frs A N):∀f∈bnF frs A,G9 f:=λf hf=>by
 have a:=iZ B.lb;obtain⟨i,hi⟩:=dA hf;have r:i<frs.length:=by have:=(aO.mp hi).1;lia
 have c:i<A.length:=by rw[B.lb];exact r
 have e1:=aD r;have C:=aD c;rw[vQ C e1]at hi;obtain rfl:=aW hi;have F:=jC λf hf=>(B.gr _ (cJ r) f hf).1;have tb:=B.tb _ (cJ c) _ (cJ r);have z:=bL (B.gb _ (cJ c)).1 F.2;have lo:=eO (t:=(A[i]).1*(whF frs[i]).1) z;exact#[lo.pos,(lo.bb tb.2 tb.1).1,(lo.bb tb.2 tb.1).2]
def jZq{b c md S lf ll av af ag:Addr}{ms:List Addr}{frs:hU}(B:BeO frs A N)(M:Xr K G md S lf ll av af ag ms frs A N)(Y:aT H G){t ins:Addr}{L2:Lpd}{o:Option Nat}(O:jXs K G p t ins (bP false frs A N) L2 s o)
  (q:∀v fl s o x w xp F H',aT H H'->H x=none->H w=none->BeOut K H' v fl frs A N s o x w xp F->Q (.ref v) H') {o3 o7 o9:Option V}:
  Jj K (eQ Q) [some (.ref a),some (.ref b),some (.ref c),o3,some (.ref md),some (.ref S),some (.ref av),o7,some (.ref p),o9] G:=by
 obtain⟨fl,C⟩:∃fl,L2=bP fl frs A N:=by
  rcases O.e with e |e
  .exact#[false,e]
  .exact#[true,e]
 subst C;have ok:=O.ok;have io:=O.io;have un:=O.un;have a7:=O.ca;have h:=O.hp;have gbn:=jJ0 B;have lim:=B.lim fl;have m1:frs.length<=100:=lim.m1;have n1:N.length<=100:=lim.n1;have e5:=M.hm.length;have Z:=ok.pos;obtain⟨f6,b5,f7,k5,f8,f9,g0,P⟩:=id a7;have wb:=jC λf hf=>(gbn f hf).1;have wg:=jC λf hf=>(B.gg f hf).1;(dsimp?[Jj,fN,dL,cU]);refine#[_,SqT.of h,_,kP,_,rfl,_,_,P.ob,rfl,_,_,_,_,rfl,a7,lim,ok,λxl d3 e6 a1 g1 a8 hxs=>?_];have a6:=a1;have d4:d3.length=N.length:=by rw[hxs.length,bF];rfl
 have e7:∀j,BB 20000 (Lpd.spr (bP fl frs A N).m s (λi=>(bP fl frs A N).T s i (bP fl frs A N).be) j):=spr_bb ok λi hi=>lim.bb s i ok.n #[];refine#[_,rfl,#[_,SqL.of a8],dR (K:=K) (a:=xl) (xs:=map ref d3) (λi J a2=>aT e6 a2/\∃R,J=map ref R/\dC K a2 R (ofF i λj=>fov (yT (bP fl frs A N) s (λi=>(bP fl frs A N).T s i (bP fl frs A N).be) frs.length j) (whF (bnF frs A)))) ?_ #[aT.refl _,[],rfl,trivial] ?_ ?_ ?_]
 .rw[aB,d4,sizeLine_eq];lia
 .rintro i J a2 _ ⟨a0,_⟩;exact a0.seq (SqL.of a8)
 .rintro i x J a2 hi _ ⟨a0,R,rfl,hps⟩;obtain⟨p,rfl,hp⟩:=eN hi;obtain⟨f,ef,hF⟩:=hxs.get hp;obtain⟨g3,rfl⟩:=gL ef;have lo:=eO (t:=Lpd.spr (bP fl frs A N).m s (λi=>(bP fl frs A N).T s i (bP fl frs A N).be) i) Z;have a9:=lo.bb (e7 i) ((lim.bD s ok.n).mono (show 9000<=20000 by decide));have b7:(lo2 (Lpd.spr (bP fl frs A N).m s (λi=>(bP fl frs A N).T s i (bP fl frs A N).be) i) ((bP fl frs A N).D s)).2<=(bP fl frs A N).D s:=by have h1:=lo.by_;have h2:=lo.pos;lia
  (dsimp?[Sq,cY,bV,cX,bI]);refine#[_,SqT.of ((a6.trans a0) _ _ M.hlv),_,kP,_,_,_,_,_,_,rfl,#[a0.tup hF,SqT.of ((a6.trans a0) _ _ M.hlf),a9.1,a9.2,B.wb.1,B.wb.2],lo.pos,wb.1,Cf (B.ox fl s ok.n) (bW lo.pos) b7 (bW wb.1),λr e8 I hr=>#[a0.trans I,R++[r],by rw[aX];rfl,?_]];rw[fD];exact dC.snoc (hps.same I) (SqT.of hr)
 .rintro J a2 _ ⟨a0,xp,rfl,c7⟩ xv b8;rw[aB,d4]at c7;have I:=a0.trans (aT.upd (o:=lst (map ref xp)) b8);have a3:=c7.same (aT.upd (o:=lst (map ref xp)) b8);have a4:(upd a2 xv (.lst (map ref xp))) xv=some (.lst (map ref xp)):=aL;generalize upd a2 xv (.lst (map ref xp))=e8 at I a3 a4;have c4:H xv=none:=((Y.trans a6).trans a0).free b8;clear a0 c7 b8;have b0:=a6.trans I;have c5:=a7.same (a1.trans I);have d5:=P.same (a1.trans I);(dsimp?[qQ,Xk,fN]);refine#[_,SqT.of ((a1.trans I) _ _ h),_,jR,?_];cases o with
  |some c=>
   (dsimp?[qQ];try simp_arith[qQ,oV,reduceCtorEq,decide_false,Bool.not_false,if_true])
   refine#[_,SqT.of ((a1.trans I) _ _ h),_,kP,_,rfl,_,_,d5.ob,rfl,_,SqT.of ((a1.trans I) _ _ h),_,jR,_,_,_,_,_,rfl,c5,lim,ok,un.1,λi hi=>Lpd.out un.2.1 hi,λwl F d6 a5 b9 c8 hws=>#[sz3,λv hv=>?_]];have g:=aT.upd (o:=tup [.str "endless",.ref xv,.ref wl]) hv;exact q v fl s (some c) xv wl xp F _ (((Y.trans b0).trans a5).trans g) c4 ((Y.trans b0).free b9) #[ok,io,un,aL,g _ _ (a5 _ _ a4),(a3.same a5).same g,g _ _ c8,hws.same g]
  |none=>
   (dsimp?[qQ,gY,mX];try simp_arith[qQ,oV,decide_true,Bool.not_true,Bool.false_eq_true,if_false,gY,mX])
   refine#[_,SqT.of ((a1.trans I) _ _ h),_,kP,?_];refine#[_,_,d5.ob,rfl,_,_,_,_,rfl,c5,lim,ok,λyl d7 d6 a5 g4 b3 d8=>?_];have c9:d7.length=frs.length:=by rw[d8.length,bF];rfl
   have l:=b0.trans a5;refine#[_,rfl,#[_,SqL.of b3],#[_,SqL.of (l _ _ M.hmd)],lP (K:=K) (a:=yl) (b:=md) (xs:=map ref d7) (ys:=map ref ms) (λi J b6=>aT d6 b6/\∃R,J=map ref R/\dC K b6 R (ofF i λk=>fov (ftm (lo2 ((bP fl frs A N).T s frs.length (e1 k)) ((bP fl frs A N).D s)) (whF (frs.getD k []))) (whF N))) ?_ ?_ #[aT.refl _,[],rfl,trivial] ?_ ?_ ?_]
   .rw[aB,c9,sizeLine_eq];lia
   .rw[aB,aB,c9,e5]
   .rintro i J b6 _ ⟨g,_⟩;exact#[g.seq (SqL.of b3),g.seq (SqL.of (l _ _ M.hmd))]
   .rintro i x y p J b6 hx hy _ ⟨g,R,rfl,hps⟩ hp os ho;obtain⟨py,rfl,e9⟩:=eN hx;obtain⟨pm,rfl,f1⟩:=eN hy;obtain⟨f,ef,hF⟩:=d8.get e9;obtain⟨f2,rfl⟩:=gL ef;obtain⟨r,rf,g5,er,hv,f3,g6⟩:=M.hm.get f1;have c2:=aI er;have f4:frs.getD i []=r:=by rw[aJ,er];rfl
    obtain⟨U,o3,rfl⟩:∃o1 U,os=[o1,U]:=by
     match os,ho with
     | [o1,U],_=>exact#[o1,U,rfl]
    have X:=g.trans (aT.upd (o:=tup [.ref py,.ref pm]) hp);have w:=jC λf hf=>(B.gr r c2 f hf).1;have c6:i<frs.length:=f2;obtain⟨d9,d1⟩:=B.oy fl s ok.n r c2;have d1:=d1 i c6;have lo:=eO (t:=(bP fl frs A N).T s frs.length (e1 i)) Z;have a9:=lo.bb (lim.bk s frs.length i ok.n (aU _) (Nat.le_of_lt c6)) ((lim.bD s ok.n).mono (show 9000<=20000 by decide));have b7:(lo2 ((bP fl frs A N).T s frs.length (e1 i)) ((bP fl frs A N).D s)).2<=(bP fl frs A N).D s:=by have h1:=lo.by_;have h2:=lo.pos;lia
    (dsimp?[Sl,Sr,cY,bV,cX,bI]);refine#[_,SqT.of aL,rfl,_,_,rfl,_,_,rfl,rfl,#[[some (.ref py),some (.ref pm)],rfl,rfl],_,rfl,_,SqT.of ((l.trans X) _ _ hv),_,kP,?_];have b1:BB 9000 ((bP fl frs A N).D s*(whF r).2):=d9.of_le (by
     rw[cQ ((bP fl frs A N).D s*(whF r).2)];exact Nat.le_mul_of_pos_right _ #[])
    have d:=Cf b1 (bW lo.pos) b7 (bW w.2);have z2:=bL lo.pos w.2;have d2:=eO (t:=(lo2 ((bP fl frs A N).T s frs.length (e1 i)) ((bP fl frs A N).D s)).1*(whF r).1) z2;have f5:=lo2_le (t:=(lo2 ((bP fl frs A N).T s frs.length (e1 i)) ((bP fl frs A N).D s)).1*(whF r).1) z2;have b4:BB 20000 ((lo2 ((bP fl frs A N).T s frs.length (e1 i)) ((bP fl frs A N).D s)).1*(whF r).1):=d1.of_le (by
     rw[cQ,cQ];exact eP lo.bx (aU _))
    have e0:=d2.bb b4 (d.mono (show 9000<=20000 by decide));refine#[_,_,_,_,_,_,rfl,#[X.tup hF,SqT.of ((l.trans X) _ _ f3),a9.1,a9.2,(B.wr r c2).1,(B.wr r c2).2],lo.pos,w.2,d,λu g7 c3 hu=>?_];have b5:BB 9000 ((lo2 ((bP fl frs A N).T s frs.length (e1 i)) ((bP fl frs A N).D s)).2*(whF r).2*(whF N).1):=Cf d9 (bW z2) (Int.mul_le_mul_of_nonneg_right b7 (bW w.2)) (bW wg.1);refine#[_,SqT.of ((l.trans (X.trans c3)) _ _ M.hav),_,kP,_,_,_,_,_,_,rfl,#[SqT.of hu,SqT.of ((l.trans (X.trans c3)) _ _ M.haf),e0.1,e0.2,B.wg.1,B.wg.2],d2.pos,wg.1,Cf b5 (bW d2.pos) f5 (bW wg.1),λz g8 e3 hz=>#[X.trans (c3.trans e3),R++[z],by rw[aX];rfl,?_]];rw[fD];refine dC.snoc (((hps.same (aT.upd hp)).same c3).same e3) ?_;rw[f4];exact SqT.of hz
   .rintro J b6 _ ⟨g,F,rfl,e4⟩ wl b9;rw[aB,c9]at e4;refine#[sz3,λv hv=>?_];have X:=(aT.upd (o:=lst (map ref F)) b9).trans (aT.upd (o:=tup [.str "best",.ref xv,.ref wl]) hv);exact q v fl s none xv wl xp F _ (((Y.trans l).trans g).trans X) c4 (((Y.trans l).trans g).free b9) #[ok,io,un,aL,X _ _ ((a5.trans g) _ _ a4),(a3.same (a5.trans g)).same X,aT.upd hv _ _ aL,e4.same X]
def jZp{b c md S lf ll av af ag:Addr}{ms:List Addr}{frs:hU}(B:BeO frs A N)(al:∀f∈A,0<=f.1)(l:1<=frs.length)(u:1<=N.length)(M:Xr K G md S lf ll av af ag ms frs A N)(Y:aT H G)
  (q:∀v fl s o x w h wp H',aT H H'->H x=none->H w=none->BeOut K H' v fl frs A N s o x w h wp->Q (.ref v) H') {o3 o7 o8 o9:Option V}:
  Ji K (eQ Q) [some (.ref a),some (.ref b),some (.ref c),o3,some (.ref md),some (.ref S),some (.ref av),o7,o8,o9] G:=by
 have lim:=B.lim false;have m1:frs.length<=100:=lim.m1;have n1:N.length<=100:=lim.n1;have a5:=M.hm.length;have b2:=iZ B.lb;have wl:(whL (bnF frs A)).length=frs.length:=by rw[jO,b2]
 (dsimp?[Ji,gY,mX]);refine#[_,SqT.of M.hlv,_,jR,_,rfl,#[_,SqL.of M.hmd],#[_,SqL.of M.hll],lP (K:=K) (a:=md) (b:=ll) (xs:=map ref ms) (ys:=map int (whL (bnF frs A))) (λi J m=>aT G m/\∃ls,J=map ref ls/\eF m ls (ofF i (bP false frs A N).rowL)) ?_ ?_ #[aT.refl _,[],rfl,trivial] ?_ ?_ ?_]
 .rw[aB,sizeLine_eq,a5];lia
 .rw[aB,aB,a5,wl]
 .rintro i J m _ ⟨X,_⟩;exact#[X.seq (SqL.of M.hmd),X.seq (SqL.of M.hll)]
 .rintro i x y p J m hx hy _ ⟨X,ls,rfl,a2⟩ hp os D;obtain⟨z,rfl,b3⟩:=eN hx;obtain⟨v,rfl,hv⟩:=fJ hy;obtain⟨r,rf,rl,n,b4,c2,b5⟩:=M.hm.get b3;obtain⟨U,o3,rfl⟩:∃o1 U,os=[o1,U]:=by
   match os,D with
   | [o1,U],_=>exact#[o1,U,rfl]
  have b6:=aI n;have T:=X.trans (aT.upd (o:=tup [.ref z,.int v]) hp);(dsimp?[Sk,So,sV,cY,bV,cX,bI]);refine#[_,SqT.of aL,rfl,_,_,rfl,_,_,rfl,rfl,#[[some (.ref z),some (.int v)],rfl,rfl],_,rfl,_,SqT.of (T _ _ b4),_,jR,?_];refine#[sz1,λZ a0=>#[_,rfl,_,aT.upd a0 _ _ (T _ _ b5),_,aL,by rw[aB,jO,B.lr r b6,sizeLine_eq];show N.length+1<=_;lia,λl3 g=>?_]];refine#[(T.trans (aT.upd a0)).trans (aT.upd g),ls++[l3],by rw[aX];rfl,?_];rw[fD];refine eF.snoc (((a2.same (aT.upd hp)).same (aT.upd a0)).same (aT.upd g)) ?_;rw[aL,rowL_of B n,iP hv,aX];rfl
 .rintro J m _ ⟨X,ls,rfl,a2⟩ l7 a9;rw[aB,a5]at a2;have T:=X.trans (aT.upd (o:=lst (map ref ls)) a9);have a1:=a2.same (aT.upd (o:=lst (map ref ls)) a9);have a3:(upd m l7 (.lst (map ref ls))) l7=some (.lst (map ref ls)):=aL;generalize upd m l7 (.lst (map ref ls))=C at T a1 a3;have b7:ls.length=frs.length:=by rw[a1.length,bF]
  (dsimp?[Sg,sV]);refine#[_,SqT.of (T _ _ M.hav),_,jR,_,_,rfl,SqL.of (T _ _ M.hag),by rw[jO];lia,λlt H8 s8 _ b8=>#[sz1,λl0 a6=>#[_,rfl,_,aT.upd a6 _ _ b8,_,aL,by rw[aB,aB,jO,sizeLine_eq];show N.length+1<=_;lia,λlg b0=>#[sz1,λl1 a7=>?_]]]];have e:=((T.trans s8).trans (aT.upd (o:=lst [.int 0]) a6)).trans (aT.upd (o:=lst (map int ((whL N).map λx=>-x)++[.int 0])) b0);have a8:=(s8.trans (aT.upd (o:=lst [.int 0]) a6)).trans (aT.upd (o:=lst (map int ((whL N).map λx=>-x)++[.int 0])) b0);have a4:(upd (upd H8 l0 (.lst [.int 0])) lg (.lst (map int ((whL N).map λx=>-x)++[.int 0]))) lg=some (.lst (map int ((bP false frs A N).rowL frs.length))):=by rw[aL,jWZ B,aX];rfl
  generalize upd (upd H8 l0 (.lst [.int 0])) lg (.lst (map int ((whL N).map λx=>-x)++[.int 0]))=H9 at e a8 a4 a7;refine#[_,aT.upd a7 _ _ (a8 _ _ a3),_,aL,by rw[aB,b7,sizeLine_eq];show frs.length+1<=_;lia,λZ a0=>?_];have P:=(aT.upd (o:=lst [.ref lg]) a7).trans (aT.upd (o:=lst (map ref ls++[.ref lg])) a0);have R:yZ (upd (upd H9 l1 (.lst [.ref lg])) Z (.lst (map ref ls++[.ref lg]))) Z (ls++[lg]) (bP false frs A N):=by
   refine#[by rw[aL,aX];rfl,?_];show eF _ _ (ofF (frs.length+1) _);rw[fD];exact eF.snoc ((a1.same a8).same P) (P _ _ a4)
  generalize upd (upd H9 l1 (.lst [.ref lg])) Z (.lst (map ref ls++[.ref lg]))=b9 at P R;obtain⟨q0,q1,F,q9,st,f1,f2⟩:=B.fit;have I:Up b9 Z (ls++[lg]) (bP false frs A N) q0 q1:=#[R,rfl,l,u,lim,F,q9,st,λj k _ _=>f1 j k,λk _=>f2 k,λi _=>jZJ (λf hf=>(jJ0 B f hf).1) (jXn B al) i];exact#[Z,_,_,_,_,rfl,I,λp t ins L2 s o d b1 O=>jZq B (M.same ((e.trans P).trans b1)) (Y.trans ((e.trans P).trans b1)) O q]
def rd_best{K}:RdS K Vn jJo N_best:=by
 rintro j H Q E ⟨a,b,c,b1,a9,k,frs,A,fg,rfl,I,qn,B,b2,b3,q⟩;have a3:=I.hbs.length;rw[show start N_best [ref a,ref b,ref c]=[some (.ref a),some (.ref b),some (.ref c),none,none,none,none,none,none,none]from rfl];(dsimp![jJo,gD,cU,cE,bA,aE]);refine#[#[_,SqL.of I.hb],iA (K:=K) (a:=b) (xs:=map ref a9) (g:=bA 3) (D:={ nx:=Jh K (eQ Q),rt:=Q }) (iv_best a b c H A) ?_ ?_ ?_ ?_]
 .exact#[none,rfl,aT.refl _,(λ_ h=>nomatch h)]
 .rintro i Z Y _ ⟨_,_,N,_⟩;exact N.seq (SqL.of I.hb)
 .rintro i x Z Y hi ⟨O,rfl,N,M⟩;obtain⟨p,rfl,hp⟩:=eN hi;obtain⟨f,ef,hF⟩:=I.hbs.get hp;have hm:=aI ef;have w:=I.gb f hm;have one:BB 20000 (1:Int):=by show(1:Int).natAbs<2^20000;exact Nat.one_lt_two_pow (by decide)
  have b4:BB 20000 (0:Int):=by show(0:Int).natAbs<2^20000;exact eJ _
  (dsimp![jN,bA,aE,tC,fX,tB,eA,cD,aH,bG,iW,jN,cW]);refine#[sz2,λz hz=>?_];have G:=N.trans (aT.upd (o:=tup [.int 0,.int 1]) hz);refine#[_,_,_,_,_,_,rfl,#[G.tup hF,SqT.of aL,w.2.1,w.2.2.mono (by decide),b4,one],_,rfl,mC (λhn=>?_) (λhn=>?_)]
  .have:=qn f hm;simp only[dH,fK,gH]at hn;lia
  .refine#[_,rfl,G,λg hg=>?_];rw[dJ ef]at hg;rcases dD.mp hg with hg |hg
   .exact M g hg
   .rw[cP.mp hg];simp only[dH,fK,gH]at hn;lia
 .rintro Z Y ⟨O,rfl,N,M⟩;rw[aB,a3,bY]at M;have b5:=I.hr.length;have m1:frs.length<=100:=(B.lim false).m1;have n1:fg.length<=100:=(B.lim false).n1;(dsimp?[Jh,dL,cU]);refine#[#[_,N.seq (SqL.of I.ha)],dR (K:=K) (a:=a) (xs:=map ref b1) (λi J d=>aT H d/\∃P,J=map ref P/\zG d P (frs.take i)) ?_ #[N,[],rfl,trivial] ?_ ?_ ?_]
  .rw[aB,sizeLine_eq];lia
  .rintro i J d _ ⟨G,_⟩;exact G.seq (SqL.of I.ha)
  .rintro i x J d hi _ ⟨G,P,rfl,a1⟩;obtain⟨p,rfl,hp⟩:=eN hi;obtain⟨r,qs,n,F,b6⟩:=I.hr.get hp;have R:=aI n;(dsimp![Sm,aE,cD,aH,bG,cW]);refine#[_,_,_,rfl,G.seq (SqL.of F),b6.same G,B.gr r R,by rw[B.lr r R];lia,B.cr r R,λv f l u s5 hv hf S=>#[G.trans s5,P++[v],by rw[aX];rfl,?_]];rw[dJ n];exact zG.append (show zG u [v] [r]from#[#[f,l,hv,hf,S],trivial]) (a1.same s5)
  .rintro J d _ ⟨G,P,rfl,a1⟩ md hmd;rw[aB,b5,bY]at a1;have s5:=G.trans (aT.upd (o:=lst (map ref P)) hmd);have a4:=a1.same (aT.upd (o:=lst (map ref P)) hmd);have a0:(upd d md (.lst (map ref P))) md=some (.lst (map ref P)):=aL;generalize upd d md (.lst (map ref P))=u at s5 a4 a0;clear G a1 hmd N;have b7:=a4.length;(dsimp?[Sf,gY,mX]);refine#[#[_,s5.seq (SqL.of I.hb)],#[_,SqL.of a0],lP (K:=K) (a:=b) (b:=md) (xs:=map ref a9) (ys:=map ref P) (λi J m=>aT u m/\∃ts,J=map ref ts/\dC K m ts ((bnF frs A).take i)) ?_ ?_ #[aT.refl _,[],rfl,trivial] ?_ ?_ ?_]
   .rw[aB,sizeLine_eq,a3,B.lb];lia
   .rw[aB,aB,a3,B.lb,b7]
   .rintro i J m _ ⟨X,_⟩;exact#[(s5.trans X).seq (SqL.of I.hb),X.seq (SqL.of a0)]
   .rintro i x y p J m hx hy _ ⟨X,ts,rfl,a2⟩ hp os ho;obtain⟨pb,rfl,b8⟩:=eN hx;obtain⟨pm,rfl,b9⟩:=eN hy;obtain⟨f,ef,hF⟩:=I.hbs.get b8;obtain⟨r,rf,rl,n,hv,c2,c5⟩:=a4.get b9;obtain⟨U,o3,rfl⟩:∃O U,os=[O,U]:=by
     match os,ho with
     | [O,U],_=>exact#[O,U,rfl]
    have R:=aI n;have b0:=aI ef;have w:=B.gb f b0;have T:=X.trans (aT.upd (o:=tup [.ref pb,.ref pm]) hp);have wp:=jC λf hf=>(B.gr r R f hf).1;(dsimp?[Sj,Sn]);refine#[_,SqT.of aL,rfl,_,_,rfl,_,_,rfl,rfl,#[[some (.ref pb),some (.ref pm)],rfl,rfl],_,rfl,_,SqT.of (T _ _ hv),_,kP,?_];refine#[_,_,_,_,_,_,rfl,#[(s5.trans T).tup hF,SqT.of (T _ _ c2),w.2.1,w.2.2.mono (by decide),(B.wr r R).1,(B.wr r R).2],w.1,wp.2,(B.tb f b0 r R).1,λt H8 s ht=>#[T.trans s,ts++[t],by rw[aX];rfl,?_]];rw[dJ (vQ ef n)];exact dC.snoc ((a2.same (aT.upd hp)).same s) (SqT.of ht)
   .rintro J m _ ⟨X,ts,rfl,a2⟩ tl a7;have c3:=iZ B.lb;rw[aB,a3,B.lb,←c3,bY]at a2;have T:=X.trans (aT.upd (o:=lst (map ref ts)) a7);have a5:=a2.same (aT.upd (o:=lst (map ref ts)) a7);have a6:(upd m tl (.lst (map ref ts))) tl=some (.lst (map ref ts)):=aL;generalize upd m tl (.lst (map ref ts))=C at T a5 a6;clear X a2 a7;have gbn:=jJ0 B;refine#[_,_,_,rfl,SqL.of a6,a5,gbn,#[],B.cb,λlv lf ll H8 s hlv hlf hll=>?_];have a8:=s5.trans (T.trans s);refine#[_,_,_,rfl,a8.seq (SqL.of I.hg),I.hgs.same a8,B.gg,#[],B.cg,λav af c6 H9 e hav haf c4=>?_];exact jZp B M b2 b3 #[e _ _ (s _ _ (T _ _ a0)),a4.same (T.trans (s.trans e)),e _ _ hlv,e _ _ hlf,e _ _ hll,hav,haf,c4] (a8.trans e) q
def Zb:LS:=["fractions","total","fraction"]
def Jk(K:aQ):Sp:=λvs H Q _=>∃l ps n X M,vs=[.ref l]/\SqL K H l (map ref ps)/\dC K H ps (ofF n X)/\0<M/\BB 4000 M/\(∀k,k<n->0<(X k).2/\0<=(X k).1/\(X k).2∣M)/\(rsm n λk=>va (X k))<=1/\
 ∀x y p O,aT H O->O p=some (.tup [.int x,.int y])->0<y->0<=x->y∣M->va (x,y)=(rsm n λk=>va (X k))->Q (.ref p) O
def jW0(l:Addr)(N:Hp)(M:Int)(X:Nat->Int×Int):NS:=λi Z Y=>∃t x y o,Z=[some (.ref l),some (.ref t),o]/\aT N Y/\Y t=some (.tup [.int x,.int y])/\0<y/\0<=x/\y∣M/\va (x,y)=(rsm i λk=>va (X k))
def Kk(K:aQ):TS:=(cS (cD (Mc K) [] E0 (aH (aE 1) (aH (aE 2) bG))) (bA 1))
def Nn(K:aQ):TS:=(cE (cS (iW (aH (tC (.int 0)) (aH (tC (.int 1)) bG))) (bA 1)) (cE (gD (cU K (aE 0)) (bA 2) (Kk K)) (cT (aE 1))))
def mS{n:Nat}(h:BB n y)(h0:0<=x)(h1:x<=y):BB n x:=h.of_le #[]
def jWY{K}:RdS K Jk Nn Zb:=by
 rintro j H Q E ⟨l,R,n,X,M,rfl,S,hf,A,B,C,J,q⟩;have hpl:R.length=n:=by rw[hf.length,bF]
 have T:∀k,k<n->0<=va (X k):=λk hk=>qP (C k hk).1 (C k hk).2.1;rw[show start Zb [ref l]=[some (.ref l),none,none]from rfl];(dsimp?[Nn,gD,cU]);refine#[sz2,λt ht=>#[#[_,(aT.upd ht).seq S],iA (K:=K) (a:=l) (xs:=map ref R) (g:=bA 2) (D:={ nx:=cT (aE 1) (eQ Q),rt:=Q }) (jW0 l H M X) ?_ ?_ ?_ ?_]]
 .exact#[t,0,1,none,rfl,aT.upd ht,aL,by decide,by decide,Int.one_dvd _,qH]
 .rintro i Z Y _ ⟨_,_,_,_,_,N,_⟩;exact N.seq S
 .rintro i x Z Y hi ⟨t,x,y,o,rfl,N,u,y0,x0,c,e⟩;obtain⟨p,rfl,hp⟩:=eN hi;obtain⟨f,s,P⟩:=(hf.same N).get hp;obtain⟨v,rfl⟩:=gL s;obtain⟨F,m,I⟩:=C i v;have m1:=Ga (f:=λk=>va (X k)) (i:=i) (n:=n) #[] T;have m2:=Ga (f:=λk=>va (X k)) (i:=i+1) (n:=n) #[] T;have m3:rsm (i+1) (λk=>va (X k))=rsm i (λk=>va (X k))+va (X i):=rfl;have m4:=rD (f:=λk=>va (X k)) (n:=i) λk hk=>T k #[];have O:x<=y:=Ik (f:=(x,y)) y0 (by rw[e];grind);have U:(X i).1<=(X i).2:=Ik F (by grind);have b:=Dx B A c;have w:=Dx B A I;have z:=bL y0 F;(dsimp?[Kk]);refine#[_,_,_,_,_,_,rfl,#[SqT.of u,P,(mS b x0 O).mono (by decide),b.mono (by decide),(mS w m U).mono (by decide),w.mono (by decide)],y0,F,(b.mul w).mono (by decide),λr d G hr=>?_];refine#[r,_,_,_,rfl,N.trans G,hr,(eO z).pos,vZ z (Int.add_nonneg (dZ x0 (bW F)) (dZ m (bW y0))),sum_dvd (f:=(x,y)) y0 F c I,?_];show va (lo2 (x*(X i).2+(X i).1*y) (y*(X i).2))=_;rw[m3,←e];exact va_add (f:=(x,y)) y0 F
 .rintro Z Y ⟨t,x,y,o,rfl,N,u,y0,x0,c,e⟩;(dsimp![aE,tC,tOp,rI0,rNe,iN,cT,dB]);rw[aB,hpl]at e;exact q x y t Y N u y0 x0 c e
def jY0:LS:=["one","other"]
def Fx(K:aQ):Sp:=λvs H Q _=>∃p q a b c d,vs=[.ref p,.ref q]/\Tw K H p q a b c d/\0<b/\0<d/\BB 9000 (b*d)/\∀r O,aT H O->O r=some (.tup [.int (lo2 (a*d-c*b) (b*d)).1,.int (lo2 (a*d-c*b) (b*d)).2])->Q (.ref r) O
def Vh(K:aQ):TS:=(cT (cD (nF K) [] E0 (aH (tOp lS (tOp fO (tOp (eZ K) (aE 0) (tC (.int 0))) (tOp (eZ K) (aE 1) (tC (.int 1)))) (tOp fO (tOp (eZ K) (aE 1) (tC (.int 0))) (tOp (eZ K) (aE 0) (tC (.int 1))))) (aH (tOp fO (tOp (eZ K) (aE 0) (tC (.int 1))) (tOp (eZ K) (aE 1) (tC (.int 1)))) bG))))
def jVl{K}:RdS K Fx Vh jY0:=by
 rintro j H Q E ⟨p,q,a,b,c,d,rfl,⟨hp,T,ba,bb,bc,f⟩,g,d0,e,k⟩;rw[show start jY0 [ref p,ref q]=[some (.ref p),some (.ref q)]from rfl];(dsimp?[Vh]);refine#[_,hp,_,kP,_,T,_,jR,_,rfl,_,rfl,.b ba f,_,T,_,kP,_,hp,_,jR,_,rfl,_,rfl,.b bc bb,_,hp,_,jR,_,T,_,jR,_,rfl,_,rfl,.b bb f,?_];have z:0<b*d:=bL g d0;refine#[_,_,rfl,#[],e,λx y r O s h l=>k r O s ?_];obtain⟨e1,C⟩:=l.uniq z (eO z);rw[←e1,←C];exact h
def Ui:LS:=["weights","total"]
def vW(K:aQ):Sp:=λvs H Q _=>∃a t ps n X x y,vs=[.ref a,.ref t]/\SqL K H a (map ref ps)/\dC K H ps (ofF n X)/\SqT K H t [.int x,.int y]/\0<x/\0<y/\BB 4000 x/\BB 4000 y/\(∀k,k<n->0<(X k).2/\0<=(X k).1/\(X k).1<=(X k).2/\BB 4000 (X k).2)/\n<=100/\∀l I O,aT H O->O l=some (.lst (map ref I))->dC K O I (ofF n λk=>fov (X k) (x,y))->Q (.ref l) O
def Hu(K:aQ):TE:=(cD (Bk K) [] E0 (aH (aE 0) (aH (aE 1) bG)))
def Jf(K:aQ):TS:=(cT (dL (cU K (aE 0)) [1] (Hu K)))
def jZn{K}:RdS K vW Jf Ui:=by
 rintro j H Q E ⟨a,t,R,n,X,x,y,rfl,c,hf,e,x0,y0,bx,b,C,hn,q⟩;have hpl:R.length=n:=by rw[hf.length,bF]
 rw[show start Ui [ref a,ref t]=[some (.ref a),some (.ref t)]from rfl];(dsimp?[Jf,dL,cU]);refine#[#[_,c],dR (K:=K) (a:=a) (xs:=map ref R) (λi J Y=>aT H Y/\∃I,J=map ref I/\dC K Y I (ofF i λk=>fov (X k) (x,y))) (by rw[aB,sizeLine_eq];lia) #[aT.refl _,[],rfl,trivial] ?_ ?_ ?_]
 .rintro i J Y _ ⟨N,_⟩;exact N.seq c
 .rintro i u J Y hi _ ⟨N,I,rfl,T⟩;obtain⟨p,rfl,hp⟩:=eN hi;obtain⟨f,s,P⟩:=(hf.same N).get hp;obtain⟨v,rfl⟩:=gL s;obtain⟨F,m,U,D⟩:=C i v;(dsimp?[Hu,cY,bV,cX,bI]);refine#[_,_,_,_,_,_,rfl,#[P,N.tup e,(mS D m U).mono (by decide),D.mono (by decide),bx.mono (by decide),b.mono (by decide)],F,x0,(D.mul bx).mono (by decide),λr d G hr=>#[N.trans G,I++[r],by rw[aX];rfl,?_]];rw[fD];exact dC.snoc (T.same G) (SqT.of hr)
 .rintro J Y _ ⟨N,I,rfl,T⟩ l S;rw[aB,hpl]at T;exact q l I _ (N.trans (aT.upd S)) aL (T.same (aT.upd S))
def jYv:LS:=["rows","lift","raised","found","total"]
structure WoOut(K:aQ)(H':Hp)(v:Addr)(frs:hU)(n:Nat)(x y:Int)(P R:Nat->Int×Int)(w pl ql:Addr)(pp qp:List Addr):Prop where
 hv:H' v=some (.tup [.ref w,.ref pl,.ref ql])
 hw:H' w=some (.tup [.int x,.int y])
 hpl:H' pl=some (.lst (map ref pp))
 hps:dC K H' pp (ofF frs.length P)
 hql:H' ql=some (.lst (map ref qp))
 hqs:dC K H' qp (ofF n R)
 y0:0<y
 cop:Int.gcd x y=1
 by9:BB 9000 y
 bx:BB 20000 x
 pok:∀i,i<frs.length->Fok (P i)/\BB 9000 (P i).2
 qok:∀j,j<n->Fok (R j)/\BB 9000 (R j).2
 G:Gm frs.length n (λi j=>va (rwF frs i j)) (va (x,y)) (λi=>va (P i)) (λj=>va (R j))
def Nz(K:aQ):Sp:=λvs H Q _=>∃a g frs n,vs=[.ref a]/\H a=some (.lst (map ref g))/\qS K H g frs/\WoR frs n/\(∀z,Mnf frs z->WoO (sW z frs) frs.length n)/\
 ∀v x y P R w pl e s m O,aT H O->WoOut K O v frs n x y P R w pl e s m->Q (.ref v) O
def Ea(K:aQ):TS:=(cT (iW (aH (cD (Fx K) [] E0 (aH (cD (Bk K) [] E0 (aH (iW (aH (tC (.int 1)) (aH (tC (.int 1)) bG))) (aH (aE 4) bG))) (aH (aE 1) bG))) (aH (cD (vW K) [] E0 (aH (tOp (eZ K) (aE 3) (tC (.int 2))) (aH (aE 4) bG))) (aH (cD (vW K) [] E0 (aH (tOp (eZ K) (aE 3) (tC (.int 1))) (aH (aE 4) bG))) bG)))))
def Oy(K:aQ):TS:=(cE (cS (cD (Jk K) [] E0 (aH (tOp (eZ K) (aE 3) (tC (.int 1))) bG)) (bA 4)) (Ea K))
def Pb(K:aQ):TE:=(iW (aH (tC (.int 1)) (aH (tC (.int 1)) bG)))
def Pa(K:aQ):TE:=(iW (aH (tC (.int 1)) (aH (tC (.int 1)) bG)))
def Ox(K:aQ):TS:=(cE (cS (cD (Vn K) [] E0 (aH (aE 2) (aH (dL (cU K (aE 0)) [] (Pa K)) (aH (dL (cU K (tOp (fS K) (aE 0) (tC (.int 0)))) [] (Pb K)) bG)))) (bA 3)) (Oy K))
def Oz(K:aQ):TE:=(cD (Jm K) [] E0 (aH (aE 0) (aH (aE 1) bG)))
def Ow(K:aQ):TS:=(cE (cS (dL (cU K (aE 0)) [1] (Oz K)) (bA 2)) (Ox K))
def Vd(K:aQ):TS:=(cE (cS (cD (Eh K) [] E0 (aH (aE 0) bG)) (bA 1)) (Ow K))
def jYf(hf:0<f.2)(h0:0<=f.1)(hg:0<g.2)(D:0<g.1)(a:BB 4000 f.2)(d:BB 4000 g.1):Fok (fov f g)/\BB 9000 (fov f g).2:=by
 have z:=bL hf D;have l:=eO (t:=f.1*g.2) z;exact#[#[l.pos,l.cop,vZ z (dZ h0 (bW hg))],((a.mul d).of_le (by have:=l.by_;exact this)).mono (by decide)]
def Zp{lp rz v t w x:Addr}{wd:Str}{xp F:List Addr}{frs:hU}{n:Nat}{h l:Int}{X Y:Nat->Int×Int}(s0:aT H G)(m2:frs.length<=100)(n2:n<=100)(S:G lp=some (.tup [.int (1-z),.int 1]))(bz:BB 9000 (1-z))(hv:G v=some (.tup [.str wd,.ref x,.ref w]))(hx:G x=some (.lst (map ref xp)))(hxs:dC K G xp (ofF n X))(hw:G w=some (.lst (map ref F)))(hws:dC K G F (ofF frs.length Y))
  (ht:G t=some (.tup [.int h,.int l])) (I:0<l) (p:0<h) (bt:BB 4000 l) (a3:h<=l) (hX:∀k,k<n->0<(X k).2/\0<=(X k).1/\(X k).1<=(X k).2/\BB 4000 (X k).2) (b:∀k,k<frs.length->0<(Y k).2/\0<=(Y k).1/\(Y k).1<=(Y k).2/\BB 4000 (Y k).2)
  (g:Gm frs.length n (λi j=>va (rwF frs i j)) (1/va (h,l)-((1-z:Int):Rat)) (λi=>va (Y i)/va (h,l)) (λj=>va (X j)/va (h,l)))
  (q:∀v x y P R w pl ql s m O,aT H O->WoOut K O v frs n x y P R w pl ql s m->Q (.ref v) O):
  Ea K (eQ Q) [some (.ref a),some (.ref lp),some (.ref rz),some (.ref v),some (.ref t)] G:=by
 have a0:BB 4000 h:=mS bt (bW p) a3;have one:BB 20000 (1:Int):=by show(1:Int).natAbs<2^20000;exact Nat.one_lt_two_pow (by decide)
 have z1:(0:Int)<1*h:=#[];have l1:=eO (t:=1*l) z1;have a1:=l1.bb (n:=4000) (by rw[fF];exact bt) (by rw[fF];exact a0);have z2:=bL l1.pos (show(0:Int)<1 by decide);have Z:=eO (t:=(lo2 (1*l) (1*h)).1*1-(1-z)*(lo2 (1*l) (1*h)).2) z2;(dsimp?[Ea]);refine#[sz2,λu hu=>?_];have M:=aT.upd (o:=tup [.int 1,.int 1]) hu;refine#[_,_,_,_,_,_,rfl,#[SqT.of aL,SqT.of (M _ _ ht),one,one,a0.mono (by decide),bt.mono (by decide)],by decide,p,by rw[fF];exact a0.mono (by decide),λr U s2 hr=>?_];have a2:=M.trans s2;refine#[_,_,_,_,_,_,rfl,#[SqT.of hr,SqT.of (a2 _ _ S),a1.1.mono (by decide),a1.2.mono (by decide),bz.mono (by decide),one],l1.pos,by decide,by rw[fK];exact a1.2.mono (by decide),λr2 H2 N a4=>?_];have e:=a2.trans N;refine#[_,SqT.of (e _ _ hv),_,atI2,_,_,_,_,_,_,_,rfl,SqL.of (e _ _ hw),hws.same e,SqT.of (e _ _ ht),p,I,a0,bt,b,m2,λpl s H3 s4 hpl c=>?_];have J:=e.trans s4;refine#[_,SqT.of (J _ _ hv),_,jR,_,_,_,_,_,_,_,rfl,SqL.of (J _ _ hx),hxs.same J,SqT.of (J _ _ ht),p,I,a0,bt,hX,n2,λql m d B hql a5=>#[sz3,λo D=>?_]];have s6:=aT.upd (o:=tup [.ref r2,.ref pl,.ref ql]) D;have b2:BB 4001 ((lo2 (1*l) (1*h)).2*1):=by rw[fK];exact a1.2.mono (by decide)
 have b3:BB 20000 ((lo2 (1*l) (1*h)).1*1-(1-z)*(lo2 (1*l) (1*h)).2):=by
  rw[fK,Int.sub_eq_add_neg];exact((a1.1.mono (show 4000<=13000 by decide)).add ((bz.mul a1.2).neg.mono (by decide))).mono (by decide)
 refine q o _ _ (λi=>fov (Y i) (h,l)) (λj=>fov (X j) (h,l)) r2 pl ql s m _ (((s0.trans J).trans B).trans s6) #[aL,s6 _ _ (B _ _ (s4 _ _ a4)),s6 _ _ (B _ _ hpl),(c.same B).same s6,s6 _ _ hql,a5.same s6,Z.pos,Z.cop,(b2.of_le Z.by_).mono (by decide),b3.of_le Z.bx,λi hi=>jYf (b i hi).1 (b i hi).2.1 I p (b i hi).2.2.2 a0,λj A=>jYf (hX j A).1 (hX j A).2.1 I p (hX j A).2.2.2 a0,?_];refine g.congr (λ_ _ _ _=>rfl) ?_ (λi hi=>(jJg (b i hi).1 I p).symm) (λj A=>(jJg (hX j A).1 I p).symm);have e1:=va_sub (f:=lo2 (1*l) (1*h)) (g:=(1-z,1)) l1.pos (show(0:Int)<1 by decide);have C:va (lo2 (1*l) (1*h))=1/va (h,l):=by rw[←Dq];exact jJg (f:=(1,1)) (g:=(h,l)) (by decide) I p
 have T:va (1-z,1)=((1-z:Int):Rat):=by
  unfold va;show((1-z:Int):Rat)/((1:Int):Rat)=_;rw[show((1:Int):Rat)=1 from rfl,Rat.div_def];grind
 rw[C,T]at e1;exact e1.symm
def jJQ(z:Int)(frs:hU):(sW z frs).length=frs.length:=by unfold sW;rw[aB]
def jVg{K}:RdS K Nz Vd jYv:=by
 rintro vs H Q E ⟨a,g,frs,n,rfl,ha,hf,W,wo,q⟩;have hpl:=hf.length;have m1:=W.m1;have m2:=W.m2;have n1:=W.n1;have n2:=W.n2;have a5:BB 9000 (1:Int):=by show(1:Int).natAbs<2^9000;exact Nat.one_lt_two_pow (by decide)
 rw[show start jYv [ref a]=[some (.ref a),none,none,none,none]from rfl];(dsimp?[Vd]);refine#[a,g,frs,n,rfl,SqL.of ha,hf,W,λz lp U s1 b5 mn=>?_];have bz:=(mn.bb W.hg).mono (show 4001<=9000 by decide);have O:=wo z mn;(dsimp?[Ow,dL,cU]);refine#[#[_,s1.seq (SqL.of ha)],dR (K:=K) (a:=a) (xs:=map ref g) (λi J Y=>aT U Y/\∃I,J=map ref I/\qS K Y I ((frs.take i).map λr=>r.map (lft z))) (by rw[aB,sizeLine_eq];lia) #[aT.refl _,[],rfl,trivial] ?_ ?_ ?_]
 .rintro i J Y _ ⟨N,_⟩;exact(s1.trans N).seq (SqL.of ha)
 .rintro i x J Y hi _ ⟨N,I,rfl,T⟩;obtain⟨p,rfl,hp⟩:=eN hi;obtain⟨r,X,er,F,c7⟩:=hf.get hp;have b6:=aI er;(dsimp?[Oz,cY,bV,cX,bI]);refine#[p,lp,X,r,z,rfl,(s1.trans N).seq (SqL.of F),c7.same (s1.trans N),SqT.of (N _ _ b5),bz,W.hg r b6,by rw[W.hr r b6];exact n2,λl ls d G S c8=>#[N.trans G,I++[l],by rw[aX];rfl,?_]];rw[dJ er,aX];exact qS.append (show qS K d [l] [r.map (lft z)]from#[#[ls,S,c8],trivial]) (T.same G)
 .rintro J Y _ ⟨N,I,rfl,T⟩ rz b0;rw[aB,hpl,bY]at T;have G:=N.trans (aT.upd (o:=lst (map ref I)) b0);have b7:qS K (upd Y rz (.lst (map ref I))) I (sW z frs):=T.same (aT.upd b0);have b8:(upd Y rz (.lst (map ref I))) rz=some (.lst (map ref I)):=aL;generalize upd Y rz (.lst (map ref I))=d at G b7 b8;clear N T b0;have b1:=s1.trans G;have a0:∀{i:Nat}{u m:Hp}{R:List Addr}{p:Addr},dC K u R (ofF i λ_=>((1,1):Int×Int))->u p=none->m=upd u p (.tup [.int 1,.int 1])->dC K m (R++[p]) (ofF (i+1) λ_=>((1,1):Int×Int)):=λ{i u m R p} h hp e=>by
   subst e;rw[fD];exact dC.snoc (h.same (aT.upd hp)) (SqT.of aL)
  (dsimp?[Ox,dL,cU]);refine#[#[_,b1.seq (SqL.of ha)],dR (K:=K) (a:=a) (xs:=map ref g) (λi J u=>aT d u/\∃R,J=map ref R/\dC K u R (ofF i λ_=>((1,1):Int×Int))) (by rw[aB,sizeLine_eq];lia) #[aT.refl _,[],rfl,trivial] ?_ ?_ ?_]
  .rintro i J u _ ⟨s5,_⟩;exact(b1.trans s5).seq (SqL.of ha)
  .rintro i x J u hi _ ⟨s5,R,rfl,hps⟩;(dsimp?[Pa]);exact#[sz2,λp hp=>#[s5.trans (aT.upd hp),R++[p],by rw[aX];rfl,a0 hps hp rfl]]
  .rintro J u _ ⟨s5,a1,rfl,hbs⟩ b hb;rw[aB,hpl]at hbs;have s6:=s5.trans (aT.upd (o:=lst (map ref a1)) hb);have b9:(upd u b (.lst (map ref a1))) b=some (.lst (map ref a1)):=aL;have a6:=hbs.same (aT.upd (o:=lst (map ref a1)) hb);generalize upd u b (.lst (map ref a1))=m at s6 b9 a6;clear s5 hbs hb;have b2:=b1.trans s6;obtain⟨p0,c2⟩:∃p,g[0]?=some p:=#[_,aD #[]];obtain⟨r0,c3,c9,a3,c4⟩:=hf.get c2;have d1:c3.length=n:=by rw[c4.length,W.hr r0 (aI c9)]
   refine#[_,b2.seq (SqL.of ha),_,fC (j:=0) (v:=ref p0) (by rw[aZ,c2];rfl),_,rfl,#[_,b2.seq (SqL.of a3)],dR (K:=K) (a:=p0) (xs:=map ref c3) (λi J C=>aT m C/\∃R,J=map ref R/\dC K C R (ofF i λ_=>((1,1):Int×Int))) (by rw[aB,sizeLine_eq];lia) #[aT.refl _,[],rfl,trivial] ?_ ?_ ?_]
   .rintro i J C _ ⟨s7,_⟩;exact(b2.trans s7).seq (SqL.of a3)
   .rintro i x J C hi _ ⟨s7,R,rfl,hps⟩;(dsimp?[Pb]);exact#[sz2,λp hp=>#[s7.trans (aT.upd hp),R++[p],by rw[aX];rfl,a0 hps hp rfl]]
   .rintro J C _ ⟨s7,a2,rfl,hgs⟩ c hc;rw[aB,d1]at hgs;have s8:=s7.trans (aT.upd (o:=lst (map ref a2)) hc);have c5:(upd C c (.lst (map ref a2))) c=some (.lst (map ref a2)):=aL;have a7:=hgs.same (aT.upd (o:=lst (map ref a2)) hc);generalize upd C c (.lst (map ref a2))=H8 at s8 c5 a7;clear s7 hgs hc;have b3:=s6.trans s8;have eR:=jJQ z frs;have eb:=jI frs.length;have eg:=jI n;refine#[rz,b,c,I,a1,a2,sW z frs,fT frs.length,fT n,rfl,#[b3 _ _ b8,b7.same b3,s8 _ _ b9,a6.same s8,c5,a7,λf Z=>?_],λf Z=>?_,O.B,#[],#[],λv fl s o x w xp wp H9 s9 _ _ out=>?_]
    .rw[Ge Z];exact#[by decide,a5.mono (by decide),a5]
    .rw[Ge Z];decide
    have a8:∀i j,i<frs.length->j<n->0<(rwF frs i j).2:=λi j hi A=>by
     unfold rwF;have e:frs[i]?=some frs[i]:=aD hi;have S:=W.hr _ (cJ hi);rw[aJ (l:=frs),e];show 0<((frs[i]).getD j (0,1)).2;rw[aJ,aD #[]];exact(W.hg _ (cJ hi) _ (cJ #[])).1
    have d2:∀i j,i<frs.length->j<n->rwF frs i j∈frs.getD i []:=λi j hi A=>by
     unfold rwF;have e:frs[i]?=some frs[i]:=aD hi;have S:=W.hr _ (cJ hi);rw[aJ (l:=frs),e];show(frs[i]).getD j (0,1)∈frs[i];rw[aJ,aD #[]];exact cJ #[]
    have hA:∀i j,i<(sW z frs).length->j<(fT n).length->1<=va (rwF (sW z frs) i j):=λi j hi A=>by
     rw[eR]at hi;rw[eg]at A;rw[jYW hi W.hr A];refine lft_ge (a8 i j hi A) (mn.le (frs.getD i []) ?_ _ (d2 i j hi A));rw[aJ,aD hi];exact cJ hi
    have D:∀j,j<(fT n).length->(fT n).getD j (0,1)=(1,1):=λj A=>Js #[];have d3:∀j,j<(sW z frs).length->(fT frs.length).getD j (0,1)=(1,1):=λj A=>Js #[];cases o with
    |some cc=>exact(no_way O.B out.ok out.io D hA #[] out.un).elim
    |none=>
     have L:=lp_game O.B out.ok out.io out.un d3 D hA #[] #[];obtain⟨M,M0,bM,dM⟩:=O.mx fl s out.ok out.io;have d4:=O.my fl s out.ok out.un;have a4:=Rr O.B out.ok;have b4:∀k,k<frs.length->_:=λk hk=>Rq O.B out.ok out.un (show k<(sW z frs).length by lia);have hxs:dC K H9 xp (ofF n (xF fl (sW z frs) (fT frs.length) (fT n) s)):=by have:=out.hxs;rw[eg]at this;exact this
     have hws:dC K H9 wp (ofF frs.length (yF fl (sW z frs) (fT frs.length) (fT n) s)):=by have h:dC K H9 wp (ofF (sW z frs).length (yF fl (sW z frs) (fT frs.length) (fT n) s)):=out.hws;rw[eR]at h;exact h
     rw[eR,eg]at L;(dsimp?[Oy]);refine#[_,SqT.of out.hv,_,jR,_,_,_,_,M,rfl,SqL.of out.hx,hxs,M0,bM,λk hk=>#[(a4 k).1,(a4 k).2.2.1,dM k hk],L.S1,λtx ty t d7 P y c6 d5 dT eT=>?_];have tp:0<tx:=by
      rcases Int.lt_or_eq_of_le d5 with h |h
      .exact h
      .have:=L.S0;rw[←eT,←h]at this;have e0:va (0,ty)=0:=by unfold va;show((0:Int):Rat)/_=0;rw[Rat.div_def];show(0:Rat)*_=0;grind
       rw[e0]at this;grind
     have S1:=L.S1;have d6:tx<=ty:=Ik (f:=(tx,ty)) c6 (by rw[eT];exact S1);have a9:=(b3.trans s9).trans P;refine Zp (s1.trans (G.trans a9)) m2 n2 (G.trans a9 _ _ b5) bz (P _ _ out.hv) (P _ _ out.hx) (hxs.same P) (P _ _ out.hw) (hws.same P) y c6 tp (Dx bM M0 dT) d6 (λk hk=>#[(a4 k).1,(a4 k).2.2.1,Ik (a4 k).1 ?_,Dx bM M0 (dM k hk)]) (λk hk=>#[(b4 k hk).1,(b4 k hk).2.2.1,Ik (b4 k hk).1 ?_,d4 k hk]) ?_ q
     .have h1:=Fz (f:=λj=>va (xF fl (sW z frs) (fT frs.length) (fT n) s j)) hk L.x0;have h2:=L.sx;grind
     .have h1:=Fz (f:=λj=>va (yF fl (sW z frs) (fT frs.length) (fT n) s j)) hk L.y0;have h2:=L.sy;grind
     .rw[eT];refine(game_of (((1-z:Int):Rat)) L.S0 L.x0 L.y0 L.hx L.hy L.sx L.sy).congr (λi j hi A=>?_) rfl (λ_ _=>rfl) λ_ _=>rfl;rw[jYW hi W.hr A,va_lft (a8 i j hi A)];grind
def N_less:LS:=["row","other"]
noncomputable def fsb(f g:Int×Int):Int×Int:=lo2 (f.1*g.2-g.1*f.2) (f.2*g.2)
def Vm(K:aQ):Sp:=λvs H Q _=>∃(a b:Addr)(ps I:List Addr)(fs z:fV),vs=[.ref a,.ref b]/\H a=some (.lst (map ref ps))/\dC K H ps fs/\H b=some (.lst (map ref I))/\dC K H I z/\fs.length=z.length/\fs.length<=216/\(∀f∈fs,Gd 4000 f)/\(∀f∈z,Gd 4000 f)/\
 ∀l X O,aT H O->O l=some (.lst (map ref X))->dC K O X (List.zipWith fsb fs z)->Q (.ref l) O
def Sc(K:aQ):TE:=(cD (Fx K) [] E0 (aH (aE 0) (aH (aE 1) bG)))
def Sa(K:aQ):TG:=(jV K 2 (eL (bA 0) (eL (bA 1) jW)))
def jJm(K:aQ):TS:=(cT (gY (mX K (aH (aE 0) (aH (aE 1) bG))) 2 [] (Sa K) (Sc K)))
def rd_less{K}:RdS K Vm jJm N_less:=by
 rintro j H Q E ⟨a,b,R,I,fs,z,rfl,ha,hf,hb,hg,c,Z,k,gg,q⟩;have u:=hf.length;have e:=hg.length;rw[show start N_less [ref a,ref b]=[some (.ref a),some (.ref b)]from rfl];(dsimp?[jJm,gY,mX]);refine#[#[_,SqL.of ha],#[_,SqL.of hb],lP (K:=K) (a:=a) (b:=b) (xs:=map ref R) (ys:=map ref I) (λi J Y=>aT H Y/\∃X,J=map ref X/\dC K Y X (List.zipWith fsb (fs.take i) (z.take i))) ?_ ?_ #[aT.refl _,[],rfl,trivial] ?_ ?_ ?_]
 .rw[aB];exact lA #[]
 .rw[aB,aB];lia
 .rintro i J Y _ ⟨N,_⟩;exact#[SqL.of (N _ _ ha),SqL.of (N _ _ hb)]
 .rintro i x y p J Y hx hy _ ⟨N,X,rfl,hr⟩ hp os D;obtain⟨p1,rfl,C⟩:=eN hx;obtain⟨w,rfl,n⟩:=eN hy;obtain⟨f,s,P⟩:=hf.get C;obtain⟨g,t,v⟩:=hg.get n;obtain⟨U,F,rfl⟩:∃O U,os=[O,U]:=by
   match os,D with
   | [O,U],_=>exact#[O,U,rfl]
  have m:=k f (aI s);have g2:=gg g (aI t);have G:=N.trans (aT.upd (o:=tup [.ref p1,.ref w]) hp);(dsimp?[Sa,Sc,cY,bV,cX,bI]);refine#[_,SqT.of aL,rfl,_,_,rfl,_,_,rfl,rfl,#[[some (.ref p1),some (.ref w)],rfl,rfl],_,_,_,_,_,_,rfl,#[G.tup P,G.tup v,m.2.1.mono (by decide),m.2.2.mono (by decide),g2.2.1.mono (by decide),g2.2.2.mono (by decide)],m.1,g2.1,(m.2.2.mul g2.2.2).mono (by decide),λr d B A=>#[G.trans B,X++[r],by rw[aX];rfl,?_]];rw[dJ s,dJ t,List.zipWith_append (by rw[cN,cN];lia)];exact dC.snoc ((hr.same (aT.upd hp)).same B) (SqT.of A)
 .rintro J Y _ ⟨N,X,rfl,hr⟩ l S;rw[aB,u,bY,c,bY]at hr;exact q l X _ (N.trans (aT.upd S)) aL (hr.same (aT.upd S))
def Zc:LS:=["chances","choices","many","told","chance","choice"]
noncomputable def yS(n:Nat):List Nat->fV->fV
 | [],_=>ofF n λ_=>(0,1)
 |_,[]=>ofF n λ_=>(0,1)
 |c::cs,f::fs=>(yS n cs fs).set c f
def Jl(K:aQ):Sp:=λvs H Q _=>∃(a b:Addr)(n:Nat)(ps:List Addr)(fs:fV)(cs:List Nat),vs=[.ref a,.ref b,.int n]/\H a=some (.lst (map ref ps))/\dC K H ps fs/\H b=some (.lst (tv cs))/\fs.length=cs.length/\(∀c∈cs,c<n)/\n<=6/\
 ∀l X O,aT H O->O l=some (.lst (map ref X))->dC K O X (yS n cs.reverse fs.reverse)->Q (.ref l) O
def jXX(K:aQ)(a b:Addr)(n:Nat)(fs:fV)(cs:List Nat)(H:Hp):NS:=λi Z Y=>∃l X O U,Z=[some (.ref a),some (.ref b),some (.int n),some (.ref l),O,U]/\aT H Y/\H l=none/\Y l=some (.lst (map ref X))/\X.length=n/\dC K Y X (yS n (cs.take i).reverse (fs.take i).reverse)
def Km(K:aQ):TS:=(cS (aE 4) (Dm (aE 3) (aE 5) qT))
def Ac(K:aQ):TG:=(jV K 2 (eL (bA 4) (eL (bA 5) jW)))
def Kl(K:aQ):TE:=(iW (aH (tC (.int 0)) (aH (tC (.int 1)) bG)))
def Np(K:aQ):TS:=(cE (cS (dL (iE (aH (aE 2) bG)) [] (Kl K)) (bA 3)) (cE (gD (mX K (aH (aE 0) (aH (aE 1) bG))) (Ac K) (Km K)) (cT (aE 3))))
def jWW{K}:RdS K Jl Np Zc:=by
 rintro j H Q E ⟨a,b,n,R,fs,w,rfl,ha,hf,hb,M,lt,A,q⟩;have T:=hf.length;rw[show start Zc [ref a,ref b,int n]=[some (.ref a),some (.ref b),some (.int n),none,none,none]from rfl];(dsimp?[Np,dL,iE]);rw[cA];refine#[#[],#[],lE (W:=λi J Y=>aT H Y/\∃X,J=map ref X/\dC K Y X (ofF i λ_=>(0,1))) (lA #[]) #[aT.refl _,[],rfl,trivial] ?_ ?_]
 .rintro i J Y hi _ ⟨N,X,rfl,hr⟩;(dsimp?[Kl]);refine#[sz2,λp hp=>#[N.trans (aT.upd hp),X++[p],by rw[aX];rfl,?_]];rw[fD];exact dC.snoc (hr.same (aT.upd hp)) (SqT.of aL)
 .rintro J Y _ ⟨N,X,rfl,hr⟩ l S;have G:=N.trans (aT.upd (o:=lst (map ref X)) S);have e:=hr.same (aT.upd (o:=lst (map ref X)) S);have F:(upd Y l (.lst (map ref X))) l=some (.lst (map ref X)):=aL;have r:=N.free S;generalize upd Y l (.lst (map ref X))=d at G e F;have m:=e.length;rw[bF]at m;(dsimp?[gD,mX]);refine#[#[_,SqL.of (G _ _ ha)],#[_,SqL.of (G _ _ hb)],jYg (K:=K) (a:=a) (b:=b) (xs:=map ref R) (ys:=tv w) (g:=Ac K) (D:={ nx:=cT (aE 3) (eQ Q),rt:=Q }) (jXX K a b n fs w H) ?_ ?_ ?_ ?_ ?_]
  .exact#[l,X,_,_,rfl,G,r,F,m,e]
  .rintro i Z u _ ⟨_,_,_,_,_,B,_⟩;exact#[SqL.of (B _ _ ha),SqL.of (B _ _ hb)]
  .rw[aB,fZ];lia
  .rintro i x y p Z u hx hy ⟨l,X,O,U,rfl,B,r,k,m,t⟩ hp;obtain⟨p1,rfl,C⟩:=eN hx;obtain⟨c,hc,rfl⟩:=nB hy;obtain⟨f,s,P⟩:=hf.get C;have v:=lt c (aI hc);have I:=aT.upd (o:=tup [.ref p1,.int c]) hp;have z:=I _ _ k;(dsimp?[Ac,Km,Dm,qT]);refine#[_,SqT.of aL,rfl,_,_,rfl,_,_,rfl,rfl,_,_,rfl,z,c,by rw[aB,vP #[] #[],cA],?_];refine#[l,X.set c p1,_,_,rfl,((B.trans I).put r),r,by rw[aL,List.map_set],by rw[length_set];exact m,?_];rw[dJ hc,dJ s,List.reverse_append,List.reverse_append];show dC K _ (X.set c p1) ((yS n (w.take i).reverse (fs.take i).reverse).set c f);exact dC.set (((B.trans I).tup P).off z) c ((t.same I).off z)
  .rintro Z u ⟨l,X,O,U,rfl,B,r,k,m,t⟩;(dsimp![aE,cT]);rw[aB,T,bY,M,bY]at t;exact q l X u B k t
def Tq:LS:=["table","hand","choice","kept","others","own","found"]
def KpV(H:Hp)(M:V)(ns:List Nat)(ks:fP):Prop:=(M=.non/\ks=ns.map range)∨∃p xs,M=.ref p/\H p=some (.lst xs)/\Lg H xs ks
def rwW(e:List Nat->Nat->Int×Int)(bs:fP)(h:Nat)(k:List Nat)(x:Nat):hU:=k.map λy=>List.zipWith fsb (bs.map λb=>e (jn b h y) h) (bs.map λb=>e (jn b h x) h)
def NumW(frs:hU)(n:Nat):Prop:=WoR frs n/\∀z,Mnf frs z->WoO (sW z frs) frs.length n
structure WgOut(K:aQ)(H':Hp)(v:Addr)(bs:fP)(k:List Nat)(nh:Nat)(frs:hU)(x y:Int)(P R:Nat->Int×Int):Prop where
 y0:0<y
 pok:∀i,i<frs.length->Fok (P i)/\BB 9000 (P i).2
 qok:∀j,j<bs.length->Fok (R j)/\BB 9000 (R j).2
 G:Gm frs.length bs.length (λi j=>va (rwF frs i j)) (va (x,y)) (λi=>va (P i)) (λj=>va (R j))
 ex:∃o,(0<x/\H' v=some (.tup [.str "beaten",.ref o])/\∃rs,H' o=some (.lst (map ref rs))/\dC K H' rs (yS nh k.reverse (ofF k.length P).reverse))∨
  (¬0<x/\H' v=some (.tup [.str "belief",.ref o])/\∃qp,H' o=some (.dT ((bs.map tk).zip (map ref qp)))/\dC K H' qp (ofF bs.length R))
structure WgIn(K:aQ)(H:Hp)(t:Addr)(h:Nat)(kv:V)(ns:List Nat)(e:List Nat->Nat->Int×Int)(ks:fP)(k:List Nat)(n:Nat):Prop where
 T:TabF K H t ns e
 sz:Sz ns
 kp:Kp ns ks
 hv:KpV H kv ns ks
 hk:ks[h]?=some k
 hn:ns[h]?=some n
 gd:∀q∈gJ ns.reverse,∀i,i<ns.length->Gd 4000 (e q i)
def vT(K:aQ):Sp:=λvs H Q _=>∃(t:Addr)(h z:Nat)(M:V)(ns:List Nat)(e:List Nat->Nat->Int×Int)(ks:fP)(k:List Nat)(n:Nat),vs=[.ref t,.int h,.int z,M]/\WgIn K H t h M ns e ks k n/\z∈k/\NumW (rwW e (fW (wo h ks).reverse) h k z) (fW (wo h ks).reverse).length/\
 ∀v x y P R O,aT H O->WgOut K O v (fW (wo h ks).reverse) k n (rwW e (fW (wo h ks).reverse) h k z) x y P R->Q (.ref v) O
def Gq(K:aQ):TS:=(cT (iW (aH (tC (.str "belief")) (aH (tDZip K (aH (aE 4) (aH (tOp (eZ K) (aE 6) (tC (.int 2))) bG))) bG))))
def Go(K:aQ):TS:=(cE (fX (tB (cD (Fy K) [] E0 (aH (iW (aH (tC (.int 0)) (aH (tC (.int 1)) bG))) (aH (tOp (eZ K) (aE 6) (tC (.int 0))) bG)))) (cT (iW (aH (tC (.str "beaten")) (aH (cD (Jl K) [] E0 (aH (tOp (eZ K) (aE 6) (tC (.int 1))) (aH (tOp (fS K) (aE 3) (aE 1)) (aH (tOp (fS K) (fN (eI K "Table") "sizes" (nJ K) [] E0 (aE 0) bG) (aE 1)) bG)))) bG)))) eA) (Gq K))
def Gr(K:aQ):TE:=(cD (Vm K) [] E0 (aH (cD (sJ K) [] E0 (aH (aE 2) (aH (aE 3) (aH (aE 0) (aH (aE 4) bG))))) (aH (aE 1) bG)))
def Gn(K:aQ):TS:=(cE (cS (cD (Nz K) [] E0 (aH (dL (cU K (tOp (fS K) (aE 3) (aE 1))) [5,0,1,4] (Gr K)) bG)) (bA 6)) (Go K))
def Gk(K:aQ):TS:=(cE (cS (cD (sJ K) [] E0 (aH (aE 0) (aH (aE 1) (aH (aE 2) (aH (aE 4) bG))))) (bA 5)) (Gn K))
def wD(K:aQ):TS:=(cE (cS (cD (nI K) [] E0 (aH (tOp sV (tSl (vG K) (aE 3) hJ (mD (aE 1))) (tSl (vG K) (aE 3) (mD (tOp hE (aE 1) (tC (.int 1)))) hJ)) bG)) (bA 4)) (Gk K))
def wC(K:aQ):TS:=(cE (fX (dB (tOp (rIn K true) (aE 2) (tOp (fS K) (aE 3) (aE 1)))) jN eA) (wD K))
def Iv(K:aQ):TS:=(cE (fX (dB (tOp Fa (aE 3) (tC .non))) (cS (cD (Ap K) [] E0 (aH (aE 0) bG)) (bA 3)) eA) (wC K))
def jXx:∀{xs:List V},(∀v∈xs,∃a:Addr,v=.ref a)->∃I,xs=map ref I
 | [],_=>#[[],rfl]
 |v::xs,h=>by
  obtain⟨a,rfl⟩:=h v (.head _);obtain⟨I,rfl⟩:=jXx λw hw=>h w (.tail _ hw);exact#[a::I,rfl]
def Ps.refs{bs:fP}(p:Ps H xs bs):∃I,xs=map ref I/\I.length=bs.length/\∀(i:Nat) q b,I[i]?=some q->bs[i]?=some b->H q=some (.tup (tv b)):=by
 obtain⟨I,rfl⟩:=jXx λv hv=>by
  obtain⟨i,hi⟩:=dA hv;obtain⟨_,a,_,e,_⟩:=p.get hi;exact#[a,e]
 refine#[I,rfl,by rw[←p.1,aB],λi q b h1 h2=>?_];obtain⟨a,e1,C⟩:=p.2 i b h2;rw[aZ,h1]at e1;cases e1;exact C
def jYi(k:List Nat):(tv k).all Fg=true:=by unfold tv;rw[List.all_map,List.all_eq_true];intro _ _;rfl
def jJy{c:Int}{k:List Nat}:inV (.int c) (tv k)=true↔∃x∈k,(x:Int)=c:=by
 unfold inV tv;rw[List.any_map,List.any_eq_true];constructor
 .rintro⟨x,hx,e⟩;exact#[x,hx,by simpa [eqV]using e]
 .rintro⟨x,hx,e⟩;exact#[x,hx,by simpa [eqV]using e]
def Ra{t:Addr}{z n:Nat}{k:List Nat}(Y:aT H G)(T:TabF K G t ns e)(sz:Sz ns)(kp:Kp ns ks)(hp:G p=some (.lst xs))(lg:Lg G xs ks)(hk:ks[h]?=some k)(hn:ns[h]?=some n)(gd:∀q∈gJ ns.reverse,∀i,i<ns.length->Gd 4000 (e q i))(hz:z∈k)
  (nw:NumW (rwW e (fW (wo h ks).reverse) h k z) (fW (wo h ks).reverse).length) (q:∀v x y P R O,aT H O->WgOut K O v (fW (wo h ks).reverse) k n (rwW e (fW (wo h ks).reverse) h k z) x y P R->Q (.ref v) O):
  wD K (eQ Q) [some (.ref t),some (.int h),some (.int z),some (.ref p),none,none,none] G:=by
 have ch:=kp.ch sz;have hl:=(aO.mp hk).1;have kl:=kp.len;have n3:=sz.len;have b3:=aI hk;have n6:=sz.le n (aI hn);obtain⟨ka,U,a2⟩:=lg.2 h k hk;(dsimp?[wD,sV,vG]);refine#[_,SqL.of hp,λp1 a3=>#[_,SqL.of (aT.upd a3 _ _ hp),λp2 a4=>#[_,aT.upd a4 _ _ aL,_,aL,?_,λp3 a5=>?_]]]
 .have e1:=sF xs none (some (h:Int));have C:=sF xs (some ((h:Int)+1)) none;have:=lg.1;exact lA #[]
 have M:=(aT.upd (o:=.lst (mY xs none (some (h:Int)))) a3).trans ((aT.upd (o:=.lst (mY xs (some ((h:Int)+1)) none)) a4).trans (aT.upd (o:=.lst (mY xs none (some (h:Int))++mY xs (some ((h:Int)+1)) none)) a5));refine#[p3,_,wo h ks,rfl,aL,?_,ch.wo h,λo os G1 s2 _ D ps=>?_]
 .have e1:mY xs none (some (h:Int))++mY xs (some ((h:Int)+1)) none=xs.take h++xs.drop (h+1):=by rw[Vb,show((h:Int)+1)=((h+1:Nat):Int) by lia,Gh]
  have:=(lg.wo h).same M;rwa [←e1]at this
 have a6:=M.trans s2;have bl:=(ch.wo h).rev.ord;have bo:∀y∈k,∀b∈fW (wo h ks).reverse,b.length<=3/\jn b h y∈gJ ns.reverse:=λy hy b hb=>#[by
  have:=nY _ b hb;rw[cM]at this;have:=(ch.wo h).len;lia,jJw kp hb hk hy]
 have a7:(fW (wo h ks).reverse).Nodup:=Es _ λc hc=>kp.nd c (Na (List.mem_reverse.mp hc));generalize hbs:fW (wo h ks).reverse=bs at ps bl bo a7 nw q;clear M a3 a4 a5;(dsimp?[Gk]);refine#[t,o,ns,e,bs,h,z,os,rfl,T.same a6,D,ps,#[],bo z hz,bl,λw ws G2 N hw hws=>?_];have a1:=a6.trans N;have a8:=N _ _ D;have b4:=ps.same N;(dsimp?[Gn,dL,cU]);refine#[_,SqL.of (a1 _ _ hp),_,fC U,_,rfl,#[_,SqL.of (a1 _ _ a2)],dR (K:=K) (a:=ka) (xs:=tv k) (λi J G3=>aT G2 G3/\∃g,J=map ref g/\qS K G3 g (rwW e bs h (k.take i) z)) (by rw[fZ];exact lA (by have:=ch.le k b3;lia)) #[aT.refl _,[],rfl,trivial] ?_ ?_ ?_]
 .rintro i J G3 _ ⟨s4,_⟩;exact SqL.of (s4 _ _ (a1 _ _ a2))
 .rintro i x J G3 hi _ ⟨s4,g,rfl,hr⟩;obtain⟨y,hy,rfl⟩:=nB hi;have a9:=aI hy;(dsimp?[Gr,cY,bV,cX,bI]);refine#[t,o,ns,e,bs,h,y,os,rfl,T.same (a1.trans s4),s4 _ _ a8,b4.same s4,#[],bo y a9,bl,λl1 q1 G4 s5 h1 f1=>?_];refine#[l1,w,q1,ws,_,_,rfl,h1,f1,s5 _ _ (s4 _ _ hw),(hws.same s4).same s5,by rw[aB,aB],by rw[aB];exact bl,λf hf=>?_,λf hf=>?_,λZ q2 G5 s6 h2 F=>#[s4.trans (s5.trans s6),g++[Z],by rw[aX];rfl,?_]]
  .obtain⟨b,hb,rfl⟩:=cV.mp hf;exact gd _ (bo y a9 b hb).2 h #[]
  .obtain⟨b,hb,rfl⟩:=cV.mp hf;exact gd _ (bo z hz b hb).2 h #[]
  .unfold rwW;rw[dJ hy,aX];exact qS.append (show qS K G5 [Z] [_]from#[#[q2,h2,F],trivial]) (hr.same (s5.trans s6))
 .rintro J G3 _ ⟨s4,g,rfl,hr⟩ l b0;rw[fZ,bY]at hr;have s5:=s4.trans (aT.upd (o:=lst (map ref g)) b0);refine#[l,g,_,bs.length,rfl,aL,hr.same (aT.upd b0),nw.1,nw.2,λv x y P R u pl ql pp qp G4 s6 out=>?_];have s7:=s5.trans s6;have one:BB 20000 (1:Int):=by show(1:Int).natAbs<2^20000;exact Nat.one_lt_two_pow (by decide)
  have b5:BB 20000 (0:Int):=by show(0:Int).natAbs<2^20000;exact eJ _
  have fl:(rwW e bs h k z).length=k.length:=by unfold rwW;rw[aB]
  (dsimp?[Go,fN]);refine#[sz2,λa0 b1=>#[_,SqT.of (aT.upd b1 _ _ out.hv),_,kP,?_]];have s:=aT.upd (o:=tup [.int 0,.int 1]) b1;refine#[_,_,_,_,_,_,rfl,#[SqT.of aL,SqT.of (s _ _ out.hw),b5,one,out.bx,out.by9.mono (by decide)],_,rfl,mC (λhx=>?_) (λhx=>?_)]
  .have S:=(a1.trans s7).trans s;obtain⟨B,b2,_⟩:=(T.same S).ex;obtain⟨dx,m,d,ht⟩:=b2.ins;refine#[_,SqT.of (s _ _ out.hv),_,jR,_,SqL.of (S _ _ hp),_,fC U,_,_,ht,We _ _ (by decide+kernel) (by decide+kernel),t,ns,B,rfl,b2,λsl j=>?_];have s9:=aT.upd (o:=lst (tv ns)) j;refine#[_,rfl,_,SqL.of aL,_,fC (Mu hn),pl,ka,n,pp,_,k,rfl,s9 _ _ (s _ _ out.hpl),(out.hps.same s).same s9,s9 _ _ (S _ _ a2),by rw[bF];exact fl,λc hc=>(kp.lt h k n hk hn).2 c hc,n6,λlr X G5 b6 b7 frs=>#[sz2,λr hr=>?_]];have A:=aT.upd (o:=tup [.str "beaten",.ref lr]) hr;rw[fl]at frs;exact q r x y P R _ (Y.trans (S.trans (s9.trans (b6.trans A)))) #[out.y0,out.pok,out.qok,out.G,lr,.inl #[by simpa using hx,aL,X,A _ _ b7,frs.same A]]
  .obtain⟨I,eq,ql,hq⟩:=ps.refs;have S:=s7.trans s;(dsimp?[Gq,tDZip]);refine#[_,SqT.of (s _ _ out.hv),_,atI2,_,rfl,bs.map tk,I,by rw[←eq];exact SqL.of (S _ _ a8),_,SqL.of (s _ _ out.hql),by rw[aB];exact ql,by rw[aB,aB,out.hqs.length,bF];exact aU _,λi a c h1 h2=>?_,wB a7,λd hd=>#[sz2,λr hr=>?_]]
   .rw[aZ]at h2;obtain⟨b,hb,rfl⟩:=Option.map_eq_some_iff.mp h2;rw[Cl];exact S _ _ (N _ _ (hq i a b h1 hb))
   .have s9:=aT.upd (o:=HO.dT ((bs.map tk).zip (map ref qp))) hd;have A:=aT.upd (o:=tup [.str "belief",.ref d]) hr;exact q r x y P R _ (Y.trans (a1.trans (S.trans (s9.trans A)))) #[out.y0,out.pok,out.qok,out.G,d,.inr #[by simpa using hx,aL,qp,A _ _ aL,((out.hqs.same s).same s9).same A]]
def jZW{K}:RdS K vT Iv Tq:=by
 rintro j H Q E ⟨t,h,z,M,ns,e,ks,k,n,rfl,⟨T,sz,kp,hv,hk,hn,gd⟩,hz,b,q⟩;rw[show start Tq [ref t,int h,int z,M]=[some (.ref t),some (.int h),some (.int z),some M,none,none,none]from rfl];have c:∀(G:Hp)(p:Addr)(F:List V),aT H G->G p=some (.lst F)->Lg G F ks->wC K (eQ Q) [some (.ref t),some (.int h),some (.int z),some (.ref p),none,none,none] G:=λG p F s hp lg=>by
  obtain⟨a,Y,ha⟩:=lg.2 h k hk;(dsimp?[wC,rIn]);refine#[_,SqL.of hp,_,fC Y,_,rfl,_,.inl (SqL.of ha),rfl,jYi k,?_];rw[aK trivial,jJy.mpr #[z,hz,rfl]];exact yV (Ra s (T.same s) sz kp hp lg hk hn gd hz b q)
 (dsimp?[Iv,Fa]);rcases hv with⟨rfl,rfl⟩|⟨p,F,rfl,hp,lg⟩
 .rw[aK rfl];obtain⟨B,g,_⟩:=T.ex;exact#[t,ns,B,rfl,g,sz,λp F G s hp lg=>c G p F s hp lg]
 .rw[aF (by intro z;cases z)];exact c H p F (aT.refl _) hp lg
def Ty:LS:=["_law_found"]
def rC(_:aQ):Sp:=λvs H Q _=>∃i,vs=[.int i]/\Q (.bl true) H
def Br(K:aQ):TS:=(cT (xR (tCB Qw (aH (aE 0) (aH (tC (.ty "int")) bG))) (Fe (tCB Qw (aH (aE 0) (aH (tC (.ty "bool")) bG))))))
def jZd{K}:RdS K rC Br Ty:=by
 rintro j H Q E ⟨i,rfl,q⟩;rw[show start Ty [int i]=[some (.int i)]from rfl]
 (try dsimp only[Br,aE,tC,cT,aH,bG,tCB,Qw,xR,Fe,Lq0,gB,gC,gA];try simp only[Br,aE,tC,cT,aH,bG,tCB,Qw,xR,Fe,Lq0,Option.some.injEq,exists_eq_left',V.bl.injEq,V.ty.injEq,List.cons.injEq,and_true,exists_and_left,and_assoc,exists_eq_left,V.int.injEq,V.ref.injEq,true_and,gB,gC,gA,gZ,kR,iM])
 exact#[true,.inl #[rfl,rfl],iteT #[false,.inr #[rfl,rfl],q]]
def Ia:LS:=["_law_found"]
def tP(K:aQ):Sp:=λvs H Q _=>∃p x y,vs=[.ref p]/\SqT K H p [.int x,.int y]/\0<y/\Int.gcd x y=1/\Q (.bl true) H
def qN(K:aQ):TS:=(cE (fX (tOr (zC (tB (tCB (Ul K) (aH (aE 0) (aH (tC (.ty "tuple")) bG))))) (tOr (dB (tOp rNe (tCB (iY K) (aH (aE 0) bG)) (tC (.int 2)))) (tOr (zC (tB (cD (rC K) [] E0 (aH (tOp (eZ K) (aE 0) (tC (.int 0))) bG)))) (zC (tB (cD (rC K) [] E0 (aH (tOp (eZ K) (aE 0) (tC (.int 1))) bG))))))) (cT (tC (.bl false))) eA) (cT (xR (tOp zF (tOp (eZ K) (aE 0) (tC (.int 1))) (tC (.int 0))) (tOp rEq (cD (jK K) [] E0 (aH (tOp (eZ K) (aE 0) (tC (.int 0))) (aH (tOp (eZ K) (aE 0) (tC (.int 1))) bG))) (tC (.int 1))))))
def Re{K}:RdS K tP qN Ia:=by
 rintro j H Q E ⟨p,x,y,rfl,hp,y0,g,k⟩;rw[show start Ia [ref p]=[some (.ref p)]from rfl];(dsimp?[qN,Ul];try simp_arith[qN,Ul,jK,rC])
 refine#[_,hp,yV #[_,.inr hp,yV #[_,hp,_,kP,_,rfl,yV #[_,hp,_,jR,_,rfl,yV ?_]]]];refine#[_,hp,_,jR,_,rfl,?_];rw[aK y0];refine#[_,hp,_,kP,_,hp,_,jR,_,rfl,_,rfl,?_];rw[g];exact k
def Hz:LS:=["_law_found","_law_many","_law_common","_law_one","_law_parts"]
def mH(K:aQ):Sp:=λvs H Q _=>∃l ps,∃n:Nat,∃X,vs=[.ref l,.int n]/\H l=some (.lst (map ref ps))/\dC K H ps (ofF n X)/\(∀k,k<n->Fok (X k)/\BB 9000 (X k).2)/\n<=100/\(rsm n λk=>va (X k))=1/\
 ∀C cs cl pt O,aT H O->0<C->BB 1000000 C->O cl=some (.lst (map int (ofF n cs)))->O pt=some (.tup [.int C,.ref cl])->(∀k,k<n->((cs k:Int):Rat)=va (X k)*C/\0<=cs k/\cs k<=C)->Q (.ref pt) O
def jV5(l:Addr)(N:Hp)(n:Nat)(fs:fV):NS:=λi Z Y=>Y=N/\∃o,Z=[some (.ref l),some (.int n),some (.int (lc (fs.take i))),o,none]
def xT(K:aQ):TS:=(cT (iW (aH (aE 2) (aH (aE 4) bG))))
def xU(K:aQ):TE:=(tOp fO (tOp (eZ K) (aE 0) (tC (.int 0))) (tOp jE (aE 1) (tOp (eZ K) (aE 0) (tC (.int 1)))))
def pR(K:aQ):TS:=(cE (cS (dL (cU K (aE 0)) [2] (xU K)) (bA 4)) (cE (fX (dB (tOp rNe (tCB (Ms K) (aH (aE 4) bG)) (aE 2))) (cT (iW (aH (tC (.int 0)) (aH (mB bG) bG)))) eA) (xT K)))
def pQ(K:aQ):TS:=(cS (tOp fO (aE 2) (tOp jE (tOp (eZ K) (aE 3) (tC (.int 1))) (cD (jK K) [] E0 (aH (aE 2) (aH (tOp (eZ K) (aE 3) (tC (.int 1))) bG))))) (bA 2))
def xV(K:aQ):TS:=(cE (fX (tOr (zC (tB (cD (tP K) [] E0 (aH (aE 3) bG)))) (dB (tOp kO (tOp (eZ K) (aE 3) (tC (.int 0))) (tC (.int 0))))) (cT (iW (aH (tC (.int 0)) (aH (mB bG) bG)))) eA) (pQ K))
def xS(K:aQ):TS:=(cE (cS (tC (.int 1)) (bA 2)) (cE (gD (cU K (aE 0)) (bA 3) (xV K)) (pR K)))
def wQ(K:aQ):TS:=(cE (fX (tOr (zC (tB (tCB cIsB2 (aH (aE 0) (aH (tC (.ty "list")) bG))))) (dB (tOp rNe (tCB (iY K) (aH (aE 0) bG)) (aE 1)))) (cT (iW (aH (tC (.int 0)) (aH (mB bG) bG)))) eA) (xS K))
def Rc{K}:RdS K mH wQ Hz:=by
 rintro j H Q E ⟨l,R,n,X,rfl,S,hf,C,hn,M,q⟩;have hpl:R.length=n:=by rw[hf.length,bF]
 have fl:(ofF n X).length=n:=bF _ _;have t:∀f∈ofF n X,0<f.2:=λf hf=>by obtain⟨k,hk,rfl⟩:=jZ hf;exact(C k hk).1.1
 have y:∀f∈ofF n X,BB 9000 f.2:=λf hf=>by obtain⟨k,hk,rfl⟩:=jZ hf;exact(C k hk).2
 rw[show start Hz [ref l,int n]=[some (.ref l),some (.int n),none,none,none]from rfl];(dsimp?[wQ,cIsB2]);refine#[true,.inr #[_,_,rfl,S,rfl,rfl],yV #[_,.inl (SqL.of S),?_]];rw[aB,hpl,decide_eq_true rfl];refine yV ?_;(dsimp?[xS,gD,cU]);refine#[#[_,SqL.of S],iA (K:=K) (a:=l) (xs:=map ref R) (g:=bA 3) (D:={ nx:=pR K (eQ Q),rt:=Q }) (jV5 l H n (ofF n X)) ?_ ?_ ?_ ?_]
 .exact#[rfl,none,rfl]
 .rintro i Z Y _ ⟨rfl,_⟩;exact SqL.of S
 .rintro i x Z Y hi ⟨rfl,o,rfl⟩;obtain⟨p,rfl,hp⟩:=eN hi;obtain⟨f,s,P⟩:=hf.get hp;have z:=s;obtain⟨v,rfl⟩:=gL s;obtain⟨⟨F,N,f1⟩,A⟩:=C i v;have lp:0<lc ((ofF n X).take i):=Nf λf hf=>t f (mem_of_mem_take hf);have u:=(Uy lp F).2.2.2.2;have c:(X i).2≠0:=Int.ne_of_gt F;have g0:0<Int.gcd (lc ((ofF n X).take i)) (X i).2:=Int.gcd_pos_of_ne_zero_right _ c;have bl:BB 900001 (lc ((ofF n X).take i)):=(Uz ((ofF n X).take i) 1 1 9000 (by decide) (by show(1:Int).natAbs<2^1;decide) (λf hf=>t f (mem_of_mem_take hf)) (λf hf=>y f (mem_of_mem_take hf))).mono (by rw[cN];lia);have e:=jYV z;unfold lcf at e;(dsimp?[xV]);refine#[_,_,_,rfl,P,F,N,_,rfl,yV #[_,P,_,kP,_,rfl,?_]];rw[aF #[]];(dsimp?[pQ];try simp_arith[pQ,jK])
  refine#[_,P,_,jR,_,P,_,jR,_,rfl,_,rfl,#[#[],A.gcd c],.b (m:=900001) (n:=9000) bl (A.of_le u),rfl,some (.ref p),?_];rw[e]
 .rintro Z Y ⟨rfl,o,rfl⟩;rw[aB,hpl,show(ofF n X).take n=ofF n X from take_of_length_le #[]];have lp:0<lc (ofF n X):=Nf t;have bl:BB 900001 (lc (ofF n X)):=(Uz (ofF n X) 1 1 9000 (by decide) (by show(1:Int).natAbs<2^1;decide) t y).mono (by rw[fl];lia);have w:∀k,k<n->(X k).1*((lc (ofF n X)).fdiv (X k).2)*(X k).2=(X k).1*lc (ofF n X):=λk hk=>jJ3 t (aI (eU X hk));have cv:∀k,k<n->(((X k).1*((lc (ofF n X)).fdiv (X k).2):Int):Rat)=va (X k)*(lc (ofF n X):Int):=λk hk=>by
   have F:=(C k hk).1.1;refine vX (mO F) ?_;have e:(((X k).1*((lc (ofF n X)).fdiv (X k).2)*(X k).2:Int):Rat)=(((X k).1*lc (ofF n X):Int):Rat):=by rw[w k hk]
   have h1:=lU F;rw[eV]at e;rw[e,eV,←h1];grind
  have T:∀k,k<n->0<=va (X k):=λk hk=>qP (C k hk).1.1 (C k hk).1.2.2;have c0:∀k,k<n->0<=(X k).1*((lc (ofF n X)).fdiv (X k).2)/\(X k).1*((lc (ofF n X)).fdiv (X k).2)<=lc (ofF n X):=λk hk=>by
   have h1:=cv k hk;have h2:=T k hk;have h3:=Fz (f:=λk=>va (X k)) hk T;have p:=mO lp;have O:=Rat.mul_nonneg h2 (Rat.le_of_lt p);have I:=eK (show va (X k)<=1 by grind) (Rat.le_of_lt p);rw[←h1]at O I;rw[Rat.one_mul]at I;exact#[Rat.intCast_le_intCast.mp O,Rat.intCast_le_intCast.mp I]
  (dsimp?[pR,dL,cU,Ms]);refine#[#[_,SqL.of S],dR (K:=K) (a:=l) (xs:=map ref R) (WEq Y λi J=>J=map int (ofF i λk=>(X k).1*((lc (ofF n X)).fdiv (X k).2))) (by rw[aB,sizeLine_eq];lia) #[rfl,rfl] ?_ ?_ ?_]
  .rintro i J d _ ⟨rfl,_⟩;exact SqL.of S
  .rintro i x J d hi _ ⟨rfl,rfl⟩;obtain⟨p,rfl,hp⟩:=eN hi;obtain⟨f,s,P⟩:=hf.get hp;obtain⟨v,rfl⟩:=gL s;obtain⟨⟨F,N,f1⟩,A⟩:=C i v;obtain⟨k,hk⟩:=(zR (ofF n X) 1 (by decide) t).2.2.1 _ (aI s);have hk:lc (ofF n X)=(X i).2*k:=hk;have c:(X i).2≠0:=Int.ne_of_gt F;have B:(lc (ofF n X)).fdiv (X i).2=k:=by rw[hk];exact Int.mul_fdiv_cancel_left _ c
   have bk:BB 900001 ((lc (ofF n X)).fdiv (X i).2):=by
    refine bl.of_le ?_;rw[B,hk,cQ];exact Nat.le_mul_of_pos_left _ #[]
   have U:(X i).1<=(X i).2:=Ik F (by have:=Fz (f:=λk=>va (X k)) v T;grind);(dsimp?[xU,cY,bV,cX,bI]);refine#[_,P,_,kP,_,P,_,jR,_,rfl,#[c,A],_,rfl,.b (m:=9000) (n:=900001) (mS A f1 U) bk,rfl,?_];show _=map int (ofF (i+1) λk=>(X k).1*((lc (ofF n X)).fdiv (X k).2));rw[fD,aX];rfl
  .rintro J d _ ⟨rfl,rfl⟩ cl G;rw[aB,hpl];refine#[_,SqL.of aL,?_];have es:(ofF n λk=>(X k).1*((lc (ofF n X)).fdiv (X k).2)).sum=lc (ofF n X):=by
    rw[Fn];refine Rat.intCast_inj.mp ?_;rw[Me,gT cv,jY,M,Rat.one_mul]
   rw[es,decide_eq_true rfl];refine yV ?_;(dsimp?[xT]);exact#[sz2,λpt r=>q (lc (ofF n X)) _ cl pt _ ((aT.upd G).trans (aT.upd r)) lp (bl.mono (by decide)) (aT.upd r _ _ aL) aL λk hk=>#[cv k hk,c0 k hk]]
def Bf:LS:=["_law_kept_here","_law_hand","_law_found","_law_k","_law_longer","_law_rest"]
def mL(_:aQ):Sp:=λvs H Q _=>∃(p:Addr)(h:Nat)(xs:List V)(ks:fP),vs=[.ref p,.int h]/\H p=some (.lst xs)/\Lg H xs ks/\Ch ks/\h<ks.length/\∀r ys O,aT H O->O r=some (.lst ys)->Ps O ys (fW (wo h ks).reverse)->Q (.ref r) O
def mM(p:Addr)(h:Nat)(H:Hp)(ks:fP):NS:=λi Z Y=>∃t xs O U f,Z=[some (.ref p),some (.int h),some (.ref t),O,U,f]/\aT H Y/\Y t=some (.lst xs)/\Ps Y xs (fW (wo h (ks.take i)).reverse)
def Kg(p t:Addr)(h i:Nat)(c:List Nat)(H:Hp)(I:fP):NS:=λj Z Y=>∃g ys f,Z=[some (.ref p),some (.int h),some (.ref t),some (.int i),some (.ref g),f]/\aT H Y/\Y g=some (.lst ys)/\Ps Y ys ((I.take j).flatMap (Fb c))
def nK(K:aQ):TS:=(cS (aE 4) (bA 2))
def nL(K:aQ):TE:=(tOp pZ (aE 1) (iW (aH (aE 0) bG)))
def sQ(K:aQ):TS:=(cS (tOp sV (aE 4) (dL (cU K (tOp (fS K) (aE 0) (aE 3))) [5] (nL K))) (bA 4))
def sP(K:aQ):TS:=(cE (gD (cU K (aE 2)) (bA 5) (sQ K)) (nK K))
def nN(K:aQ):TS:=(fX (dB (tOp rNe (aE 3) (aE 1))) (cE (cS (mB bG) (bA 4)) (sP K)) eA)
def sO(K:aQ):TS:=(cE (gD (iE (aH (tCB (iY K) (aH (aE 0) bG)) bG)) (bA 3) (nN K)) (cT (aE 2)))
def rJ(K:aQ):TS:=(cE (cS (mB (aH (iW bG) bG)) (bA 2)) (sO K))
def Dz{l:List d}(hi:i<=h):wo h (l.take i)=l.take i:=by
 unfold wo;rw[List.take_take,Nat.min_eq_right hi,List.drop_take,Nat.sub_eq_zero_of_le #[],List.take_zero,cW]
def Gj{l:List d}{c:d}(hi:l[i]?=some c):wo h (l.take (i+1))=if i=h then wo h (l.take i)else wo h (l.take i)++[c]:=by
 have M:=(aO.mp hi).1;by_cases e:i=h
 .subst e;rw[aK rfl,Dz (i:=i) (aU i)];unfold wo;rw[List.take_take,List.drop_eq_nil_of_le (by rw[cN];lia),cW];congr 1;lia
 .rw[aF e];by_cases g:i<h
  .rw[Dz (i:=i+1) #[],Dz (i:=i) #[],dJ hi]
  .unfold wo;rw[dJ hi,List.take_append_of_le_length (by rw[cN];lia),List.drop_append_of_le_length (by rw[cN];lia),List.append_assoc]
def Lq{K}:RdS K mL rJ Bf:=by
 rintro vs H Q E ⟨p,h,ls,ks,rfl,I,rg,ch,S,q⟩;rw[show start Bf [ref p,int h]=[some (.ref p),some (.int h),none,none,none,none]from rfl];(dsimp?[rJ]);refine#[sz0,λa ha=>#[sz1,λt y=>?_]];have M:aT H (upd H a (.tup [])):=aT.upd ha;have P:aT (upd H a (.tup [])) (upd (upd H a (.tup [])) t (.lst [.ref a])):=aT.upd y;have N:=M.trans P;have len:=ch.len;(dsimp?[sO,gD,iE]);refine#[_,.inl (SqL.of (N _ _ I)),by have:=rg.1;lia,by have:=rg.1;lia,?_];rw[rg.1,cA];refine qR (lo:=0) (n:=ks.length) (g:=bA 3) (D:={ nx:=cT (aE 2) (eQ Q),rt:=Q }) (mM p h H ks) #[t,_,none,none,none,rfl,N,aL,by rw[List.take_zero,show wo h ([]:fP)=[] by simp [wo]];exact Ps.one (P _ _ aL)] ?_ ?_
 .rintro i Z Y hi ⟨t,F,O,U,f,rfl,G,hT,R⟩;obtain⟨c,hc⟩:∃c,ks[i]?=some c:=#[_,aD hi];obtain⟨ca,a1,a2⟩:=(rg.same G).2 i c hc;have c6:=ch.le c (aI hc);(dsimp?[nN];try simp_arith[nN,eX])
  by_cases e:i=h
  .rw[aF (by simp [e])];refine#[t,F,_,_,_,rfl,G,hT,?_];rw[Gj hc,aK e];exact R
  rw[aK (by simp;lia)];refine#[sz0,λg hg=>?_];have B:aT Y (upd Y g (.lst [])):=aT.upd hg;have w3:(wo h (ks.take i)).length<=2/\∀d∈wo h (ks.take i),d.length<=6:=by
   refine#[?_,λd hd=>ch.le d (mem_of_mem_take (Na hd))];unfold wo;rw[bK,cN,iU,cN];lia
  have a3:Ch (wo h (ks.take i)).reverse:=Ch.rev #[#[],w3.2];have l:(fW (wo h (ks.take i)).reverse).length<=36:=cI a3.many (cI (eE (j:=2) (by decide) (by rw[cM];lia)) (by decide));have el:F.length=(fW (wo h (ks.take i)).reverse).length:=R.1;(dsimp?[sP,gD,cU]);refine#[#[_,SqL.of (B _ _ hT)],iA (K:=K) (a:=t) (xs:=F) (g:=bA 5) (D:={ nx:=nK K { nx:=mM p h H ks (i+1),rt:=Q,bk:=cT (aE 2) (eQ Q),ct:=mM p h H ks (i+1) },rt:=Q,bk:=cT (aE 2) (eQ Q),ct:=mM p h H ks (i+1) }) (Kg p t h i c Y (fW (wo h (ks.take i)).reverse)) #[g,[],_,rfl,B,aL,Ps.nil] ?_ ?_ ?_]
  .rintro j Z H4 _ ⟨_,_,_,_,X,_⟩;exact SqL.of (X _ _ hT)
  .rintro j x Z H4 A ⟨g,v,o4,rfl,X,hG,r⟩;obtain⟨b,a,hb,rfl,ha⟩:=(R.same X).get A;have a5:j<(fW (wo h (ks.take i)).reverse).length:=(aO.mp hb).1;have hy:v.length=j*c.length:=by rw[r.1,Jv,cN];congr 1;lia
   have a0:=X _ _ a2;(dsimp?[sQ,dL,cU,sV]);refine#[_,SqL.of (X _ _ (G _ _ I)),_,fC a1,_,rfl,#[_,SqL.of a0],dR (K:=K) (a:=ca) (xs:=tv c) (λk J u=>aT H4 u/\Ps u J (Fb (c.take k) b)) ?_ #[aT.refl _,Ps.nil] ?_ ?_ ?_]
   .rw[fZ];exact lA #[]
   .rintro k J u _ ⟨T,_⟩;exact SqL.of (T _ _ a0)
   .rintro k x J u hk _ ⟨T,pz⟩;obtain⟨m,hm,rfl⟩:=nB hk;show nL K [some (.int m),some (.ref a)] u _;(dsimp?[nL,pZ]);refine#[sz1,λz hz=>?_];have s:aT u (upd u z (.tup [.int m])):=aT.upd hz;refine#[_,s _ _ (T _ _ ha),_,aL,?_,λp H6 s9 hp=>#[T.trans (s.trans s9),?_]]
    .rw[fZ];have:=nY _ b (aI hb);rw[cM]at this;exact lA (by show _+1<=216;lia)
    .unfold Fb;rw[dJ hm,aX];exact(pz.same (s.trans s9)).app (Ps.one (by rw[hp,jJh];rfl))
   .rintro J u hz ⟨T,pz⟩ p1 C;rw[fZ,bY]at pz;rw[fZ]at hz;have s:aT u (upd u p1 (.lst J)):=aT.upd C;refine#[v,s _ _ (T _ _ hG),J,aL,?_,λw a4=>?_]
    .rw[hy,hz];have:j*c.length+c.length<=216:=by
      have h1:(j+1)*c.length<=36*6:=eP #[] c6;rw[Nat.succ_mul]at h1;exact h1
     exact lA this
    .have s9:=aT.upd (o:=lst (v++J)) a4;refine#[w,_,_,rfl,(X.trans T).trans (s.trans s9),aL,?_];rw[dJ hb,List.flatMap_append,List.flatMap_cons,List.flatMap_nil,cW];exact Ps.app (r.same (T.trans (s.trans s9))) (pz.same (s.trans s9))
  .rintro Z H4 ⟨g,v,o4,rfl,X,hG,r⟩;(dsimp?[nK]);refine#[g,v,_,_,_,rfl,G.trans X,hG,?_];rw[el,bY]at r;rw[Gj hc,aF e,List.reverse_append];exact r
 .rintro Z Y ⟨t,F,O,U,f,rfl,G,hT,R⟩;(dsimp![aE,tC,tOp,rI0,rNe,iN,cT,dB]);rw[bY]at R;exact q t F Y G hT R
def N_l_by:LS:=["_law_rest","_law_hand","_law_choice"]
def Fi(_:aQ):Sp:=λvs H Q _=>∃(a:Addr)(b:List Nat)(h c:Nat),vs=[.ref a,.int h,.int c]/\H a=some (.tup (tv b))/\h<=b.length/\b.length<=100/\∀p O,aT H O->O p=some (.tup (tv (jn b h c)))->Q (.ref p) O
def jJn(K:aQ):TS:=(cT (tOp pZ (tOp pZ (tSl Qv (aE 0) hJ (mD (aE 1))) (iW (aH (aE 2) bG))) (tSl Qv (aE 0) (mD (aE 1)) hJ)))
def rd_l_by{K}:RdS K Fi jJn N_l_by:=by
 rintro j H Q E ⟨a,b,h,c,rfl,ha,S,i,q⟩;rw[show start N_l_by [ref a,int h,int c]=[some (.ref a),some (.int h),some (.int c)]from rfl];(dsimp?[jJn,pZ,Qv]);have m:=sF (tv b) none (some (h:Int));have k:=sF (tv b) (some (h:Int)) none;rw[fZ]at m k;refine#[_,ha,λp1 U M h1=>#[sz1,λw n=>?_]];have P:aT U (upd U w (.tup [.int c])):=aT.upd n;refine#[_,P _ _ h1,_,aL,lA (by show _+1<=216;lia),λg Y N R=>?_];refine#[_,N _ _ (P _ _ (M _ _ ha)),λe d G O=>?_];refine#[_,G _ _ R,_,O,lA (by rw[bK];show _+1+_<=216;lia),λf u B I=>q f u (M.trans (P.trans (N.trans (G.trans B)))) ?_];rw[I,Vb,Gh];unfold jn tv;rw[aX,bV,map_take,List.map_drop,List.append_assoc];rfl
def Ug:LS:=["_law_paper","_law_units_here","_law_kept_here","_law_sizes_here","_law_hand","_law_choice","_law_common","_law_parts","_law_other","_law_rest","_law_earned"]
noncomputable def lsr:fV->Rat
 | []=>0
 |f::t=>va f+lsr t
def Vy{b:fV}:∀{a:fV},lsr (a++b)=lsr a+lsr b
 | []=>by show lsr b=0+lsr b;grind
 |f::t=>by show va f+lsr (t++b)=va f+lsr t+lsr b;rw[Vy];grind
def jYY:∀{a:fV},lsr a.reverse=lsr a
 | []=>rfl
 |f::t=>by rw[List.reverse_cons,Vy,jYY];show lsr t+(va f+0)=va f+lsr t;grind
def Mj{X:Nat->Int×Int}:∀{n:Nat},lsr (ofF n X)=rsm n λi=>va (X i)
 |0=>rfl
 |n+1=>by rw[fD,Vy,Mj];show _+(va (X n)+0)=_+va (X n);grind
def jYX{f g:Int×Int}:∀{l:fV}{c:Nat},l[c]?=some g->lsr (l.set c f)=lsr l-va g+va f
 | [],c,h=>by simp at h
 |x::t,0,h=>by
  obtain rfl:x=g:=by simpa using h
  show va f+lsr t=va x+lsr t-va x+va f;grind
 |x::t,c+1,h=>by
  show va x+lsr (t.set c f)=va x+lsr t-va g+va f;rw[jYX (by simpa using h)];grind
def Ny{n:Nat}:∀{cs:List Nat}{fs:fV},(yS n cs fs).length=n
 | [],_=>bF _ _
 |_::_,[]=>bF _ _
 |c::cs,f::fs=>by show((yS n cs fs).set c f).length=n;rw[length_set,Ny]
def jXv{n:Nat}:∀{cs:List Nat}{fs:fV},cs.Nodup->(∀c∈cs,c<n)->cs.length=fs.length->(∀(j c:Nat) f,cs[j]?=some c->fs[j]?=some f->(yS n cs fs)[c]?=some f)/\(∀y:Nat,y<n->y∉cs->(yS n cs fs)[y]?=some (0,1))/\lsr (yS n cs fs)=lsr fs
 | [],fs,_,_,e=>by
  have:fs=[]:=List.length_eq_zero_iff.mp e.symm;subst this;refine#[λj c f h=>by simp at h,λy hy _=>eU _ hy,?_];show lsr (ofF n λ_=>(0,1))=0;rw[Mj];exact Ob λ_ _=>qH
 |c::cs,[],_,_,e=>by simp at e
 |c::cs,f::fs,nd,lt,e=>by
  obtain⟨i,b⟩:=List.nodup_cons.mp nd;obtain⟨G,P,l⟩:=jXv (n:=n) (cs:=cs) (fs:=fs) b (λx hx=>lt x (bO _ hx)) (by simpa using e);have v:=lt c cB;have cl:c<(yS n cs fs).length:=by rw[Ny];exact v
  refine#[λj d g h1 h2=>?_,λy hy a=>?_,?_]
  .show((yS n cs fs).set c f)[d]?=some g;cases j with
   |zero=>
    obtain rfl:c=d:=by simpa using h1
    obtain rfl:f=g:=by simpa using h2
    exact List.getElem?_set_self cl
   |succ j=>
    have h1:cs[j]?=some d:=by simpa using h1
    have ne:c≠d:=λz=>i (by rw[z];exact aI h1);rw[List.getElem?_set_ne ne];exact G j d g h1 (by simpa using h2)
  .show((yS n cs fs).set c f)[y]?=some (0,1);rw[List.getElem?_set_ne λz=>a (by rw[z];exact cB)];exact P y hy λz=>a (bO _ z)
  .show lsr ((yS n cs fs).set c f)=va f+lsr fs;rw[jYX (P c v i),l,qH];grind
def Yo{l:fV}{n:Nat}(h:l.length=n):l=ofF n λy=>l.getD y (0,1):=by
 refine List.ext_getElem? λj=>?_;by_cases A:j<n
 .rw[eU _ A,aJ,aD #[]];rfl
 .rw[cC #[],cC (by rw[bF];lia)]
structure TlI(K:aQ)(H0 H:Hp)(d p:Addr)(h z:Nat)(ns:List Nat)(ks:fP)(k:List Nat)(nh:Nat)(kv:List (List Key×V))(ad:List Nat->Addr)(un:List Nat->List Int)(xs:List V):Prop where
 U:UD H0 H d kv (gJ ns.reverse) ad un ns.length 204
 hp:H p=some (.lst xs)
 lg:Lg H xs ks
 kp:Kp ns ks
 sz:Sz ns
 hk:ks[h]?=some k
 hn:ns[h]?=some nh
 hz:z∈k
def TlI.same{N:Hp}{d:Addr}{z:Nat}{k:List Nat}{r:Nat}{f:List Nat->Addr}{un:List Nat->List Int}(I:TlI K N H d p h z ns ks k r M f un xs)(s:aT H O):TlI K N O d p h z ns ks k r M f un xs:=#[I.U.same s,s _ _ I.hp,I.lg.same s,I.kp,I.sz,I.hk,I.hn,I.hz]
def uE(un:List Nat->List Int)(b:List Nat)(h y:Nat):Int:=(un (jn b h y)).getD h 0
def Ep(K:aQ):Sp:=λvs H Q _=>∃(o d p s:Addr)(h z:Nat)(N:Hp)(ns:List Nat)(ks:fP)(k:List Nat)(r:Nat)(M:List (List Key×V))(f:List Nat->Addr)(un:List Nat->List Int)(xs:List V)(X:List Addr)(P:Nat->Int×Int),vs=[.ref o,.ref d,.ref p,.ref s,.int h,.int z]/\TlI K N H d p h z ns ks k r M f un xs/\SqL K H s (tv ns)/\H o=some (.lst (map ref X))/\dC K H X (yS r k.reverse (ofF k.length P).reverse)/\(∀i,i<k.length->Fok (P i)/\BB 9000 (P i).2)/\(rsm k.length λi=>va (P i))=1/\
 (∀b∈fW (wo h ks).reverse,((uE un b h z:Int):Rat)<rsm k.length λi=>va (P i)*((uE un b h (k.getD i 0):Int):Rat))/\∀O,aT H O->Q (.bl true) O
def TlI.unit{N:Hp}{d:Addr}{z:Nat}{k:List Nat}{r:Nat}{f:List Nat->Addr}{un:List Nat->List Int}(I:TlI K N H d p h z ns ks k r M f un xs){b:List Nat}{y:Nat}(hb:b∈fW (wo h ks).reverse)(i:y∈k)(s:aT H G):∃l,(∀g,aT G g->∀c,g c=some (.tup (tv (jn b h y)))->Ij g d (.ref c) (some (.ref l))/\SqL K g l (map int (un (jn b h y))))/\atI (map int (un (jn b h y))) (h:Int)=some (.int (uE un b h y))/\BB 204 (uE un b h y)/\h<=b.length/\b.length<=100:=by
 have T:=jJw I.kp hb I.hk i;obtain⟨n,o,_,m,j⟩:=I.U.at_ _ T;have S:h<ks.length:=(aO.mp I.hk).1;have kl:=I.kp.len;have bl:=nY _ b hb;rw[cM]at bl;have e:=jJe (l:=ks) (h:=h) S;have u:=I.sz.len;have hu:h<(un (jn b h y)).length:=#[];refine#[f (jn b h y),λg R c a=>#[.inr #[M,tk (jn b h y),c,.inl (R _ _ (s _ _ I.U.hd)),rfl,by rw[Cl];exact a,n.symm],SqL.of (R _ _ (s _ _ o))],fC (by rw[aZ,aD hu];show some (int _)=some (int (List.getD _ _ _));rw[aJ,aD hu];rfl),j _ (kM hu),#[],#[]]
def jXQ(N:Hp)(pre:St):NS:=λ_ Z Y=>aT N Y/\∃b a,Z=pre++[b,a]
def xH(K:aQ):TS:=(cT (tC (.bl true)))
def Hq(K:aQ):TS:=(fX (dB (tOp rLeI (aE 10) (tOp fO (aE 6) (tOp (fS K) (mZ (aE 1) (cD (Fi K) [] E0 (aH (aE 9) (aH (aE 4) (aH (aE 5) bG))))) (aE 4))))) (cT (tC (.bl false))) eA)
def Hr(K:aQ):TE:=(tOp fO (tOp (fS K) (aE 1) (aE 0)) (tOp (fS K) (mZ (aE 3) (cD (Fi K) [] E0 (aH (aE 4) (aH (aE 2) (aH (aE 0) bG))))) (aE 2)))
def Hs(K:aQ):TS:=(cE (cS (tCB (Ms K) (aH (dL (cU K (tOp (fS K) (aE 2) (aE 4))) [7,4,1,9] (Hr K)) bG)) (bA 10)) (Hq K))
def xG(K:aQ):TS:=(cE (gD (cU K (cD (mL K) [] E0 (aH (aE 2) (aH (aE 4) bG)))) (bA 9) (Hs K)) (xH K))
def xI(K:aQ):TS:=(fX (Ih (dB (tOp (rIn K true) (aE 8) (tOp (fS K) (aE 2) (aE 4)))) (dB (tOp rNe (tOp (fS K) (aE 7) (aE 8)) (tC (.int 0))))) (cT (tC (.bl false))) eA)
def Ho(K:aQ):TS:=(cE (gD (iE (aH (tOp (fS K) (aE 3) (aE 4)) bG)) (bA 8) (xI K)) (xG K))
def Bw(K:aQ):TS:=(cE (cS (cD (mH K) [] E0 (aH (aE 0) (aH (tOp (fS K) (aE 3) (aE 4)) bG))) (jV K 2 (eL (bA 6) (eL (bA 7) jW)))) (cE (fX (dB (tOp rEq (aE 6) (tC (.int 0)))) (cT (tC (.bl false))) eA) (Ho K)))
def jZl{K}:RdS K Ep Bw Ug:=by
 rintro vs H Q E ⟨o,d,p,s,h,z,N,ns,ks,k,nh,kv,f,un,F,X,P,rfl,I,hs,ho,hf,pok,p1,gt,q⟩;rw[show start Ug [ref o,ref d,ref p,ref s,int h,int z]=[some (.ref o),some (.ref d),some (.ref p),some (.ref s),some (.int h),some (.int z),none,none,none,none,none]from rfl];have kl:=I.kp.lt h k nh I.hk I.hn;have b0:=I.kp.nd k (aI I.hk);have n6:=I.sz.le nh (aI I.hn);have an:atI (tv ns) (h:Int)=some (.int nh):=fC (Mu I.hn);have b3:k.reverse.Nodup:=List.pairwise_reverse.mpr (b0.imp λh=>h.symm);obtain⟨a1,a2,a3⟩:=jXv (n:=nh) (cs:=k.reverse) (fs:=(ofF k.length P).reverse) b3 (λc hc=>kl.2 c (List.mem_reverse.mp hc)) (by rw[cM,cM,bF]);rw[jYY,Mj,p1]at a3;have sl:=Ny (n:=nh) (cs:=k.reverse) (fs:=(ofF k.length P).reverse);have aP:∀(i y:Nat),k[i]?=some y->(yS nh k.reverse (ofF k.length P).reverse)[y]?=some (P i):=λi y ei=>by
  have il:=(aO.mp ei).1;refine a1 (k.length-1-i) y (P i) ?_ ?_
  .rw[List.getElem?_reverse #[],show k.length-1-(k.length-1-i)=i by lia];exact ei
  .rw[List.getElem?_reverse (by rw[bF];lia),bF,show k.length-1-(k.length-1-i)=i by lia];exact eU _ il
 have a2:∀y:Nat,y<nh->y∉k->(yS nh k.reverse (ofF k.length P).reverse)[y]?=some (0,1):=λy hy ny=>a2 y hy λm=>ny (List.mem_reverse.mp m);generalize yS nh k.reverse (ofF k.length P).reverse=sp at hf a2 a3 sl aP;rw[Yo sl,Mj]at a3;rw[Yo sl]at hf;have fk:∀y,y<nh->Fok (sp.getD y (0,1))/\BB 9000 (sp.getD y (0,1)).2:=λy hy=>by
  by_cases m:y∈k
  .obtain⟨i,ei⟩:=dA m;rw[aJ,aP i y ei];exact pok i (aO.mp ei).1
  .rw[aJ,a2 y hy m];exact#[#[by decide,by decide,by decide],by show(1:Int).natAbs<2^9000;exact Nat.one_lt_two_pow (by decide)]
 (dsimp?[Bw];try simp_arith[Bw,mH])
 refine#[_,hs,_,an,X,nh,rfl,ho,_,hf,fk,#[],a3,λC w cl pt U M C0 bC a9 b4 a0=>#[_,SqT.of b4,rfl,_,_,rfl,_,_,rfl,rfl,rfl,?_]];rw[aF (λe=>by injection e with e;lia)];have O:=I.same M;obtain⟨ka,b5,a5⟩:=O.lg.2 h k I.hk;have ap:atI F (h:Int)=some (.ref ka):=fC b5;have ac:∀y,y<nh->atI (map int (ofF nh w)) (y:Int)=some (.int (w y)):=λy hy=>fC (by rw[aZ,eU _ hy];rfl);(dsimp?[Ho,gD,iE]);refine#[_,M.seq hs,_,an,_,rfl,#[],#[],?_];rw[cA];refine qR (lo:=0) (n:=nh) (g:=bA 8) (D:={ nx:=xG K (eQ Q),rt:=Q }) (SEq U λ_ Z=>∃o8,Z=[some (.ref o),some (.ref d),some (.ref p),some (.ref s),some (.int h),some (.int z),some (.int C),some (.ref cl),o8,none,none]) #[rfl,none,rfl] ?_ ?_
 .rintro y Z Y hy ⟨rfl,o8,rfl⟩;(dsimp?[xI,rIn];try simp_arith[xI,rIn,eX])
  refine#[_,SqL.of O.hp,_,ap,_,rfl,_,.inl (SqL.of a5),rfl,jYi k,?_];rw[aK trivial];by_cases m:y∈k
  .rw[jJy.mpr #[y,m,rfl],aF (by simp),aF bT];exact#[rfl,_,rfl]
  .rw[show inV (.int (y:Int)) (tv k)=false from Bool.eq_false_iff.mpr λt=>m (by obtain⟨x,hx,e⟩:=jJy.mp t;rw[show y=x by lia];exact hx),aK (by decide)];refine#[_,SqL.of a9,_,ac y hy,rfl,?_];have e0:((w y:Int):Rat)=((0:Int):Rat):=by
    rw[(a0 y hy).1,aJ,a2 y hy m];show va (0,1)*_=_;rw[qH,Rat.zero_mul];rfl
   rw[show w y=0 from Rat.intCast_inj.mp e0,aF (by simp)];exact#[rfl,_,rfl]
 .rintro Z Y ⟨rfl,o8,rfl⟩;(dsimp?[xG,gD,cU]);have S:h<ks.length:=(aO.mp I.hk).1;refine#[p,h,F,ks,rfl,O.hp,O.lg,I.kp.ch I.sz,S,λr v H4 G hr R=>#[r,rfl,#[_,SqL.of hr],?_]];refine iA (K:=K) (a:=r) (xs:=v) (g:=bA 9) (D:={ nx:=xH K (eQ Q),rt:=Q }) (jXQ H4 [some (.ref o),some (.ref d),some (.ref p),some (.ref s),some (.int h),some (.int z),some (.int C),some (.ref cl),o8]) #[aT.refl _,none,none,rfl] ?_ ?_ ?_
  .rintro i Z u _ ⟨B,_⟩;exact SqL.of (B _ _ hr)
  .rintro j x Z u A ⟨B,o9,b6,rfl⟩;obtain⟨b,a,hb,rfl,ha⟩:=(R.same B).get A;have a6:=aI hb;have a4:=G.trans B;have I5:=O.same a4;(dsimp?[Hs,dL,cU,Ms,Lca,Lna]);refine#[_,SqL.of I5.hp,_,ap,_,rfl,#[_,SqL.of (a4 _ _ a5)],dR (K:=K) (a:=ka) (xs:=tv k) (λi J H6=>aT u H6/\J=map int (ofF i λi=>w (k.getD i 0)*uE un b h (k.getD i 0))) (by rw[fZ];exact lA #[]) #[aT.refl _,rfl] ?_ ?_ ?_]
   .rintro i J H6 _ ⟨s6,_⟩;exact SqL.of (s6 _ _ (a4 _ _ a5))
   .rintro i x J H6 hx _ ⟨s6,rfl⟩;obtain⟨y,hy,rfl⟩:=nB hx;have yk:=aI hy;(dsimp?[Hr,cY,bV,cX,bI,mZ]);obtain⟨ul,ud,ua,ub,b1,b2⟩:=I5.unit a6 yk s6;have a7:=kl.2 y yk;refine#[_,SqL.of (s6 _ _ (a4 _ _ a9)),_,ac y a7,a,b,h,y,rfl,s6 _ _ ha,b1,b2,λpa H7 T a8=>?_];obtain⟨dg,su⟩:=ud H7 T pa a8;refine#[_,dg,_,rfl,_,su,_,ua,_,rfl,_,rfl,.b (m:=1000000) (n:=204) (mS bC (a0 y a7).2.1 (a0 y a7).2.2) ub,s6.trans T,?_];rw[fD,aX,aJ,hy];rfl
   .rintro J H6 _ ⟨s6,rfl⟩ l b7;(dsimp?[Hq,mZ]);have T:=s6.trans (aT.upd (o:=lst (map int (ofF (tv k).length λi=>w (k.getD i 0)*uE un b h (k.getD i 0)))) b7);obtain⟨ul,ud,ua,ub,b1,b2⟩:=I5.unit a6 I.hz T;refine#[_,SqL.of aL,a,b,h,z,rfl,T _ _ ha,b1,b2,λpa H8 s8 a8=>?_];obtain⟨dg,su⟩:=ud H8 s8 pa a8;refine#[_,dg,_,rfl,_,su,_,ua,_,rfl,.b (m:=1000000) (n:=204) bC ub,?_];rw[aF]
    .exact#[B.trans (T.trans s8),_,_,rfl]
    .intro le;rw[fZ,Fn]at le;have g:=gt b a6;have b8:(((sm k.length λi=>w (k.getD i 0)*uE un b h (k.getD i 0):Int)):Rat)<=((C*uE un b h z:Int):Rat):=Rat.intCast_le_intCast.mpr le;rw[Me,eV,gT (g:=λi=>va (P i)*((uE un b h (k.getD i 0):Int):Rat)*(C:Rat)) λi hi=>by
      have ei:=aD hi;have ek:k.getD i 0=k[i]:=by rw[aJ,ei];rfl
      rw[ek,eV,(a0 _ (kl.2 _ (aI ei))).1,aJ,aP i _ ei];show va (P i)*_*_=_;grind,jY]at b8
     have C1:(0:Rat)<C:=Rat.intCast_pos.mpr C0;have:=Rat.mul_lt_mul_of_pos_right g C1;grind
  .rintro Z u ⟨B,o9,b6,rfl⟩;(dsimp?[xH]);exact q u (M.trans (G.trans B))
def Ib:LS:=["_law_paper","_law_units_here","_law_kept_here","_law_hand","_law_choice","_law_among","_law_rest","_law_common","_law_parts","_law_earned","_law_other","_law_each"]
def tQ(K:aQ):Sp:=λvs H Q _=>∃(o d p:Addr)(h z:Nat)(N:Hp)(ns:List Nat)(ks:fP)(k:List Nat)(r:Nat)(M:List (List Key×V))(f:List Nat->Addr)(un:List Nat->List Int)(xs:List V)(m:List Addr)(R:Nat->Int×Int),vs=[.ref o,.ref d,.ref p,.int h,.int z]/\TlI K N H d p h z ns ks k r M f un xs/\H o=some (.dT (((fW (wo h ks).reverse).map tk).zip (map ref m)))/\dC K H m (ofF (fW (wo h ks).reverse).length R)/\(∀j,j<(fW (wo h ks).reverse).length->Fok (R j)/\BB 9000 (R j).2)/\(rsm (fW (wo h ks).reverse).length λj=>va (R j))=1/\
 (∀y∈k,(rsm (fW (wo h ks).reverse).length λj=>va (R j)*((uE un ((fW (wo h ks).reverse).getD j []) h y:Int):Rat))<=rsm (fW (wo h ks).reverse).length λj=>va (R j)*((uE un ((fW (wo h ks).reverse).getD j []) h z:Int):Rat))/\∀O,aT H O->Q (.bl true) O
def Rl(N:Hp)(pre:St)(e:Addr)(w:Nat->Int)(k:List Nat):NS:=λi Z Y=>aT N Y/\∃a b,Z=pre++[some (.ref e),a,b]/\Y e=some (.lst (map int ((k.take i).map w)))
def pU(K:aQ):TS:=(cT (tOp rEq (tCB (Mw K) (aH (aE 9) bG)) (tOp (fS K) (aE 9) (tBM K "list" jJs (tOp (fS K) (aE 2) (aE 3)) (aH (aE 4) bG)))))
def yB(K:aQ):TS:=(mE (tBM K "list" vM (aE 9) (aH (tCB (Ms K) (aH (aE 11) bG)) bG)))
def yH(K:aQ):TE:=(tOp fO (aE 0) (tOp (fS K) (mZ (aE 3) (cD (Fi K) [] E0 (aH (aE 1) (aH (aE 2) (aH (aE 4) bG))))) (aE 2)))
def yD(K:aQ):TG:=(jV K 2 (eL (bA 0) (eL (bA 1) jW)))
def yJ(K:aQ):TS:=(cE (cS (gY (mX K (aH (aE 8) (aH (aE 5) bG))) 2 [3,1,10] (yD K) (yH K)) (bA 11)) (yB K))
def xZ(K:aQ):TS:=(cE (gD (cU K (tOp (fS K) (aE 2) (aE 3))) (bA 10) (yJ K)) (pU K))
def xY(K:aQ):TS:=(cE (cS (mB bG) (bA 9)) (xZ K))
def yG(K:aQ):TE:=(mZ (aE 1) (aE 0))
def pT(K:aQ):TS:=(cE (cS (cD (mH K) [] E0 (aH (dL (cU K (aE 5)) [0] (yG K)) (aH (tCB (iY K) (aH (aE 5) bG)) bG))) (jV K 2 (eL (bA 7) (eL (bA 8) jW)))) (cE (fX (dB (tOp rEq (aE 7) (tC (.int 0)))) (cT (tC (.bl false))) eA) (xY K)))
def yI(K:aQ):TS:=(fX (tOr (zC (tB (tCB (Ul K) (aH (aE 6) (aH (tC (.ty "tuple")) bG))))) (dB (tOp (Vq K 1) (aE 6) (aE 5)))) (cT (tC (.bl false))) eA)
def xX(K:aQ):TS:=(cE (vI (gD (jJz (aE 0)) (bA 6) (yI K))) (pT K))
def xW(K:aQ):TS:=(cE (fX (tOr (zC (tB (tCB cIsD (aH (aE 0) (aH (tC (.ty "dict")) bG))))) (dB (tOp rNe (tCB Xq (aH (aE 0) bG)) (tCB (iY K) (aH (aE 5) bG))))) (cT (tC (.bl false))) eA) (xX K))
def xE(K:aQ):TS:=(cE (cS (cD (mL K) [] E0 (aH (aE 2) (aH (aE 3) bG))) (bA 5)) (xW K))
def jUb{c:Addr}{ns ms:List Int}(h1:H a=some (.tup (map int ns)))(h2:H c=some (.tup (map int ms))):DEq K H 1 (.ref a) (.ref c) (decide (ns=ms)):=by
 by_cases e:a=c
 .subst e;rw[h1]at h2;have C:map int ns=map int ms:=by simpa using h2
  exact .inl (.inl #[rfl,#[_,rfl],decide_eq_true (List.map_inj_right (λx y z=>by cases z;rfl)|>.mp C)])
 .refine .inr #[by simpa using e,a,c,_,_,rfl,rfl,.inr #[SqT.of h1,SqT.of h2,λj=>ns.getD j 0==ms.getD j 0,λj x y ex P=>?_,?_]]
  .obtain⟨S,rfl,e1⟩:=fJ ex;obtain⟨m,rfl,C⟩:=fJ P;exact .inr #[S,m,rfl,rfl,by show(ns.getD j 0==ms.getD j 0)=_;rw[aJ,aJ,e1,C];rfl]
  .rw[aB,aB];exact(Ld ns ms).symm
def Lz(b:List Nat):tv b=map int (b.map λn:Nat=>(n:Int)):=by unfold tv;rw[List.map_map];rfl
def deq_tv{c:Addr}{b d:List Nat}(h1:H a=some (.tup (tv b)))(h2:H c=some (.tup (tv d))):DEq K H 1 (.ref a) (.ref c) (decide (b=d)):=by
 rw[Lz]at h1 h2;have:=jUb (K:=K) h1 h2;rwa [show decide ((b.map λn:Nat=>(n:Int))=d.map λn:Nat=>(n:Int))=decide (b=d)from decide_eq_decide.mpr (List.map_inj_right (λx y z=>by lia))]at this
def Rf{K}:RdS K tQ xE Ib:=by
 rintro vs H Q E ⟨o,d,p,h,z,N,ns,ks,k,nh,kv,ad,un,F,qp,R,rfl,I,ho,hf,b0,r1,le,q⟩;rw[show start Ib [ref o,ref d,ref p,int h,int z]=[some (.ref o),some (.ref d),some (.ref p),some (.int h),some (.int z),none,none,none,none,none,none,none]from rfl];have S:h<ks.length:=(aO.mp I.hk).1;(dsimp?[xE]);refine#[p,h,F,ks,rfl,I.hp,I.lg,I.kp.ch I.sz,S,λr ys U s1 hr ps=>?_];have O:=I.same s1;have a0:=s1 _ _ ho;have a7:=hf.same s1;have b1:(fW (wo h ks).reverse).Nodup:=Es _ λc hc=>I.kp.nd c (Na (List.mem_reverse.mp hc));have bl:(fW (wo h ks).reverse).length<=36:=cI (((I.kp.ch I.sz).wo h).rev).many (cI (eE (j:=2) (by decide) (by have:=jJe (l:=ks) (h:=h) S;have:=(I.kp.ch I.sz).len;rw[cM];lia)) (by decide));have a2:∀{G b y},aT U G->b∈fW (wo h ks).reverse->y∈k->_:=λ{G b y} s hb yk=>O.unit (G:=G) (b:=b) (y:=y) hb yk s;have yl:=ps.1;have fl:=a7.length;rw[bF]at fl;generalize hbs:fW (wo h ks).reverse=bs at a0 a7 b0 r1 le ps b1 bl a2 yl fl;have b2:((bs.map tk).zip (map ref qp)).length=bs.length:=by rw[List.length_zip,aB,aB];lia
 (dsimp?[xW,cIsD,Xq]);refine#[_,a0,?_];rw[aF (by decide)];refine#[_,a0,_,.inl (SqL.of hr),?_];rw[aF (by simp [b2,yl])];have a8:((bs.map tk).zip (map ref qp)).map (·.1)=bs.map tk:=List.map_fst_zip (by rw[aB,aB];lia);have b3:∀(j:Nat) b,bs[j]?=some b->∃a,qp[j]?=some a/\lZ ((bs.map tk).zip (map ref qp)) (tk b)=some (.ref a):=λj b ej=>by
  have jl:=(aO.mp ej).1;have ea:=aD (l:=qp) (i:=j) #[];exact#[_,ea,Ly (by rw[a8];exact wB b1) j (by rw[List.getElem?_zip_eq_some];exact#[by rw[aZ,ej];rfl,by rw[aZ,ea];rfl])]
 generalize (bs.map tk).zip (map ref qp)=kd at a0 b2 a8 b3;(dsimp?[xX,vI,gD,jJz]);intro NF nf;refine#[kd,a0,λob=>?_];have b4:Ps (upd U o (.frz ob (.dT kd))) ys bs:=ps.keep λa F ha=>by rw[cK λz=>by rw[z,a0]at ha;cases ha];exact ha
 refine jUY (a:=o) (ob:=ob) (kvs:=kd) (g:=bA 6) (D:=Xj NF { nx:=pT K (eQ Q),rt:=Q }) (SEq (upd U o (.frz ob (.dT kd))) λ_ Z=>∃o6,Z=[some (.ref o),some (.ref d),some (.ref p),some (.int h),some (.int z),some (.ref r),o6,none,none,none,none,none]) #[rfl,none,rfl] ?_ ?_ ?_
 .rintro i Z Y _ ⟨rfl,_⟩;exact aL
 .rintro i w ka Z Y hw ⟨rfl,o6,rfl⟩ t;(dsimp?[yI,Ul,Vq]);have e1:(kd.map (·.1))[i]?=some w.1:=by rw[aZ,hw];rfl
  rw[a8,aZ]at e1;obtain⟨b,eb,ew⟩:∃b,bs[i]?=some b/\w.1=tk b:=by
   cases e:bs[i]? with
   |none=>rw[e]at e1;cases e1
   |some b=>rw[e]at e1;exact#[b,rfl,(aW e1).symm]
  rw[ew,Cl]at t;refine#[_,SqT.of t,?_];rw[aF (by decide)];have c4:(upd U o (.frz ob (.dT kd))) r=some (.lst ys):=by rw[cK λz=>by rw[z,a0]at hr;cases hr];exact hr
  obtain⟨f,b5⟩:∃f:V->Bool,∀a' b',(upd U o (.frz ob (.dT kd))) a'=some (.tup (tv b'))->f (.ref a')=decide (b'=b):=by
   classical
   refine#[λv=>decide (∃a,v=.ref a/\(upd U o (.frz ob (.dT kd))) a=some (.tup (tv b))),λa' b' a1=>decide_eq_decide.mpr #[?_,?_]]
   .rintro⟨a,e,ha⟩;cases e;rw[a1]at ha;have e2:tv b'=tv b:=by simpa using ha
    rw[Lz,Lz]at e2;exact List.map_inj_right (λx y z=>by lia)|>.mp (List.map_inj_right (λx y z=>by cases z;rfl)|>.mp e2)
   .rintro rfl;exact#[a',rfl,a1]
  refine#[_,SqL.of c4,f,λv hv=>?_,?_]
  .obtain⟨j,A⟩:=dA hv;obtain⟨b',a',_,rfl,a1⟩:=b4.get A;rw[b5 a' b' a1];exact deq_tv (K:=K) a1 t
  .obtain⟨a',c5,a1⟩:=b4.2 i b eb;rw[aF]
   .exact#[rfl,_,rfl]
   .rw[Bool.not_eq_true',Bool.not_eq_false];exact List.any_eq_true.mpr #[.ref a',aI c5,by rw[b5 a' b a1];exact decide_eq_true rfl]
 .rintro Z Y ⟨rfl,o6,rfl⟩;refine#[o,kd,ob,(nf o λo' u z=>by rw[a0]at z;cases z),aL,?_];have hb:upd (upd U o (.frz ob (.dT kd))) o (.dT kd)=U:=by
   funext b
   by_cases e:b=o
   .rw[e,aL,a0]
   .rw[cK e,cK e]
  rw[hb];(dsimp?[pT,dL,cU]);have e4:bs.length<=216:=#[];refine#[#[_,SqL.of hr],dR (K:=K) (a:=r) (xs:=ys) (W:=WEq U λi J=>J=map ref (qp.take i)) (by rw[yl,sizeLine_eq];lia) #[rfl,rfl] ?_ ?_ ?_]
  .rintro i J Y _ ⟨rfl,_⟩;exact SqL.of hr
  .rintro i x J Y hx _ ⟨rfl,rfl⟩;obtain⟨b,a,eb,rfl,ha⟩:=ps.get hx;obtain⟨v,ev,vv⟩:=b3 i b eb;(dsimp?[yG,cY,bV,cX,bI,mZ]);refine#[_,.inr #[kd,tk b,a,.inl a0,rfl,by rw[Cl];exact ha,vv.symm],rfl,?_];show map ref (qp.take i)++[ref v]=map ref (qp.take (i+1));rw[dJ ev,aX];rfl
  rintro J Y _ ⟨rfl,rfl⟩ l c6;rw[yl,←fl,bY];have P:=aT.upd (o:=lst (map ref qp)) c6;refine#[_,.inl (SqL.of (P _ _ hr)),l,qp,bs.length,R,by rw[yl],aL,a7.same P,b0,#[],r1,λC cs cl pt H4 s4 C0 bC c7 c8 a9=>#[pt,rfl,_,SqT.of c8,rfl,_,_,rfl,_,_,rfl,rfl,rfl,?_]];rw[aF (λe=>by injection e with e;lia)];have a3:=P.trans s4;have I4:=O.same a3;obtain⟨ka,c9,t⟩:=I4.lg.2 h k I.hk;have ap:atI F (h:Int)=some (.ref ka):=fC c9;have d1:=a3 _ _ hr;have d2:=ps.same a3;(dsimp?[xY]);refine#[sz0,λe he=>?_];have B:=aT.upd (o:=lst []) he;(dsimp?[xZ,gD,cU]);refine#[_,SqL.of (B _ _ I4.hp),_,ap,_,rfl,#[_,SqL.of (B _ _ t)],iA (K:=K) (a:=ka) (xs:=tv k) (g:=bA 10) (D:={ nx:=pU K (eQ Q),rt:=Q }) (Rl H4 [some (.ref o),some (.ref d),some (.ref p),some (.int h),some (.int z),some (.ref r),o6,some (.int C),some (.ref cl)] e (λy=>sm bs.length λj=>cs j*uE un (bs.getD j []) h y) k) #[B,none,none,rfl,by rw[List.take_zero];exact aL] ?_ ?_ ?_]
  .rintro i Z H5 _ ⟨X,_⟩;exact SqL.of (X _ _ t)
  .rintro i x Z H5 hx ⟨X,d3,d4,rfl,a4⟩;obtain⟨y,hy,rfl⟩:=nB hx;have yk:=aI hy;(dsimp?[yJ,gY,mX,Lca,Lna]);have a5:=X _ _ c7;have b6:=X _ _ d1;refine#[#[_,SqL.of a5],#[_,SqL.of b6],lP (K:=K) (a:=cl) (b:=r) (xs:=map int (ofF bs.length cs)) (ys:=ys) (λj J H6=>aT H5 H6/\J=map int (ofF j λj=>cs j*uE un (bs.getD j []) h y)) ?_ ?_ #[aT.refl _,rfl] ?_ ?_ ?_]
   .rw[aB,bF,sizeLine_eq];lia
   .rw[aB,bF,yl]
   .rintro j J H6 _ ⟨T,_⟩;exact#[SqL.of (T _ _ a5),SqL.of (T _ _ b6)]
   .rintro j x v pp J H6 hx hv _ ⟨T,rfl⟩ b7 os d5;obtain⟨o2,o3,rfl⟩:∃o1 o2,os=[o1,o2]:=by
     match os,d5 with
     | [o1,o2],_=>exact#[o1,o2,rfl]
    obtain⟨b,a,eb,rfl,ha⟩:=(d2.same (X.trans T)).get hv;obtain⟨c,rfl,hc⟩:=fJ hx;have jl:=(aO.mp eb).1;rw[eU _ jl]at hc;obtain rfl:cs j=c:=aW hc;have s8:=T.trans (aT.upd (o:=tup [int (cs j),ref a]) b7);have d6:=aI eb;obtain⟨ul,ud,ua,ub,c1,c2⟩:=a2 (a3.trans (X.trans s8)) d6 yk;have d7:(upd H6 pp (.tup [int (cs j),ref a])) a=some (.tup (tv b)):=aT.upd b7 _ _ ha;(dsimp?[yD,yH,cY,bV,cX,bI,mZ]);refine#[_,SqT.of aL,rfl,_,_,rfl,_,_,rfl,rfl,#[[some (.int (cs j)),some (.ref a)],rfl,rfl],a,b,h,y,rfl,d7,c1,c2,λpa H7 s9 d8=>?_];obtain⟨dg,su⟩:=ud H7 s9 pa d8;refine#[_,dg,_,rfl,_,su,_,ua,_,rfl,_,rfl,.b (m:=1000000) (n:=204) (mS bC (a9 j jl).2.1 (a9 j jl).2.2) ub,s8.trans s9,?_];rw[fD,aX,show bs.getD j []=b by rw[aJ,eb];rfl];rfl
   .rintro J H6 _ ⟨T,rfl⟩ l2 d9;(dsimp?[yB,mE,tBM,vM,Ms]);have s8:=T.trans (aT.upd (o:=lst (map int (ofF (map int (ofF bs.length cs)).length λj=>cs j*uE un (bs.getD j []) h y))) d9);have b8:=s8 _ _ a4;have k6:k.length<=6:=(I.kp.ch I.sz).le k (aI I.hk);refine#[.inl #[rfl,_,SqL.of b8],_,SqL.of aL,_,b8,by rw[aB,aB,cN,sizeLine_eq];lia,(X.trans s8).put he,_,_,rfl,?_];rw[aL,dJ hy,aX,aX,Fn,aB,bF];rfl
  .rintro Z H5 ⟨X,d3,d4,rfl,a4⟩;rw[fZ,bY]at a4;(dsimp?[pU,Mw,tBM,jJs,Lca,Lna]);have e3:=I.kp.nd k (aI I.hk);obtain⟨j0,ej⟩:=dA I.hz;have a6:H5 ka=some (.lst (map int (k.map λn:Nat=>(n:Int)))):=by rw[←Lz];exact X _ _ t
   refine#[_,SqL.of a4,by simpa using I.kp.ne k (aI I.hk),λM hM b9=>#[_,SqL.of (X _ _ I4.hp),_,ap,.inl #[rfl,_,SqL.of a6],ka,rfl,_,a6,j0,by rw[aZ,ej];rfl,λm hm e0=>?_,_,SqL.of a4,_,fC (by rw[aZ,aZ,ej];rfl),rfl,?_]]
   .rw[aZ]at e0;cases e1:k[m]? with
    |none=>rw[e1]at e0;cases e0
    |some c=>
     rw[e1]at e0;have:c=z:=by have:(c:Int)=z:=aW e0;lia
     subst this;have:=(List.getElem?_inj (aO.mp e1).1 e3).mp (e1.trans ej.symm);lia
   .have wz:(sm bs.length λj=>cs j*uE un (bs.getD j []) h z)<=M:=b9 _ (cV.mpr #[z,I.hz,rfl]);obtain⟨y,yk,ey⟩:=cV.mp hM;have c3:∀y,(((sm bs.length λj=>cs j*uE un (bs.getD j []) h y:Int)):Rat)=(rsm bs.length λj=>va (R j)*((uE un (bs.getD j []) h y:Int):Rat))*(C:Rat):=λy=>by
     rw[Me,←jY];exact gT λj A=>by rw[eV,(a9 j A).1];grind
    have C1:(0:Rat)<=C:=Rat.le_of_lt (Rat.intCast_pos.mpr C0);have l2:=eK (le y yk) C1;rw[←c3 y,←c3 z]at l2;have l3:=Rat.intCast_le_intCast.mp l2;have e9:M=sm bs.length λj=>cs j*uE un (bs.getD j []) h z:=#[];rw[e9,decide_eq_true rfl];exact q H5 (s1.trans (a3.trans X))
def Zh:LS:=["_law_found","_law_units_here","_law_kept_here","_law_sizes_here","_law_hand","_law_choice"]
def Bz(K:aQ):Sp:=λvs H Q _=>∃(v d p s:Addr)(h z:Nat)(N:Hp)(ns:List Nat)(ks:fP)(k:List Nat)(r:Nat)(M:List (List Key×V))(f:List Nat->Addr)(un:List Nat->List Int)(xs:List V)(S x y:Int)(P R:Nat->Int×Int),vs=[.ref v,.ref d,.ref p,.ref s,.int h,.int z]/\TlI K N H d p h z ns ks k r M f un xs/\SqL K H s (tv ns)/\0<S/\WgOut K H v (fW (wo h ks).reverse) k r (rwW (λq i=>lo2 ((un q).getD i 0) S) (fW (wo h ks).reverse) h k z) x y P R/\∀O,aT H O->Q (.bl true) O
def Kr(K:aQ):TS:=(cT (xR (tOp rEq (tOp (eZ K) (aE 0) (tC (.int 0))) (tC (.str "belief"))) (cD (tQ K) [] E0 (aH (tOp (eZ K) (aE 0) (tC (.int 1))) (aH (aE 1) (aH (aE 2) (aH (aE 4) (aH (aE 5) bG))))))))
def Ae(K:aQ):TS:=(cE (fX (dB (tOp rEq (tOp (eZ K) (aE 0) (tC (.int 0))) (tC (.str "beaten")))) (cT (cD (Ep K) [] E0 (aH (tOp (eZ K) (aE 0) (tC (.int 1))) (aH (aE 1) (aH (aE 2) (aH (aE 3) (aH (aE 4) (aH (aE 5) bG)))))))) eA) (Kr K))
def Fu(K:aQ):TS:=(cE (fX (tOr (zC (tB (tCB (Ul K) (aH (aE 0) (aH (tC (.ty "tuple")) bG))))) (tOr (dB (tOp rNe (tCB (iY K) (aH (aE 0) bG)) (tC (.int 2)))) (zC (tB (tCB cIsS (aH (tOp (eZ K) (aE 0) (tC (.int 0))) (aH (tC (.ty "str")) bG))))))) (cT (tC (.bl false))) eA) (Ae K))
def rwW_len{bs:fP}{z:Nat}{k:List Nat}:(rwW e bs h k z).length=k.length:=by unfold rwW;rw[aB]
def rwW_rw{bs:fP}{k:List Nat}{z y:Nat}{b:List Nat}(U:k[i]?=some y)(J:bs[j]?=some b):rwF (rwW e bs h k z) i j=fsb (e (jn b h y) h) (e (jn b h z) h):=by
 unfold rwF rwW;rw[aJ (l:=map _ k),aZ,U];show(List.zipWith _ _ _).getD j (0,1)=_;rw[aJ,List.getElem?_zipWith,aZ,aZ,J];rfl
def rwW_at{un:List Nat->List Int}{S:Int}{bs:fP}{k:List Nat}{z y:Nat}{b:List Nat}(S0:0<S)(U:k[i]?=some y)(J:bs[j]?=some b):va (rwF (rwW (λq i=>lo2 ((un q).getD i 0) S) bs h k z) i j)=(((uE un b h y:Int):Rat)-((uE un b h z:Int):Rat))*((S:Rat))⁻¹:=by
 rw[rwW_rw U J];show va (fsb (lo2 (uE un b h y) S) (lo2 (uE un b h z) S))=_;have f:=eO (t:=uE un b h y) S0;have Z:=eO (t:=uE un b h z) S0;rw[show va (fsb (lo2 (uE un b h y) S) (lo2 (uE un b h z) S))=_ from va_sub f.pos Z.pos,show va (lo2 (uE un b h y) S)=_ from Xi S0 f,show va (lo2 (uE un b h z) S)=_ from Xi S0 Z,vL,vL];grind
def jWb{K}:RdS K Bz Fu Zh:=by
 rintro n H Q E ⟨v,d,p,s,h,z,N,ns,ks,k,r,M,f,un,F,S,x,y,P,R,rfl,I,hs,S0,O,q⟩;rw[show start Zh [ref v,ref d,ref p,ref s,int h,int z]=[some (.ref v),some (.ref d),some (.ref p),some (.ref s),some (.int h),some (.int z)]from rfl];have G:=O.G;have pok:=O.pok;rw[rwW_len]at G pok;have l:(0:Rat)<((S:Rat))⁻¹:=Rat.inv_pos.mpr (Rat.intCast_pos.mpr S0);have a:∀i,i<k.length->k[i]?=some (k.getD i 0):=λi hi=>by rw[aJ,aD hi];rfl
 have e:∀j,j<(fW (wo h ks).reverse).length->(fW (wo h ks).reverse)[j]?=some ((fW (wo h ks).reverse).getD j []):=λj A=>by rw[aJ,aD A];rfl
 obtain⟨o,⟨x0,hv,X,D,hf⟩|⟨x0,hv,m,D,hf⟩⟩:=O.ex
 ·(dsimp?[Fu,Ul,cIsS])
  refine#[_,SqT.of hv,?_];rw[aF (by decide)];refine#[_,.inr (SqT.of hv),?_];rw[aF (by simp)];refine#[_,SqT.of hv,_,kP,_,rfl,?_];rw[aF (by decide)];(dsimp?[Ae]);refine#[_,SqT.of hv,_,kP,rfl,?_];rw[aK rfl];refine#[_,SqT.of hv,_,jR,o,d,p,s,h,z,N,ns,ks,k,r,M,f,un,F,X,P,rfl,I,hs,D,hf,pok,G.p1,λb hb=>?_,q];obtain⟨j,J⟩:=dA hb;have lo:=G.lo j (aO.mp J).1;have T:=va_pos (g:=(x,y)) O.y0 x0;rw[gT (g:=λi=>(va (P i)*((uE un b h (k.getD i 0):Int):Rat)+va (P i)*(-((uE un b h z:Int):Rat)))*((S:Rat))⁻¹) λi hi=>by rw[rwW_at S0 (a i hi) J];grind,jY,Fj,jY,G.p1]at lo;have:0<(rsm k.length λi=>va (P i)*((uE un b h (k.getD i 0):Int):Rat))+1*-((uE un b h z:Int):Rat):=by
   refine Rat.lt_of_mul_lt_mul_right (c:=((S:Rat))⁻¹) ?_ (Rat.le_of_lt l);rw[Rat.zero_mul];grind
  grind
 ·(dsimp?[Fu,Ul,cIsS])
  refine#[_,SqT.of hv,?_];rw[aF (by decide)];refine#[_,.inr (SqT.of hv),?_];rw[aF (by simp)];refine#[_,SqT.of hv,_,kP,_,rfl,?_];rw[aF (by decide)];(dsimp?[Ae,Kr]);refine#[_,SqT.of hv,_,kP,rfl,?_];rw[aF (by decide)];refine#[_,SqT.of hv,_,kP,rfl,?_];rw[aK rfl];refine#[_,SqT.of hv,_,jR,o,d,p,h,z,N,ns,ks,k,r,M,f,un,F,m,R,rfl,I,D,hf,O.qok,G.q1,λw hw=>?_,q];obtain⟨i,U⟩:=dA hw;have hi:=G.hi i (aO.mp U).1;have T:va (x,y)<=0:=by rw[←qH];exact(Fd O.y0 (by decide)).mpr (by show x*1<=0*y;lia)
  rw[gT (g:=λj=>(va (R j)*((uE un ((fW (wo h ks).reverse).getD j []) h w:Int):Rat)+va (R j)*((uE un ((fW (wo h ks).reverse).getD j []) h z:Int):Rat)*(-1))*((S:Rat))⁻¹) λj A=>by rw[rwW_at S0 U (e j A)];grind,jY,Fj,jY]at hi;have:(rsm (fW (wo h ks).reverse).length λj=>va (R j)*((uE un ((fW (wo h ks).reverse).getD j []) h w:Int):Rat))+(rsm (fW (wo h ks).reverse).length λj=>va (R j)*((uE un ((fW (wo h ks).reverse).getD j []) h z:Int):Rat))*-1<=0:=by
   refine iI (c:=((S:Rat))⁻¹) ?_ l;rw[Rat.zero_mul];exact Rat.le_trans hi T
  grind
def N_law:LS:=["_law_script","_law_sizes_here","_law_units_here","_law_table_here","_law_kept_here","_law_handed","_law_hand","_law_choice","_law_found","_law_every"]
def Nb(K:aQ):Sp:=λvs H Q _=>∃a ns,vs=[.ref a]/\SqL K H a (map int ns)/\ns.length<=63/\∀O,Q (.bl true) O
def jJx(N:Hp)(pre:St):NS:=λ_ Z Y=>aT N Y/\∃p z a,Z=pre++[p,z,a,none]
def iv_law2(N:Hp)(pre:St):NS:=λ_ Z Y=>aT N Y/\∃z a,Z=pre++[z,a,none]
def Yb(K:aQ):TS:=(cT (cD (Bz K) [] E0 (aH (cD (vT K) [.non] E0 (aH (aE 3) (aH (aE 6) (aH (aE 7) bG)))) (aH (aE 2) (aH (aE 9) (aH (aE 1) (aH (aE 6) (aH (aE 7) bG))))))))
def Ya(K:aQ):TS:=(cE (fX (dB (tOp (rNeD K 1) (aE 5) (aE 4))) (cT (tC (.bl false))) eA) (Yb K))
def Xz(K:aQ):TS:=(cE (cS (tOp gP (cD (dY K) [] E0 (aH (aE 0) (aH (tC (.int 12)) bG))) (tOp (fS K) (aE 1) (aE 6))) (bA 7)) (Ya K))
def Xy(K:aQ):TS:=(cE (cS (tOp gP (cD (dY K) [] E0 (aH (aE 0) (aH (tC (.int 11)) bG))) (tCB (iY K) (aH (aE 1) bG))) (bA 6)) (Xz K))
def Yd(K:aQ):TE:=(zJ (aE 0))
def Fs(K:aQ):TS:=(cE (cS (dL (cU K (aE 1)) [] (Yd K)) (bA 9)) (Xy K))
def Xx(K:aQ):TS:=(fX (zC (tB (cD (Bz K) [] E0 (aH (aE 8) (aH (aE 2) (aH (aE 4) (aH (aE 1) (aH (aE 6) (aH (aE 7) bG))))))))) (cT (tC (.bl false))) eA)
def Ye(K:aQ):TS:=(cE (cS (cD (vT K) [] E0 (aH (aE 3) (aH (aE 6) (aH (aE 7) (aH (aE 5) bG))))) (bA 8)) (Xx K))
def Nt(K:aQ):TS:=(gD (cU K (tOp (fS K) (aE 4) (aE 6))) (bA 7) (Ye K))
def Xw(K:aQ):TS:=(cE (gD (iE (aH (tCB (iY K) (aH (aE 1) bG)) bG)) (bA 6) (Nt K)) (Fs K))
def Yc(K:aQ):TE:=(tCB (sB K) (aH (aE 0) bG))
def Xv(K:aQ):TS:=(cE (cS (dL (cU K (aE 4)) [] (Yc K)) (bA 5)) (Xw K))
def Xu(K:aQ):TS:=(cE (cS (cD (Jp K) [] E0 (aH (aE 0) (aH (aE 1) bG))) (bA 4)) (Xv K))
def Se(K:aQ):TS:=(cE (mE (cD (En K) [] E0 (aH (aE 0) (aH (aE 1) (aH (aE 2) bG))))) (cE (cS (cD (Ek K) [] E0 (aH (aE 2) (aH (aE 1) (aH (tOp (fS K) (mB (aH (tC (.int 12)) (aH (tC (.int 12)) (aH (tC (.int 12)) (aH (tOp hE (tOp zK (tC (.int 10)) (tC (.int 9))) (tC (.int 7))) bG))))) (tOp gP (cD (dY K) [] E0 (aH (aE 0) (aH (tC (.int 13)) bG))) (tC (.int 4)))) bG)))) (bA 3)) (Xu K)))
def Sd(K:aQ):TS:=(cE (cS (cD (Ej K) [] E0 (aH (aE 0) (aH (cD (Em K) [] E0 (aH (aE 1) bG)) (aH (tCB (iY K) (aH (aE 1) bG)) bG)))) (bA 2)) (Se K))
def t_law(K:aQ):TS:=(cE (cS (cD (El K) [] E0 (aH (aE 0) bG)) (bA 1)) (Sd K))
def fsbS{S:Int}(S0:0<S):fsb (lo2 u S) (lo2 v S)=lo2 (u-v) S:=by
 have f:=eO (t:=u) S0;have Z:=eO (t:=v) S0;have y:=eO (t:=u-v) S0;have z:=bL f.pos Z.pos;have h:=eO (t:=(lo2 u S).1*(lo2 v S).2-(lo2 v S).1*(lo2 u S).2) z;have e:(fsb (lo2 u S) (lo2 v S)).1*(lo2 (u-v) S).2=(lo2 (u-v) S).1*(fsb (lo2 u S) (lo2 v S)).2:=by
  have e1:=f.eq;have C:=Z.eq;have T:=y.eq;have l:=h.eq;have g:=y.pos;unfold fsb;generalize (lo2 ((lo2 u S).1*(lo2 v S).2-(lo2 v S).1*(lo2 u S).2) ((lo2 u S).2*(lo2 v S).2))=w at l⊢;generalize lo2 u S=a at*;generalize lo2 v S=b at*;generalize lo2 (u-v) S=c at*;have:(w.1*c.2)*(a.2*b.2)*S=(c.1*w.2)*(a.2*b.2)*S:=by
   have D:(w.1*c.2)*(a.2*b.2)*S=(w.1*(a.2*b.2))*c.2*S:=by grind
   have K:(c.1*w.2)*(a.2*b.2)*S=(c.1*S)*(w.2*(a.2*b.2)):=by grind
   rw[D,K,l,T];have d:(a.1*b.2-b.1*a.2)*w.2*c.2*S=(a.1*S)*(b.2*w.2*c.2)-(b.1*S)*(a.2*w.2*c.2):=by grind
   rw[d,e1,C];grind
  exact dU (show a.2*b.2≠0 by lia) (dU (show S≠0 by lia) this)
 obtain⟨h1,h2⟩:=jZ9 e h.cop y.cop h.pos y.pos;exact Prod.ext h1 h2
def Lg.req{w:Addr}(hp:H p=some (.lst xs))(n:H w=some (.lst ys))(a:Lg H xs ks)(b:Lg H ys ks):REq K H (DEq K H 1) (.ref p) (.ref w) true:=by
 refine#[p,w,_,_,rfl,rfl,.inl #[SqL.of hp,SqL.of n,.inr #[by rw[a.1,b.1],λ_=>true,λj x y hx hy=>?_,by simp]]];have f:j<ks.length:=by rw[←a.1];exact(aO.mp hx).1
 obtain⟨c,e1,h1⟩:=a.2 j _ (aD f);obtain⟨d,C,h2⟩:=b.2 j _ (aD f);rw[hx]at e1;rw[hy]at C;cases e1;cases C;by_cases e:c=d
 .subst e;exact .inl (.inl #[rfl,#[_,rfl],rfl])
 .refine .inr #[λz=>e (by injection z),?_];rw[tv_iv]at h1 h2;exact jVf (SqL.of h1) (SqL.of h2)
def S6.shape{k:List Nat}(s:S6 ns)(kp:Kp ns ks)(hk:ks[h]?=some k):(fW (wo h ks).reverse).length<=24/\(k.length<=4∨(k.length<=6/\(fW (wo h ks).reverse).length<=2)):=by
 have len:=kp.len;have lt:∀(i:Nat) c n,ks[i]?=some c->ns[i]?=some n->c.length<=n:=λi c n e1 C=>(kp.lt i c n e1 C).1;rw[sM];have d:∀{a b:List Nat},ks=[a,b]->(h=0/\k=a/\qV ((wo h ks).reverse.map List.length)=1*b.length)∨(h=1/\k=b/\qV ((wo h ks).reverse.map List.length)=1*a.length):=λ{a b} e=>by
  subst e
  match h,hk with
  |0,hk=>exact .inl #[rfl,by simpa using hk.symm,rfl]
  |1,hk=>exact .inr #[rfl,by simpa using hk.symm,rfl]
  |h+2,hk=>simp at hk
 rcases s with⟨e,hm⟩|⟨e,hm⟩|⟨f,hf,e⟩
 .match ns,e,ks,len with
  | [x,y,w],_,[a,b,c],_=>
   have l:=cI (lt 0 a x rfl rfl) (hm x (by simp)).2;have v:=cI (lt 1 b y rfl rfl) (hm y (by simp)).2;have t:=cI (lt 2 c w rfl rfl) (hm w (by simp)).2
   match h,hk with
   |0,hk=>
    obtain rfl:a=k:=by simpa using hk
    refine#[?_,.inl #[]];show 1*b.length*c.length<=24;exact cI (eP (show 1*b.length<=3 by lia) t) (by decide)
   |1,hk=>
    obtain rfl:b=k:=by simpa using hk
    refine#[?_,.inl #[]];show 1*a.length*c.length<=24;exact cI (eP (show 1*a.length<=3 by lia) t) (by decide)
   |2,hk=>
    obtain rfl:c=k:=by simpa using hk
    refine#[?_,.inl #[]];show 1*a.length*b.length<=24;exact cI (eP (show 1*a.length<=3 by lia) v) (by decide)
   |h+3,hk=>simp at hk
 .match ns,e,ks,len with
  | [x,y],_,[a,b],_=>
   have l:=cI (lt 0 a x rfl rfl) (hm x (by simp)).2;have v:=cI (lt 1 b y rfl rfl) (hm y (by simp)).2;rcases d rfl with⟨_,rfl,e⟩|⟨_,rfl,e⟩<;>rw[e]<;>exact#[#[],.inl #[]]
 .rcases e with rfl |rfl
  .match ks,len with
   | [a,b],_=>
    have l:=lt 0 a 6 rfl rfl;have v:=lt 1 b f rfl rfl;rcases d rfl with⟨_,rfl,e⟩|⟨_,rfl,e⟩<;>rw[e]
    .exact#[#[],.inr #[#[],#[]]]
    .exact#[#[],.inl #[]]
  .match ks,len with
   | [a,b],_=>
    have l:=lt 0 a f rfl rfl;have v:=lt 1 b 6 rfl rfl;rcases d rfl with⟨_,rfl,e⟩|⟨_,rfl,e⟩<;>rw[e]
    .exact#[#[],.inl #[]]
    .exact#[#[],.inr #[#[],#[]]]
def prd_one(kp:Kp ns ks):1<=(fW (wo h ks).reverse).length:=by
 rw[sM];refine Sv _ λs hs=>?_;obtain⟨c,hc,rfl⟩:=cV.mp hs;exact List.length_pos_iff.mpr (kp.ne c (Na (List.mem_reverse.mp hc)))
def numS{un:List Nat->List Int}{S:Int}(S0:0<S)(bS:BB 31 S)(X:S6 ns)(hu:∀q∈gJ ns.reverse,(un q).length=ns.length/\∀u∈un q,BB 204 u){z:Nat}{k:List Nat}(kp:Kp ns ks)(hk:ks[h]?=some k)(hz:z∈k):NumW (rwW (λq i=>lo2 ((un q).getD i 0) S) (fW (wo h ks).reverse) h k z) (fW (wo h ks).reverse).length:=by
 have d:h<ns.length:=by rw[←kp.len];exact(aO.mp hk).1
 have at_:∀y∈k,∀b∈fW (wo h ks).reverse,BB 204 (uE un b h y):=λy hy b hb=>by
  have:=hu _ (jJw kp hb hk hy);exact this.2 _ (kM #[])
 have n:rwW (λq i=>lo2 ((un q).getD i 0) S) (fW (wo h ks).reverse) h k z=lwR S (k.map λy=>(fW (wo h ks).reverse).map λb=>uE un b h y-uE un b h z):=by
  unfold rwW lwR;rw[List.map_map];refine gM λy hy=>?_;show List.zipWith fsb _ _=map _ (map _ _);rw[List.zipWith_map,List.zipWith_self,List.map_map];exact gM λb hb=>by
   show fsb (lo2 (uE un b h y) S) (lo2 (uE un b h z) S)=lo2 (uE un b h y-uE un b h z) S;exact fsbS S0
 obtain⟨n24,c⟩:=X.shape kp hk;have a:Sh5 (k.map λy=>(fW (wo h ks).reverse).map λb=>uE un b h y-uE un b h z) (fW (wo h ks).reverse).length:=by
  refine#[?_,prd_one kp,n24,by rw[aB];exact c,λrow hr=>?_,λrow hr u hu=>?_]
  .rw[aB];exact List.length_pos_iff.mpr (kp.ne k (aI hk))
  .obtain⟨y,_,rfl⟩:=cV.mp hr;rw[aB]
  .obtain⟨y,hy,rfl⟩:=cV.mp hr;obtain⟨b,hb,rfl⟩:=cV.mp hu;have h1:=at_ y hy b hb;have h2:=at_ z hz b hb;unfold BB at*;have K:(2:Nat)^206=2^204*4:=by decide
   rw[K];generalize (2:Nat)^204=W at*;lia
 rw[n];have s:(lwR S (k.map λy=>(fW (wo h ks).reverse).map λb=>uE un b h y-uE un b h z)).length=(lwR S (k.map λy=>(fW (wo h ks).reverse).map λb=>uE un b h y-uE un b h z)).length:=rfl;exact#[a.wor S0 bS,λz mn=>a.wo S0 bS mn]
def rd_law{K}:RdS K Nb t_law N_law:=by
 rintro vs H Q E ⟨a,ns,rfl,I,hn,q⟩;rw[show start N_law [ref a]=[some (.ref a),none,none,none,none,none,none,none,none,none]from rfl];(dsimp?[t_law]);refine#[a,ns,rfl,I,λsl ms H1 M a9 X=>?_];have sz:=X.sz;obtain⟨m2,m3,hm⟩:=X.hm;(dsimp?[Sd]);refine#[sl,ms,rfl,SqL.of a9,sz,λo F j s2 _ ho ps=>#[_,.inl (SqL.of (s2 _ _ a9)),a,ns,o,F,ms,by rw[fZ],(M.trans s2).seq I,ho,ps,X,λd kv f d6 Y N U0=>?_]];(dsimp?[Se,mE]);refine#[j,a,sl,d,ns,ms,kv,f,d6,rfl,(M.trans s2).seq I,SqL.of (s2 _ _ a9),m2,m3,hm,N,U0,λun H4 G U=>?_];have c2:=s2.trans G;have d7:=M.trans c2;have b0:=c2 _ _ a9;have c3:=d7.seq I;refine#[#[by decide,by decide,by decide],by show 4<=sizeLine;decide,λpS c5=>?_];have B:=aT.upd (o:=lst [int 12,int 12,int 12,int (10^Int.toNat 9+7)]) c5;refine#[a,ns,13,rfl,B.seq c3,by decide,_,rfl,by decide,_,SqL.of aL,?_];obtain⟨S,eS,S0,bS⟩:∃S:Int,atI [int 12,int 12,int 12,int (10^Int.toNat 9+7)] (ns.getD (Int.toNat 13) 0%4)=some (.int S)/\0<S/\BB 31 S:=by
  have c4:ns.getD (Int.toNat 13) 0%4=0∨ns.getD (Int.toNat 13) 0%4=1∨ns.getD (Int.toNat 13) 0%4=2∨ns.getD (Int.toNat 13) 0%4=3:=#[];rcases c4 with h |h |h |h<;>rw[h]
  .exact#[_,rfl,by decide,by unfold BB;decide]
  .exact#[_,rfl,by decide,by unfold BB;decide]
  .exact#[_,rfl,by decide,by unfold BB;decide]
  .exact#[_,rfl,by decide,by unfold BB;decide]
 refine#[_,eS,j,d,sl,S,ms,kv,f,un,rfl,S0,bS,SqL.of (B _ _ b0),m2,m3,hm,U.same B,λt H6 c6 T=>?_];have b6:=B.trans c6;have U6:=U.same b6;have b1:=b6 _ _ b0;have c7:=b6.seq c3;clear B c6 c5 eS;(dsimp?[Xu]);refine#[a,sl,ns,ms,rfl,c7,b1,m3,hm,λpk c8 ks C s7 a6 lg kp=>?_];have T7:=T.same s7;have U7:=U6.same s7;have a1:=s7 _ _ b1;have c9:=s7.seq c7;have kl:=kp.len;(dsimp?[Xv,dL,cU]);refine#[#[_,SqL.of a6],dR (K:=K) (a:=pk) (xs:=c8) (λi J H8=>aT C H8/\Lg H8 J (ks.take i)) (by rw[lg.1,sizeLine_eq];lia) #[aT.refl _,Lg.nil] ?_ ?_ ?_]
 .rintro i J H8 _ ⟨s,_⟩;exact SqL.of (s _ _ a6)
 .rintro i x J H8 hx _ ⟨s,lz⟩;obtain⟨c,ca,ec,rfl,d8⟩:=lg.get hx;(dsimp?[Yc,sB,cY,bV,cX,bI]);refine#[_,.inl (SqL.of (s _ _ d8)),λl hl=>#[s.trans (aT.upd hl),?_]];rw[dJ ec];exact(lz.same (aT.upd hl)).snoc aL
 rintro J H8 _ ⟨s,lz⟩ hd d1;rw[lg.1,bY]at lz;have e:=s.trans (aT.upd (o:=lst J) d1);have b7:(upd H8 hd (.lst J)) hd=some (.lst J):=aL;have b8:=lz.same (aT.upd (o:=lst J) d1);generalize upd H8 hd (.lst J)=H9 at e b7 b8;have gd:∀q∈gJ ms.reverse,∀i,i<ms.length->Gd 4000 (lo2 ((un q).getD i 0) S):=λq hq i hi=>by
  have l:=(U.at_ q hq).2.2.2;have lo:=eO (t:=(un q).getD i 0) S0;have b:=lo.bb (l.2 _ (kM #[])) bS;exact#[lo.pos,b.1.mono (by decide),b.2.mono (by decide)]
 have hu:∀q∈gJ ms.reverse,(un q).length=ms.length/\∀u∈un q,BB 204 u:=λq hq=>(U.at_ q hq).2.2.2;(dsimp?[Xw,gD,iE]);refine#[_,.inl (SqL.of (e _ _ a1)),by rw[fZ];lia,by rw[fZ];lia,?_];rw[fZ,cA];refine qR (lo:=0) (n:=ms.length) (g:=bA 6) (D:={ nx:=Fs K (eQ Q),rt:=Q }) (jJx H9 [some (.ref a),some (.ref sl),some (.ref d),some (.ref t),some (.ref pk),some (.ref hd)]) #[aT.refl _,none,none,none,rfl] ?_ ?_
 .rintro h Z d2 hh ⟨a5,o6,o7,o8,rfl⟩;obtain⟨k,hk⟩:∃k,ks[h]?=some k:=#[_,aD #[]];obtain⟨r,a2⟩:∃n,ms[h]?=some n:=#[_,aD hh];obtain⟨ka,d9,d3⟩:=lg.2 h k hk;(dsimp?[Nt,gD,cU,Lca,Lna];try simp_arith[Nt,gD,cU,Lca,Lna,eX])
  have a3:=e.trans a5;refine#[_,SqL.of (a3 _ _ a6),_,fC d9,_,rfl,#[_,SqL.of (a3 _ _ d3)],iA (K:=K) (a:=ka) (xs:=tv k) (g:=bA 7) (D:={ nx:=jJx H9 [some (.ref a),some (.ref sl),some (.ref d),some (.ref t),some (.ref pk),some (.ref hd)] (h+1),rt:=Q,bk:=Fs K (eQ Q),ct:=jJx H9 [some (.ref a),some (.ref sl),some (.ref d),some (.ref t),some (.ref pk),some (.ref hd)] (h+1) }) (iv_law2 H9 [some (.ref a),some (.ref sl),some (.ref d),some (.ref t),some (.ref pk),some (.ref hd),some (.int h)]) #[a5,o7,o8,rfl] ?_ ?_ ?_]
  .rintro i Z a0 _ ⟨A,_⟩;exact SqL.of (A _ _ (e _ _ d3))
  .rintro i x Z a0 hx ⟨A,o7,o8,rfl⟩;obtain⟨z,hz,rfl⟩:=nB hx;have zk:=aI hz;have b2:=e.trans A;(dsimp?[Ye,Lca,Lna]);refine#[t,h,z,.ref hd,ms,_,ks,k,r,rfl,#[T7.same b2,sz,kp,.inr #[hd,J,rfl,A _ _ b7,b8.same A],hk,a2,gd],zk,numS S0 bS X hu kp hk zk,λv x y P R e0 a4 O=>?_];(dsimp?[Xx]);have w:=b2.trans a4;refine#[v,d,pk,sl,h,z,j,ms,ks,k,r,kv,f,un,c8,S,x,y,P,R,rfl,#[U7.same w,w _ _ a6,lg.same w,kp,sz,hk,a2,zk],SqL.of (w _ _ a1),S0,O,λe2 a7=>#[true,rfl,?_]];rw[aF (by decide)];exact#[A.trans (a4.trans a7),_,_,rfl]
  .rintro Z a0 ⟨A,o7,o8,rfl⟩;exact#[A,_,_,_,rfl]
 .rintro Z d2 ⟨a5,o6,o7,o8,rfl⟩;(dsimp?[Fs,dL,cU,Lca,Lna]);have a3:=e.trans a5;have a8:=a3 _ _ a1;refine#[#[_,SqL.of a8],dR (K:=K) (a:=sl) (xs:=tv ms) (λi J a0=>aT d2 a0/\Lg a0 J ((ms.take i).map range)) (by rw[fZ,sizeLine_eq];lia) #[aT.refl _,Lg.nil] ?_ ?_ ?_]
  .rintro i J a0 _ ⟨A,_⟩;exact SqL.of (A _ _ a8)
  .rintro i x J a0 hx _ ⟨A,lz⟩;obtain⟨n,d4,rfl⟩:=nB hx;have n6:=(hm n (aI d4)).2;(dsimp?[Yd,zJ,cY,bV,cX,bI]);exact#[n,rfl,#[],λp hp=>#[A.trans (aT.upd hp),Vz lz d4 hp]]
  rintro es a0 _ ⟨A,le⟩ ev d5;rw[fZ,bY]at le;have a4:=A.trans (aT.upd (o:=lst es) d5);have b3:(upd a0 ev (.lst es)) ev=some (.lst es):=aL;have b4:=le.same (aT.upd (o:=lst es) d5);generalize upd a0 ev (.lst es)=e0 at a4 b3 b4;have w:=a3.trans a4;(dsimp?[Xy]);refine#[a,ns,11,rfl,w.seq c9,by decide,_,.inl (SqL.of (w _ _ a1)),_,rfl,by rw[fZ];lia,?_];have mo:∀(m:Nat)(z:Int),0<m->∃o:Nat,z%(m:Int)=(o:Int)/\o<m:=λm z mI=>by
   have a:=Int.emod_nonneg z (show(m:Int)≠0 by lia);have b:=Int.emod_lt_of_pos z (show(0:Int)<m by lia);exact#[(z%(m:Int)).toNat,#[],#[]]
  obtain⟨h,eh,hl⟩:=mo ms.length (ns.getD (Int.toNat 11) 0) #[];rw[fZ,eh];obtain⟨r,a2⟩:∃n,ms[h]?=some n:=#[_,aD hl];have bn:=hm r (aI a2);(dsimp?[Xz]);refine#[a,ns,12,rfl,w.seq c9,by decide,_,SqL.of (w _ _ a1),_,fC (Mu a2),_,rfl,_,rfl,#[],?_];obtain⟨z,ez,zl⟩:=mo r (ns.getD (Int.toNat 12) 0) #[];rw[ez];(dsimp?[Ya,rNeD]);refine#[true,Lg.req ((a5.trans a4) _ _ b7) (w _ _ a6) (b8.same (a5.trans a4)) (lg.same w),?_];rw[aF (by decide)];have kr:=Kp.range (ns:=ms) λn hn=>(hm n hn).1;have b9:(ms.map range)[h]?=some (range r):=by rw[aZ,a2];rfl
  have zr:=gG.mpr zl;(dsimp?[Yb]);refine#[t,h,z,.non,ms,_,ms.map range,range r,r,rfl,#[T7.same w,sz,kr,.inl #[rfl,rfl],b9,a2,gd],zr,numS S0 bS X hu kr b9 zr,λv x y P R e2 a7 O=>?_];have b5:=w.trans a7;exact#[v,d,ev,sl,h,z,j,ms,ms.map range,range r,r,kv,f,un,es,S,x,y,P,R,rfl,#[U7.same b5,a7 _ _ b3,b4.same a7,kr,sz,b9,a2,zr],SqL.of (b5 _ _ a1),S0,O,λe3 _=>q e3]
def top(i:Nat):Stmt:=PySem.Challenge.pw_mixplay_k32_whole_beaten_or_believed.main.body.getD i (.Pass #[0,0,0,0])
set_option genInjectivity false in
set_option genSizeOf false in
structure Tx(K:aQ)(mg:Str->Option Value):Prop where
 f59:Df K mg "_law_cell_at" (top 59)
 f67:Df K mg "_law_sizes" (top 67)
 f60:Df K mg "_law_block" (top 60)
 f61:Df K mg "_law_mixed" (top 61)
 f70:Df K mg "_law_unit" (top 70)
 f71:Df K mg "_law_units" (top 71)
 f68:Df K mg "_law_play" (top 68)
 f69:Df K mg "_law_order" (top 69)
 f72:Df K mg "_law_with" (top 72)
 f73:Df K mg "_law_meant" (top 73)
 f63:Df K mg "_law_divisor" (top 63)
 f64:Df K mg "_law_lowest" (top 64)
 f18:Df K mg "check_sizes" (top 18)
 f16:Df K mg "one_of_each" (top 16)
 f17:Df K mg "in_order" (top 17)
 f19:Df K mg "check_cells" (top 19)
 f20_0:Mf K "Table" "__init__" "Table.__init__" (kB (top 20) 0)
 f74:Df K mg "_law_table" (top 74)
 f80:Df K mg "_law_kept" (top 80)
 f20_1:Mf K "Table" "sizes" "Table.sizes" (kB (top 20) 1)
 f54:Df K mg "all_kept" (top 54)
 f20_3:Mf K "Table" "earned" "Table.earned" (kB (top 20) 3)
 f21:Df K mg "joined" (top 21)
 f22:Df K mg "earned_with" (top 22)
 f23:Df K mg "earnings" (top 23)
 f48:Df K mg "least_whole" (top 48)
 f49:Df K mg "lift_of" (top 49)
 f7:Df K mg "divisor" (top 7)
 f8:Df K mg "ratio" (top 8)
 f9:Df K mg "plus" (top 9)
 f50:Df K mg "lifted" (top 50)
 f13:Df K mg "below" (top 13)
 f27:Df K mg "cleared" (top 27)
 f25:Df K mg "shared" (top 25)
 f26:Df K mg "plain" (top 26)
 f33:Df K mg "whole" (top 33)
 f11:Df K mg "times" (top 11)
 f37:Df K mg "longest" (top 37)
 f35:Df K mg "column_of" (top 35)
 f36:Df K mg "span" (top 36)
 f34:Df K mg "unit" (top 34)
 f43_0:Mf K "Corner" "__init__" "Corner.__init__" (kB (top 43) 0)
 f38:Df K mg "bits_beyond" (top 38)
 f39:Df K mg "stretched" (top 39)
 f40:Df K mg "shortened" (top 40)
 f41:Df K mg "rounded" (top 41)
 f28:Df K mg "products" (top 28)
 f43_3:Mf K "Corner" "entering" "Corner.entering" (kB (top 43) 3)
 f43_2:Mf K "Corner" "numbers" "Corner.numbers" (kB (top 43) 2)
 f29:Df K mg "is_ahead" (top 29)
 f30:Df K mg "leaving" (top 30)
 f43_4:Mf K "Corner" "leaving_by" "Corner.leaving_by" (kB (top 43) 4)
 f43_1:Mf K "Corner" "bottom" "Corner.bottom" (kB (top 43) 1)
 f43_5:Mf K "Corner" "step_in" "Corner.step_in" (kB (top 43) 5)
 f44:Df K mg "unstopped" (top 44)
 f42:Df K mg "turned_round" (top 42)
 f43_6:Mf K "Corner" "comes_to" "Corner.comes_to" (kB (top 43) 6)
 f43_7:Mf K "Corner" "ends_with" "Corner.ends_with" (kB (top 43) 7)
 f45:Df K mg "last_corner" (top 45)
 f12:Df K mg "over" (top 12)
 f43_8:Mf K "Corner" "spread" "Corner.spread" (kB (top 43) 8)
 f43_9:Mf K "Corner" "xs" "Corner.xs" (kB (top 43) 9)
 f43_11:Mf K "Corner" "ways" "Corner.ways" (kB (top 43) 11)
 f43_10:Mf K "Corner" "ys" "Corner.ys" (kB (top 43) 10)
 f46:Df K mg "best" (top 46)
 f14:Df K mg "summed" (top 14)
 f10:Df K mg "minus" (top 10)
 f51:Df K mg "divided" (top 51)
 f52:Df K mg "worth" (top 52)
 f55:Df K mg "less" (top 55)
 f56:Df K mg "spread" (top 56)
 f57:Dfd K mg "weighed" (top 57)
 f62:Df K mg "_law_whole" (top 62)
 f65:Df K mg "_law_fraction" (top 65)
 f66:Df K mg "_law_parts_of" (top 66)
 f75:Df K mg "_law_kept_rests" (top 75)
 f76:Df K mg "_law_by" (top 76)
 f77:Df K mg "_law_beats" (top 77)
 f78:Df K mg "_law_believes" (top 78)
 f79:Df K mg "_law_told" (top 79)
 n_abs:mg "abs"=none
 n_bool:mg "bool"=none
 n_dict:mg "dict"=none
 n_enumerate:mg "enumerate"=none
 n_int:mg "int"=none
 n_isinstance:mg "isinstance"=none
 n_len:mg "len"=none
 n_list:mg "list"=none
 n_max:mg "max"=none
 n_min:mg "min"=none
 n_range:mg "range"=none
 n_reversed:mg "reversed"=none
 n_str:mg "str"=none
 n_sum:mg "sum"=none
 n_tuple:mg "tuple"=none
 n_zip:mg "zip"=none
 c_Corner:mg "Corner"=some (.ref (eI K "Corner"))
 c_Table:mg "Table"=some (.ref (eI K "Table"))
 mk_Corner:PySem.W.makesIn K (eI K "Corner")=true/\W.keepIn K (.ref (eI K "Corner"))=true
 ct:zB K
 mk_Table:PySem.W.makesIn K (eI K "Table")=true/\W.keepIn K (.ref (eI K "Table"))=true
 tt:TabK K
 g_BITS:∃t,mg "BITS"=some (.int 40 t)
section
variable{P:Program}{w:World}{K:aQ}{mg:Str->Option Value}{base:Heap}
def fY(T:Tx K mg):Ok P w K mg base CX0 1 "_law_cell_at" (dY K):=T.f59.ok λR h=>#[Ai K,Ws h,(aR (fH (cR lB pV (cH cO rfl T.n_len fR (aA pV aN)) (dE _)) (aY (cF (iL pV pV))) dO) (aY (cF aV)))]
def jZy(T:Tx K mg):Ok P w K mg base CX0 2 "_law_sizes" (El K):=T.f67.ok λR h=>#[Bu K,jZg h,(aR (sA R (bQ gS aV (bQ gF (c0 (fY T) R.r (aA pV (aA aV aN))) aV))) (aR (fH (PW.pt (Nc (cR qW pV aV (dE _)) (Fk (cR qW (bQ gF (bQ Bp (c0 (fY T) R.r (aA pV (aA aV aN))) aV) aV) aV (dE _))))) (aR (sA R (bQ gS aV (bQ gF (c0 (fY T) R.r (aA pV (aA aV aN))) aV))) (aY (cF (iL (iK (aA (iK (aA aV (aA pV aN))) (aA (iK (aA pV (aA aV aN))) aN))) (bQ gF (c0 (fY T) R.r (aA pV (aA aV aN))) aV))))) dO) (aY (cF (kA R (gU rfl T.n_range (aA pV aN)) (λ_ _ _ _=>(bQ gS aV (bQ gF (c0 (fY T) R.r (aA pV (aA (bQ gS aV pV) aN))) (bQ mR aV pV)))))))))]
def jZ2(T:Tx K mg):Ok P w K mg base CX0 1 "_law_block" (Eo K):=T.f60.ok λR h=>#[Jd K,jZk h,(aR (sA R aV) (aR (fH (cR lB (bQ gS aV (bQ gF (bQ Bp pV aV) aV)) (cH cO rfl T.n_len fR (aA pV aN)) (dE _)) (aY (sA R (bQ hV (iL pV (bQ gS aV (bQ gF (bQ Bp pV aV) aV))) (bQ Ip aV aV)))) dO) (aR (fA R (gU rfl T.n_range (aA (bQ gF pV aV) aN)) (gN R) (aY (sA R (bQ hV pV aV)))) (aY (cF (bQ gF pV aV))))))]
def jZ0(T:Tx K mg):Ok P w K mg base CX0 2 "_law_mixed" (vV K):=T.f61.ok λR h=>#[Jc K,jZi h,(aR (sA R aV) (aR (fH (cR Cn (cH cO rfl T.n_len fR (aA pV aN)) aV (dE _)) (aY (sA R (iL pV aV))) dO) (aR (fH (cR qW (bQ gF (bQ hV pV (bQ Ip aV aV)) aV) aV (dE _)) (aY (cF (c0 (jZ2 T) R.r (aA pV (aA pV aN))))) dO) (aR (fH (cR Cn (cH cO rfl T.n_len fR (aA pV aN)) aV (dE _)) (aY (sA R (iL pV (bQ gF pV (cH (Tj rfl) rfl T.n_min Nj (aA aV (aA (cH cO rfl T.n_len fR (aA pV aN)) aN))))))) dO) (aR (sA R (bQ gS (bQ gF pV (bQ Ip aV aV)) (bQ eY aV (bQ gS pV aV)))) (aR (sA R (bQ gS (bQ gF (bQ eY pV pV) aV) (bQ eY aV pV))) (aY (cF (bQ gF (bQ eY pV pV) aV)))))))))]
def jWn(T:Tx K mg):Ok P w K mg base CX0 3 "_law_unit" (Jn K):=T.f70.ok λR h=>#[Ft K,jWa h,(aR (sA R (c0 (fY T) R.r (aA pV (aA (bQ gF pV (cH (Tk rfl) rfl T.n_max Iq (aA aV (aA (cH (Tj rfl) rfl T.n_min Nj (aA aV (aA (cH cO rfl T.n_len fR (aA pV aN)) aN))) aN)))) aN)))) (aR (sA R (c0 (jZ0 T) R.r (aA pV (aA pV aN)))) (aR (fH (cR lB pV aV (dE _)) (aY (cF (bQ mR (bQ gF pV aV) aV))) dO) (aR (fH (cR lB pV aV (dE _)) (aY (cF (bQ gF pV aV))) dO) (aR (sA R (iL (iK (aA (bQ Ip aV aV) (aA (bQ Ip aV aV) aN))) (bQ Bp pV aV))) (aY (cF (bQ mR (bQ gF (bQ gS pV pV) (bQ mR (bQ eY aV pV) aV)) (bQ mR pV aV)))))))))]
def jZw(T:Tx K mg):Ok P w K mg base CX0 4 "_law_units" (Ej K):=T.f71.ok λR h=>#[Bt K,jZe h,(aR (sA R (bQ gF (c0 (fY T) R.r (aA pV (aA aV aN))) aV)) (aR (sA R Og) (aR (fA R (gU rfl T.n_range (aA (cH cO rfl T.n_len fR (aA pV aN)) aN)) (gN R) (aY (Vr (rZ R.r) pV (iL pV pV) (kA R (gU rfl T.n_range (aA pV aN)) (λ_ _ _ _=>(c0 (jWn T) R.r (aA pV (aA (bQ gS (bQ eY pV pV) pV) (aA pV aN)))))) rfl))) (aY (cF pV)))))]
def jWo(T:Tx K mg):Ok P w K mg base CX0 1 "_law_play" (Jo K):=T.f68.ok λR h=>#[Nv K,jWc h,(aR (sA R (gE aN)) (aR (fA R (pi_rev rfl T.n_reversed pV) (gN R) (aR (sA R (bQ qJ (gE (aA (bQ gF pV pV) aN)) pV)) (aY (sA R (bQ hV pV pV))))) (aY (cF pV))))]
def jZz(T:Tx K mg):Ok P w K mg base CX0 2 "_law_order" (Em K):=T.f69.ok λR h=>#[Jb K,jZh h,(aR (sA R aV) (aR (fA R (dN pV) (gN R) (aY (sA R (bQ eY pV pV)))) (aY (cF (kA R (gU rfl T.n_range (aA pV aN)) (λ_ _ _ _=>(c0 (jWo T) R.r (aA pV (aA pV aN)))))))))]
def Sy(T:Tx K mg):Ok P w K mg base CX0 1 "_law_with" (uB K):=T.f72.ok λR h=>#[Nu K,jWQ h,(aY (cF (bQ qJ (bQ qJ (jH Bl pV kU (kT pV)) (gE (aA pV aN))) (jH Bl pV (kT (bQ gS pV aV)) kU))))]
def jZ1(T:Tx K mg):Ok P w K mg base CX0 2 "_law_meant" (En K):=T.f73.ok λR h=>#[Bv K,jZj h,(aR (sA R (bQ gF (c0 (fY T) R.r (aA pV (aA aV aN))) (cH cO rfl T.n_len fR (aA pV aN)))) (aR (sA R (bQ gF (c0 (fY T) R.r (aA pV (aA aV aN))) aV)) (aY (fH (cR Cn (iL pV pV) aV (dE _)) (aR (sA R (bQ gF (c0 (fY T) R.r (aA pV (aA aV aN))) (iL pV pV))) (aR (sA R (bQ gF (bQ gS pV aV) (iL pV pV))) (aR (sA R (bQ gF (bQ gS pV aV) (iL pV pV))) (aR (sA R (gE (aA (bQ gS aV (bQ gF pV aV)) (aA (bQ gS aV (bQ gF (bQ Bp pV aV) aV)) aN)))) (aR (Gb (fA R (Oe pV) (gN2 R) (aY (fH (cR rY (iT pV pV) pV (dE _)) (aY (vJ (bQ eY (iL pV pV) (bQ gS (iT pV aV) (iT pV aV))) (Du pV pV qY))) dO)))) (aY (Gb (fA R (Oe pV) (gN2 R) (aY (fH (cR qW (iT pV pV) pV (dE _)) (aR (sA R (bQ eY (iT pV aV) (iL (qI (rZ R.r) pV (c0 (Sy T) R.r (aA pV (aA pV (aA pV aN)))) (λ_ _=>rfl)) pV))) (aR (sA R (bQ gS pV (bQ eY (iT pV aV) (iL (qI (rZ R.r) pV (c0 (Sy T) R.r (aA pV (aA pV (aA pV aN)))) (λ_ _=>rfl)) pV)))) (aY (vJ (bQ mR (bQ gS (bQ hV pV (bQ gS (iT pV aV) (iT pV aV))) (bQ Bp pV aV)) aV) (Du pV pV qY))))) dO)))))))))) dO))))]
def xQ(T:Tx K mg):Ok P w K mg base CX0 1 "_law_divisor" (jK K):=T.f63.ok λR h=>#[Ah K,Wr h,(aR (sA R (cH zY rfl T.n_abs Nk (aA pV aN))) (aR (sA R (cH zY rfl T.n_abs Nk (aA pV aN))) (aR (wA (cR Cn pV aV (dE _)) (aY (ps_par (i:=0) (j:=1) rfl (by rw[R.nn];exact R.nd) rfl rfl (by decide) rfl rfl (aA pV (aA (bQ gF pV pV) aN)) rfl))) (aY (cF pV)))))]
def jJZ(T:Tx K mg):Ok P w K mg base CX0 2 "_law_lowest" (Am K):=T.f64.ok λR h=>#[vS K,Zr h,(aR (sA R (c0 (xQ T) R.r (aA pV (aA pV aN)))) (aY (cF (gE (aA (bQ hV pV pV) (aA (bQ hV pV pV) aN))))))]
def Qn(T:Tx K mg):Ok P w K mg base CX0 1 "check_sizes" (rO K):=T.f18.ok λR h=>#[tH K,Qe h,(aR (fH (PW.pt (qU (cR lB (cH cO rfl T.n_len fR (aA pV aN)) aV (dE _)) (pM (cR Cn (cH cO rfl T.n_len fR (aA pV aN)) aV (dE _))))) (aY nG) dO) (aY (fA R (dN pV) (gN R) (aY (fH (PW.pt (qU (cR lB pV aV (dE _)) (pM (cR Cn pV aV (dE _))))) (aY nG) dO)))))]
def Bc(T:Tx K mg):Ok P w K mg base CX0 1 "one_of_each" (nI K):=T.f16.ok λR h=>#[sZ K,Qa h,(aR (sA R (iK (aA (gE aN) aN))) (aR (fA R (dN pV) (gN R) (aR (sA R (iK aN)) (aR (fA R (dN pV) (gN R) (aY (oQ (Rs PySem.F.plainAttrs_list PySem.F.slot_list_extend PySem.F.type_list_extend jWt pV (aA (kA R (dN pV) (λ_ _ _ _=>(bQ qJ pV (gE (aA pV aN))))) aN))))) (aY (sA R pV))))) (aY (cF pV))))]
def jJY(T:Tx K mg):Ok P w K mg base CX0 2 "in_order" (Ao K):=T.f17.ok λR h=>#[Ed K,Zt h,(aY (cF (c0 (Bc T) R.r (aA (kA R (dN pV) (λ_ _ _ _=>(Fm rfl T.n_list rfl T.n_range rfl pV))) aN))))]
def Qo(T:Tx K mg):Ok P w K mg base CX0 1 "check_cells" (rP K):=T.f19.ok λR h=>#[tI K,Qf h,(aR (fA R (dN pV) (gN R) (aR (fH (pt_cmp (jWi (rZ R.r) pV pV)) (aY nG) dO) (aY (fH (cR rY (cH cO rfl T.n_len fR (aA (qI (rZ R.r) pV pV (λ_ _=>rfl)) aN)) pV (dE _)) (aY nG) dO)))) (aY (fH (cR rY (cH Tl rfl T.n_len fR (aA pV aN)) (cH cO rfl T.n_len fR (aA pV aN)) (dE _)) (aY nG) dO)))]
def Rk(T:Tx K mg):OkM P w K mg base CX0 3 (eI K "Table") "__init__" (tR K):=T.f20_0.ok λR h=>#[xK K,Rg T.tt h,(aR (oQ (c0 (Qn T) R.r (aA pV aN))) (aR (sA R (c0 (jJY T) R.r (aA pV aN))) (aR (oQ (c0 (Qo T) R.r (aA pV (aA pV (aA (cH cO rfl T.n_len fR (aA pV aN)) aN))))) (aR (zQ pV (nZ kD rfl T.n_list qK (aA pV aN)) rfl) (aR (zQ pV Og rfl) (aY (fA R (dN pV) (gN R) (aY (Vr (rZ R.r) (gQ pV rfl) pV (nZ kD rfl T.n_list qK (aA (qI (rZ R.r) pV pV (λ_ _=>rfl)) aN)) rfl)))))))))]
def jZx(T:Tx K mg):Ok P w K mg base CX0 5 "_law_table" (Ek K):=T.f74.ok λR h=>#[Ja K,jZf h,(aR (sA R Og) (aR (Gb (fA R (Oe pV) (gN2 R) (aY (Vr (rZ R.r) pV pV (kA R (dN pV) (λ_ _ _ _=>(c0 (jJZ T) R.r (aA pV (aA pV aN))))) rfl)))) (aY (cF (mk0 T.mk_Table (Rk T) R.r T.c_Table (aA (nZ kD rfl T.n_list qK (aA pV aN)) (aA pV aN)))))))]
def jWp(T:Tx K mg):Ok P w K mg base CX0 2 "_law_kept" (Jp K):=T.f80.ok λR h=>#[Nw K,jWd h,(aR (sA R (iK aN)) (aR (fA R (gU rfl T.n_range (aA (cH cO rfl T.n_len fR (aA pV aN)) aN)) (gN R) (aR (sA R (bQ gF (c0 (fY T) R.r (aA pV (aA (bQ gS aV pV) aN))) aV)) (aR (sKI R (gU rfl T.n_range (aA (iL pV pV) aN)) (λ_ _ _ _=>(cR qW (bQ gF (bQ hV pV (iL (iK (aA aV (aA aV (aA aV (aA aV (aA aV (aA aV aN))))))) pV)) aV) aV (dE _))) (λ_ _ _ _=>pV)) (aR (fH (PW.pt (qU (cR qW (bQ gF pV aV) aV (dE _)) (pM (cR (op_eqD 0 (rZ R.r)) pV (iK aN) (dE _))))) (aY (sA R (Fm rfl T.n_list rfl T.n_range rfl (iL pV pV)))) dO) (aY (oQ (Rs PySem.F.plainAttrs_list PySem.F.slot_list_append PySem.F.type_list_append Ju pV (aA pV aN)))))))) (aY (cF pV))))]
def Bd(T:Tx K mg):OkM P w K mg base CX0 1 (eI K "Table") "sizes" (nJ K):=T.f20_1.ok λR h=>#[tK K,Qh T.tt h,(aY (cF (nZ kD rfl T.n_list qK (aA (gQ pV rfl) aN))))]
def jJW(T:Tx K mg):Ok P w K mg base CX0 2 "all_kept" (Ap K):=T.f54.ok λR h=>#[Ef K,Zx h,(aY (cF (kA R (dN (m0 pV T.tt.cl (Bd T) R.r)) (λ_ _ _ _=>(Fm rfl T.n_list rfl T.n_range rfl pV)))))]
def Ls(T:Tx K mg):OkM P w K mg base CX0 1 (eI K "Table") "earned" (pY K):=T.f20_3.ok λR h=>#[rK K,Lr T.tt h,(aR (fA R (Mh rfl T.n_enumerate (gQ pV rfl)) (gN2 R) (aY (fH (PW.pt (qU (cR lB (iT pV pV) aV (dE _)) (pM (cR op_ge (iT pV pV) pV (dE _))))) (aY nG) dO))) (aY (cF (nZ kD rfl T.n_list qK (aA (qI (rZ R.r) (gQ pV rfl) pV (λ_ _=>rfl)) aN)))))]
def jWq(T:Tx K mg):Ok P w K mg base CX0 1 "joined" (Jq K):=T.f21.ok λR h=>#[Nx K,jWe h,(aY (cF (bQ qJ (bQ qJ (jH Bl pV kU (kT pV)) (gE (aA pV aN))) (jH Bl pV (kT pV) kU))))]
def Qm(T:Tx K mg):Ok P w K mg base CX0 2 "earned_with" (rN K):=T.f22.ok λR h=>#[oS K,Qd h,(aY (cF (iL (m1 pV T.tt.cl (Ls T) R.r (aA (c0 (jWq T) R.r (aA pV (aA pV (aA pV aN)))) aN)) pV)))]
def Kz(T:Tx K mg):Ok P w K mg base CX0 3 "earnings" (sJ K):=T.f23.ok λR h=>#[Ee K,Zu h,(aY (cF (kA R (dN pV) (λ_ _ _ _=>(c0 (Qm T) R.r (aA pV (aA pV (aA pV (aA pV aN)))))))))]
def Qk(T:Tx K mg):Ok P w K mg base CX0 1 "least_whole" (rL K):=T.f48.ok λR h=>#[tD K,Qb h,(aY (cF (cH (Kb rfl) rfl T.n_min Nj (aA (kA R (dN pV) (λ_ _ _ _=>(bQ hV (iT pV aV) (iT pV aV)))) aN))))]
def jZu(T:Tx K mg):Ok P w K mg base CX0 2 "lift_of" (Eh K):=T.f49.ok λR h=>#[Iy K,jZQ h,(aY (cF (gE (aA (bQ mR aV (cH (Kb rfl) rfl T.n_min Nj (aA (kA R (dN pV) (λ_ _ _ _=>(c0 (Qk T) R.r (aA pV aN)))) aN))) (aA aV aN)))))]
def Et(T:Tx K mg):Ok P w K mg base CX0 1 "divisor" (lD K):=T.f7.ok λR h=>#[Je K,jZm h,(aR (sA R (cH zY rfl T.n_abs Nk (aA pV aN))) (aR (sA R (cH zY rfl T.n_abs Nk (aA pV aN))) (aR (wA (cR rY pV aV (dE _)) (aR (sA R (bQ gF pV pV)) (aR (sA R pV) (aY (sA R pV))))) (aY (cF pV)))))]
def qZ(T:Tx K mg):Ok P w K mg base CX0 2 "ratio" (nF K):=T.f8.ok λR h=>#[Ma K,jVj h,(aR (fH (cR qW pV aV (dE _)) (aY nG) dO) (aR (sA R (c0 (Et T) R.r (aA pV (aA pV aN)))) (aR (fH (cR lB pV aV (dE _)) (aY (sA R (nA jX pV))) dO) (aY (cF (gE (aA (bQ hV pV pV) (aA (bQ hV pV pV) aN))))))))]
def jX6(T:Tx K mg):Ok P w K mg base CX0 3 "plus" (Mc K):=T.f9.ok λR h=>#[jJk K,rd_plus h,(aY (cF (c0 (qZ T) R.r (aA (bQ gS (bQ eY (iT pV aV) (iT pV aV)) (bQ eY (iT pV aV) (iT pV aV))) (aA (bQ eY (iT pV aV) (iT pV aV)) aN)))))]
def jWm(T:Tx K mg):Ok P w K mg base CX0 4 "lifted" (Jm K):=T.f50.ok λR h=>#[Nr K,jWU h,(aY (cF (kA R (dN pV) (λ_ _ _ _=>(c0 (jX6 T) R.r (aA pV (aA pV aN)))))))]
def Ym(T:Tx K mg):Ok P w K mg base CX0 1 "below" (Fy K):=T.f13.ok λR h=>#[Vi K,jVm h,(aY (cF (oR lB (bQ eY (iT pV aV) (iT pV aV)) (bQ eY (iT pV aV) (iT pV aV)) (dE _))))]
def jZ4(T:Tx K mg):Ok P w K mg base CX0 2 "cleared" (Er K):=T.f27.ok λR h=>#[Jg K,jZo h,(aR (sA R aV) (aR (fA R (dN pV) (gN R) (aY (sA R (bQ eY pV (bQ hV (iT pV aV) (c0 (Et T) R.r (aA pV (aA (iT pV aV) aN)))))))) (aY (cF (gE (aA pV (aA (kA R (dN pV) (λ_ _ _ _=>(bQ eY (iT pV aV) (bQ hV pV (iT pV aV))))) aN)))))))]
def Sx(T:Tx K mg):Ok P w K mg base CX0 2 "shared" (Bx K):=T.f25.ok λR h=>#[Nq K,jWV h,(aR (sA R aV) (aR (fA R (dN pV) (gN R) (aR (sA R (c0 (Et T) R.r (aA pV (aA pV aN)))) (aY (fH (cR qW pV aV (dE _)) (aY (cF pV)) dO)))) (aY (cF pV))))]
def jVy(T:Tx K mg):Ok P w K mg base CX0 3 "plain" (Oa K):=T.f26.ok λR h=>#[Vg K,jVk h,(aR (sA R (c0 (Sx T) R.r (aA pV aN))) (aR (fH (cR lB pV aV (dE _)) (aY (cF (nZ kD rfl T.n_list qK (aA pV aN)))) dO) (aY (cF (kA R (dN pV) (λ_ _ _ _=>(bQ hV pV pV)))))))]
def Oh(T:Tx K mg):Ok P w K mg base CX0 4 "whole" (zU K):=T.f33.ok λR h=>#[Ve K,jVh h,(aR (sA R (c0 (jZ4 T) R.r (aA pV aN))) (aY (cF (gE (aA (c0 (qZ T) R.r (aA (iT pV aV) (aA (cH (Tk rfl) rfl T.n_max Iq (aA (c0 (Sx T) R.r (aA (iT pV aV) aN)) (aA aV aN))) aN))) (aA (c0 (jVy T) R.r (aA (iT pV aV) aN)) aN))))))]
def Yk(T:Tx K mg):Ok P w K mg base CX0 3 "times" (Fw K):=T.f11.ok λR h=>#[Vf K,jVi h,(aY (cF (c0 (qZ T) R.r (aA (bQ eY (iT pV aV) (iT pV aV)) (aA (bQ eY (iT pV aV) (iT pV aV)) aN)))))]
def Ph(T:Tx K mg):Ok P w K mg base CX0 1 "longest" (vU K):=T.f37.ok λR h=>#[Ix K,jZU h,(aY (cF (cH (Kd rfl) rfl T.n_max Iq (aA (kA R (dN pV) (λ_ _ _ _=>(pe_bm0 PySem.F.plainAttrs_int PySem.F.slot_int_bit_length PySem.F.type_int_bit_length jYJ pV))) aN))))]
def nH(T:Tx K mg):Ok P w K mg base CX0 1 "column_of" (kC K):=T.f35.ok λR h=>#[Aj K,Wt h,(aY (cF (kA R (dN pV) (λ_ _ _ _=>(iL pV pV)))))]
def jX5(T:Tx K mg):Ok P w K mg base CX0 1 "span" (Mb K):=T.f36.ok λR h=>#[jJj K,rd_span h,(aY (cF (bQ gS aV (cH (uD rfl) rfl T.n_sum Ni (aA (kA R (dN pV) (λ_ _ _ _=>(cH zY rfl T.n_abs Nk (aA pV aN)))) aN)))))]
def ok_unit(T:Tx K mg):Ok P w K mg base CX0 1 "unit" (Vl K):=T.f34.ok λR h=>#[jJi K,rd_unit h,(aY (cF (kA R (gU rfl T.n_range (aA pV aN)) (λ_ _ _ _=>(Of (cR qW pV pV (dE _)) aV aV)))))]
def rS(T:Tx K mg):OkM P w K mg base CX0 2 (eI K "Corner") "__init__" (jU K):=T.f43_0.ok λR h=>#[tM K,Qj T.ct h,(aR (zQ pV (kA R (gU rfl T.n_range (aA (bQ mR (cH cO rfl T.n_len fR (aA (iL pV aV) aN)) aV) aN)) (λ_ _ _ _=>(c0 (nH T) R.r (aA pV (aA pV aN))))) rfl) (aR (zQ pV (bQ sX (kA R (dN (gQ pV rfl)) (λ_ _ _ _=>(c0 (jX5 T) R.r (aA (jH sC pV kU (kT (nA jX aV))) aN)))) (kA R (dN (jH sC pV kU (kT (nA jX aV)))) (λ_ _ _ _=>(c0 (jX5 T) R.r (aA (iK (aA aV aN)) aN))))) rfl) (aR (zQ pV (kG R (Mh rfl T.n_enumerate pV) (λ_ _ _ _=>(bQ sX (c0 (ok_unit T) R.r (aA (cH cO rfl T.n_len fR (aA pV aN)) (aA pV aN))) (iK (aA (iL pV (nA jX aV)) aN))))) rfl) (aY (zQ pV (kA R (gU rfl T.n_range (aA (bQ mR (cH cO rfl T.n_len fR (aA pV aN)) aV) aN)) (λ_ _ _ _=>(bQ gS (cH cO rfl T.n_len fR (aA (gQ pV rfl) aN)) pV))) rfl)))))]
def Qp(T:Tx K mg):Ok P w K mg base CX0 1 "bits_beyond" (rQ K):=T.f38.ok λR h=>#[tJ K,Qg h,(aY (cF (pe_maxD rfl rfl T.n_max (aA (jWh (N:=tT) (xs:=["number","long"]) (ys:=[]) (caps:=[]) #[by decide+kernel,rfl,by decide+kernel,by decide+kernel,rfl,by decide+kernel,rfl] R.sc R.nn R.calm (nD rfl T.n_zip (aA pV (aA pV aN))) (λ_ _ _ _=>jJt (n:=2) rfl (tX (oW (i:=0) (by decide+kernel) rfl (by decide+kernel)) (tX (oW (i:=1) (by decide+kernel) rfl (by decide+kernel)) Vs))) (λ_ _ _ _=>(cR rY pV aV (dE _))) (λ_ _ _ _=>(bQ mR (pe_bm0 PySem.F.plainAttrs_int PySem.F.slot_int_bit_length PySem.F.type_int_bit_length jYJ pV) pV))) aN) aV)))]
def Rh(T:Tx K mg):Ok P w K mg base CX0 1 "stretched" (tO K):=T.f39.ok λR h=>#[wE K,Rb h,(aR (fH (cR lB pV aV (dE _)) (aY nG) dO) (aY (cF (Of (cR Cn pV aV (dE _)) (bQ jX3 pV pV) (bQ jX2 pV (nA jX pV))))))]
def Ww(T:Tx K mg):Ok P w K mg base CX0 2 "stretched" (xL K):=T.f39.ok λR h=>#[Ab K,Wp h,(aR (fH (cR lB pV aV (dE _)) (aY (cF (nA jX (c0 (Rh T) R.r (aA (nA jX pV) (aA pV aN)))))) dO) (aY (cF (Of (cR Cn pV aV (dE _)) (bQ jX3 pV pV) (bQ jX2 pV (nA jX pV))))))]
def Wx(T:Tx K mg):Ok P w K mg base CX0 3 "shortened" (xM K):=T.f40.ok λR h=>#[Ad K,Wq h,(aY (cF (kG R (nD rfl T.n_zip (aA pV (aA pV aN))) (λ_ _ _ _=>(c0 (Ww T) R.r (aA pV (aA (bQ mR pV pV) aN)))))))]
def jZt(T:Tx K mg):Ok P w K mg base CX0 4 "rounded" (Eg K):=T.f41.ok λR h=>#[Iw K,jZV h,(aR (sA R (kA R (dN pV) (λ_ _ _ _=>(c0 (Ph T) R.r (aA (jH sC pV kU (kT (nA jX aV))) aN))))) (aR (sA R (kA R (gU rfl T.n_range (aA (cH cO rfl T.n_len fR (aA (iL pV aV) aN)) aN)) (λ_ _ _ _=>(c0 (Qp T) R.r (aA (c0 (nH T) R.r (aA pV (aA pV aN))) (aA pV aN)))))) (aY (cF (kG R (nD rfl T.n_zip (aA pV (aA pV aN))) (λ_ _ _ _=>(c0 (Wx T) R.r (aA pV (aA (bQ mR pV pV) (aA pV aN))))))))))]
def Ky(T:Tx K mg):Ok P w K mg base CX0 1 "products" (sI K):=T.f28.ok λR h=>#[Eb K,Zq h,(aY (cF (cH (uD rfl) rfl T.n_sum Ni (aA (kG R (nD rfl T.n_zip (aA pV (aA pV aN))) (λ_ _ _ _=>(bQ eY pV pV))) aN))))]
def mV(T:Tx K mg):OkM P w K mg base CX0 2 (eI K "Corner") "entering" (jB K):=T.f43_3.ok λR h=>#[nQ K,Ex T.ct h,(aR (sA R (iL (gQ pV rfl) (nA jX aV))) (aR (sA R (bQ sX (kA R (dN (gQ pV rfl)) (λ_ _ _ _=>(c0 (Ky T) R.r (aA pV (aA pV aN))))) (jH sC pV kU (kT (cH cO rfl T.n_len fR (aA (gQ pV rfl) aN)))))) (aR (sA R pN) (aR (fA R (Mh rfl T.n_enumerate pV) (gN2 R) (aY (fH (PW.pt (Nc (cR lB pV aV (dE _)) (Fk (PW.pt (qU (cR Dv pV pN (dE _)) (pM (cR lB (bQ eY pV (iL (gQ pV rfl) pV)) (bQ eY (iL pV pV) (iL (gQ pV rfl) pV)) (dE _)))))))) (aY (sA R pV)) dO))) (aY (cF pV))))))]
def kY(T:Tx K mg):OkM P w K mg base CX0 2 (eI K "Corner") "numbers" (iG K):=T.f43_2.ok λR h=>#[oO K,Ig T.ct h,(aR (fH (cR lB pV (cH cO rfl T.n_len fR (aA (gQ pV rfl) aN)) (dE _)) (aY (cF (kA R (dN (gQ pV rfl)) (λ_ _ _ _=>(c0 (Ky T) R.r (aA (iL (gQ pV rfl) pV) (aA pV aN))))))) dO) (aY (cF (c0 (nH T) R.r (aA (gQ pV rfl) (aA (bQ mR pV (cH cO rfl T.n_len fR (aA (gQ pV rfl) aN))) aN))))))]
def jJX(T:Tx K mg):Ok P w K mg base CX0 1 "is_ahead" (An K):=T.f29.ok λR h=>#[Ec K,Zs h,(aR (fA R (dN pV) (gN R) (aR (sA R (bQ eY (iL pV pV) (iL pV pV))) (aR (sA R (bQ eY (iL pV pV) (iL pV pV))) (aY (fH (cR rY pV pV (dE _)) (aY (cF (oR lB pV pV (dE _)))) dO))))) (aY (cF tW)))]
def jZv(T:Tx K mg):Ok P w K mg base CX0 2 "leaving" (Ei K):=T.f30.ok λR h=>#[Iz K,jZa h,(aR (sA R pN) (aR (fA R (Mh rfl T.n_enumerate pV) (gN2 R) (aY (fH (PW.pt (Nc (cR Cn (iL pV pV) aV (dE _)) (Fk (PW.pt (qU (cR Dv pV pN (dE _)) (pM (mP (c0 (jJX T) R.r (aA pV (aA (iL pV pV) (aA pV (aA pV aN)))))))))))) (aY (sA R pV)) dO))) (aY (cF pV))))]
def pK(T:Tx K mg):OkM P w K mg base CX0 3 (eI K "Corner") "leaving_by" (jM K):=T.f43_4.ok λR h=>#[lX K,Bh T.ct h,(aR (sG R (nD rfl T.n_zip (aA (gQ pV rfl) (aA pV aN))) (λ_ _ _ _=>(bQ sX pV (iK (aA pV aN))))) (aR (sA R (cH cO rfl T.n_len fR (aA (gQ pV rfl) aN))) (aY (cF (c0 (jZv T) R.r (aA pV (aA (bQ gS pV aV) (aA (bQ sX (iK (aA (bQ gS pV aV) aN)) (Fm rfl T.n_list rfl T.n_range rfl pV)) aN))))))))]
def lR(T:Tx K mg):OkM P w K mg base CX0 1 (eI K "Corner") "bottom" (iX K):=T.f43_1.ok λR h=>#[pX K,Kf T.ct h,(aY (cF (iL (iL (gQ pV rfl) (nA jX aV)) (nA jX aV))))]
def sS(T:Tx K mg):OkM P w K mg base CX0 2 (eI K "Corner") "step_in" (kX K):=T.f43_5.ok λR h=>#[oN K,Ie T.ct h,(aR (sA R (m0 pV T.ct.cl (lR T) R.r)) (aR (sA R (iL (gQ pV rfl) pV)) (aR (sA R (iK aN)) (aR (fA R (nD rfl T.n_zip (aA (gQ pV rfl) (aA pV aN))) (gN2 R) (aY (oQ (Rs PySem.F.plainAttrs_list PySem.F.slot_list_append PySem.F.type_list_append Ju pV (aA (kG R (nD rfl T.n_zip (aA pV (aA pV aN))) (λ_ _ _ _=>(bQ hV (bQ mR (bQ eY pV (iL pV pV)) (bQ eY pV pV)) pV))) aN))))) (aR (vJ pV (Du pV pV qY)) (aR (zQ pV pV rfl) (aY (vJ pV (Du (gQ pV rfl) pV qY)))))))))]
def Hx(T:Tx K mg):Ok P w K mg base CX0 4 "unstopped" (qO K):=T.f44.ok λR h=>#[Aa K,Wo h,(aR (sA R (m0 pV T.ct.cl (mV T) R.r)) (aR (wA (cR jX4 pV pN (dE _)) (aR (sA R (m1 pV T.ct.cl (kY T) R.r (aA pV aN))) (aR (sA R (m1 pV T.ct.cl (pK T) R.r (aA pV aN))) (aR (fH (cR Dv pV pN (dE _)) (aY (cF pV)) dO) (aR (oQ (m1 pV T.ct.cl (sS T) R.r (aA pV (aA pV (aA pV aN))))) (aY (sA R (m0 pV T.ct.cl (mV T) R.r)))))))) (aY (cF pN))))]
def yM(T:Tx K mg):Ok P w K mg base CX0 1 "turned_round" (mK K):=T.f42.ok λR h=>#[rH K,Lp h,(aY (cF (kA R (dN pV) (λ_ _ _ _=>(nA jX pV)))))]
def Ez(T:Tx K mg):OkM P w K mg base CX0 3 (eI K "Corner") "comes_to" (mU K):=T.f43_6.ok λR h=>#[nR K,Ey T.ct h,(aR (sA R (cH cO rfl T.n_len fR (aA (gQ pV rfl) aN))) (aR (sKI R (gU rfl T.n_range (aA (cH cO rfl T.n_len fR (aA pV aN)) aN)) (λ_ _ _ _=>(cR xP (bQ gS pV pV) pV (by with_unfolding_all rfl))) (λ_ _ _ _=>pV)) (aR (fA R (dN (kI R (dN pV) (λ_ _ _ _=>(cR lB pV pV (dE _))) (λ_ _ _ _=>pV))) (gN R) (aR (sA R (m1 pV T.ct.cl (kY T) R.r (aA pV aN))) (aR (sKI R (dN pV) (λ_ _ _ _=>(cR rY (iL pV pV) aV (dE _))) (λ_ _ _ _=>pV)) (aR (fH (qX (jVo pV (λ_=>rfl))) (aY (cF tW)) dO) (aR (oQ (m1 pV T.ct.cl (sS T) R.r (aA pV (aA pV (aA (iL pV aV) aN))))) (aY (oQ (Rs PySem.F.plainAttrs_list PySem.F.slot_list_remove PySem.F.type_list_remove jWs pV (aA (iL pV aV) aN))))))))) (aR (fH (cR lB (m0 pV T.ct.cl (lR T) R.r) aV (dE _)) (aY (zQ pV (kA R (dN (gQ pV rfl)) (λ_ _ _ _=>(c0 (yM T) R.r (aA pV aN)))) rfl)) dO) (aY (cF (oR op_ge (cH (Kb rfl) rfl T.n_min Nj (aA (c0 (nH T) R.r (aA (jH sC (gQ pV rfl) kU (kT (nA jX aV))) (aA (nA jX aV) aN))) aN)) aV (dE _))))))))]
def Ck(T:Tx K mg):OkM P w K mg base CX0 4 (eI K "Corner") "ends_with" (lY K):=T.f43_7.ok λR h=>#[kE K,Cj T.ct h,(aR (fH (cR Dv pV pN (dE _)) (aY (cF (oR Dv (m0 pV T.ct.cl (mV T) R.r) pN (dE _)))) dO) (aR (sA R (m1 pV T.ct.cl (kY T) R.r (aA pV aN))) (aY (cF (Ux (oR lB (iL pV (nA jX aV)) aV (dE _)) (Uw (oR Dv (m1 pV T.ct.cl (pK T) R.r (aA pV aN)) pN (dE _))))))))]
def Ql(T:Tx K mg):Ok P w K mg base CX0 5 "last_corner" (rM K):=T.f45.ok λR h=>#[tE K,Qc T.ct h,(aR (sA R (jVt rfl T.g_BITS)) (aR (wA (cR lB pV (cH (Kd rfl) rfl T.n_max Iq (aA (kA R (dN pV) (λ_ _ _ _=>(c0 (Ph T) R.r (aA pV aN)))) aN)) (dE _)) (aR (sA R (mk0 T.mk_Corner (rS T) R.r T.c_Corner (aA (c0 (jZt T) R.r (aA pV (aA pV aN))) aN))) (aR (sA R (c0 (Hx T) R.r (aA pV aN))) (aR (sA R (mk0 T.mk_Corner (rS T) R.r T.c_Corner (aA pV aN))) (aR (fH (PW.pt (Nc (mP (m1 pV T.ct.cl (Ez T) R.r (aA (gQ pV rfl) aN))) (Fk (mP (m1 pV T.ct.cl (Ck T) R.r (aA pV aN)))))) (aY (cF (gE (aA pV (aA pV aN))))) dO) (aY (sA R (bQ eY aV pV)))))))) (aR (sA R (mk0 T.mk_Corner (rS T) R.r T.c_Corner (aA pV aN))) (aR (sA R (c0 (Hx T) R.r (aA pV aN))) (aY (cF (gE (aA pV (aA pV aN)))))))))]
def Mi(T:Tx K mg):Ok P w K mg base CX0 3 "over" (Bk K):=T.f12.ok λR h=>#[jJl K,rd_over h,(aY (cF (c0 (qZ T) R.r (aA (bQ eY (iT pV aV) (iT pV aV)) (aA (bQ eY (iT pV aV) (iT pV aV)) aN)))))]
def vD(T:Tx K mg):OkM P w K mg base CX0 3 (eI K "Corner") "spread" (lQ K):=T.f43_8.ok λR h=>#[pW K,Ke T.ct h,(aR (sK R (dN (gQ pV rfl)) (λ_ _ _ _=>(gE (aA aV (aA aV aN))))) (aR (fA R (nD rfl T.n_zip (aA pV (aA (gQ pV rfl) aN))) (gN2 R) (aY (fH (cR lB pV (cH cO rfl T.n_len fR (aA pV aN)) (dE _)) (aY (vJ (c0 (qZ T) R.r (aA pV (aA (m0 pV T.ct.cl (lR T) R.r) aN))) (Du pV pV qY))) dO))) (aY (cF pV))))]
def Wz(T:Tx K mg):OkM P w K mg base CX0 4 (eI K "Corner") "xs" (xO K):=T.f43_9.ok λR h=>#[Al K,Wv T.ct h,(aY (cF (m1 pV T.ct.cl (vD T) R.r (aA (c0 (nH T) R.r (aA (gQ pV rfl) (aA (nA jX aV) aN))) aN))))]
def Qq(T:Tx K mg):OkM P w K mg base CX0 4 (eI K "Corner") "ways" (rR K):=T.f43_11.ok λR h=>#[tL K,Qi T.ct h,(aR (sA R (m1 pV T.ct.cl (vD T) R.r (aA (kA R (dN (m1 pV T.ct.cl (kY T) R.r (aA pV aN))) (λ_ _ _ _=>(nA jX pV))) aN))) (aR (fH (cR lB pV (cH cO rfl T.n_len fR (aA pV aN)) (dE _)) (aY (vJ (gE (aA aV (aA aV aN))) (Du pV pV qY))) dO) (aY (cF pV))))]
def Wy(T:Tx K mg):OkM P w K mg base CX0 3 (eI K "Corner") "ys" (xN K):=T.f43_10.ok λR h=>#[Ak K,Wu T.ct h,(aY (cF (kA R (dN (jH sC (iL (gQ pV rfl) (nA jX aV)) kU (kT (cH cO rfl T.n_len fR (aA (gQ pV rfl) aN))))) (λ_ _ _ _=>(c0 (qZ T) R.r (aA pV (aA (m0 pV T.ct.cl (lR T) R.r) aN)))))))]
def ok_best(T:Tx K mg):Ok P w K mg base CX0 6 "best" (Vn K):=T.f46.ok λR h=>#[jJo K,rd_best h,(aR (fA R (dN pV) (gN R) (aY (fH (mP (c0 (Ym T) R.r (aA pV (aA (gE (aA aV (aA aV aN))) aN)))) (aY nG) dO))) (aR (sK R (dN pV) (λ_ _ _ _=>(c0 (Oh T) R.r (aA pV aN)))) (aR (sA R (c0 (Oh T) R.r (aA (kG R (nD rfl T.n_zip (aA pV (aA pV aN))) (λ_ _ _ _=>(c0 (Yk T) R.r (aA pV (aA (iT pV aV) aN))))) aN))) (aR (sA R (c0 (Oh T) R.r (aA pV aN))) (aR (sG R (nD rfl T.n_zip (aA pV (aA (iT pV aV) aN))) (λ_ _ _ _=>(bQ sX (iT pV aV) (iK (aA pV aN))))) (aR (sA R (c0 (Ql T) R.r (aA (bQ sX pV (iK (aA (bQ sX (c0 (yM T) R.r (aA (iT pV aV) aN)) (iK (aA aV aN))) aN))) aN))) (aR (sK R (dN (m0 (iT pV aV) T.ct.cl (Wz T) R.r)) (λ_ _ _ _=>(c0 (Mi T) R.r (aA pV (aA (iT pV aV) aN))))) (aR (fH (cR jX4 (iT pV aV) pN (dE _)) (aY (cF (gE (aA Il (aA pV (aA (m1 (iT pV aV) T.ct.cl (Qq T) R.r (aA (iT pV aV) aN)) aN)))))) dO) (aY (cF (gE (aA Il (aA pV (aA (kG R (nD rfl T.n_zip (aA (m0 (iT pV aV) T.ct.cl (Wy T) R.r) (aA pV aN))) (λ_ _ _ _=>(c0 (Mi T) R.r (aA (c0 (Yk T) R.r (aA pV (aA (iT pV aV) aN))) (aA (iT pV aV) aN))))) aN))))))))))))))]
def jWk(T:Tx K mg):Ok P w K mg base CX0 4 "summed" (Jk K):=T.f14.ok λR h=>#[Nn K,jWY h,(aR (sA R (gE (aA aV (aA aV aN)))) (aR (fA R (dN pV) (gN R) (aY (sA R (c0 (jX6 T) R.r (aA pV (aA pV aN)))))) (aY (cF pV))))]
def Yl(T:Tx K mg):Ok P w K mg base CX0 3 "minus" (Fx K):=T.f10.ok λR h=>#[Vh K,jVl h,(aY (cF (c0 (qZ T) R.r (aA (bQ mR (bQ eY (iT pV aV) (iT pV aV)) (bQ eY (iT pV aV) (iT pV aV))) (aA (bQ eY (iT pV aV) (iT pV aV)) aN)))))]
def Pj(T:Tx K mg):Ok P w K mg base CX0 4 "divided" (vW K):=T.f51.ok λR h=>#[Jf K,jZn h,(aY (cF (kA R (dN pV) (λ_ _ _ _=>(c0 (Mi T) R.r (aA pV (aA pV aN)))))))]
def jVx(T:Tx K mg):Ok P w K mg base CX0 7 "worth" (Nz K):=T.f52.ok λR h=>#[Vd K,jVg h,(aR (sA R (c0 (jZu T) R.r (aA pV aN))) (aR (sK R (dN pV) (λ_ _ _ _=>(c0 (jWm T) R.r (aA pV (aA pV aN))))) (aR (sA R (c0 (ok_best T) R.r (aA pV (aA (kA R (dN pV) (λ_ _ _ _=>(gE (aA aV (aA aV aN))))) (aA (kA R (dN (iL pV aV)) (λ_ _ _ _=>(gE (aA aV (aA aV aN))))) aN))))) (aR (sA R (c0 (jWk T) R.r (aA (iT pV aV) aN))) (aY (cF (gE (aA (c0 (Yl T) R.r (aA (c0 (Mi T) R.r (aA (gE (aA aV (aA aV aN))) (aA pV aN))) (aA pV aN))) (aA (c0 (Pj T) R.r (aA (iT pV aV) (aA pV aN))) (aA (c0 (Pj T) R.r (aA (iT pV aV) (aA pV aN))) aN))))))))))]
def ok_less(T:Tx K mg):Ok P w K mg base CX0 4 "less" (Vm K):=T.f55.ok λR h=>#[jJm K,rd_less h,(aY (cF (kG R (nD rfl T.n_zip (aA pV (aA pV aN))) (λ_ _ _ _=>(c0 (Yl T) R.r (aA pV (aA pV aN)))))))]
def jWl(T:Tx K mg):Ok P w K mg base CX0 1 "spread" (Jl K):=T.f56.ok λR h=>#[Np K,jWW h,(aR (sK R (gU rfl T.n_range (aA pV aN)) (λ_ _ _ _=>(gE (aA aV (aA aV aN))))) (aR (fA R (nD rfl T.n_zip (aA pV (aA pV aN))) (gN2 R) (aY (vJ pV (Du pV pV qY)))) (aY (cF pV))))]
def Pg(T:Tx K mg):Okd P w K mg base CX0 8 "weighed" (vT K):=T.f57.ok λR h=>#[Iv K,jZW h,(aR (fH (cR Dv pV pN (dE _)) (aY (sA R (c0 (jJW T) R.r (aA pV aN)))) dO) (aR (fH (cR xP pV (iL pV pV) (by with_unfolding_all rfl)) jWf dO) (aR (sA R (c0 (Bc T) R.r (aA (bQ sX (jH sC pV kU (kT pV)) (jH sC pV (kT (bQ gS pV aV)) kU)) aN))) (aR (sA R (c0 (Kz T) R.r (aA pV (aA pV (aA pV (aA pV aN)))))) (aR (sA R (c0 (jVx T) R.r (aA (kA R (dN (iL pV pV)) (λ_ _ _ _=>(c0 (ok_less T) R.r (aA (c0 (Kz T) R.r (aA pV (aA pV (aA pV (aA pV aN))))) (aA pV aN))))) aN))) (aR (fH (mP (c0 (Ym T) R.r (aA (gE (aA aV (aA aV aN))) (aA (iT pV aV) aN)))) (aY (cF (gE (aA Il (aA (c0 (jWl T) R.r (aA (iT pV aV) (aA (iL pV pV) (aA (iL (m0 pV T.tt.cl (Bd T) R.r) pV) aN)))) aN))))) dO) (aY (cF (gE (aA Il (aA (pe_dzip R.r.units rfl T.n_dict rfl T.n_zip rfl (aA pV (aA (iT pV aV) aN))) aN)))))))))))]
def Pi(T:Tx K mg):Ok P w K mg base CX0 1 "_law_whole" (rC K):=T.f62.ok λR h=>#[Br K,jZd h,(aY (cF (Ux (cH Ot rfl T.n_isinstance iV (aA pV (aA (sD rfl T.n_int bt_int rfl) aN))) (Uw (pe_not (cH Ot rfl T.n_isinstance iV (aA pV (aA (sD rfl T.n_bool bt_bool rfl) aN))))))))]
def Ri(T:Tx K mg):Ok P w K mg base CX0 2 "_law_fraction" (tP K):=T.f65.ok λR h=>#[qN K,Re h,(aR (fH (PW.pt (qU (qX (mP (cH Os rfl T.n_isinstance iV (aA pV (aA (sD rfl T.n_tuple Ou rfl) aN))))) (qU (cR rY (cH cO rfl T.n_len fR (aA pV aN)) aV (dE _)) (qU (qX (mP (c0 (Pi T) R.r (aA (iT pV aV) aN)))) (pM (qX (mP (c0 (Pi T) R.r (aA (iT pV aV) aN))))))))) (aY (cF tW)) dO) (aY (cF (Ux (oR Cn (iT pV aV) aV (dE _)) (Uw (oR qW (c0 (xQ T) R.r (aA (iT pV aV) (aA (iT pV aV) aN))) aV (dE _)))))))]
def Cw(T:Tx K mg):Ok P w K mg base CX0 3 "_law_parts_of" (mH K):=T.f66.ok λR h=>#[wQ K,Rc h,(aR (fH (PW.pt (qU (qX (mP (cH jVX rfl T.n_isinstance iV (aA pV (aA (sD rfl T.n_list qK rfl) aN))))) (pM (cR rY (cH cO rfl T.n_len fR (aA pV aN)) pV (dE _))))) (aY (cF (gE (aA aV (aA (iK aN) aN))))) dO) (aR (sA R aV) (aR (fA R (dN pV) (gN R) (aR (fH (PW.pt (qU (qX (mP (c0 (Ri T) R.r (aA pV aN)))) (pM (cR lB (iT pV aV) aV (dE _))))) (aY (cF (gE (aA aV (aA (iK aN) aN))))) dO) (aY (sA R (bQ eY pV (bQ hV (iT pV aV) (c0 (xQ T) R.r (aA pV (aA (iT pV aV) aN))))))))) (aR (sK R (dN pV) (λ_ _ _ _=>(bQ eY (iT pV aV) (bQ hV pV (iT pV aV))))) (aR (fH (cR rY (cH (uD rfl) rfl T.n_sum Ni (aA pV aN)) pV (dE _)) (aY (cF (gE (aA aV (aA (iK aN) aN))))) dO) (aY (cF (gE (aA pV (aA pV aN))))))))))]
def yO(T:Tx K mg):Ok P w K mg base CX0 1 "_law_kept_rests" (mL K):=T.f75.ok λR h=>#[rJ K,Lq h,(aR (sA R (iK (aA (gE aN) aN))) (aR (fA R (gU rfl T.n_range (aA (cH cO rfl T.n_len fR (aA pV aN)) aN)) (gN R) (aY (fH (cR rY pV pV (dE _)) (aR (sA R (iK aN)) (aR (fA R (dN pV) (gN R) (aY (sA R (bQ sX pV (kA R (dN (iL pV pV)) (λ_ _ _ _=>(bQ qJ pV (gE (aA pV aN))))))))) (aY (sA R pV)))) dO))) (aY (cF pV))))]
def Vv(T:Tx K mg):Ok P w K mg base CX0 1 "_law_by" (Fi K):=T.f76.ok λR h=>#[jJn K,rd_l_by h,(aY (cF (bQ qJ (bQ qJ (jH Bl pV kU (kT pV)) (gE (aA pV aN))) (jH Bl pV (kT pV) kU))))]
def jZ3(T:Tx K mg):Ok P w K mg base CX0 4 "_law_beats" (Ep K):=T.f77.ok λR h=>#[Bw K,jZl h,(aR (vJ (c0 (Cw T) R.r (aA pV (aA (iL pV pV) aN))) (gN2 R)) (aR (fH (cR qW pV aV (dE _)) (aY (cF tW)) dO) (aR (fA R (gU rfl T.n_range (aA (iL pV pV) aN)) (gN R) (aY (fH (PW.pt (Nc (cR xP pV (iL pV pV) (by with_unfolding_all rfl)) (Fk (cR rY (iL pV pV) aV (dE _))))) (aY (cF tW)) dO))) (aR (fA R (dN (c0 (yO T) R.r (aA pV (aA pV aN)))) (gN R) (aR (sA R (cH (uD rfl) rfl T.n_sum Ni (aA (kA R (dN (iL pV pV)) (λ_ _ _ _=>(bQ eY (iL pV pV) (iL (qI (rZ R.r) pV (c0 (Vv T) R.r (aA pV (aA pV (aA pV aN)))) (λ_ _=>rfl)) pV)))) aN))) (aY (fH (cR op_le pV (bQ eY pV (iL (qI (rZ R.r) pV (c0 (Vv T) R.r (aA pV (aA pV (aA pV aN)))) (λ_ _=>rfl)) pV)) (dE _)) (aY (cF tW)) dO)))) (aY (cF tW))))))]
def Rj(T:Tx K mg):Ok P w K mg base CX0 4 "_law_believes" (tQ K):=T.f78.ok λR h=>#[xE K,Rf h,(aR (sA R (c0 (yO T) R.r (aA pV (aA pV aN)))) (aR (fH (PW.pt (qU (qX (mP (cH jUf rfl T.n_isinstance iV (aA pV (aA (sD rfl T.n_dict jYs rfl) aN))))) (pM (cR rY (cH Tl rfl T.n_len fR (aA pV aN)) (cH cO rfl T.n_len fR (aA pV aN)) (dE _))))) (aY (cF tW)) dO) (aR (Gb (fA R (jVr pV) (gN R) (aY (fH (PW.pt (qU (qX (mP (cH Os rfl T.n_isinstance iV (aA pV (aA (sD rfl T.n_tuple Ou rfl) aN))))) (pM (cR (jWj 1 (jL (Nat.add_le_add_left (by decide) _) R.r.units)) pV pV (by with_unfolding_all rfl))))) (aY (cF tW)) dO)))) (aR (vJ (c0 (Cw T) R.r (aA (kA R (dN pV) (λ_ _ _ _=>(qI (rZ R.r) pV pV (λ_ _=>rfl)))) (aA (cH cO rfl T.n_len fR (aA pV aN)) aN))) (gN2 R)) (aR (fH (cR qW pV aV (dE _)) (aY (cF tW)) dO) (aR (sA R (iK aN)) (aR (fA R (dN (iL pV pV)) (gN R) (aR (sG R (nD rfl T.n_zip (aA pV (aA pV aN))) (λ_ _ _ _=>(bQ eY pV (iL (qI (rZ R.r) pV (c0 (Vv T) R.r (aA pV (aA pV (aA pV aN)))) (λ_ _=>rfl)) pV)))) (aY (oQ (Rs PySem.F.plainAttrs_list PySem.F.slot_list_append PySem.F.type_list_append Ju pV (aA (cH (uD rfl) rfl T.n_sum Ni (aA pV aN)) aN)))))) (aY (cF (oR qW (cH (Kd rfl) rfl T.n_max Iq (aA pV aN)) (iL pV (Rs PySem.F.plainAttrs_list PySem.F.slot_list_index PySem.F.type_list_index jV1 (iL pV pV) (aA pV aN))) (dE _)))))))))))]
def Ta(T:Tx K mg):Ok P w K mg base CX0 5 "_law_told" (Bz K):=T.f79.ok λR h=>#[Fu K,jWb h,(aR (fH (PW.pt (qU (qX (mP (cH Os rfl T.n_isinstance iV (aA pV (aA (sD rfl T.n_tuple Ou rfl) aN))))) (qU (cR rY (cH cO rfl T.n_len fR (aA pV aN)) aV (dE _)) (pM (qX (mP (cH jUe rfl T.n_isinstance iV (aA (iT pV aV) (aA (sD rfl T.n_str bt_str rfl) aN))))))))) (aY (cF tW)) dO) (aR (fH (cR qW (iT pV aV) Il (dE _)) (aY (cF (c0 (jZ3 T) R.r (aA (iT pV aV) (aA pV (aA pV (aA pV (aA pV (aA pV aN))))))))) dO) (aY (cF (Ux (oR qW (iT pV aV) Il (dE _)) (Uw (c0 (Rj T) R.r (aA (iT pV aV) (aA pV (aA pV (aA pV (aA pV aN))))))))))))]
def law_fn(T:Tx K mg){f:Addr}{fd:FuncData}(F:zA K "law" "law" (top 81) .none f fd):zH P w K mg base CX0 9 f fd ["_law_script"] (Nb K):=F.fn λR h=>#[t_law K,rd_law h,(aR (sA R (c0 (jZy T) R.r (aA pV aN))) (aR (sA R (c0 (jZw T) R.r (aA pV (aA (c0 (jZz T) R.r (aA pV aN)) (aA (cH cO rfl T.n_len fR (aA pV aN)) aN))))) (aR (oQ (c0 (jZ1 T) R.r (aA pV (aA pV (aA pV aN))))) (aR (sA R (c0 (jZx T) R.r (aA pV (aA pV (aA (iL (iK (aA aV (aA aV (aA aV (aA (bQ gS (bQ Ip aV aV) aV) aN))))) (bQ gF (c0 (fY T) R.r (aA pV (aA aV aN))) aV)) aN))))) (aR (sA R (c0 (jWp T) R.r (aA pV (aA pV aN)))) (aR (sK R (dN pV) (λ_ _ _ _=>(nZ kD rfl T.n_list qK (aA pV aN)))) (aR (fA R (gU rfl T.n_range (aA (cH cO rfl T.n_len fR (aA pV aN)) aN)) (gN R) (aY (fA R (dN (iL pV pV)) (gN R) (aR (sA R (c0 (Pg T).ok R.r (aA pV (aA pV (aA pV (aA pV aN)))))) (aY (fH (qX (mP (c0 (Ta T) R.r (aA pV (aA pV (aA pV (aA pV (aA pV (aA pV aN))))))))) (aY (cF tW)) dO)))))) (aR (sK R (dN pV) (λ_ _ _ _=>(Fm rfl T.n_list rfl T.n_range rfl pV))) (aR (sA R (bQ gF (c0 (fY T) R.r (aA pV (aA aV aN))) (cH cO rfl T.n_len fR (aA pV aN)))) (aR (sA R (bQ gF (c0 (fY T) R.r (aA pV (aA aV aN))) (iL pV pV))) (aR (fH (cR (op_neD 1 (jL (Nat.add_le_add_left (by decide) _) R.r.units)) pV pV (dE _)) (aY (cF tW)) dO) (aY (cF (c0 (Ta T) R.r (aA (c1 (Pg T) R.r (aA pV (aA pV (aA pV aN)))) (aA pV (aA pV (aA pV (aA pV (aA pV aN))))))))))))))))))))]
end
def CorK_mk(y:W.nsIn K mainGlobals "Corner"=some (some (.ref C)))(pg:PySem.W.plainGet K C Str.empty=true)(hd:PySem.W.hasDictIn K C=true)(po:PySem.W.plainOver K C=true)(sa:W.findIn K (.ref C) "__setattr__"=some (some (.builtin "object.__setattr__")))(b:W.findIn K (.ref C) "begun"=some none)(c:W.findIn K (.ref C) "spans"=some none)(d:W.findIn K (.ref C) "kept"=some none)(a:W.findIn K (.ref C) "inside"=some none):zB K:=
 #[by rw[nE y];exact#[pg,hd,po,sa],by rw[nE y];exact b,by rw[nE y];exact c,by rw[nE y];exact d,by rw[nE y];exact a]
def TabK_mk(y:W.nsIn K mainGlobals "Table"=some (some (.ref C)))(pg:PySem.W.plainGet K C Str.empty=true)(hd:PySem.W.hasDictIn K C=true)(po:PySem.W.plainOver K C=true)(sa:W.findIn K (.ref C) "__setattr__"=some (some (.builtin "object.__setattr__")))(b:W.findIn K (.ref C) "many"=some none)(a:W.findIn K (.ref C) "cells"=some none):TabK K:=
 #[by rw[nE y];exact#[pg,hd,po,sa],by rw[nE y];exact b,by rw[nE y];exact a]
def fin{l:PySem.W.OpenLaw}{w:World}{mg:Str->Option Value}{y:Addr}(c:mg "law"=some (.ref y))(T:Tx K mg)(Z:∃f fd,zA K "law" "law" (top 81) .none f fd/\mg "law"=some (.ref f)):
  ∃fd:FuncData,(∀(s:Shared)(v:Value),BindsTo s fd #[[v],[]] [("_law_script",v)])/\∀base:Heap,K.In base->base.Ns mainGlobals mg->zH l.prog w K mg base CX0 9 y fd ["_law_script"] (Nb K):=by
 obtain⟨f,fd,F,hf⟩:=Z;rw[c]at hf;cases hf;have d:=F;obtain⟨U,e,kV,i,z,j,a,ct,G,rfl,b,p⟩:=F.ex;exact#[_,λs v=>.of_eq rfl,λbase _ _=>law_fn T d]
def walk{l:PySem.W.OpenLaw}{q:Program}{m:List Str}{Z:(Str->Option Value)->Heap->Prop}{Q:World->Heap->Prop}{d:DefRec}{K:Params->aQ}(hn:l.most=some 63)(M:d.params.defaults=[])
  (b:∀(w:World)(h:Heap),Q w h->(K w.params).In h)
  (F:∀(w:World)(mg:Str->Option Value)(y:Addr)(h:Heap),(K w.params).In h->h.Ns mainGlobals mg->mg d.name=some (.ref y)->
   ∃fd:FuncData,(∀(s:Shared)(u:Value),BindsTo s fd #[[u],[]] [("_law_script",u)])/\∀base:Heap,(K w.params).In base->base.Ns mainGlobals mg->zH l.prog w (K w.params) mg base CX0 9 y fd ["_law_script"] (Nb (K w.params))):
  PySem.W.WalkO q m Z Q l.row.toRowW d [] (λf j=>PySem.call f j):=
 L2.walk_of (n:=63) (k:=9) (x:="_law_script") (CX:=λ_=>CX0) (sp:=λw=>Nb (K w.params)) hn (by decide) M #[rfl,by decide,by decide] b F (λ_ _ a ns S _ I=>#[a,ns,rfl,I,S,λ_=>rfl]) λ_ _ _ _ _ z=>z
end My
end
set_option Elab.async true
namespace PySem.Challenge.cw_mixplay_k32_whole_beaten_or_believed_holds
def tw15255906331652600787:=0
def tw13584964564729260002:=0
def tw17537148428829090510:=0
def tw5250648836749937306:=0
def tw14436240173450562139:=0
def tw15046000648225503159:=0
def tw11189385956716728045:=0
def tw1649753135470597231:=0
def tw17359119469063753234:=0
def tw14187344897624746008:=0
def tw13633864310871077239:=0
def tw6410133350367555903:=0
def tw9379251997558837519:=0
def tw16304782191110099880:=0
def tw12123081264474772596:=0
def tw13514883903446374851:=0
def tw4556364196356096108:=0
def tw1860380296098724868:=0
def tw1785452103658685712:=0
def tw14605006817394359769:=0
def tw9965220525702778595:=0
def tw8875761758570335835:=0
def tw16684031505743977384:=0
def tw3915220714125106851:=0
def tw7357710756998326835:=0
def tw10916786146692933934:=0
def tw13961119689941087733:=0
def tw15554977161007893686:=0
def tw12941149116848184093:=0
def tw17651825965693257676:=0
def tw651647464479420225:=0
def tw5479228504016477550:=0
def tw10509165589195890240:=0
def tw14021716573268393832:=0
def tw3164337233961943293:=0
def tw13233545934113390146:=0
def tw12651109711933006100:=0
def tw16135675285898555068:=0
def tw6858639936699093814:=0
def tw18321139459820584544:=0
def tw7535181006168136949:=0
def tw7912027917132318030:=0
def tw8315765025433071093:=0
def tw14603540775657453549:=0
def tw16781815204375908076:=0
def tw16206555353200250432:=0
def tw6327094305879755768:=0
def tw11314641871490680323:=0
def tw5106067564854656430:=0
def tw15003092012738164480:=0
def tw9750687629480853210:=0
def tw16906904536366509353:=0
def tw3314334381923744531:=0
def tw14457599814755510626:=0
def tw2939293759553929319:=0
def tw16340434011501148489:=0
def tw5841100967046253809:=0
def tw4127249309981650951:=0
def tw4587826335864518621:=0
def tw14728928747277751834:=0
def tw1511821924079310184:=0
def tw5244147401980150115:=0
def tw10095986986525348791:=0
def tw10773678906936483423:=0
def tw4365761212378886376:=0
def tw10738597672888517891:=0
def tw1518336796671207026:=0
def tw15757680389368493824:=0
def tw18032998782094273943:=0
def tw15792353589216896979:=0
def tw17033097018729065063:=0
def tw3886082477093858923:=0
def tw2538759376186693787:=0
def tw9236788972835816178:=0
def tw6087438592840687057:=0
def tw6728319241155739496:=0
def tw2677073538532271832:=0
def tw16613518801752854484:=0
def tw16784755647824750195:=0
def tw10685186690286466290:=0
def tw7849796536252703389:=0
def tw4554483181987435578:=0
def tw10220229801282742283:=0
def tw9749272055330765056:=0
def tw4271617540006131210:=0
def tw6911423824058196112:=0
def tw13436446341594925332:=0
def tw441418999874604557:=0
def tw10932245236066990583:=0
def tw13929699778972275221:=0
def tw4266856521684613751:=0
def tw979802100115669285:=0
def tw15052253231633797573:=0
def tw7270261683633280460:=0
def tw4087606392358923915:=0
def tw14296065506382424342:=0
def tw10308665396751158972:=0
def tw10239004944902022887:=0
def tw18335198260646934606:=0
def tw4858279416770539035:=0
def tw10802900778487266535:=0
def tw5100941948876608409:=0
def tw1787074103262497907:=0
def tw10523696813639465183:=0
def tw11581972280609943595:=0
def tw10724849859124688327:=0
def tw11303390089084597917:=0
def tw10763243953588783715:=0
def tw16236931876051432038:=0
def tw591522096301516104:=0
def tw7744575039239145745:=0
def tw1065509143078999044:=0
def tw9846800513655234995:=0
def tw17982124887227740656:=0
def tw8451851110462572234:=0
def tw2060587904110472791:=0
def tw16133537391227690804:=0
def tw151300299761243531:=0
def tw11198918224052704885:=0
def tw10065261825220879988:=0
def tw7688558527559210317:=0
def tw18081798657264127086:=0
def tw11892374974574145950:=0
def tw16726968527576051258:=0
def tw9649805397922120872:=0
def tw7469002003355268881:=0
def tw15118970253441129213:=0
def tw14275679841234069194:=0
def tw3658009265274214823:=0
def tw14492668549161889093:=0
def tw6081762900688997228:=0
def tw1813442793420068377:=0
def tw5265471008311140828:=0
def tw160214836481295112:=0
def tw13069064673239116746:=0
def tw17584845881726019370:=0
def tw14813089224359944354:=0
def tw12612829354040927007:=0
def tw1108783719981743464:=0
def tw5770473969350708762:=0
def tw16098609499496386173:=0
def tw11770771511415497814:=0
def tw11224417229751991455:=0
def tw10525947769242084849:=0
def tw6199357588880242415:=0
def tw4073226542836053159:=0
def tw4913362103709527361:=0
def tw7419282497099440940:=0
def tw4254286670749996253:=0
def tw17831769745956569173:=0
def tw4194492928846582458:=0
def tw414832087807466598:=0
def tw2986184805752532967:=0
def tw3355372833595016447:=0
def tw14189956613314318375:=0
def tw11225448713292333611:=0
def tw13094452493296536901:=0
def tw9749187147141868896:=0
def tw14619308425076337443:=0
def tw6647435045439397111:=0
def tw11283126986942605543:=0
def tw16944241525199459004:=0
def tw3146445131737035249:=0
def tw17661295899224887772:=0
def tw8877109902070723568:=0
def tw17071590348587597683:=0
def tw11783901989225042538:=0
def tw3318929046342335966:=0
def tw2664328893967206500:=0
def tw18121325631800535055:=0
def tw1589234117605942188:=0
def tw11492066553366858402:=0
def tw2338793032977569421:=0
def tw17266831230295724788:=0
def tw4775991456445609456:=0
def tw12071974716716102509:=0
def tw14934579134674121817:=0
def tw5130188320445009372:=0
def tw9773510866084388440:=0
def tw16218950144257319647:=0
def tw7784455014572310234:=0
def tw8768348479857091354:=0
def tw8750003460292868533:=0
def tw14300168397573296256:=0
def tw5847629774412921229:=0
def tw7734547112276986728:=0
def tw13563406026633658507:=0
def tw5721519971651098073:=0
def tw12515083968981892318:=0
def tw270340608841203308:=0
def tw2115173656555933858:=0
def tw16270082039541935910:=0
def tw16542531962902461611:=0
def tw14714409549038964171:=0
def tw9641504082781520709:=0
def tw10442761253152452759:=0
def tw2654607401207045511:=0
def tw14474395377582497066:=0
def tw4482665117475827568:=0
def tw16353385382200139091:=0
def tw12472017178052103764:=0
def tw9533050013866217058:=0
def tw9938928486085689388:=0
def tw4723231720380509328:=0
def tw10705731131029931894:=0
def tw8158269523307317239:=0
def tw595330594271383038:=0
def tw16317324175819811510:=0
def tw2317864020368484862:=0
def tw4346850497887244560:=0
def tw5922974856520552469:=0
def tw17092778776741053091:=0
def tw1355432880291051285:=0
def tw15029023631793162355:=0
def tw1491654487467781965:=0
def tw10412131103458382441:=0
def tw5110444027997058750:=0
def tw12103679260894070417:=0
def tw3592298117830696755:=0
def tw7887967114079225109:=0
def tw11554033387747672656:=0
def tw15433975933206476387:=0
def tw14080849728098857091:=0
def tw4666415171198768068:=0
def tw16738420012320821758:=0
def tw12774813862829596832:=0
def tw6581713884078162139:=0
def tw6151116037178596823:=0
def tw7742250272599953223:=0
def tw2498179320101054122:=0
def tw4617342320046169836:=0
def tw9653235656630990142:=0
def tw12821395295522854939:=0
def tw7788686906293789549:=0
def tw18129339552480879509:=0
def tw17220330832715769862:=0
def tw4503969878816209908:=0
def tw401058685256684500:=0
def tw10152872884295152322:=0
def tw471690272945747865:=0
def tw1280669201719229642:=0
def tw5998447047425455444:=0
def tw4493992419581731546:=0
def tw5507556751177119590:=0
def tw8893674374189847315:=0
def tw18291738324003895858:=0
def tw1602405904719112946:=0
def tw18443080343074067628:=0
def tw1378529165750587040:=0
def tw13172579812680113774:=0
def tw17789772345756667780:=0
def tw11388437026539569705:=0
def tw8826379839834252560:=0
def tw11699729400529181361:=0
def tw1542135139008318400:=0
def tw12246163696257721026:=0
def tw18254880566389039502:=0
def tw4639553310383773909:=0
def tw179726427535155381:=0
def tw14493708000728520029:=0
def tw12297157154311314781:=0
def tw11110250642115796084:=0
def tw8185717911213902918:=0
def tw5749445350298345758:=0
def tw17194800633632357681:=0
def tw13279081389613849407:=0
def tw9524742879106922501:=0
def tw2634250766205543068:=0
def tw8624508583365510484:=0
def tw7262868863829273865:=0
def tw187218875481974884:=0
def tw12013571400351008428:=0
def tw11824468786330048616:=0
def tw11525647748551229882:=0
def tw10485729359365659425:=0
def tw7304468413658536768:=0
def tw2989704087814985018:=0
def tw11694196523504255161:=0
def tw6587520271855311302:=0
def tw6154594352881954431:=0
def tw9507553305941750204:=0
def tw2335052302518300581:=0
def tw16807477140922680974:=0
def tw9122119214678927958:=0
def tw4480349160793506808:=0
def tw15962638600038718039:=0
def tw13325415372196279384:=0
def tw5747829984461087:=0
def tw3199146788277126572:=0
def tw2306875528306551588:=0
def tw15853904886901284951:=0
def tw1575826562928538746:=0
def tw13884157374953211820:=0
def tw15122541708506904147:=0
def tw8464806640701227074:=0
def tw9608503017321500315:=0
def tw8620480850402575863:=0
def tw7991229081739436307:=0
def tw7943242225693972567:=0
def tw702233915644108708:=0
end PySem.Challenge.cw_mixplay_k32_whole_beaten_or_believed_holds
open PySem PySem.W PyProof.Rows
set_option maxRecDepth 100000 in
set_option maxHeartbeats 0 in
theorem PySem.Challenge.cw_mixplay_k32_whole_beaten_or_believed_holds : PySem.Challenge.rw_mixplay_k32_whole_beaten_or_believed.Holds := by
  w_on; o_law; z_head; (case hw => w_witness2)
  k_fill
  refine L2.walk_x (fun _ => rfl) (My.walk (l := PySem.Challenge.rw_mixplay_k32_whole_beaten_or_believed) rfl rfl (fun w h Y => Y) ?F)
  case F =>
    intro w mg fa h KX G hmg
    refine' My.fin hmg ?T (L2.law_mk KX G ?z1 ?z2 ?z3 ?z4)
    (case z1 => k_is)
    (case z2 => k_is)
    (case z3 => k_is)
    (case z4 => k_is)
    constructor
    all_goals first
      | (refine' L2.Df.mk' KX G ?a ?l ?c ?k; (case a => k_is); (case l => k_is); (case c => k_is); (case k => k_is))
      | (refine' L2.Df.mkD KX G ?a ?l ?c ?k ?d ?e ?b; (case a => k_is); (case l => k_is); (case c => k_is); (case k => k_is); (case d => k_is); (case e => rfl); (case b => first | exact fun _ _ _ _ _ _ => L2.ar4 fun _ _ _ _ => ⟨_, rfl, rfl⟩ | exact fun _ _ _ _ _ _ => L2.ar2 fun _ _ => ⟨_, rfl, rfl⟩))
      | (refine' L2.Dfd.mkD KX G ?a ?l ?c ?k ?d ?e ?b ?b2; (case a => k_is); (case l => k_is); (case c => k_is); (case k => k_is); (case d => k_is); (case e => rfl); (case b => first | exact fun _ _ _ _ _ _ => L2.ar4 fun _ _ _ _ => ⟨_, rfl, rfl⟩ | exact fun _ _ _ _ _ _ => L2.ar2 fun _ _ => ⟨_, rfl, rfl⟩); (case b2 => first | exact fun _ _ _ _ _ _ => L2.ar3 fun _ _ _ => ⟨_, rfl, rfl⟩ | exact fun _ _ _ _ _ _ => L2.ar1 fun _ => ⟨_, rfl, rfl⟩))
      | (refine' L2.Mf.mk' ?y ?a ?i ?l ?c ?k; (case y => k_is); (case a => k_is); (case i => k_is); (case l => k_is); (case c => k_is); (case k => k_is))
      | (refine' PySem.W.mg_none_of KX G ?z; (case z => k_is))
      | (refine' L2.cls_mk KX G ?y; (case y => k_is))
      | (refine' L2.mkc_mk ?y ?a ?b; (case y => k_is); (case a => k_is); (case b => k_is))
      | (refine' L2.gi_mk KX G ?z; (case z => k_is))
      | (refine' My.CorK_mk ?y ?g ?d ?o ?s ?n0 ?n1 ?n2 ?n3; (case y => k_is); (case g => k_is); (case d => k_is); (case o => k_is); (case s => k_is); (case n0 => k_is); (case n1 => k_is); (case n2 => k_is); (case n3 => k_is))
      | (refine' My.TabK_mk ?y ?g ?d ?o ?s ?n0 ?n1; (case y => k_is); (case g => k_is); (case d => k_is); (case o => k_is); (case s => k_is); (case n0 => k_is); (case n1 => k_is))

