import PyProof.Rows.All
import Wide.All
import OpenK.AllK
import Wide.FinOn
import Lean
import PyProof.EqAt
import PyProof.EqKinds
import PyProof.TupleCall
import PySem.Challenge.RW_mixplay_k52_whole_best_advice
set_option Elab.async false
set_option linter.all false
set_option maxRecDepth 100000
section
set_option compiler.extract_closed false
abbrev sL'(p:Lean.Name)(s:String):Array Lean.Ident:=s.splitOn.toArray.map λs=>Lean.mkIdent (p++s.toName)
local macro_rules|`(command|def$i$b:bracketedBinder*:$t$v:declVal)=>`(command|theorem$i$b*:$t$v)
local macro_rules|`(command|def$i$b:bracketedBinder*:$t:ident$v:declVal)=>`(command|noncomputable def$i$b*:$t$v)
local macro_rules|`(command|def$i$b:bracketedBinder*:Prop$v:declVal)=>`(command|noncomputable def$i$b*:Prop$v)
local macro_rules|`(#[$xs,*])=>`(⟨$xs,*⟩)
local macro_rules|`(#[])=>`(by lia)
namespace L2
open PySem PySem.Spec PyProof.Rows
variable{A:Around}{C a:Addr}{E Q:Value->Shared->Prop}{H:Hp}{K:aR}{M:Model}{N ps:List Str}{X:Cx}{Z:St}{base h:Heap}{c e m:Expr}{d:Type}{f:Value->Value->Sem Value}{i j k t':Nat}{mg:Str->Option Value}{o:HO}{op:CmpOp}{pl:Sem Bool}{s:Shared}{tb:TS}{u:Value}{us:List Value}{vs xs:List V}
noncomputable abbrev LS:=List Str
noncomputable abbrev jD:=List (List (Int×Int))
noncomputable abbrev gB:=List (Int×Int)
noncomputable abbrev fW:=List (List Nat)
noncomputable abbrev aR:=PySem.W.Frag
abbrev aD:=@List.getElem?_eq_getElem
abbrev aP:=@List.getD_eq_getElem?_getD
abbrev aL:=@List.mem_of_getElem?
abbrev aV:=@Option.some.inj
abbrev aS:=@Heap.get?_push_of_some
abbrev aA:=@List.length_map
abbrev aC:=@wpAny_bind
abbrev aU:=@wpAny_pure
abbrev aM:=@Nat.le_refl
abbrev aY:=@List.map_append
abbrev aF:=@if_neg
abbrev aJ:=@if_pos
abbrev aW:=@Heap.lt_size
abbrev bM:=@List.size_toArray
abbrev bC:=@List.length_append
abbrev aX:=@List.getElem?_map
abbrev bH:=@Option.join_some
abbrev cA:=@List.append_nil
abbrev bO:=@List.getElem?_append_right
abbrev bV:=@List.getElem?_append_left
abbrev bF:=@Int.mul_pos
abbrev cR:=@List.map_nil
abbrev bR:=@List.map_cons
abbrev bJ:=@Nat.ne_of_lt
abbrev cU:=@List.length_reverse
abbrev bQ:=@Nat.lt_of_lt_of_le
abbrev bK:=@List.mem_cons_of_mem
abbrev bU:=@Bool.false_ne_true
abbrev bX:=@Int.le_of_lt
abbrev bT:=@List.mem_cons_self
abbrev cL:=@List.getElem?_eq_none
abbrev cK:=@Nat.le_trans
abbrev cH:=@Int.natAbs_mul
abbrev cB:=@List.take_length
abbrev cJ:=@List.getElem?_of_mem
abbrev dB:=@List.length_cons
abbrev bL:=@Heap.get?_push_size
abbrev dL:=@Heap.get?_update_other
abbrev cP:=@decide_eq_true_eq
abbrev dJ:=@Int.mul_zero
abbrev dA:=@Int.toNat_natCast
abbrev cO:=@List.getElem_mem
abbrev dH:=@Nat.two_pow_pos
abbrev aK:=@List.getElem?_eq_some_iff
abbrev dD:=@List.mem_map
abbrev cW:=@List.mem_append
abbrev eA:=@List.mem_cons
abbrev bZ:=@List.mem_singleton
abbrev fE:=@List.mem_range
abbrev dO:=@List.length_take
abbrev hU:=@List.map_congr_left
abbrev cY:=@List.mem_append_right
abbrev iO:=@List.mem_append_left
abbrev cI:=@PyProof.Rows.callWith_type1
abbrev gG:=@Rat.mul_zero
abbrev gM:=@Rat.mul_nonneg
abbrev fM:=@Int.mul_comm
abbrev dR:=@Int.mul_one
abbrev dY:=@Int.zero_mul
abbrev fB:=@Int.one_mul
abbrev fV:=@Int.mul_assoc
abbrev eP:=@Int.zero_add
abbrev jT:=@Nat.le_of_lt
abbrev eW:=@Nat.lt_irrefl
abbrev eO:=@Nat.not_lt_zero
abbrev gO:=@Nat.mul_le_mul
abbrev fY:=@Nat.pow_le_pow_right
abbrev fN:=@Int.dvd_trans
abbrev eF:=@Int.mul_nonneg
abbrev eX:=@Int.eq_of_mul_eq_mul_right
abbrev eY:=@Rat.intCast_mul
abbrev fR:=@Rat.mul_le_mul_of_nonneg_left
abbrev gJ:=@Rat.le_of_mul_le_mul_right
abbrev gW:=@List.range_succ
abbrev gP:=@List.filter_cons_of_pos
abbrev gQ:=@List.filter_cons_of_neg
abbrev iD:=@List.mem_flatMap
abbrev gX:=@List.length_range
abbrev iH:=@Nat.pow_succ
abbrev gH:=@Nat.sub_self
abbrev dN:=@Nat.zero_le
abbrev fU:=@Nat.lt_of_le_of_lt
abbrev dF:=@Nat.le_add_right
abbrev gK:=@Nat.lt_succ_self
noncomputable abbrev Key:=Sum Int Str
noncomputable def Qw:Key->Value->Bool
 | .inl k,v=>Value.isInt k v
 | .inr x,v=>Value.isStrOf x v
noncomputable def keyH(w:World):Key->Int
 | .inl k=>hashInt k
 | .inr x=>hashStr w x
def jG:∀{k:Key}{v:Value},Qw k v=true->(∃i t,k=Sum.inl i/\v=Value.int i t)∨(∃x t,k=Sum.inr x/\v=Value.str x t)
 | .inl i,v,h=>by
  obtain⟨t,e⟩:=Value.isInt_shape (k:=i) (v:=v) h;exact .inl #[i,t,rfl,e]
 | .inr x,v,h=>by
  obtain⟨t,e⟩:=Value.isStrOf_shape (x:=x) (v:=v) h;exact .inr #[x,t,rfl,e]
def jYv(i:Int)(t:Tok):Qw (.inl i) (.int i t)=true:=by simp [Qw,Value.isInt]
def jYu(x:Str)(t:Tok):Qw (.inr x) (.str x t)=true:=by simp [Qw,Value.isStrOf]
def key_ll(a b:Int):decide ((Sum.inl a:Key)=Sum.inl b)=(a==b):=by
 by_cases e:a=b
 .subst e;simp
 .have h:¬(Sum.inl a:Key)=Sum.inl b:=λq=>e (Sum.inl.inj q);rw[decide_eq_false h];exact(beq_eq_false_iff_ne.mpr e).symm
def key_rr(a b:Str):decide ((Sum.inr a:Key)=Sum.inr b)=decide (a=b):=by
 by_cases e:a=b
 .subst e;simp
 .have h:¬(Sum.inr a:Key)=Sum.inr b:=λq=>e (Sum.inr.inj q);rw[decide_eq_false h,decide_eq_false e]
def key_lr(a:Int)(b:Str):decide ((Sum.inl a:Key)=Sum.inr b)=false:=decide_eq_false (λq=>nomatch q)
def key_rl(a:Str)(b:Int):decide ((Sum.inr a:Key)=Sum.inl b)=false:=decide_eq_false (λq=>nomatch q)
noncomputable def kB(prog:Program)(w:World):PySem.KeyKind prog w Key where
 is:=Qw
 hash:=keyH w
 inj:=λv a b ha hb=>by
  rcases jG ha with⟨i,t,rfl,rfl⟩|⟨x,t,rfl,rfl⟩
  .rcases jG hb with⟨j,u,rfl,e⟩|⟨y,u,rfl,e⟩
   .injection e with e1 _;rw[e1]
   .exact nomatch e
  .rcases jG hb with⟨j,u,rfl,e⟩|⟨y,u,rfl,e⟩
   .exact nomatch e
   .injection e with e1 _;rw[e1]
 byValue:=λk v h=>by
  rcases jG h with⟨i,t,rfl,rfl⟩|⟨x,t,rfl,rfl⟩<;>rfl
 pyHash:=λhv h=>by
  rcases jG hv with⟨i,t,rfl,rfl⟩|⟨x,t,rfl,rfl⟩
  .exact wpAny_pyHash_int h
  .exact wpAny_pyHash_str h
 eqBool:=λR hv h=>by
  rcases jG R with⟨i,t,rfl,rfl⟩|⟨x,t,rfl,rfl⟩
  .rcases jG hv with⟨j,u,rfl,rfl⟩|⟨y,u,rfl,rfl⟩
   .rw[key_ll]at h;exact wpAny_eqBool_int h
   .rw[key_lr]at h;exact SeqAt.EqAt.int_str i t y u _ _ _ _ h
  .rcases jG hv with⟨j,u,rfl,rfl⟩|⟨y,u,rfl,rfl⟩
   .rw[key_rl]at h;exact SeqAt.EqAt.str_int x t j u _ _ _ _ h
   .rw[key_rr]at h;exact wpAny_eqBool_str h
 «strs»:=λk x t v h=>by
  rcases jG h with⟨i,u,rfl,e⟩|⟨y,u,rfl,e⟩
  .exact nomatch e
  .injection e with e1 _;subst e1;cases v<;>rfl
def Zd(prog:Program)(w:World)(i:Int)(t:Tok):(kB prog w).is (.inl i) (.int i t)=true:=jYv i t
def Zc(prog:Program)(w:World)(x:Str)(t:Tok):(kB prog w).is (.inr x) (.str x t)=true:=jYu x t
inductive V where
 |non |bl (b:Bool)|int (i:Int)|str (x:Str)|byt (b:Array UInt8)|flt (b:UInt64)|ref (a:Addr)|ty (n:String)
 deriving DecidableEq
noncomputable def fD:V->Value->Prop
 | .non,u=>u=Value.none
 | .bl b,u=>u=Value.bool b
 | .int i,u=>∃t,u=Value.int i t
 | .str x,u=>∃t,u=Value.str x t
 | .byt b,u=>∃t,u=Value.bytes b t
 | .flt b,u=>∃t,u=Value.float b t
 | .ref a,u=>u=Value.ref a
 | .ty n,u=>u=Value.type n
noncomputable abbrev fF:List V->List Value->Prop:=Paired fD
def fF.length(r:fF xs us):xs.length=us.length:=Paired.length r
def fF.get:∀{xs:List V}{us:List Value}{i:Nat}{x:V},fF xs us->xs[i]?=some x->∃u,us[i]?=some u/\fD x u
 |_,_,_,_,.nil,e=>by simp at e
 |_,_,0,_,.cons r _,e=>by simp at e;subst e;exact#[_,rfl,r]
 |_,_,i+1,x,.cons _ t,e=>by
  obtain⟨u,h1,h2⟩:=fF.get (i:=i) (x:=x) t (by simpa using e);exact#[u,by simpa using h1,h2]
def fF.set{x:V}(r:fD x u):∀{xs:List V}{us:List Value}(i:Nat),fF xs us->fF (xs.set i x) (us.set i u)
 |_,_,_,.nil=>.nil
 |_,_,0,.cons _ t=>.cons r t
 |_,_,i+1,.cons q t=>.cons q (fF.set r i t)
def fF.append:∀{xs ys:List V}{us f:List Value},fF xs us->fF ys f->fF (xs++ys) (us++f)
 |_,_,_,_,.nil,s=>s
 |_,_,_,_,.cons r t,s=>.cons r (fF.append t s)
def fF.take:∀{xs:List V}{us:List Value}(n:Nat),fF xs us->fF (xs.take n) (us.take n)
 |_,_,0,_=>.nil
 |_,_,_+1,.nil=>.nil
 |_,_,n+1,.cons r t=>.cons r (fF.take n t)
def fF.drop:∀{xs:List V}{us:List Value}(n:Nat),fF xs us->fF (xs.drop n) (us.drop n)
 |_,_,0,r=>r
 |_,_,_+1,.nil=>.nil
 |_,_,n+1,.cons _ t=>fF.drop n t
noncomputable def Bu:Option V->Option Value->Prop
 |some v,some u=>fD v u
 |none,none=>True
 |_,_=>False
noncomputable def KV{d:Type}:List (d×V)->List (d×Value)->Prop:=Paired fun(p:d×V)(q:d×Value)=>p.1=q.1/\fD p.2 q.2
noncomputable def kV:Key->V
 | .inl i=>.int i
 | .inr x=>.str x
inductive HO where
 /--a list -/
 |lst (xs:List V)
 /--a tuple (never changes)-/
 |tup (xs:List V)
 /--a dict whose keys are ints and texts;one whose keys are tuples of ints and texts (the empty one is both)-/
 |dK (kvs:List (Key×V))|dT (kvs:List (List Key×V))
 /--a set of ints:its members,its size -/
 |set (S:Int->Bool) (n:Nat)
 /--an instance of the class at C,its dict at dx,its attributes -/
 |ins (C dx:Addr) (fs:List (Str×V))
 /--the dict of the instance at x -/
 |own (x:Addr)
 /--the dict of an exception -/
 |xd (fs:List (Str×V))
 /--a bound method,f of x -/
 |met (f x:Addr)
 /--a range object lo,lo+1,.. below hi -/
 |rng (lo hi:Int)
 /--a thing that is known to the object (the script;a dict while a loop walks it):read,never written while it is so -/
 |frz (o:Obj) (u:HO)
 /--a code object's table -/
 |tbl (ps:Array Value)
 /--any other thing,by what is true of its one object (a def of one's own:SetO a S n:=HO.ext λh=>..)-/
 |ext (φ:Heap->Prop)
noncomputable abbrev Hp:=Addr->Option HO
def upd(H:Hp)(a:Addr)(o:HO):Hp:=λb=>if b=a then some o else H b
def aI:upd H a o a=some o:=by unfold upd;rw[aJ rfl]
def bY{b:Addr}(h:b≠a):upd H a o b=H b:=by unfold upd;rw[aF h]
def kS{b:Addr}{u:HO}(h:H a=some o)(h':H b=some u)(d:o≠u):a≠b:=by
 intro e;subst e;rw[h]at h';exact d (aV h')
def dE{b:Addr}(h:H a=some o)(h':H b=none):a≠b:=by
 intro e;subst e;rw[h]at h';cases h'
section
variable(P:Program)(w:World)
noncomputable def jF(H:Hp)(h:Heap)(a:Addr):HO->Prop
 | .lst xs=>xs.length<=sizeLine/\∃(G:List Value)(n:Nat),fF xs G/\h.get? a=some { cls:=.type "list",data:=.seq G.toArray n }
 | .tup xs=>xs.length<=sizeLine/\∃G:List Value,fF xs G/\IsTup h a G.toArray
 | .dK kvs=>kvs.length<=sizeLine/\(a==sysModules)=false/\∃vs,KV kvs vs/\h.DictOf (kB P w) a vs
 | .dT kvs=>kvs.length<=sizeLine/\(a==sysModules)=false/\∃xs:List (List Key×Addr×Value),
   Paired (fun(p:List Key×V)(q:List Key×Addr×Value)=>p.1=q.1/\H q.2.1=some (.tup (p.1.map kV))/\fD p.2 q.2.2) kvs xs/\
   ∃o g j,h.get? a=some o/\o.ExactDict/\o.data=.dict g j/\g.toList=xs.map (entryOfKey (tupleKind (kB P w)))/\(xs.map (·.1)).Nodup
 | .set S n=>h.SetOf (intKind P w) a S n
 | .ins C dx fs=>H dx=some (.own a)/\fs.length<=1000/\dx≠a/\h.get? a=some (PySem.W.instObj C dx)/\
   ∃B,h.Ns1 dx B/\(∀f,Bu (fs.lookup f) (B f))/\PySem.Within B (fs.map (·.1))
 | .own _=>∃o,h.get? a=some o
 | .xd fs=>∃B,h.Ns1 a B/\∀f,Bu (fs.lookup f) (B f)
 | .rng lo hi=>∃t u v,h.get? a=some { cls:=.type "range",data:=.fields (List.toArray [.int lo t,.int hi u,.int 1 v]) }
 | .frz o u=>h.get? a=some o/\jF H h a u
 | .tbl ps=>h.get? a=some { cls:=.none,data:=.fields ps }
 | .met f x=>h.get? a=some (PySem.W.methodObj (.ref f) (.ref x))
 | .ext φ=>φ h/\(∃o,h.get? a=some o)/\∀h1 h2:Heap,φ h1->(∀o,h1.get? a=some o->h2.get? a=some o)->φ h2
def HOk(H:Hp)(h:Heap):Prop:=∀a o,H a=some o->jF P w H h a o
end
section
variable{P:Program}{w:World}{H H':Hp}{h h':Heap}{a:Addr}{o:HO}
def jF.lt(x:jF P w H h a o):a<h.objs.size:=by
 cases o with
 |lst xs=>obtain⟨_,_,_,_,e⟩:=x;exact aW e
 |tup xs=>obtain⟨_,_,_,p⟩:=x;exact p.lt
 |dK kvs=>obtain⟨_,_,_,_,o,_,_,e,_⟩:=x;exact aW e
 |dT kvs=>obtain⟨_,_,_,_,o,_,_,e,_⟩:=x;exact aW e
 |set S n=>obtain⟨o,_,_,_,e,_⟩:=x;exact aW e
 |ins C dx fs=>obtain⟨_,_,_,e,_⟩:=x;exact aW e
 |own y=>obtain⟨_,e⟩:=x;exact aW e
 |xd fs=>obtain⟨_,⟨_,_,_,e,_⟩,_⟩:=x;exact aW e
 |rng lo hi=>obtain⟨_,_,_,e⟩:=x;exact aW e
 |frz ob u=>obtain⟨e,_⟩:=x;exact aW e
 |tbl ps=>exact aW (show h.get? a=some _ from x)
 |met f y=>exact aW (show h.get? a=some _ from x)
 |ext φ=>obtain⟨_,⟨_,e⟩,_⟩:=x;exact aW e
def Paired.mapP{c:Type}{F G:d->c->Prop}:∀{e:List d}{g:List c},Paired F e g->(∀a b,F a b->G a b)->Paired G e g
 |_,_,.nil,_=>.nil
 |_,_,.cons r t,f=>.cons (f _ _ r) (Paired.mapP t f)
def jF.stay(x:jF P w H h a o)(k:∀b u,(b=a∨H b=some (.own a))->h.get? b=some u->h'.get? b=some u)
  (D:∀b,H b=some (.own a)->H' b=some (.own a)) (i:∀b F,H b=some (.tup F)->H' b=some (.tup F)):jF P w H' h' a o:=by
 induction o with
 |lst F=>obtain⟨z,G,n,r,e⟩:=x;exact#[z,G,n,r,k _ _ (.inl rfl) e]
 |tup F=>obtain⟨z,G,r,ob,e,c⟩:=x;exact#[z,G,r,ob,k _ _ (.inl rfl) e,c]
 |dK kvs=>obtain⟨z,y,m,r,ob,g,j,e,c⟩:=x;exact#[z,y,m,r,ob,g,j,k _ _ (.inl rfl) e,c]
 |dT kvs=>
  obtain⟨z,y,F,r,ob,g,j,e,c⟩:=x;exact#[z,y,F,Paired.mapP r λp q z=>#[z.1,i _ _ z.2.1,z.2.2],ob,g,j,k _ _ (.inl rfl) e,c]
 |set S n=>obtain⟨ob,g,j,t,e,c⟩:=x;exact#[ob,g,j,t,k _ _ (.inl rfl) e,c]
 |ins C dx fs=>
  obtain⟨d,z,ne,e,B,⟨M,g,j,l,c⟩,r⟩:=x;exact#[D _ d,z,ne,k _ _ (.inl rfl) e,B,#[M,g,j,k _ _ (.inr d) l,c],r]
 |own y=>obtain⟨ob,e⟩:=x;exact#[ob,k _ _ (.inl rfl) e]
 |xd fs=>obtain⟨B,⟨M,g,j,e,c⟩,r⟩:=x;exact#[B,#[M,g,j,k _ _ (.inl rfl) e,c],r]
 |rng lo hi=>obtain⟨t,u,v,e⟩:=x;exact#[t,u,v,k _ _ (.inl rfl) e]
 |frz ob u ih=>obtain⟨e,q⟩:=x;exact#[k _ _ (.inl rfl) e,ih q]
 |tbl ps=>
  have e:h.get? a=some { cls:=.none,data:=.fields ps }:=x;show h'.get? a=some { cls:=.none,data:=.fields ps };exact k a _ (.inl rfl) e
 |met f y=>
  have e:h.get? a=some (PySem.W.methodObj (.ref f) (.ref y)):=x;show h'.get? a=some (PySem.W.methodObj (.ref f) (.ref y));exact k a _ (.inl rfl) e
 |ext φ=>obtain⟨p,⟨o,e⟩,st⟩:=x;exact#[st _ _ p λo q=>k _ _ (.inl rfl) q,#[o,k _ _ (.inl rfl) e],st]
def HOk.lt(x:HOk P w H h)(e:H a=some o):a<h.objs.size:=(x a o e).lt
def HOk.fresh(x:HOk P w H h)(e:h.objs.size<=a):H a=none:=by
 cases q:H a with
 |none=>rfl
 |some u=>exact absurd (bQ (x.lt q) e) (eW _)
def HOk.kept(x:HOk P w H h)(k:∀b u,h.get? b=some u->h'.get? b=some u):HOk P w H h':=λa o e=>
 (x a o e).stay (λb u _ q=>k b u q) (λ_ q=>q) λ_ _ q=>q
def HOk.laid(x:HOk P w H h)(k:∀b u,h.get? b=some u->h'.get? b=some u)(hp:h.objs.size<=a)(new:jF P w (upd H a o) h' a o):HOk P w (upd H a o) h':=λb u e=>by
 have R:=x.fresh hp;by_cases hb:b=a
 .subst hb;rw[aI]at e;cases e;exact new
 .rw[bY hb]at e;exact(x b u e).stay (λc v _ q=>k c v q) (λc q=>by rw[bY (dE q R)];exact q) λc F q=>by rw[bY (dE q R)];exact q
end
def Rd(H:Hp)(a:Addr)(u:HO):Prop:=H a=some u∨∃o,H a=some (.frz o u)
def Rd.ok{P:Program}{w:World}{u:HO}(r:Rd H a u)(x:HOk P w H h):jF P w H h a u:=by
 rcases r with r |⟨o,r⟩
 .exact x a u r
 .obtain⟨_,q⟩:=x a _ r;exact q
noncomputable def Mut:Option HO->Prop
 |some (.lst _)=>True
 |some (.dK _)=>True
 |some (.dT _)=>True
 |some (.set _ _)=>True
 |some (.ins _ _ _)=>True
 |some (.ext _)=>True
 |_=>False
section
variable{P:Program}{w:World}{H:Hp}{h h':Heap}{x e:Addr}{o':HO}
def HOk.write(ok:HOk P w H h)(mu:Mut (H x))(l:e=x∨H e=some (.own x))(k:∀b u,b≠e->h.get? b=some u->h'.get? b=some u)(d:∃u,h'.get? e=some u)
  (new:jF P w (upd H x o') h' x o'):HOk P w (upd H x o') h':=λb u q=>by
 have a:∀c y,H c=some (.own y)->c≠x:=λc y r z=>by subst z;rw[r]at mu;exact mu
 have g:∀c F,H c=some (.tup F)->c≠x:=λc F r z=>by subst z;rw[r]at mu;exact mu
 by_cases hb:b=x
 .subst hb;rw[aI]at q;cases q;exact new
 .rw[bY hb]at q;by_cases m:b=e
  .have f:H b=some (.own x):=by
    rcases l with z |z
    .exact absurd (m.trans z) hb
    .rw[m];exact z
   rw[q]at f;cases f;obtain⟨v,hv⟩:=d;exact#[v,by rw[m];exact hv]
  .refine(ok b u q).stay (λc v hc r=>k c v ?_ r) (λc r=>by rw[bY (a c b r)];exact r) λc F r=>by rw[bY (g c F r)];exact r
   rcases hc with rfl |hc
   .exact m
   .rintro rfl;rcases l with z |z
    .exact a c b hc z
    .rw[hc]at z;cases z;exact hb rfl
end
structure Un(fs ex:List Addr)(H H':Hp)(h h':Heap):Prop where
 keep:∀b o,h.get? b=some o->H b=none->b∉fs->b∉ex->h'.get? b=some o
 slot:∀b o,h.get? b=some o->H b=none->b∈fs->b∉ex->∃sl,h'.get? b=some { o with slots:=sl }
 free:∀b o,h.get? b=some o->H b=none->b∉ex->H' b=none
 there:∀b o,h.get? b=some o->b∉ex->∃o',h'.get? b=some o'
 tups:∀b xs,H b=some (.tup xs)->H' b=some (.tup xs)
 frzs:∀b o u,H b=some (.frz o u)->H' b=some (.frz o u)
 tbls:∀b ps,H b=some (.tbl ps)->∃Lx,H' b=some (.tbl (ps++Lx))
section
variable{fs fs' ex ex':List Addr}{H H1 H2:Hp}{h h1 h2 h':Heap}{a x e:Addr}{o:HO}
def Un.any(u:Un fs ex H H1 h h1){b:Addr}{ob:Obj}(q:h.get? b=some ob)(n:H b=none)(hx:b∉ex):∃sl,h1.get? b=some { ob with slots:=sl }:=by
 by_cases hb:b∈fs
 .exact u.slot b ob q n hb hx
 .exact#[ob.slots,u.keep b ob q n hb hx]
def Un.kept(k:∀b u,h.get? b=some u->h'.get? b=some u):Un fs ex H H h h':=
 #[λb ob q _ _ _=>k b ob q,λb ob q _ _ _=>#[ob.slots,k b ob q],λ_ _ _ n _=>n,λb ob q _=>#[ob,k b ob q],λ_ _ q=>q,λ_ _ _ q=>q,λ_ J q=>#[(List.toArray []),by rw[q];simp]]
def Un.refl:Un fs ex H H h h:=Un.kept λ_ _ q=>q
def Un.laid(k:∀b u,h.get? b=some u->h'.get? b=some u)(hp:h.objs.size<=a)(R:H a=none):Un fs ex H (upd H a o) h h' where
 keep:=λb u q _ _ _=>k b u q
 slot:=λb u q _ _ _=>#[u.slots,k b u q]
 free:=λb u q n _=>by rw[bY (bJ (bQ (aW q) hp))];exact n
 there:=λb u q _=>#[u,k b u q]
 tups:=λb F q=>by rw[bY (dE q R)];exact q
 frzs:=λb u F q=>by rw[bY (dE q R)];exact q
 tbls:=λb J q=>#[(List.toArray []),by rw[bY (dE q R),q];simp]
def Un.write(mu:Mut (H x))(l:e=x∨H e=some (.own x))(k:∀b u,b≠e->h.get? b=some u->h'.get? b=some u)(d:∃u,h'.get? e=some u):Un fs ex H (upd H x o) h h':=by
 have hx:∀b,H b=none->b≠x:=λb n z=>by subst z;rw[n]at mu;exact mu
 have hb:∀b,H b=none->b≠e:=λb n z=>by
  subst z;rcases l with r |r
  .exact hx b n r
  .rw[n]at r;cases r
 have hm:∀b u,H b=some u->¬Mut (some u)->b≠x:=λb u q C z=>by subst z;rw[q]at mu;exact C mu
 refine#[λb u q n _ _=>k b u (hb b n) q,λb u q n _ _=>#[u.slots,k b u (hb b n) q],λb u q n _=>by rw[bY (hx b n)];exact n,λb u q _=>?_,
  λb F q=>by rw[bY (hm b _ q λz=>z)];exact q,λb u F q=>by rw[bY (hm b _ q λz=>z)];exact q,λb J q=>#[(List.toArray []),by rw[bY (hm b _ q λz=>z),q];simp]]
 by_cases m:b=e
 .subst m;exact d
 .exact#[u,k b u m q]
end
noncomputable def trk(h:Heap)(H:Hp):List Addr:=(List.range h.objs.size).filter λa=>(H a).isSome
def Tz(h:Heap)(H:Hp):Heap:=PySem.W.hideAll h (trk h H)
def jY1(h:Heap)(H:Hp):(Tz h H).objs.size=h.objs.size:=PySem.W.hideAll_size _ _
def jVJ{b:Addr}{o:Obj}(e:h.get? b=some o)(n:H b=none):(Tz h H).get? b=some o:=
 PySem.W.hideAll_get _ e λhm=>by
  have q:(H b).isSome=true:=(List.mem_filter.mp hm).2;rw[n]at q;simp at q
def of_hidT{b:Addr}{o:Obj}(e:(Tz h H).get? b=some o):h.get? b=some o/\H b=none:=by
 have A:h.get? b=some o:=PySem.W.of_hideAll (trk h H) e;refine#[A,?_];cases q:H b with
 |none=>rfl
 |some x=>
  have hm:b∈trk h H:=List.mem_filter.mpr #[fE.mpr (aW A),by simp [q]];have z:(Tz h H).get? b=none:=PySem.W.hideAll_none (trk h H) hm;rw[z]at e;cases e
structure Mod(K:aR)(mg:Str->Option Value)(base:Heap):Prop where
 kin:K.In base
 glob:base.Ns mainGlobals mg
 blt:∃mb,base.Ns builtinsNs mb/\∀x:Str,x≠ "__name__"->mb x=bootBuiltins x
 nolimit:base.NoLimit
structure Cx where
 prog:Program
 w:World
 K:aR
 mg:Str->Option Value
 base:Heap
 A:Around
 N:List Str
 s₀:Shared
 H₀:Hp
 env:Env
 outer:List Env
 stack:List Env
 ex:List Addr
 fn:Str->Bool
 calm:Bool
 pn:List (Addr×Obj)
 xe:Value->Shared->Prop
noncomputable def frs(l:List Env):List Addr:=l.filterMap (·.frame)
noncomputable abbrev Cx.fs(X:Cx):List Addr:=frs X.outer
def Vis(sc:Scope)(x:Str):Prop:=sc.names.lookup x=some .local∨sc.names.lookup x=some .cell∨sc.names.lookup x=some .free
def Loc(sc:Scope)(x:Str):Prop:=sc.names.lookup x=some .local∨sc.names.lookup x=some .cell
def Look(env:Env)(h:Heap)(m:Str->Option Value)(x:Str)(u:Value):Prop:=
 (env.kindOf x=some .local/\m x=some u)∨((env.kindOf x=some .cell∨env.kindOf x=some .free)/\∃c,env.cells.lookup x=some c/\h.IsCell c (some u))
structure Cx.Ok(X:Cx):Prop where
 mod:Mod X.K X.mg X.base
 kind:X.env.scope.kind=.function
 glob:X.env.globals=mainGlobals
 blt:X.env.builtins=builtinsNs
 above:X.s₀.heap.objs.size<=X.env.locals
 inj:∀x y c,X.env.cells.lookup x=some c->X.env.cells.lookup y=some c->x=y
 has:∀x,(X.env.kindOf x=some .cell∨X.env.kindOf x=some .free)->∃c,X.env.cells.lookup x=some c
 cab:∀x c,X.fn x=true->X.env.cells.lookup x=some c->X.s₀.heap.objs.size<=c
 hd:X.calm=true->X.A.handled=none
 frames:X.A.frames=some X.stack
 stk:X.stack=X.outer∨(X.stack=X.env::X.outer/\X.env.frame=some X.env.locals)
 exf:∀b∈X.ex,b≠X.env.locals/\∀x c,X.env.cells.lookup x=some c->c≠b
 bs:∀b o,X.base.get? b=some o->X.s₀.heap.get? b=some o/\X.H₀ b=none
 bsz:X.base.objs.size<=X.s₀.heap.objs.size
 noex:∀b o,X.base.get? b=some o->b∉X.ex
 exfs:∀b∈X.ex,b∉X.fs
 funs:X.s₀.heap.FunFrames X.base X.outer
 frf:∀b∈X.fs,X.H₀ b=none
structure Inv(X:Cx)(pins:List (Addr×Obj))(σ:List (Option V))(H:Hp)(s:Shared):Prop where
 ok:X.Ok
 os:s.os=X.s₀.os
 bare:AllBare s.gens
 base:Un X.fs X.ex X.H₀ H X.s₀.heap s.heap
 loc:∃m,s.heap.Ns X.env.locals m/\∀(i:Nat)(x:Str)(v:V),X.N[i]?=some x->σ[i]?=some (some v)->Vis X.env.scope x->∃u,fD v u/\Look X.env s.heap m x u
 cell:∀x c,X.env.cells.lookup x=some c->∃v,s.heap.IsCell c v
 free:H X.env.locals=none
 freeC:∀x c,X.env.cells.lookup x=some c->H c=none
 pin:∀p∈X.pn++pins,s.heap.get? p.1=some p.2/\H p.1=none/\p.1≠X.env.locals/\p.1∉X.fs/\∀v,p.2.data≠.cell v
 hok:HOk X.prog X.w H s.heap
 len:σ.length=X.N.length
section
variable{X:Cx}{pins:List (Addr×Obj)}{σ:List (Option V)}{H H':Hp}{s:Shared}{h':Heap}
def Cx.Ok.nofr(ok:X.Ok){b:Addr}{o:Obj}(e:X.base.get? b=some o):b∉X.fs:=λhb=>by
 have:=(ok.funs.mem hb).1;rw[e]at this;cases this
def Inv.bs(I:Inv X pins σ H s):∀b o,X.base.get? b=some o->s.heap.get? b=some o/\H b=none:=λb o e=>
 #[I.base.keep b o (I.ok.bs b o e).1 (I.ok.bs b o e).2 (I.ok.nofr e) (I.ok.noex b o e),I.base.free b o (I.ok.bs b o e).1 (I.ok.bs b o e).2 (I.ok.noex b o e)]
def Inv.bk(I:Inv X pins σ H s):∀b o,X.base.get? b=some o->s.heap.get? b=some o:=λb o e=>(I.bs b o e).1
def Inv.mod(I:Inv X pins σ H s):Mod X.K X.mg X.base:=I.ok.mod
def Inv.kIn(I:Inv X pins σ H s):X.K.In s.heap:=I.ok.mod.kin.keeps I.bk
def Inv.lt(I:Inv X pins σ H s):X.env.locals<s.heap.objs.size:=let⟨_,hn,_⟩:=I.loc;hn.lt
def Inv.sz(I:Inv X pins σ H s):X.s₀.heap.objs.size<=s.heap.objs.size:=cK I.ok.above (jT I.lt)
def Inv.nofs(I:Inv X pins σ H s)(h:s.heap.objs.size<=a):a∉X.fs:=λhb=>by
 obtain⟨_,o,D,_⟩:=I.ok.funs.mem hb;exact absurd (bQ (aW D) (cK I.sz h)) (eW _)
def Inv.cne(I:Inv X pins σ H s):∀x c,X.env.cells.lookup x=some c->c≠X.env.locals:=λx c e z=>by
 obtain⟨v,o,D,hd⟩:=I.cell x c e;obtain⟨m,⟨B,g,j,A,G,_⟩,_⟩:=I.loc;rw[z,A]at D;cases D;rw[G]at hd;cases hd
def Inv.funs(I:Inv X pins σ H s):s.heap.FunFrames X.base X.outer:=by
 have all:∀(l:List Env),(∀b∈frs l,b∈X.fs)->X.s₀.heap.FunFrames X.base l->s.heap.FunFrames X.base l:=by
  intro l
  induction l with
  |nil=>intro _ _;trivial
  |cons env r ih=>
   rintro hs ⟨hk,⟨L,o,hf,R,D,hd⟩,hr⟩;have C:L∈X.fs:=hs L (by unfold frs;rw[List.filterMap_cons,hf];exact bT);obtain⟨sl,e⟩:=I.base.slot L o D (I.ok.frf L C) C λz=>I.ok.exfs L z C;exact#[hk,#[L,_,hf,R,e,hd],ih (λb hb=>hs b (by unfold frs;rw[List.filterMap_cons,hf];exact bK _ hb)) hr]
 exact all X.outer (λ_ hb=>hb) I.ok.funs
def Inv.stack(I:Inv X pins σ H s):s.heap.FunFrames X.base X.stack:=by
 rcases I.ok.stk with e |⟨e,hf⟩
 .rw[e];exact I.funs
 .rw[e];obtain⟨m,R,_⟩:=I.loc;refine .cons (by rw[I.ok.kind];decide) hf R ?_ I.funs;exact Heap.get?_none_of_le (cK I.ok.bsz I.ok.above)
def Inv.stkSub(I:Inv X pins σ H s):∀b∈frs X.stack,b∈X.env.locals::X.fs:=λb hb=>by
 rcases I.ok.stk with e |⟨e,hf⟩
 .rw[e]at hb;exact bK _ hb
 .rw[e]at hb;unfold frs at hb;rw[List.filterMap_cons,hf]at hb;exact hb
def Inv.stkFree(I:Inv X pins σ H s):∀b∈frs X.stack,H b=none:=λb hb=>by
 rcases eA.mp (I.stkSub b hb)with e |hb
 .rw[e];exact I.free
 .obtain⟨_,o,D,_⟩:=I.ok.funs.mem hb;exact I.base.free b o D (I.ok.frf b hb) λz=>I.ok.exfs b z hb
def Inv.step{g':Array GenState}{d':Drawn}{ch:List Addr}(I:Inv X pins σ H s)
  (a:∀b∈ch,(b∈X.ex∨X.s₀.heap.objs.size<=b)/\b≠X.env.locals/\(∀x c,X.env.cells.lookup x=some c->c≠b)/\∀p∈X.pn++pins,p.1≠b)
  (keep:∀b o,b≠X.env.locals->b∉X.fs->b∉ch->s.heap.get? b=some o->H b=none->h'.get? b=some o)
  (slot:∀b o,b≠X.env.locals->b∈X.fs->b∉ch->s.heap.get? b=some o->H b=none->∃sl,h'.get? b=some { o with slots:=sl }) (free:∀b o,b∉ch->s.heap.get? b=some o->H b=none->H' b=none)
  (there:∀b o,b∉ch->s.heap.get? b=some o->∃B,h'.get? b=some B)
  (tups:∀b F,H b=some (.tup F)->H' b=some (.tup F)) (frzs:∀b o u,H b=some (.frz o u)->H' b=some (.frz o u)) (tbls:∀b J,H b=some (.tbl J)->∃Lx,H' b=some (.tbl (J++Lx)))
  (ns:∀m,s.heap.Ns X.env.locals m->h'.Ns X.env.locals m) (hok:HOk X.prog X.w H' h') (hg:AllBare g'):
  Inv X pins σ H' { s with heap:=h',gens:=g',drawn:=d',toks:=t' }:=by
 have t:∀b o,X.s₀.heap.get? b=some o->b≠X.env.locals:=λb o e=>bJ (bQ (aW e) I.ok.above);have h:∀b o,X.s₀.heap.get? b=some o->b∉X.ex->b∉ch:=λb o e hx hb=>by
  rcases(a b hb).1 with z |z
  .exact hx z
  .exact absurd (bQ (aW e) z) (eW _)
 have f:∀x c,X.env.cells.lookup x=some c->∀v,s.heap.IsCell c v->h'.IsCell c v:=λx c e v#[o,D,hd]=>by
  have g:c∉ch:=λz=>(a c z).2.2.1 x c e rfl;by_cases hc:c∈X.fs
  .obtain⟨sl,q⟩:=slot c o (I.cne x c e) hc g D (I.freeC x c e);exact#[_,q,hd]
  .exact#[o,keep c o (I.cne x c e) hc g D (I.freeC x c e),hd]
 refine#[I.ok,I.os,hg,#[λb o e n hb hx=>?_,λb o e n hb hx=>?_,λb o e n hx=>?_,λb o e hx=>?_,λb F e=>tups b F (I.base.tups b F e),λb o F e=>frzs b o F (I.base.frzs b o F e),λb J e=>?_],?_,λx c e=>?_,?_,λx c e=>?_,λp hp=>?_,hok,I.len]
 .exact keep b o (t b o e) hb (h b o e hx) (I.base.keep b o e n hb hx) (I.base.free b o e n hx)
 .obtain⟨sl,e1⟩:=I.base.slot b o e n hb hx;obtain⟨j,C⟩:=slot b _ (t b o e) hb (h b o e hx) e1 (I.base.free b o e n hx);exact#[j,C]
 .obtain⟨B,e1⟩:=I.base.there b o e hx;exact free b B (h b o e hx) e1 (I.base.free b o e n hx)
 .obtain⟨B,e1⟩:=I.base.there b o e hx;exact there b B (h b o e hx) e1
 .obtain⟨m1,e1⟩:=I.base.tbls b J e;obtain⟨m2,C⟩:=tbls b _ e1;exact#[m1++m2,by rw[C,Array.append_assoc]]
 .obtain⟨m,R,Y⟩:=I.loc;refine#[m,ns m R,λi x v e1 C O=>?_];obtain⟨u,r,l⟩:=Y i x v e1 C O;refine#[u,r,?_];rcases l with l |⟨k,c,e,z⟩
  .exact .inl l
  .exact .inr #[k,c,e,f x c e _ z]
 .obtain⟨v,z⟩:=I.cell x c e;exact#[v,f x c e v z]
 .obtain⟨m,⟨o,_,_,D,_⟩,_⟩:=I.loc;exact free _ o (λz=>(a _ z).2.1 rfl) D I.free
 .obtain⟨v,o,D,hd⟩:=I.cell x c e;exact free c o (λz=>(a c z).2.2.1 x c e rfl) D (I.freeC x c e)
 .obtain⟨e,n,ne,G,d⟩:=I.pin p hp;have g:p.1∉ch:=λz=>(a p.1 z).2.2.2 p hp rfl;exact#[keep p.1 p.2 ne G g e n,free p.1 p.2 g e n,ne,G,d]
def Inv.un(I:Inv X pins σ H s)(u:Un X.fs [] H H' s.heap h')(hok:HOk X.prog X.w H' h'):Inv X pins σ H' { s with heap:=h',toks:=t' }:=by
 obtain⟨m,⟨o,g,j,D,r⟩,_⟩:=id I.loc;obtain⟨sl,C⟩:=u.any D I.free (by simp);exact I.step (g':=s.gens) (d':=s.drawn) (ch:=[]) (λ_ z=>nomatch z) (λb o _ hb _ e n=>u.keep b o e n hb (by simp)) (λb o _ hb _ e n=>u.slot b o e n hb (by simp)) (λb o _ e n=>u.free b o e n (by simp)) (λb o _ e=>u.there b o e (by simp)) u.tups u.frzs u.tbls (λQ hm=>by
  obtain⟨B,f,l,A,t⟩:=hm;rw[D]at A;cases A;exact#[_,f,l,C,t]) hok I.bare
def Inv.call{g':Array GenState}{d':Drawn}{ch:List Addr}(I:Inv X pins σ H s)(u:Un (frs X.stack) ch H H' s.heap h')(hok:HOk X.prog X.w H' h')(hg:AllBare g')
  (a:∀b∈ch,(b∈X.ex∨X.s₀.heap.objs.size<=b)/\b≠X.env.locals/\(∀x c,X.env.cells.lookup x=some c->c≠b)/\∀p∈X.pn++pins,p.1≠b):
  Inv X pins σ H' { s with heap:=h',gens:=g',drawn:=d',toks:=t' }:=by
 obtain⟨m,⟨o,g,j,D,r⟩,_⟩:=id I.loc;obtain⟨sl,C⟩:=u.any D I.free λz=>(a _ z).2.1 rfl;exact I.step (ch:=ch) a (λb o C hb hc e n=>u.keep b o e n (λz=>(eA.mp (I.stkSub b z)).elim C hb) hc) (λb o _ _ hc e n=>u.any e n hc) (λb o hc e n=>u.free b o e n hc) (λb o hc e=>u.there b o e hc) u.tups u.frzs u.tbls (λQ hm=>by
  obtain⟨B,f,l,A,t⟩:=hm;rw[D]at A;cases A;exact#[_,f,l,C,t]) hok hg
def Inv.turned{S:Addr}(I:Inv X pins σ H s)(k:∀b o,b≠S->s.heap.get? b=some o->h'.get? b=some o)(R:H S=none)(C:S≠X.env.locals)
  (h1:S∈X.ex∨X.s₀.heap.objs.size<=S) (h2:∀x c,X.env.cells.lookup x=some c->c≠S) (h3:∀p∈X.pn++pins,p.1≠S):Inv X pins σ H { s with heap:=h',toks:=t' }:=by
 have a:∀b u,H b=some u->b≠S:=λb u e z=>by rw[z,R]at e;cases e
 refine I.step (g':=s.gens) (d':=s.drawn) (ch:=[S]) (λb hb=>?_) (λb o _ _ hc e _=>k b o (λz=>hc (by simp [z])) e) (λb o _ _ hc e _=>#[o.slots,k b o (λz=>hc (by simp [z])) e]) (λ_ _ _ _ n=>n)
  (λb o hc e=>#[o,k b o (λz=>hc (by simp [z])) e]) (λ_ _ e=>e) (λ_ _ _ e=>e) (λb J e=>#[(List.toArray []),by rw[e];simp]) (λm hm=>?_) (λb u e=>?_) I.bare
 .have e:b=S:=by simpa using hb
  subst e;exact#[h1,C,h2,h3]
 .obtain⟨o,g,j,D,r⟩:=hm;exact#[o,g,j,k _ o (Ne.symm C) D,r]
 .refine(I.hok b u e).stay (λc v hc q=>k c v ?_ q) (λ_ q=>q) λ_ _ q=>q;rcases hc with z |z
  .rw[z];exact a b u e
  .exact a c _ z
def Inv.tok(I:Inv X pins σ H s)(t:Nat):Inv X pins σ H { s with toks:=t }:=I.un (h':=s.heap) (t':=t) Un.refl I.hok
def Inv.kept(I:Inv X pins σ H s)(k:∀b u,s.heap.get? b=some u->h'.get? b=some u):Inv X pins σ H { s with heap:=h',toks:=t' }:=I.un (Un.kept k) (I.hok.kept k)
def Inv.laid(I:Inv X pins σ H s)(k:∀b u,s.heap.get? b=some u->h'.get? b=some u)(hp:s.heap.objs.size<=a)(new:jF X.prog X.w (upd H a o) h' a o):
  Inv X pins σ (upd H a o) { s with heap:=h',toks:=t' }:=I.un (Un.laid k hp (I.hok.fresh hp)) (I.hok.laid k hp new)
def Inv.write{x e:Addr}(I:Inv X pins σ H s)(mu:Mut (H x))(l:e=x∨H e=some (.own x))(k:∀b u,b≠e->s.heap.get? b=some u->h'.get? b=some u)(d:∃u,h'.get? e=some u)
  (new:jF X.prog X.w (upd H x o) h' x o):Inv X pins σ (upd H x o) { s with heap:=h',toks:=t' }:=I.un (Un.write mu l k d) (I.hok.write mu l k d new)
def Inv.pins_of{a:List (Addr×Obj)}(I:Inv X pins σ H s)(h:∀p∈a,s.heap.get? p.1=some p.2/\H p.1=none/\p.1≠X.env.locals/\p.1∉X.fs/\∀v,p.2.data≠.cell v):Inv X a σ H s:=
 #[I.ok,I.os,I.bare,I.base,I.loc,I.cell,I.free,I.freeC,λp hp=>(cW.mp hp).elim (λz=>I.pin p (iO _ z)) (h p),I.hok,I.len]
def Xn(K:N.Nodup){x:Str}(a:N[i]?=some x)(b:N[j]?=some x):i=j:=by
 obtain⟨h1,e1⟩:=aK.mp a;obtain⟨h2,C⟩:=aK.mp b;exact(List.getElem_inj K).mp (e1.trans C.symm)
def Rt{x:Str}{v:V}{Q:Unit->Shared->Prop}(I:Inv X pins σ H s)(K:X.N.Nodup)(hi:X.N[i]?=some x)(hx:Loc X.env.scope x)(r:fD v u)
  (h:∀U,Inv X pins (σ.set i (some v)) H U->(∃a,Heap.SameBut a s.heap U.heap/\(a=X.env.locals∨X.env.cells.lookup x=some a))->Q () U) (hf:X.fn x=true∨X.env.scope.names.lookup x=some .local:=by first |exact .inl rfl |exact .inr rfl |assumption):wpAny M A (storeName X.env x u) Q E s:=by
 obtain⟨m,R,Y⟩:=id I.loc;have a2:(X.env.scope.kind== .class||(X.env.scope.kind== .module&&X.env.locals !=X.env.globals))=false:=by rw[I.ok.kind];rfl
 have a0:i<σ.length:=by rw[I.len];exact(aK.mp hi).1
 have cne:=I.cne;have g:∀{a:Addr}{h':Heap},(∃o,s.heap.get? a=some o/\H a=none)->Heap.SameBut a s.heap h'->HOk X.prog X.w H h':=fun{a h'} ha hs b ob e=>by
  obtain⟨_,_,T⟩:=ha;refine(I.hok b ob e).stay (λc J hc q=>(hs.2 c ?_).trans q) (λ_ q=>q) λ_ _ q=>q;rintro rfl;rcases hc with rfl |hc
  .rw[T]at e;cases e
  .rw[T]at hc;cases hc
 rcases hx with hk |hk
 .refine wpAny_storeName_local hk R (λh' D hs=>?_) a2;obtain⟨oL,_,_,a6,_⟩:=id R;refine h _ #[I.ok,I.os,I.bare,#[λb o e n hb hx=>?_,λb o e n hb hx=>?_,I.base.free,λb o e hx=>?_,I.base.tups,I.base.frzs,I.base.tbls],#[_,D,λj y Z e1 C O=>?_],λy c e=>?_,I.free,I.freeC,λp hp=>?_,g #[oL,a6,I.free] hs,by simpa using I.len] #[_,hs,.inl rfl]
  .exact(hs.2 b (bJ (bQ (aW e) I.ok.above))).trans (I.base.keep b o e n hb hx)
  .obtain⟨sl,e1⟩:=I.base.slot b o e n hb hx;exact#[sl,(hs.2 b (bJ (bQ (aW e) I.ok.above))).trans e1]
  .obtain⟨B,e1⟩:=I.base.there b o e hx;exact#[B,(hs.2 b (bJ (bQ (aW e) I.ok.above))).trans e1]
  .by_cases P:j=i
   .subst P;rw[hi]at e1;cases e1;rw[List.getElem?_set_self a0]at C;cases C;exact#[u,r,.inl #[hk,by simp]]
   .rw[List.getElem?_set_ne (Ne.symm P)]at C;obtain⟨u',t,q⟩:=Y j y Z e1 C O;refine#[u',t,?_];rcases q with⟨k,e⟩|⟨k,c,e,z⟩
    .refine .inl #[k,?_];have:y≠x:=λe=>P (Xn K e1 (e▸hi));simp [this,e]
    .exact .inr #[k,c,e,z.sameBut hs (cne y c e)]
  .obtain⟨J,z⟩:=I.cell y c e;exact#[J,z.sameBut hs (cne y c e)]
  .obtain⟨e,n,ne,G,d⟩:=I.pin p hp;exact#[(hs.2 p.1 ne).trans e,n,ne,G,d]
 .have a1:X.fn x=true:=by
   rcases hf with z |z
   .exact z
   .rw[z]at hk;cases hk
  obtain⟨c,hc⟩:=I.ok.has x (.inl hk);obtain⟨J,z⟩:=I.cell x c hc;refine wpAny_storeName_cell I.ok.kind hk hc z (λh' F hs=>?_);obtain⟨oc,a3,a4⟩:=id z;refine h { s with heap:=h' } #[I.ok,I.os,I.bare,#[λb o e n hb hx=>?_,λb o e n hb hx=>?_,I.base.free,λb o e hx=>?_,I.base.tups,I.base.frzs,I.base.tbls],#[m,R.sameBut hs (Ne.symm (cne x c hc)),λj y Z e1 C O=>?_],λy c' e=>?_,I.free,I.freeC,λp hp=>?_,g #[oc,a3,I.freeC x c hc] hs,by simpa using I.len] #[c,hs,.inr hc]
  .exact(hs.2 b (bJ (bQ (aW e) (I.ok.cab x c a1 hc)))).trans (I.base.keep b o e n hb hx)
  .obtain⟨sl,e1⟩:=I.base.slot b o e n hb hx;exact#[sl,(hs.2 b (bJ (bQ (aW e) (I.ok.cab x c a1 hc)))).trans e1]
  .obtain⟨B,e1⟩:=I.base.there b o e hx;exact#[B,(hs.2 b (bJ (bQ (aW e) (I.ok.cab x c a1 hc)))).trans e1]
  .by_cases P:j=i
   .subst P;rw[hi]at e1;cases e1;rw[List.getElem?_set_self a0]at C;cases C;exact#[u,r,.inr #[.inl hk,c,hc,F]]
   .rw[List.getElem?_set_ne (Ne.symm P)]at C;obtain⟨u',t,q⟩:=Y j y Z e1 C O;refine#[u',t,?_];rcases q with q |⟨k,c',e,z'⟩
    .exact .inl q
    .refine .inr #[k,c',e,z'.sameBut hs ?_];rintro rfl;exact P (Xn K e1 (I.ok.inj _ _ _ e hc▸hi))
  .by_cases a5:c'=c
   .subst a5;exact#[_,F]
   .obtain⟨l,S⟩:=I.cell y c' e;exact#[l,S.sameBut hs a5]
  .obtain⟨e,n,ne,G,d⟩:=I.pin p hp;refine#[(hs.2 p.1 ?_).trans e,n,ne,G,d];intro q;rw[q,a3]at e;have f:oc=p.2:=aV e;exact d J (by rw[←f];exact a4)
def Fa{x:Str}{v:V}{Q:Unit->Shared->Prop}(I:Inv X pins σ H s)(K:X.N.Nodup)(hi:X.N[i]?=some x)(hx:Loc X.env.scope x)(r:fD v u)
  (h:∀U,Inv X pins (σ.set i (some v)) H U->Q () U) (hf:X.fn x=true∨X.env.scope.names.lookup x=some .local:=by first |exact .inl rfl |exact .inr rfl |assumption):wpAny M A (storeName X.env x u) Q E s:=
 Rt I K hi hx r (λU g _=>h U g) hf
def Inv.call'{U:Shared}{ch:List Addr}(I:Inv X pins σ H s)(D:U.os=s.os)(u:Un (frs X.stack) ch H H' s.heap U.heap)(hok:HOk X.prog X.w H' U.heap)(hg:AllBare U.gens)
  (a:∀b∈ch,(b∈X.ex∨X.s₀.heap.objs.size<=b)/\b≠X.env.locals/\(∀x c,X.env.cells.lookup x=some c->c≠b)/\∀p∈X.pn++pins,p.1≠b):Inv X pins σ H' U:=by
 obtain⟨h',o,R,O,B⟩:=U;have e:B=s.os:=D;subst e;exact I.call (g':=o) (t':=O) (d':=R) u hok hg a
end
noncomputable abbrev XK:=Value->Option Addr->Hp->Prop
noncomputable abbrev St:=List (Option V)
noncomputable abbrev VK:=V->Hp->Prop
noncomputable abbrev TE:=St->Hp->VK->Prop
noncomputable abbrev TT:=St->Hp->(Bool->Hp->Prop)->Prop
noncomputable abbrev TA:=St->Hp->(List V->Hp->Prop)->Prop
structure rW where
 nx:St->Hp->Prop
 rt:VK
 bk:St->Hp->Prop:=λ_ _=>False
 ct:St->Hp->Prop:=λ_ _=>False
noncomputable abbrev TS:=rW->St->Hp->Prop
def EP(X:Cx)(B:List (Addr×Obj))(Z:St)(Q:VK)(u:Value)(U:Shared):Prop:=∃v H',Inv X B Z H' U/\fD v u/\Q v H'
def TP(X:Cx)(B:List (Addr×Obj))(Z:St)(Q:Bool->Hp->Prop)(b:Bool)(U:Shared):Prop:=∃H',Inv X B Z H' U/\Q b H'
def AP(X:Cx)(B:List (Addr×Obj))(Z:St)(Q:List V->Hp->Prop)(us:List Value)(U:Shared):Prop:=∃vs H',Inv X B Z H' U/\fF vs us/\Q vs H'
def SP(X:Cx)(B:List (Addr×Obj))(D:rW)(f:Flow)(U:Shared):Prop:=
 match f with
 | .next=>∃P H',Inv X B P H' U/\D.nx P H'
 | .brk=>∃P H',Inv X B P H' U/\D.bk P H'
 | .cont=>∃P H',Inv X B P H' U/\D.ct P H'
 | .ret u=>∃v P H',Inv X B P H' U/\fD v u/\D.rt v H'
def PE(X:Cx)(e:Expr)(t:TE):Prop:=
 ∀(B:List (Addr×Obj))(s:Shared)(Z:St)(H:Hp)(Q:VK),Inv X B Z H s->t Z H Q->wpAny (model X.prog X.w) X.A (eval e X.env) (EP X B Z Q) X.xe s
def PT(X:Cx)(e:Expr)(t:TT):Prop:=
 ∀(B:List (Addr×Obj))(s:Shared)(Z:St)(H:Hp)(Q:Bool->Hp->Prop),Inv X B Z H s->t Z H Q->wpAny (model X.prog X.w) X.A (isTrue e X.env (eval e X.env)) (TP X B Z Q) X.xe s
def PW(X:Cx)(e:Expr)(t:TT):Prop:=
 ∀(g:Sem Value)(B:List (Addr×Obj))(s:Shared)(Z:St)(H:Hp)(Q:Bool->Hp->Prop),Inv X B Z H s->t Z H Q->wpAny (model X.prog X.w) X.A (isTrue e X.env g) (TP X B Z Q) X.xe s
def PW.pt{t:TT}(h:PW X e t):PT X e t:=h _
def PA(X:Cx)(g:List Expr)(t:TA):Prop:=
 ∀(pos:Pos)(B:List (Addr×Obj))(s:Shared)(Z:St)(H:Hp)(Q:List V->Hp->Prop),Inv X B Z H s->t Z H Q->wpAny (model X.prog X.w) X.A (spliced (backTo pos (starEach g X.env))) (AP X B Z Q) X.xe s
def PS(X:Cx)(st:Stmt)(t:TS):Prop:=
 ∀(B:List (Addr×Obj))(s:Shared)(Z:St)(H:Hp)(D:rW),Inv X B Z H s->t D Z H->wpAny (model X.prog X.w) X.A (exec st X.env) (SP X B D) X.xe s
def PSs(X:Cx)(st:List Stmt)(t:TS):Prop:=
 ∀(B:List (Addr×Obj))(s:Shared)(Z:St)(H:Hp)(D:rW),Inv X B Z H s->t D Z H->wpAny (model X.prog X.w) X.A (execs st X.env) (SP X B D) X.xe s
def thn{t:Sem d}{Q f:d->Shared->Prop}(h:wpAny M A t Q E s)(p:∀a s,Q a s->f a s):wpAny M A t f E s:=wpAny_mono h p λ_ _ x=>x
def thE{X:Cx}{M:Model}{A:Around}{E:Value->Shared->Prop}{s:Shared}{O:St}{B:List (Addr×Obj)}{t:Sem Value}{Q:V->Hp->Prop}{g:Value->Shared->Prop}(h:wpAny M A t (EP X B O Q) E s)(f:∀v s x Z,Inv X B O Z s->fD x v->Q x Z->g v s):wpAny M A t g E s:=thn h λv s ⟨x,Z,p,q,r⟩=>f v s x Z p q r
def thF{X:Cx}{M:Model}{A:Around}{E:Value->Shared->Prop}{s:Shared}{O:St}{B:List (Addr×Obj)}{t:Sem (List Value)}{Q:List V->Hp->Prop}{g:List Value->Shared->Prop}(h:wpAny M A t (AP X B O Q) E s)(f:∀v s x Z,Inv X B O Z s->fF x v->Q x Z->g v s):wpAny M A t g E s:=thn h λv s ⟨x,Z,p,q,r⟩=>f v s x Z p q r
def thT{X:Cx}{M:Model}{A:Around}{E:Value->Shared->Prop}{s:Shared}{O:St}{B:List (Addr×Obj)}{t:Sem Bool}{Q:Bool->Hp->Prop}{g:Bool->Shared->Prop}(h:wpAny M A t (TP X B O Q) E s)(f:∀v s Z,Inv X B O Z s->Q v Z->g v s):wpAny M A t g E s:=thn h λv s ⟨Z,p,r⟩=>f v s Z p r
section
variable{X:Cx}
def exI(x:V)(k:Int->Prop):Prop:=match x with
 | .int i=>k i
 |x=>∃i,x=.int i/\k i
def exB(x:V)(k:Bool->Prop):Prop:=match x with
 | .bl i=>k i
 |x=>∃i,x=.bl i/\k i
def exR(x:V)(k:Addr->Prop):Prop:=match x with
 | .ref i=>k i
 |x=>∃i,x=.ref i/\k i
def fJ{i:Int}{k:Int->Prop}:exI (.int i) k=k i:=rfl
def fK{i:Bool}{k:Bool->Prop}:exB (.bl i) k=k i:=rfl
def fH{i:Addr}{k:Addr->Prop}:exR (.ref i) k=k i:=rfl
def hE{x:V}{k:Int->Prop}:exI x k=∃i,x=.int i/\k i:=by
 cases x<;>first |rfl |exact propext #[λh=>#[_,rfl,h],fun⟨_,e,h⟩=>by cases e;exact h]
def jZ{x:V}{k:Bool->Prop}:exB x k=∃i,x=.bl i/\k i:=by
 cases x<;>first |rfl |exact propext #[λh=>#[_,rfl,h],fun⟨_,e,h⟩=>by cases e;exact h]
def iQ{x:V}{k:Addr->Prop}:exR x k=∃i,x=.ref i/\k i:=by
 cases x<;>first |rfl |exact propext #[λh=>#[_,rfl,h],fun⟨_,e,h⟩=>by cases e;exact h]
def jVQ{x:V}{k d:Int->Prop}(h:exI x k)(m:∀i,k i->d i):exI x d:=by
 rw[hE]at h⊢;obtain⟨i,e,h⟩:=h;exact#[i,e,m i h]
def aE(i:Nat):TE:=λZ H Q=>match Z[i]? with |some (some v)=>Q v H |_=>False
def tC(v:V):TE:=λ_ H Q=>Q v H
def pe_var{x:Str}{pos:Pos}(K:X.N[i]?=some x)(hv:Vis X.env.scope x)(hd:(x==("__debug__":Str))=false:=by decide)(p:(x==("__classdict__":Str))=false:=by decide):PE X (.Name x pos) (aE i):=by
 intro B s Z H Q I h;have h:∃v,Z[i]?=some (some v)/\Q v H:=by
  unfold aE at h;split at h
  .exact#[_,‹_›,h]
  .exact h.elim
 obtain⟨v,e,h⟩:=h;obtain⟨m,R,Y⟩:=I.loc;obtain⟨u,r,l⟩:=Y i x v K e hv;have fin:EP X B Z Q u s:=#[v,H,I,r,h];rcases l with⟨hk,hm⟩|⟨hk,c,hc,g⟩
 .exact wpAny_Name (wpAny_loadName_local I.ok.kind hk R hm fin) hd
 .rcases hk with hk |hk
  .exact wpAny_Name (wpAny_loadName_cell I.ok.kind hk hc g fin) hd
  .exact wpAny_Name (wpAny_loadName_free I.ok.kind hk hc g fin p) hd
def aO{i j pos}:PE X (.Constant (.int i) j pos) (tC (.int i)):=λ_ _ _ H _ I h=>wpAny_Constant_int #[.int i,H,I.tok _,#[_,rfl],h]
def qM{b j pos}:PE X (.Constant (.bool b) j pos) (tC (.bl b)):=λ_ _ _ H _ I h=>Constant_bool #[.bl b,H,I,rfl,h]
def qO{j pos}:PE X (.Constant .none j pos) (tC .non):=λ_ _ _ H _ I h=>Constant_none #[.non,H,I,rfl,h]
def pe_str{x j pos}:PE X (.Constant (.str x) j pos) (tC (.str x)):=λ_ _ _ H _ I h=>Calls.Constant_str #[.str x,H,I.tok _,#[_,rfl],h]
def Gl(X:Cx)(x:Str):Prop:=X.env.kindOf x=some .globalImplicit
def Vl{B:List (Addr×Obj)}{x:Str}{pos:Pos}(I:Inv X B Z H s)(hg:Gl X x)(hm:X.mg x=some u)(h:Q u s)
  (hd:(x==("__debug__":Str))=false:=by decide):wpAny (model X.prog X.w) X.A (eval (.Name x pos) X.env) Q E s:=
 Calls.Name_function_global I.ok.kind hg (Calls.loadGlobal_global (by rw[I.ok.glob];exact I.mod.glob.keeps I.bk) hm h) hd
def lR{B:List (Addr×Obj)}{x:Str}{pos:Pos}(I:Inv X B Z H s)(hg:Gl X x)(hm:X.mg x=none)(hv:bootBuiltins x=some u)(h:Q u s)
  (R:x≠ "__name__":=by decide) (hd:(x==("__debug__":Str))=false:=by decide):wpAny (model X.prog X.w) X.A (eval (.Name x pos) X.env) Q E s:=by
 obtain⟨M,h1,h2⟩:=I.mod.blt;exact Calls.Name_function_global I.ok.kind hg (Calls.loadGlobal_builtin (by rw[I.ok.glob];exact I.mod.glob.keeps I.bk) hm (by rw[I.ok.blt];exact h1.keeps I.bk) ((h2 x R).trans hv) h) hd
def pe_glob{x:Str}{v:V}{pos:Pos}(hg:Gl X x)(hm:X.mg x=some u)(r:fD v u)(hd:(x==("__debug__":Str))=false:=by decide):PE X (.Name x pos) (tC v):=
 λ_ _ _ H _ I h=>Vl I hg hm #[v,H,I,r,h] hd
def Ay{x:Str}{v:V}{pos:Pos}(hg:Gl X x)(hm:X.mg x=none)(hv:bootBuiltins x=some u)(r:fD v u)(R:x≠ "__name__":=by decide)(hd:(x==("__debug__":Str))=false:=by decide):PE X (.Name x pos) (tC v):=
 λ_ _ _ H _ I h=>lR I hg hm hv #[v,H,I,r,h] R hd
variable{a b:Expr}{ta tb:TE}{pos:Pos}
def PC(X:Cx)(op:CmpOp)(a b:Expr)(t:TE):Prop:=
 ∀(B:List (Addr×Obj))(s:Shared)(Z:St)(H:Hp)(Q:VK),Inv X B Z H s->t Z H Q->
  wpAny (model X.prog X.w) X.A (eval a X.env) (λv N=>wpAny (model X.prog X.w) X.A (eval b X.env) (λu m=>wpAny (model X.prog X.w) X.A (compareOp op v u) (EP X B Z Q) X.xe m) X.xe N) X.xe s
def tB(t:TE):TT:=λZ H Q=>t Z H λx S=>∃c,x=.bl c/\Q c S
def pt_cmp{t:TE}(h:PC X op a b t)(h1:behindInMarks op b=false:=by first |exact nobehind _ (by decide) (by decide)|rfl):PT X (.Compare a [op] [b] pos) (tB t):=by
 intro B s Z H Q I hw;refine wpAny_isTrue_Compare1 (thn (h B s Z H _ I hw) λv O h1=>thn h1 λu F h2=>thn h2 λc s3#[x,S,j,f,q1]=>?_) h1;obtain⟨d,rfl,q⟩:=q1;cases f;exact wpAny_truthy_bool #[S,j,q]
def mW{t:TE}(h:PE X e t)(l:∀g,isTrue e X.env g=(do let v ←g;standAt e.pos;holding [v] (truthy v)):=by intro _;rfl):PT X e (tB t):=by
 intro B s Z H Q I hw;refine isTrue_plain (thE (h B s Z H _ I hw) λv O x S j f q1=>?_) (l _);obtain⟨d,rfl,q⟩:=q1;cases f;exact wpAny_truthy_bool #[S,j,q]
variable{tA tB':TT}{rest:List Expr}
def Ek(t u:TT):TT:=λZ H Q=>t Z H λc S=>if c=true then u Z S Q else Q false S
def tOr(t u:TT):TT:=λZ H Q=>t Z H λc S=>if c=true then Q true S else u Z S Q
def vJ(t:TT):TT:=λZ H Q=>t Z H λc S=>Q (!c) S
def Lj(ha:PT X a tA):PW X (.BoolOp .And [a] pos) tA:=by
 intro d B s Z H Q I h;refine isTrue_and (thn (ha B s Z H Q I h) λc O e=>?_);cases c with
 |true=>exact isTrue_and_nil e
 |false=>exact e
def pN(ha:PT X a tA):PW X (.BoolOp .Or [a] pos) tA:=by
 intro d B s Z H Q I h;refine isTrue_or (thn (ha B s Z H Q I h) λc O e=>?_);cases c with
 |false=>exact isTrue_or_nil e
 |true=>exact e
def Ui(ha:PT X a tA)(hb:PW X (.BoolOp .And (b::rest) pos) tB'):PW X (.BoolOp .And (a::b::rest) pos) (Ek tA tB'):=by
 intro d B s Z H Q I h;refine isTrue_and (thT (ha B s Z H _ I h) λc O S j q1=>?_);cases c with
 |true=>exact hb d B O Z S Q j q1
 |false=>exact#[S,j,q1]
def mS(ha:PT X a tA)(hb:PW X (.BoolOp .Or (b::rest) pos) tB'):PW X (.BoolOp .Or (a::b::rest) pos) (tOr tA tB'):=by
 intro d B s Z H Q I h;refine isTrue_or (thT (ha B s Z H _ I h) λc O S j q1=>?_);cases c with
 |true=>exact#[S,j,q1]
 |false=>exact hb d B O Z S Q j q1
def qN(ha:PT X a tA):PT X (.UnaryOp .Not a pos) (vJ tA):=by
 intro B s Z H Q I h;exact isTrue_not (ha B s Z H (λc S=>Q (!c) S) I h)
def rY(ta tb:TE):TE:=λZ H Q=>ta Z H λx S=>∃c,x=.bl c/\if c=true then tb Z S Q else Q (.bl false) S
def Zk(ta tb:TE):TE:=λZ H Q=>ta Z H λx S=>∃c,x=.bl c/\if c=true then Q (.bl true) S else tb Z S Q
def yB(ta:TE):TE:=λZ H Q=>ta Z H λx S=>∃c,x=.bl c/\Q (.bl (!c)) S
def Uk{op}{t:TE}(h:PE X a t):PE X (.BoolOp op [a] pos) t:=λB s Z H Q I hw=>BoolOp_one (h B s Z H Q I hw)
def Ul(ha:PE X a ta)(hb:PE X (.BoolOp .And (b::rest) pos) tb):PE X (.BoolOp .And (a::b::rest) pos) (rY ta tb):=by
 intro B s Z H Q I h;refine BoolOp_and (thE (ha B s Z H _ I h) λv O x S j f q1=>?_);obtain⟨c,rfl,q1⟩:=q1;cases f;refine wpAny_truthy_bool ?_;cases c with
 |true=>exact hb B O Z S Q j q1
 |false=>exact#[.bl false,S,j,rfl,q1]
def pe_not(ha:PE X a ta):PE X (.UnaryOp .Not a pos) (yB ta):=by
 intro B s Z H Q I h;refine UnaryOp_ (thE (ha B s Z H _ I h) λv O x S j f q1=>?_);obtain⟨c,rfl,q1⟩:=q1;cases f;exact not_of (wpAny_truthy_bool #[.bl (!c),S,j,rfl,q1])
def tIf(t:TT)(ta tb:TE):TE:=λZ H Q=>t Z H λc S=>if c=true then ta Z S Q else tb Z S Q
def Nn(hc:PT X c tA)(ha:PE X a ta)(hb:PE X b tb):PE X (.IfExp c a b pos) (tIf tA ta tb):=by
 intro B s Z H Q I h;refine wpAny_IfExp (thT (hc B s Z H _ I h) λd O S j q1=>?_);cases d with
 |true=>exact ha B O Z S Q j q1
 |false=>exact hb B O Z S Q j q1
end
def SqL(K:aR)(H:Hp)(a:Addr)(xs:List V):Prop:=
 Rd H a (.lst xs)∨
  ∃(o:Obj)(G:Array Value)(n:Nat),K.lookup a=some o/\o.cls=.type "list"/\o.dict=none/\o.data=.seq G n/\G.size<=sizeLine/\fF xs G.toList
def SqT(K:aR)(H:Hp)(a:Addr)(xs:List V):Prop:=
 Rd H a (.tup xs)∨
  ∃(o:Obj)(G:Array Value)(n:Nat),K.lookup a=some o/\o.cls=.type "tuple"/\o.data=.seq G n/\G.size<=sizeLine/\fF xs G.toList
noncomputable def absV:Value->Option V
 | .none=>some .non
 | .bool b=>some (.bl b)
 | .int i _=>some (.int i)
 | .str x _=>some (.str x)
 | .bytes b _=>some (.byt b)
 | .float b _=>some (.flt b)
 | .ref a=>some (.ref a)
 | .type n=>some (.ty n)
 |_=>none
def fD.abs{x:V}(r:fD x u):absV u=some x:=by
 cases x with
 |non=>cases r;rfl
 |bl _=>cases r;rfl
 |int _=>obtain⟨t,rfl⟩:=r;rfl
 |str _=>obtain⟨t,rfl⟩:=r;rfl
 |byt _=>obtain⟨t,rfl⟩:=r;rfl
 |flt _=>obtain⟨t,rfl⟩:=r;rfl
 |ref _=>cases r;rfl
 |ty _=>cases r;rfl
def fD.inj{x y:V}{u:Value}(r:fD x u)(q:fD y u):x=y:=aV (r.abs.symm.trans q.abs)
def fF.inj:∀{xs ys:List V}{us:List Value},fF xs us->fF ys us->xs=ys
 |_,_,_,.nil,.nil=>rfl
 |_,_,_,.cons r t,.cons r' t'=>by rw[r.inj r',fF.inj t t']
section
variable{X:Cx}{pins:List (Addr×Obj)}{σ:St}{H:Hp}{s:Shared}{a:Addr}{xs ys:List V}
def SqL.of(h:H a=some (.lst xs)):SqL K H a xs:=.inl (.inl h)
def SqT.of(h:H a=some (.tup xs)):SqT K H a xs:=.inl (.inl h)
def Inv.list(I:Inv X pins σ H s)(h:SqL X.K H a xs):∃G:List Value,fF xs G/\PlainL s.heap a G.toArray/\xs.length<=sizeLine:=by
 rcases h with h |⟨o,G,n,hk,hc,hd,hs,M,r⟩
 .obtain⟨z,G,n,r,e⟩:=h.ok I.hok;exact#[G,r,#[_,n,e,rfl,rfl,rfl],z]
 .refine#[G.toList,r,#[o,n,I.kIn a o hk,hc,hd,by simpa using hs],?_];have e:=r.length;simp only[Array.length_toList]at e;lia
def Inv.tuple(I:Inv X pins σ H s)(h:SqT X.K H a xs):∃G:List Value,fF xs G/\IsTup s.heap a G.toArray/\xs.length<=sizeLine:=by
 rcases h with h |⟨o,G,n,hk,hc,hs,M,r⟩
 .obtain⟨z,G,r,p⟩:=h.ok I.hok;exact#[G,r,p,z]
 .refine#[G.toList,r,#[o,I.kIn a o hk,hc,n,by simpa using hs],?_];have e:=r.length;simp only[Array.length_toList]at e;lia
def Inv.list_inj(I:Inv X pins σ H s)(h:SqL X.K H a xs)(h':SqL X.K H a ys):xs=ys:=by
 obtain⟨G,r,⟨o,n,e,_,_,d⟩,_⟩:=I.list h;obtain⟨b,t,⟨B,g,A,_,_,R⟩,_⟩:=I.list h';rw[e]at A;cases A;rw[d]at R;injection R with d1 _;have:G=b:=by simpa using congrArg Array.toList d1
 subst this;exact r.inj t
end
noncomputable abbrev Cx.wish(X:Cx)(E:Value->Shared->Prop):Cx:={ X with xe:=E }
noncomputable abbrev Cx.nox(X:Cx):Cx:=X.wish λ_ _=>False
def Cx.Ok.wish(ok:X.Ok)(E:Value->Shared->Prop):(X.wish E).Ok:=
 #[ok.mod,ok.kind,ok.glob,ok.blt,ok.above,ok.inj,ok.has,ok.cab,ok.hd,ok.frames,ok.stk,ok.exf,ok.bs,ok.bsz,ok.noex,ok.exfs,ok.funs,ok.frf]
theorem Cx.Ok.unwish(ok:(X.wish E).Ok):X.Ok:=
 #[ok.mod,ok.kind,ok.glob,ok.blt,ok.above,ok.inj,ok.has,ok.cab,ok.hd,ok.frames,ok.stk,ok.exf,ok.bs,ok.bsz,ok.noex,ok.exfs,ok.funs,ok.frf]
section
variable{X:Cx}{pins:List (Addr×Obj)}{σ:St}{H:Hp}{s:Shared}{E:Value->Shared->Prop}
def Inv.wish(I:Inv X pins σ H s)(E:Value->Shared->Prop):Inv (X.wish E) pins σ H s:=#[I.ok.wish E,I.os,I.bare,I.base,I.loc,I.cell,I.free,I.freeC,I.pin,I.hok,I.len]
def Inv.unwish(I:Inv (X.wish E) pins σ H s):Inv X pins σ H s:=#[I.ok.unwish,I.os,I.bare,I.base,I.loc,I.cell,I.free,I.freeC,I.pin,I.hok,I.len]
def SP.unwish{D:rW}{f:Flow}{U:Shared}(h:SP (X.wish E) pins D f U):SP X pins D f U:=by
 cases f with
 |next=>obtain⟨P,d,I,q⟩:=h;exact#[P,d,I.unwish,q]
 |brk=>obtain⟨P,d,I,q⟩:=h;exact#[P,d,I.unwish,q]
 |cont=>obtain⟨P,d,I,q⟩:=h;exact#[P,d,I.unwish,q]
 |ret u=>obtain⟨v,P,d,I,r,q⟩:=h;exact#[v,P,d,I.unwish,r,q]
def PSs.nox{st:List Stmt}{t:TS}(h:PSs X.nox st t):PSs X st t:=λpins s σ H D I hw=>
 wpAny_mono (h pins s σ H D (I.wish _) hw) (λ_ _ q=>q.unwish) λ_ _ z=>False.elim z
end
section
variable{X:Cx}{st:Stmt}{rest:List Stmt}{t u:TS}{e:Expr}{te:TE}{pos:Pos}
def eJ:TS:=λD Z H=>D.nx Z H
def cC(t u:TS):TS:=λD Z H=>t { D with nx:=u D } Z H
def dW:PSs X [] eJ:=λ_ _ Z H _ I h=>wpAny_execs_nil #[Z,H,I,h]
def aT(h1:PS X st t)(h2:PSs X rest u):PSs X (st::rest) (cC t u):=by
 intro B s Z H D I h;refine wpAny_execs_cons (thn (h1 B s Z H { D with nx:=u D } I h) λf O q=>?_);cases f with
 |next=>
  obtain⟨P,d,g,q⟩:=q;exact h2 B O P d D g q
 |ret v=>exact q
 |brk=>exact q
 |cont=>exact q
def bA(h1:PS X st t):PSs X [st] t:=by
 intro B s Z H D I h;refine wpAny_execs_cons (thn (h1 B s Z H D I h) λf O q=>?_);cases f with
 |next=>exact wpAny_execs_nil q
 |ret v=>exact q
 |brk=>exact q
 |cont=>exact q
def Inv.quiet{B:List (Addr×Obj)}(I:Inv X B Z H s):interactive X.env=false:=by simp [interactive,I.ok.kind]
def oU(te:TE):TS:=λD Z H=>te Z H λ_ S=>D.nx Z S
def sF(l:PE X e te)(hs:swapsWith e none pos.line X.env=pure false:=by rfl):PS X (.Expr e pos) (oU te):=by
 intro B s Z H D I h;exact wpAny_Expr_any (thE (l B s Z H _ I h) λv O x S j f q1=>#[Z,S,j,q1]) I.quiet hs
def cQ(te:TE):TS:=λD Z H=>te Z H D.rt
def cE(l:PE X e te):PS X (.Return (some e) pos) (cQ te):=by
 intro B s Z H D I h;exact wpAny_Return_some (thE (l B s Z H _ I h) λv O x S j f q1=>#[x,Z,S,j,f,q1])
def fS(c:TT)(t u:TS):TS:=λD Z H=>c Z H λb S=>if b=true then t D Z S else u D Z S
def fT{a b:List Stmt}{g:TT}(hc:PT X c g)(ha:PSs X a t)(hb:PSs X b u):PS X (.If c a b pos) (fS g t u):=by
 intro B s Z H D I h;refine wpAny_If (thT (hc B s Z H _ I h) λd O S j q1=>?_);cases d with
 |true=>exact ha B O Z S D j q1
 |false=>exact hb B O Z S D j q1
def jL:TS:=λ_ _ _=>False
def nG:PS X st jL:=λ_ _ _ _ _ _ h=>h.elim
end
noncomputable abbrev TG:=V->St->Hp->(St->Hp->Prop)->Prop
noncomputable abbrev TGs:=List V->St->Hp->(St->Hp->Prop)->Prop
def PG(X:Cx)(a:Expr)(t:TG):Prop:=
 ∀(B:List (Addr×Obj))(s:Shared)(Z:St)(H:Hp)(v:V)(u:Value)(Q:St->Hp->Prop),Inv X B Z H s->fD v u->t v Z H Q->
  wpAny (model X.prog X.w) X.A (assign a X.env u) (λ_ U=>∃P H',Inv X B P H' U/\Q P H') X.xe s
def PGs(X:Cx)(n:List Expr)(t:TGs):Prop:=
 ∀(B:List (Addr×Obj))(s:Shared)(Z:St)(H:Hp)(vs:List V)(us:List Value)(Q:St->Hp->Prop),Inv X B Z H s->fF vs us->t vs Z H Q->
  wpAny (model X.prog X.w) X.A (assignInOrder ((assignEach n X.env).map (·.2)) us) (λ_ U=>∃P H',Inv X B P H' U/\Q P H') X.xe s
noncomputable abbrev TSet:=V->V->V->Hp->(Hp->Prop)->Prop
def PSet(X:Cx)(t:TSet):Prop:=
 ∀(B:List (Addr×Obj))(s:Shared)(Z:St)(H:Hp)(o i v:V)(J l u:Value)(Q:Hp->Prop),Inv X B Z H s->fD o J->fD i l->fD v u->t o i v H Q->
  wpAny (model X.prog X.w) X.A (setItem J l u) (λ_ U=>∃H',Inv X B Z H' U/\Q H') X.xe s
section
variable{X:Cx}{pos:Pos}
def aZ(i:Nat):TG:=λv Z H Q=>Q (Z.set i (some v)) H
def jZ5{x:Str}(K:X.N.Nodup)(hi:X.N[i]?=some x)(hx:Loc X.env.scope x)(hf:X.fn x=true∨X.env.scope.names.lookup x=some .local:=by first |exact .inl rfl |exact .inr rfl |assumption):PG X (.Name x pos) (aZ i):=by
 intro B s Z H v u Q I r h;exact wpAny_assign_Name (Fa I K hi hx r (λU g=>#[_,H,g,h]) hf)
def jO:TGs:=λvs Z H Q=>vs=[]/\Q Z H
def eK(t:TG)(u:TGs):TGs:=λvs Z H Q=>∃v r,vs=v::r/\t v Z H λP H'=>u r P H' Q
def Ax:PGs X [] jO:=by
 rintro B s Z H m R Q I r ⟨e,h⟩;subst e;cases r;exact assignInOrder_nil #[Z,H,I,h]
def jA{g:List Expr}{t:TG}{u:TGs}(h1:PG X e t)(h2:PGs X g u)
  (hs:(assignEach (e::g) X.env).map (·.2)=assign e X.env::(assignEach g X.env).map (·.2):=by rfl):PGs X (e::g) (eK t u):=by
 rintro B s Z H m R Q I r ⟨v,a,e1,h⟩;subst e1;cases r with
 |cons r rr=>
  rw[hs];refine assignInOrder_cons (thn (h1 B s Z H _ _ _ I r h) λ_ O#[i,S,j,q1]=>?_);exact h2 B O i S _ _ Q j rr q1
def jN(K:aR)(n:Nat)(t:TGs):TG:=λv Z H Q=>∃a xs,v=.ref a/\SqT K H a xs/\xs.length=n/\t xs Z H Q
def Ha{g:List Expr}{t:TGs}{n:Nat}(hc:X.calm=true)(h:PGs X g t)
  (R:(assignEach g X.env).length=n:=by rfl) (T:(assignEach g X.env).findIdx? (·.1)=none:=by rfl):PG X (.Tuple g k pos) (jN X.K n t):=by
 rintro B s Z H v u Q I r ⟨a,F,e1,J,Y,hw⟩;subst e1;cases r;obtain⟨G,D,y,M⟩:=I.tuple J;refine assign_Tuple_tuple (I.ok.hd hc) y (by simp [R,←Y,D.length]) T λU hx=>?_;have j:Inv X B Z H { s with heap:=U }:=I.kept (t':=s.toks) λb o e=>hx b o (bJ (aW e)) e;exact h B _ Z H F _ Q j (by simpa using D) hw
def Kr(to ti:TE)(t:TSet):TG:=λv Z H Q=>to Z H λo S=>ti Z S λi M=>t o i v M λU=>Q Z U
def Hb{o i:Expr}{to ti:TE}{t:TSet}(D:PE X o to)(hi:PE X i ti)(hs:PSet X t)
  (ha:∀v,assign (.Subscript o i pos) X.env v=(do
   let J ←holding [v] (eval o X.env);let l ←holding [v,J] (eval i X.env)
   standAt pos
   holding [v,J,l] (setItem J l v)
   release [v,J,l] []):=by intro _;rfl):PG X (.Subscript o i pos) (Kr to ti t):=by
 intro B s Z H v u Q I r h;rw[ha];refine aC (wpAny_holding (thE (D B s Z H _ I h) λJ O x S j f q1=>?_));refine aC (wpAny_holding (thE (hi B O Z S _ j q1) λl F y M k g G=>?_));refine aC (wpAny_standAt (aC (wpAny_holding (thn (hs B F Z M x y v J l u _ k f g r G) λ_ s3#[U,z,m]=>?_))));exact wpAny_release #[Z,U,z,m]
def cT(c:TE)(g:TG):TS:=λD Z H=>c Z H λx S=>g x Z S D.nx
def yQ{c:TE}{g:TG}(l:PE X e c)(hg:PG X m g)(hs:swapsWithSole [m] e pos.line X.env=pure false:=by rfl)(hw:swappedStores [m] e X.env=pure none:=by rfl)
  (h1:(assignEach [m] X.env).map (·.2)=[assign m X.env]:=by rfl):PS X (.Assign [m] e pos) (cT c g):=by
 intro B s Z H D I h;refine wpAny_Assign_stores (thE (l B s Z H _ I h) λv O x S j f q1=>?_) hs hw;rw[h1];exact thn (hg B O Z S x v _ j f q1) λ_ F q=>q
def ps_set{x:Str}{c:TE}{a:Pos}(K:X.N.Nodup)(hi:X.N[i]?=some x)(hx:Loc X.env.scope x)(l:PE X e c)(hs:swapsWith e (some (.Name x a)) pos.line X.env=pure false:=by rfl)(hf:X.fn x=true∨X.env.scope.names.lookup x=some .local:=by first |exact .inl rfl |exact .inr rfl |assumption):
  PS X (.Assign [.Name x a] e pos) (cT c (aZ i)):=by
 intro B s Z H D I h;refine wpAny_Assign_Name (thE (l B s Z H _ I h) λv O y S j f q1=>?_) hs;exact Fa j K hi hx f (λF k=>#[_,S,k,q1]) hf
def Qh(i j:Nat)(c:TA):TS:=λD Z H=>c Z H λvs S=>∃v w,vs=[v,w]/\D.nx ((Z.set i (some v)).set j (some w)) S
def ps_par{x y:Str}{a b:Expr}{c:TA}{T l pt:Pos}{kt k2 pt2}(hc:X.calm=true)(K:X.N.Nodup)(hi:X.N[i]?=some x)(P:X.N[j]?=some y)(g:i≠j)
  (hx:X.env.scope.names.lookup x=some .local) (d:X.env.scope.names.lookup y=some .local) (ha:PA X [a,b] c)
  (hw:swappedStores [.Tuple [.Name x T,.Name y l] kt pt] (.Tuple [a,b] k2 pt2) X.env=pure (some [x,y]))
  (hs:swapsWithSole [.Tuple [.Name x T,.Name y l] kt pt] (.Tuple [a,b] k2 pt2) pos.line X.env=pure false:=by rfl):
  PS X (.Assign [.Tuple [.Name x T,.Name y l] kt pt] (.Tuple [a,b] k2 pt2) pos) (Qh i j c):=by
 intro B s Z H D I h;rw[exec_Assign_arm];refine aC (wpAny_standAt ?_);rw[hs];refine aC (aU ?_);rw[aF (by decide)];refine aC (Tuple_ (thF (ha _ B s Z H _ I h) λR O m S n f q1=>?_));obtain⟨v,w,e1,q1⟩:=q1;subst e1;obtain⟨r,J,rfl,t,C⟩:∃r J,R=[r,J]/\fD v r/\fD w J:=by
  cases f with
  |cons p q=>
   cases q with
   |cons p' q'=>
    cases q';exact#[_,_,rfl,p,p']
 refine wpAny_newObj_type ?_ (by show 2<=sizeLine;decide);have k:Inv X B Z S { O with heap:=O.heap.push { cls:=.type "tuple",data:=.seq [r,J].toArray } }:=n.kept (t':=O.toks) λb o e=>aS _ e;rw[hw];refine aC (aU ?_);show wpAny (model X.prog X.w) X.A (do rule "assign.swapped-stores";let u ←unpackItems (.ref O.heap.objs.size) 2 none;assignInOrder [λv=>bindName X.env y v,λv=>bindName X.env x v] u.reverse;pure Flow.next) _ _ _;refine aC (wpAny_rule (aC (unpackItems_tuple (items:=(List.toArray [r,J])) (I.ok.hd hc) (IsTup.new O.heap _) λU M=>?_)));have z:=k.kept (h':=U) (t':=O.toks) λb o e=>M b o (bJ (aW e)) e;show wpAny _ _ (assignInOrder [λv=>bindName X.env y v,λv=>bindName X.env x v] [J,r]>>=λ_=>pure Flow.next) _ _ _;refine aC (assignInOrder_cons (wpAny_bindName (Fa z K P (.inl d) C (λF Q=>?_) (.inr d))));refine assignInOrder_cons (wpAny_bindName (Fa Q K hi (.inl hx) t (λs3 G=>assignInOrder_nil (aU ?_)) (.inr hx)));rw[List.set_comm _ _ (Ne.symm g)]at G;exact#[_,S,G,q1]
end
section
variable{X:Cx}{pos:Pos}
def yL(c:TT)(tb:TS):TS:=λD Z H=>∃W:Nat->St->Hp->Prop,(∃m,W m Z H)/\∀m Z H,W m Z H->
 c Z H λb S=>if b=true then ∃N:St->Hp->Prop,(∀P H',N P H'->∃Q,Q<m/\W Q P H')/\tb { D with nx:=N,ct:=N,bk:=D.nx } Z S else D.nx Z S
def jWm{a:List Stmt}{g:TT}(hp:PassesOwn (model X.prog X.w) X.A X.env X.xe)(hc:PT X c g)(hb:PSs X a tb):PS X (.While c a [] pos) (yL g tb):=by
 rintro B s Z H D I ⟨W,⟨m0,r⟩,turn⟩;refine wpAny_While (codeAny_whileLoop (λn e=>∃P d,Inv X B P d e/\W n P d) ?_ m0 #[Z,H,I,r]);rintro n O ⟨i,S,j,o⟩;refine wpAny_passesOwn hp (thn (hc B O i S _ j (turn n i S o)) λb F#[M,k,G]=>?_);cases b with
 |true=>
  obtain⟨N,K,G⟩:=G;rw[aJ rfl];refine wpAny_passesOwn hp (thn (hb B F i M _ k G) λf s3 m=>?_);cases f with
  |next=>
   obtain⟨l,U,z,p⟩:=m;obtain⟨Q,hm,u⟩:=K l U p;exact#[Q,hm,l,U,z,u]
  |cont=>
   obtain⟨l,U,z,p⟩:=m;obtain⟨Q,hm,u⟩:=K l U p;exact#[Q,hm,l,U,z,u]
  |brk=>exact m
  |ret v=>exact m
 |false=>
  rw[aF bU];exact wpAny_execs_nil #[i,M,k,G]
end
structure It where
 go:Nat->Hp->Prop
 yld:Nat->Hp->V->Hp->Prop
 stop:Nat->Hp->Prop
def Ue(X:Cx)(B:List (Addr×Obj))(H:Hp)(b:Addr):Prop:=
 H b=none/\b≠X.env.locals/\b∉X.fs/\(b∈X.ex∨X.s₀.heap.objs.size<=b)/\(∀x c,X.env.cells.lookup x=some c->c≠b)/\∀p∈X.pn++B,p.1≠b
def Inv.fpOk{B:List (Addr×Obj)}{H':Hp}{b:Addr}(I:Inv X B Z H s)(hb:s.heap.objs.size<=b)(R:H' b=none):Ue X B H' b:=by
 refine#[R,Nat.ne_of_gt (bQ I.lt hb),I.nofs hb,.inr (cK I.sz hb),λx c e z=>?_,λp hp z=>?_]
 .obtain⟨v,q⟩:=I.cell x c e;exact absurd (bQ q.lt (by rw[z];exact hb)) (eW _)
 .exact absurd (bQ (aW (I.pin p hp).1) (by rw[z];exact hb)) (eW _)
structure Ua(P:Program)(w:World)(K:aR)(tg:Expr)(J:It)(fp:List Addr)(it:Addr)(tn:Nat->Heap->Prop):Prop where
 mem:it∈fp
 obj:∀i h,tn i h->∀b∈fp,∃o,h.get? b=some o/\∀v,o.data≠.cell v
 keep:∀i h h',tn i h->(∀b∈fp,∀o,h.get? b=some o->h'.get? b=some o)->tn i h'
 item:∀(X:Cx),X.prog=P->X.w=w->X.K=K->X.calm=true->∀(i:Nat)(pins:List (Addr×Obj))(s:Shared)(σ:St)(H:Hp)(E:Value->Shared->Prop),Inv X pins σ H s->(∀b∈fp,Ue X pins H b)->tn i s.heap->J.go i H->
  wpAny (model P w) X.A (pyNext (.ref it)) (λr s1=>∃u,r=some u/\
   wpAny (model P w) X.A (letOwnedTupleGo tg (.ref it) u) (λ_ s2=>∃x H',Inv X pins σ H' s2/\fD x u/\J.yld i H x H'/\tn (i+1) s2.heap/\∀b∈fp,H' b=none) E s1) E s
 done:∀(X:Cx),X.prog=P->X.w=w->X.K=K->X.calm=true->∀(i:Nat)(pins:List (Addr×Obj))(s:Shared)(σ:St)(H:Hp)(E:Value->Shared->Prop),Inv X pins σ H s->(∀b∈fp,Ue X pins H b)->tn i s.heap->J.stop i H->
  wpAny (model P w) X.A (pyNext (.ref it)) (λr s1=>r=none/\Inv X pins σ H s1) E s
 self:∀(A:Around)(i:Nat)(s:Shared)(Q:Value->Shared->Prop)(E:Value->Shared->Prop),tn i s.heap->Q (.ref it) s->wpAny (model P w) A (pyIter (.ref it)) Q E s
noncomputable abbrev TI:=St->Hp->(It->Hp->Prop)->Prop
def PIE(X:Cx)(B:List (Addr×Obj))(Z:St)(m:Expr)(R:It->Hp->Prop)(a:Value)(F:Shared):Prop:=
 ∃(S:Addr)(D:List Addr)(i:Nat->Heap->Prop)(J:It)(H':Hp),a=.ref S/\Inv X B Z H' F/\Ua X.prog X.w X.K m J D S i/\i 0 F.heap/\(∀b∈D,Ue X B H' b)/\R J H'
def PI(X:Cx)(m C:Expr)(q:TI):Prop:=
 ∀(B:List (Addr×Obj))(s:Shared)(Z:St)(H:Hp)(R:It->Hp->Prop),Inv X B Z H s->q Z H R->
  wpAny (model X.prog X.w) X.A (eval C X.env) (λv O=>wpAny (model X.prog X.w) X.A (pyIter v) (PIE X B Z m R) X.xe O) X.xe s
def go_of{S:Addr}{o:Obj}{n:String}{vs:Array Value}{Q:Unit->Shared->Prop}(D:s.heap.get? S=some o)(hc:o.cls=.type n)(hd:o.data=.fields vs)
  (R:["enumerate","zip","dict_itemiterator","dict_reverseitemiterator","odict_iterator","itertools.zip_longest","itertools.pairwise"].contains n=false) (p:Q () s):wpAny M A (letOwnedTupleGo m (.ref S) u) Q E s:=by
 unfold letOwnedTupleGo;cases m<;>first
  |exact aU p
  | (cases u<;>first
    |exact aU p
    | (refine aC (wpAny_load D ?_)
       rw[hc,hd];show wpAny M A (if(["enumerate","zip","dict_itemiterator","dict_reverseitemiterator","odict_iterator","itertools.zip_longest","itertools.pairwise"].contains n&&vs[0]?==some (rawInt _))=true then _ else _) Q E s;rw[aF (by intro h;rw[R,Bool.false_and]at h;cases h)];exact aU p))
def Itl(K:aR)(a:Addr):It:=
 #[λi H=>∃xs x,SqL K H a xs/\xs[i]?=some x,λi H x H'=>H'=H/\∀xs,SqL K H a xs->xs[i]?=some x,λi H=>∃xs,SqL K H a xs/\xs.length<=i]
def Itr(lo:Int)(n:Nat):It:=#[λi _=>i<n,λi H x H'=>H'=H/\x=.int (lo+i),λi _=>n<=i]
def Rc{P:Program}{w:World}(a S:Addr):Ua P w K m (Itl K a) [S] S (λi h=>h.IsListIter S a i) where
 mem:=by simp
 obj:=λi h st b hb=>by
  have e:b=S:=by simpa using hb
  subst e;obtain⟨o,e,c,d⟩:=st;exact#[o,e,λv z=>by rw[d]at z;cases z]
 keep:=λi h U st k=>st.at λo e=>k S (by simp) o e
 item:=by
  intro X N hw Q hc i B s Z H E I hf st hg;subst N hw Q;obtain⟨F,x,J,hx⟩:=hg;obtain⟨G,D,p,M⟩:=I.list J;obtain⟨u,R,l⟩:=D.get hx;obtain⟨f0,r,y,g,A,q⟩:=hf S (by simp);refine wpAny_pyNext_list_item st p.isList (x:=u) (by simpa using R) λU f sb=>?_;have j:Inv X B Z H { s with heap:=U }:=I.turned (t':=s.toks) (λb o hb e=>(sb.2 b hb).trans e) f0 r g A q;obtain⟨o,e,c,d⟩:=id f;exact#[u,rfl,go_of (s:={ s with heap:=U }) e c d (by decide) #[x,H,j,l,#[rfl,λT n=>by rw[I.list_inj n J];exact hx],f,λb hb=>(hf b hb).1]]
 done:=by
  intro X N hw Q hc i B s Z H E I hf st hg;subst N hw Q;obtain⟨F,J,hx⟩:=hg;obtain⟨G,D,p,M⟩:=I.list J;obtain⟨f0,r,y,g,A,q⟩:=hf S (by simp);have Y:=D.length;exact wpAny_pyNext_list_end (I.ok.hd hc) st p.isList (by simp;lia) λU O=>#[rfl,I.turned (t':=s.toks) (λb o hb e=>O b o hb e) f0 r g A q]
 self:=λ_ _ _ _ _ st h=>wpAny_pyIter_listiter st h
def jJc{P:Program}{w:World}(S:Addr)(lo:Int)(n:Nat):Ua P w K m (Itr lo n) [S] S (λi h=>IsRangeIter h S (lo+(i:Nat)*1) ((n:Int)-(i:Nat)) 1) where
 mem:=by simp
 obj:=λi h st b hb=>by
  have e:b=S:=by simpa using hb
  subst e;exact#[_,st,λv z=>by
   have T:Data.fields _=Data.cell v:=z;cases T]
 keep:=λi h U st k=>k S (by simp) _ st
 item:=by
  intro X N hw Q hc i B s Z H E I hf st hg;subst N hw Q;obtain⟨f0,r,y,g,A,q⟩:=hf S (by simp);have W:=Walks.range (prog:=X.prog) (w:=X.w) (I.ok.hd hc) S lo 1 n;refine W.item i s _ _ hg st λv U tk hv f a=>?_;obtain⟨t,rfl⟩:=hv;have j:Inv X B Z H { s with heap:=U,toks:=tk }:=I.turned (λb o hb e=>a b o (by simpa using hb) e) f0 r g A q;refine#[_,rfl,go_of (s:={ s with heap:=U,toks:=tk }) (n:="range_iterator") f rfl rfl (by decide) #[.int (lo+i),H,j,#[t,?_],#[rfl,rfl],f,λb hb=>(hf b hb).1]];rw[dR]
 done:=by
  intro X N hw Q hc i B s Z H E I hf st hg;subst N hw Q;obtain⟨f0,r,y,g,A,q⟩:=hf S (by simp);exact wpAny_pyNext_range_end (I.ok.hd hc) st (by have:n<=i:=hg;lia) λU O=>#[rfl,I.turned (t':=s.toks) (λb o hb e=>O b o hb e) f0 r g A q]
 self:=λ_ _ _ _ _ st h=>wpAny_pyIter_rangeiter st h
section
variable{X:Cx}{tg:Expr}
def dC(K:aR)(w:TE):TI:=λZ H R=>w Z H λx S=>exR x λa=>(∃xs,SqL K S a xs)/\R (Itl K a) S
def eC{l:Expr}{w:TE}(Y:PE X l w):PI X tg l (dC X.K w):=by
 intro B s Z H R I h;refine thE (Y B s Z H _ I h) λv O x S j f q1=>?_;obtain⟨a,e,⟨F,J⟩,q⟩:=Eq.mp iQ q1;subst e;cases f;obtain⟨G,D,p,M⟩:=j.list J;refine wpAny_pyIter_list p.isList ?_;refine#[O.heap.objs.size,[O.heap.objs.size],_,_,S,rfl,j.kept (t':=O.toks) λb o e=>aS _ e,Rc a _,#[_,bL _ rfl,rfl,rfl],λb hb=>?_,q];have e:b=O.heap.objs.size:=by simpa using hb
 subst e;exact j.fpOk (aM _) (j.hok.fresh (aM _))
def jWk{B:List (Addr×Obj)}{R:It->Hp->Prop}{lo hi:Int}{t u v:Tok}{tk:Nat}(I:Inv X B Z H s)(h1:-(2^62)<=lo)(h2:lo<2^62)(h3:-(2^62)<=hi)(a:hi<2^62)
  (q:R (Itr lo (hi-lo).toNat) H):wpAny (model X.prog X.w) X.A (pyIter (.ref s.heap.objs.size)) (PIE X B Z tg R) E { s with heap:=s.heap.push { cls:=.type "range",data:=.fields (List.toArray [.int lo t,.int hi u,.int 1 v]) },toks:=tk }:=by
 refine wpAny_pyIter_range (IsRange.new ..) (small_one h1 h2 h3 a) ?_;have j:Inv X B Z H { s with heap:=s.heap.push { cls:=.type "range",data:=.fields (List.toArray [.int lo t,.int hi u,.int 1 v]) },toks:=tk }:=I.kept λb o e=>aS _ e;refine#[(s.heap.push { cls:=.type "range",data:=.fields (List.toArray [.int lo t,.int hi u,.int 1 v]) }).objs.size,[(s.heap.push { cls:=.type "range",data:=.fields (List.toArray [.int lo t,.int hi u,.int 1 v]) }).objs.size],_,_,H,rfl,
  j.kept (t':=tk) λb o e=>aS _ e,jJc _ lo (hi-lo).toNat,?_,λb hb=>?_,q]
 .have e1:lo+((0:Nat):Int)*1=lo:=by simp
  have C:(((hi-lo).toNat:Nat):Int)-((0:Nat):Int)=Builtin.Range.rangeSize lo hi 1:=by rw[rangeSize_one];split<;>lia
  show IsRangeIter _ _ (lo+((0:Nat):Int)*1) ((((hi-lo).toNat:Nat):Int)-((0:Nat):Int)) 1;rw[e1,C];exact bL _ rfl
 .have e:b=(s.heap.push { cls:=.type "range",data:=.fields (List.toArray [.int lo t,.int hi u,.int 1 v]) }).objs.size:=by simpa using hb
  subst e;exact j.fpOk (aM _) (j.hok.fresh (aM _))
def hV(c:TA):TI:=λZ H R=>c Z H λvs S=>∃j:Int,vs=[.int j]/\-(2^62)<=j/\j<2^62/\R (Itr 0 j.toNat) S
def gL{a:Expr}{c:TA}{p pos:Pos}(hg:Gl X "range")(hm:X.mg "range"=none)(ha:PA X [a] c)(hs:starEach [a] X.env=[(false,eval a X.env)]:=by rfl):PI X tg (.Call (.Name "range" p) [a] [] pos) (hV c):=by
 intro B s Z H R I h;refine Call_ (lR I hg hm boot_range (cI (thF (ha pos B s Z H _ I h) λd O m S b f q1=>?_) hs rfl));obtain⟨j,e,q1,G,q⟩:=q1;subst e;cases f with
 |cons r rr=>
  cases rr;obtain⟨t,rfl⟩:=r;exact call_range_1 (jWk b #[] #[] q1 G (by simpa using q))
def gI(q:TI)(g:TG)(tb:TS):TS:=λD Z H=>q Z H λJ S=>∃W:Nat->Nat->St->Hp->Prop,(∃m,W 0 m Z S)/\∀i m Z H,W i m Z H->
 (J.stop i H/\D.nx Z H)∨(J.go i H/\∃N:St->Hp->Prop,(∀P H',N P H'->∃Q,Q<m/\W (i+1) Q P H')/\∀x H',J.yld i H x H'->g x Z H' λj M=>tb { D with nx:=N,ct:=N,bk:=D.nx } j M)
noncomputable def Uj(D:List Addr)(h:Heap):List (Addr×Obj):=D.filterMap λb=>(h.get? b).map λo=>(b,o)
def nY{D:List Addr}{b:Addr}{o:Obj}(hb:b∈D)(e:h.get? b=some o):(b,o)∈Uj D h:=List.mem_filterMap.mpr #[b,hb,by rw[e];rfl]
def jYp{D:List Addr}{p:Addr×Obj}(hp:p∈Uj D h):p.1∈D/\h.get? p.1=some p.2:=by
 obtain⟨b,hb,e⟩:=List.mem_filterMap.mp hp;cases q:h.get? b with
 |none=>rw[q]at e;cases e
 |some o=>
  rw[q]at e;have A:(b,o)=p:=aV e;subst A;exact#[hb,q]
def Inv.pinned{B:List (Addr×Obj)}{a:List Addr}(I:Inv X B Z H s)(hf:∀b∈a,Ue X B H b)(D:∀b∈a,∃o,s.heap.get? b=some o/\∀v,o.data≠.cell v):Inv X (B++Uj a s.heap) Z H s:=
 I.pins_of λp hp=>(cW.mp hp).elim (λz=>I.pin p (cY _ z)) λz=>by
  obtain⟨hb,e⟩:=jYp z;obtain⟨f0,r,y,_⟩:=hf p.1 hb;obtain⟨o,A,d⟩:=D p.1 hb;rw[e]at A;cases A;exact#[e,f0,r,y,d]
def Inv.unpinned{B pl:List (Addr×Obj)}(I:Inv X (B++pl) Z H s):Inv X B Z H s:=I.pins_of λp hp=>I.pin p (cY _ (iO _ hp))
def ps_for{C:Expr}{a:List Stmt}{q:TI}{g:TG}{pos:Pos}(hp:PassesOwn (model X.prog X.w) X.A X.env X.xe)(hc:X.calm=true)(hi:PI X tg C q)(hg:PG X tg g)(hb:PSs X a tb)
  (hs:∀x,foldedSetIterable C X.env x=pure x:=by intro _;rfl):PS X (.For tg C a [] pos) (gI q g tb):=by
 intro B s Z H D I h;refine wpAny_For (thn (hi B s Z H _ I h) λv O h1=>thn h1 λa6 F h2=>?_) hs;obtain⟨S,fp,tn,J,M,e,k,T,Y,y,W,⟨m0,w0⟩,turn⟩:=h2;subst e
 --what stays true of the iterator's objects through the loop
 have Wn:∀{H':Hp},(∀b∈fp,H' b=none)->∀b∈fp,Ue X B H' b:=λR b hb=>#[R b hb,(y b hb).2];refine codeAny_forLoop_any (λn s'=>∃i P H',Inv X B P H' s'/\tn i s'.heap/\(∀b∈fp,H' b=none)/\W i n P H') ?_ m0 #[0,Z,M,k,Y,λb hb=>(y b hb).1,w0];rintro n s3 ⟨i,l,U,z,a1,a2,w3⟩;rcases turn i n l U w3 with⟨stop,qn⟩|⟨go,N,K,step⟩
 .refine wpAny_passesOwn hp (thn (T.done X rfl rfl rfl hc i B s3 l U X.xe z (Wn a2) a1 stop) λr G#[hr,p]=>?_);subst hr;exact wpAny_execs_nil #[l,U,p,qn]
 .refine wpAny_passesOwn hp (thn (T.item X rfl rfl rfl hc i B s3 l U X.xe z (Wn a2) a1 go) λr G#[u,hr,h4]=>?_);subst hr;refine wpAny_passesOwn hp (thn h4 λ_ s5#[x,H5,I5,r5,y5,j,a3]=>?_);have a4:=I5.pinned (Wn a3) (T.obj _ _ j);refine wpAny_passesOwn hp (thn (hg _ s5 l H5 x u _ a4 r5 (step x H5 y5)) λ_ s6#[a5,H6,I6,q6]=>?_);refine wpAny_passesOwn hp (thn (hb _ s6 a5 H6 _ I6 q6) λf s7 q7=>?_);have a0:∀{c:St}{t:Hp},Inv X (B++Uj fp s5.heap) c t s7->N c t->∃m,m<n/\∃i P H',Inv X B P H' s7/\tn i s7.heap/\(∀b∈fp,H' b=none)/\W i m P H':=fun{c t} I7 n7=>by
   obtain⟨Q,hm,w7⟩:=K c t n7;refine#[Q,hm,i+1,c,t,I7.unpinned,T.keep _ _ _ j λb hb o e=>(I7.pin (b,o) (cY _ (cY _ (nY hb e)))).1,λb hb=>?_,w7];obtain⟨o,e,d⟩:=T.obj _ _ j b hb;exact(I7.pin (b,o) (cY _ (cY _ (nY hb e)))).2.1
  cases f with
  |next=>obtain⟨c,t,I7,n7⟩:=q7;exact a0 I7 n7
  |cont=>obtain⟨c,t,I7,n7⟩:=q7;exact a0 I7 n7
  |brk=>obtain⟨c,t,I7,q7⟩:=q7;exact#[c,t,I7.unpinned,q7]
  |ret v=>obtain⟨x7,c,t,I7,r7,q7⟩:=q7;exact#[x7,c,t,I7.unpinned,r7,q7]
end
def iU{g:TG}{D:rW}(h:Nat->St->Hp->Prop)(h0:h 0 Z H)(Y:∀i Z H,i<=xs.length->h i Z H->SqL K H a xs)
  (hs:∀i x Z H,xs[i]?=some x->h i Z H->g x Z H λj M=>tb { D with nx:=h (i+1),ct:=h (i+1),bk:=D.nx } j M) (hd:∀Z H,h xs.length Z H->D.nx Z H):
  ∃W:Nat->Nat->St->Hp->Prop,(∃m,W 0 m Z H)/\∀i m Z H,W i m Z H->
   ((Itl K a).stop i H/\D.nx Z H)∨((Itl K a).go i H/\∃N:St->Hp->Prop,(∀P d,N P d->∃Q,Q<m/\W (i+1) Q P d)/\∀x d,(Itl K a).yld i H x d->g x Z d λj M=>tb { D with nx:=N,ct:=N,bk:=D.nx } j M):=by
 refine#[λi m Z H=>m=xs.length-i/\i<=xs.length/\h i Z H,#[xs.length,by simp,dN _,h0],?_];rintro i m Z H ⟨rfl,hi,p⟩;have q:=Y i Z H hi p;by_cases f:i<xs.length
 .refine .inr #[#[xs,xs[i],q,by simp [f]],h (i+1),λP d k=>#[xs.length-(i+1),#[],rfl,f,k],λx d y=>?_];obtain⟨e,y⟩:=y;subst e;exact hs i x Z _ (y xs q) p
 .have e:i=xs.length:=#[];subst e;exact .inl #[#[xs,q,aM _],hd Z H p]
def uF{lo:Int}{n:Nat}{g:TG}{D:rW}(h:Nat->St->Hp->Prop)(h0:h 0 Z H)
  (hs:∀i Z H,i<n->h i Z H->g (.int (lo+i)) Z H λj M=>tb { D with nx:=h (i+1),ct:=h (i+1),bk:=D.nx } j M) (hd:∀Z H,h n Z H->D.nx Z H):
  ∃W:Nat->Nat->St->Hp->Prop,(∃m,W 0 m Z H)/\∀i m Z H,W i m Z H->
   ((Itr lo n).stop i H/\D.nx Z H)∨((Itr lo n).go i H/\∃N:St->Hp->Prop,(∀P d,N P d->∃Q,Q<m/\W (i+1) Q P d)/\∀x d,(Itr lo n).yld i H x d->g x Z d λj M=>tb { D with nx:=N,ct:=N,bk:=D.nx } j M):=by
 refine#[λi m Z H=>m=n-i/\i<=n/\h i Z H,#[n,by simp,dN _,h0],?_];rintro i m Z H ⟨rfl,hi,p⟩;by_cases f:i<n
 .refine .inr #[f,h (i+1),λP d k=>#[n-(i+1),#[],rfl,f,k],λx d y=>?_];obtain⟨e,y⟩:=y;subst e y;exact hs i Z _ f p
 .have e:i=n:=#[];subst e;exact .inl #[aM _,hd Z H p]
def Mt{c:TT}{D:rW}(h:St->Hp->Prop)(a:St->Hp->Nat)(h0:h Z H)
  (hs:∀Z H,h Z H->c Z H λb S=>if b=true then tb { D with nx:=λP d=>h P d/\a P d<a Z H,ct:=λP d=>h P d/\a P d<a Z H,bk:=D.nx } Z S else D.nx Z S)
  (mono:∀Z H Q f,(∀b S,Q b S->f b S)->c Z H Q->c Z H f):yL c tb D Z H:=by
 refine#[λm Z H=>m=a Z H/\h Z H,#[_,rfl,h0],?_];rintro m Z H ⟨rfl,p⟩;refine mono Z H _ _ (λb S q=>?_) (hs Z H p);cases b with
 |true=>exact#[_,λP d#[k,l]=>#[_,l,rfl,k],q]
 |false=>exact q
noncomputable abbrev R2:=V->V->Hp->VK->Prop
def OpR(X:Cx)(f:Value->Value->Sem Value)(r:R2):Prop:=
 ∀(B:List (Addr×Obj))(s:Shared)(Z:St)(H:Hp)(x y:V)(v u:Value)(Q:VK),Inv X B Z H s->fD x v->fD y u->r x y H Q->
  wpAny (model X.prog X.w) X.A (f v u) (EP X B Z Q) X.xe s
def UnR(X:Cx)(f:Value->Sem Value)(r:V->Hp->VK->Prop):Prop:=
 ∀(B:List (Addr×Obj))(s:Shared)(Z:St)(H:Hp)(x:V)(v:Value)(Q:VK),Inv X B Z H s->fD x v->r x H Q->
  wpAny (model X.prog X.w) X.A (f v) (EP X B Z Q) X.xe s
def pU(X:Cx)(f:Value)(r:List V->Hp->VK->Prop):Prop:=
 ∀(B:List (Addr×Obj))(s:Shared)(Z:St)(H:Hp)(xs:List V)(us:List Value)(Q:VK),Inv X B Z H s->fF xs us->r xs H Q->
  wpAny (model X.prog X.w) X.A (call f us) (EP X B Z Q) X.xe s
def TruR(X:Cx)(r:V->Hp->(Bool->Hp->Prop)->Prop):Prop:=
 ∀(B:List (Addr×Obj))(s:Shared)(Z:St)(H:Hp)(x:V)(v:Value)(Q:Bool->Hp->Prop),Inv X B Z H s->fD x v->r x H Q->
  wpAny (model X.prog X.w) X.A (truthy v) (TP X B Z Q) X.xe s
def tOp(r:R2)(c tb:TE):TE:=λZ H Q=>c Z H λx S=>tb Z S λy M=>r x y M Q
def tUn(r:V->Hp->VK->Prop)(c:TE):TE:=λZ H Q=>c Z H λx S=>r x S Q
def rI(C:Int->Int->Prop)(g:Int->Int->V):R2:=λx y H Q=>exI x λi=>exI y λj=>C i j/\Q (g i j) H
def rI0(g:Int->Int->V):R2:=λx y H Q=>exI x λi=>exI y λj=>Q (g i j) H
noncomputable def rU(g:Int->V):V->Hp->VK->Prop:=λx H Q=>exI x λi=>Q (g i) H
section
variable{X:Cx}{a b c:Expr}{ta tb tc:TE}{pos:Pos}
def binT(ha:PE X a ta)(hb:PE X b tb){B:List (Addr×Obj)}{R:V->V->Hp->Prop}(I:Inv X B Z H s)
  (h:ta Z H λx S=>tb Z S λy M=>R x y M)
  (hf:∀v u F x y M,Inv X B Z M F->fD x v->fD y u->R x y M->wpAny (model X.prog X.w) X.A (f v u) Q X.xe F):
  wpAny (model X.prog X.w) X.A (eval a X.env) (λv N=>wpAny (model X.prog X.w) X.A (eval b X.env) (λu m=>wpAny (model X.prog X.w) X.A (f v u) Q X.xe m) X.xe N) X.xe s:=by
 refine thE (ha B s Z H _ I h) λv O x S j d q1=>?_;refine thE (hb B O Z S _ j q1) λu F y M k g G=>?_;exact hf v u F x y M k d g G
def bW{op:Operator}{r:R2}(D:OpR X (binaryOp op) r)(ha:PE X a ta)(hb:PE X b tb):PE X (.BinOp a op b pos) (tOp r ta tb):=by
 intro B s Z H Q I h;exact wpAny_BinOp (binT ha hb I h λv u F x y M k N P q=>D B F Z M x y v u Q k N P q)
def lY{op:UnaryOp}{r:V->Hp->VK->Prop}(D:UnR X (unaryOp op) r)(ha:PE X a ta):PE X (.UnaryOp op a pos) (tUn r ta):=by
 intro B s Z H Q I h;exact UnaryOp_ (thE (ha B s Z H _ I h) λv O x S j f q1=>D B O Z S x v Q j f q1)
def opI{C:Int->Int->Prop}{g:Int->Int->Int}
  (d:∀(i j:Int)(t u:Tok)(s:Shared)(Q:Value->Shared->Prop)(E:Value->Shared->Prop),C i j->Q (.int (g i j) s.toks) { s with toks:=s.toks+1 }->wpAny (model X.prog X.w) X.A (f (.int i t) (.int j u)) Q E s):
  OpR X f (rI C λi j=>.int (g i j)):=by
 intro B s Z H x y v u Q I N P h;obtain⟨i,rfl,h1⟩:=Eq.mp hE h;obtain⟨j,rfl,hc,q⟩:=Eq.mp hE h1;obtain⟨t,rfl⟩:=N;obtain⟨O,rfl⟩:=P;exact d i j t O s _ _ hc #[.int (g i j),H,I.tok _,#[_,rfl],q]
def opI0{g:Int->Int->Int}
  (d:∀(i j:Int)(t u:Tok)(s:Shared)(Q:Value->Shared->Prop)(E:Value->Shared->Prop),Q (.int (g i j) s.toks) { s with toks:=s.toks+1 }->wpAny (model X.prog X.w) X.A (f (.int i t) (.int j u)) Q E s):
  OpR X f (rI0 λi j=>.int (g i j)):=by
 intro B s Z H x y v u Q I N P h;obtain⟨i,rfl,h1⟩:=Eq.mp hE h;obtain⟨j,rfl,q⟩:=Eq.mp hE h1;obtain⟨t,rfl⟩:=N;obtain⟨O,rfl⟩:=P;exact d i j t O s _ _ #[.int (g i j),H,I.tok _,#[_,rfl],q]
def opB0{g:Int->Int->Bool}
  (d:∀(i j:Int)(t u:Tok)(s:Shared)(Q:Value->Shared->Prop)(E:Value->Shared->Prop),Q (.bool (g i j)) s->wpAny (model X.prog X.w) X.A (f (.int i t) (.int j u)) Q E s):
  OpR X f (rI0 λi j=>.bl (g i j)):=by
 intro B s Z H x y v u Q I N P h;obtain⟨i,rfl,h1⟩:=Eq.mp hE h;obtain⟨j,rfl,q⟩:=Eq.mp hE h1;obtain⟨t,rfl⟩:=N;obtain⟨O,rfl⟩:=P;exact d i j t O s _ _ #[.bl (g i j),H,I,rfl,q]
def CDiv(i j:Int):Prop:=0<j/\j<1073741824
def CPow(i j:Int):Prop:=0<=j/\j<=1000000/\i.natAbs<2^64
def iZ:OpR X (binaryOp .Add) (rI0 λi j=>.int (i+j)):=opI0 λ_ _ _ _ _ _ _ q=>add_int q
def mX:OpR X (binaryOp .Sub) (rI0 λi j=>.int (i-j)):=opI0 λ_ _ _ _ _ _ _ q=>sub_int q
def op_fdiv:OpR X (binaryOp .FloorDiv) (rI CDiv λi j=>.int (i/j)):=opI λi j _ _ _ _ _ hc q=>by
 have h1:(0:Int)<j:=hc.1;have h2:j<1073741824:=hc.2;exact floordiv_int #[] (by rw[Int.fdiv_eq_ediv_of_nonneg i #[]];exact q) (.inl (PyProof.noPylong_small #[]))
def gZ:OpR X (binaryOp .Mod) (rI (λ_ j=>0<j) λi j=>.int (i%j)):=opI λi j _ _ _ _ _ hc q=>by
 have h1:(0:Int)<j:=hc;exact mod_int' #[] (by rw[Int.fmod_eq_emod_of_nonneg i #[]];exact q)
def Um:OpR X (binaryOp .Pow) (rI CPow λi j=>.int (i^j.toNat)):=opI λ_ _ _ _ _ _ _ hc q=>pow_int_small hc.1 hc.2.1 hc.2.2 q
def unI{f:Value->Sem Value}{g:Int->Int}
  (d:∀(i:Int)(t:Tok)(s:Shared)(Q:Value->Shared->Prop)(E:Value->Shared->Prop),Q (.int (g i) s.toks) { s with toks:=s.toks+1 }->wpAny (model X.prog X.w) X.A (f (.int i t)) Q E s):
  UnR X f (rU λi=>.int (g i)):=by
 intro B s Z H x v Q I N h;obtain⟨i,rfl,q⟩:=Eq.mp hE h;obtain⟨t,rfl⟩:=N;exact d i t s _ _ #[.int (g i),H,I.tok _,#[_,rfl],q]
def jK:UnR X (unaryOp .USub) (rU λi=>.int (-i)):=unI λ_ _ _ _ _ q=>neg_int q
end
noncomputable def scal:V->V->Bool
 | .non,.non=>true | .non,.int _=>true | .int _,.non=>true | .non,.bl _=>true | .bl _,.non=>true | .non,.str _=>true | .str _,.non=>true
 | .int _,.int _=>true | .bl _,.bl _=>true | .str _,.str _=>true | .byt _,.byt _=>true
 | .int _,.str _=>true | .str _,.int _=>true | .bl _,.str _=>true | .str _,.bl _=>true
 |_,_=>false
def rEq:R2:=λx y H Q=>scal x y=true/\Q (.bl (decide (x=y))) H
def gT{i j:Int}:scal (.int i) (.int j)=true:=rfl
def rNe:R2:=λx y H Q=>scal x y=true/\Q (.bl (!decide (x=y))) H
def jXm{i j:Int}:decide (V.int i=V.int j)=(i==j):=by
 rw[Bool.eq_iff_iff];simp
def dec_bl{i j:Bool}:decide (V.bl i=V.bl j)=(i==j):=by
 rw[Bool.eq_iff_iff];simp
def jXl{i j:Str}:decide (V.str i=V.str j)=(i==j):=by
 rw[Bool.eq_iff_iff];simp
def jXn{i j:Array UInt8}:decide (V.byt i=V.byt j)=(i.toList==j.toList):=by
 rw[Bool.eq_iff_iff];cases i;cases j;simp
section
variable{X:Cx}{a b c:Expr}{ta tb tc:TE}{pos:Pos}
def gD{B:List (Addr×Obj)}{Q:VK}{k d:Bool}(I:Inv X B Z H s)(q:Q (.bl k) H)(e:k=d):EP X B Z Q (.bool d) s:=by
 subst e;exact#[.bl k,H,I,rfl,q]
def sC:OpR X (compareOp .Eq) rEq:=by
 rintro B s Z H x y v u Q I N P ⟨hs,q⟩;cases x with
 |non=>
  cases N;cases y with
  |non=>cases P;exact PySem.EqNone.eq_none_none (gD I q (by simp))
  |bl j=>cases P;exact PySem.EqNone.eq_none_bool (gD I q (by simp))
  |int j=>obtain⟨O,rfl⟩:=P;exact PySem.EqNone.eq_none_int (gD I q (by simp))
  |str j=>obtain⟨O,rfl⟩:=P;exact PySem.EqNone.eq_none_str (gD I q (by simp))
  |_=>exact absurd (show false=true from hs) bU
 |bl i=>
  cases N;cases y with
  |non=>cases P;exact PySem.EqNone.eq_bool_none (gD I q (by simp))
  |bl j=>cases P;exact eq_bool (gD I q dec_bl)
  |str j=>obtain⟨O,rfl⟩:=P;exact PySem.EqMixed.eq_bool_str (gD I q (by simp))
  |_=>exact absurd (show false=true from hs) bU
 |int i=>
  obtain⟨t,rfl⟩:=N;cases y with
  |non=>cases P;exact PySem.EqNone.eq_int_none (gD I q (by simp))
  |int j=>obtain⟨O,rfl⟩:=P;exact eq_int (gD I q jXm)
  |str j=>obtain⟨O,rfl⟩:=P;exact PySem.EqMixed.eq_int_str (gD I q (by simp))
  |_=>exact absurd (show false=true from hs) bU
 |str i=>
  obtain⟨t,rfl⟩:=N;cases y with
  |non=>cases P;exact PySem.EqNone.eq_str_none (gD I q (by simp))
  |bl j=>cases P;exact PySem.EqMixed.eq_str_bool (gD I q (by simp))
  |int j=>obtain⟨O,rfl⟩:=P;exact PySem.EqMixed.eq_str_int (gD I q (by simp))
  |str j=>obtain⟨O,rfl⟩:=P;exact eq_str (gD I q jXl)
  |_=>exact absurd (show false=true from hs) bU
 |byt i=>
  obtain⟨t,rfl⟩:=N;cases y with
  |byt j=>obtain⟨O,rfl⟩:=P;exact PySem.W.eq_bytes (gD I q jXn)
  |_=>exact absurd (show false=true from hs) bU
 |_=>cases y<;>exact absurd (show false=true from hs) bU
def oW:OpR X (compareOp .NotEq) rNe:=by
 rintro B s Z H x y v u Q I N P ⟨hs,q⟩;cases x with
 |non=>
  cases N;cases y with
  |non=>cases P;exact PySem.EqNone.ne_none_none (gD I q (by simp))
  |bl j=>cases P;exact PySem.EqNone.ne_none_bool (gD I q (by simp))
  |int j=>obtain⟨O,rfl⟩:=P;exact PySem.EqNone.ne_none_int (gD I q (by simp))
  |str j=>obtain⟨O,rfl⟩:=P;exact PySem.EqNone.ne_none_str (gD I q (by simp))
  |_=>exact absurd (show false=true from hs) bU
 |bl i=>
  cases N;cases y with
  |non=>cases P;exact PySem.EqNone.ne_bool_none (gD I q (by simp))
  |bl j=>cases P;exact ne_bool (gD I q (congrArg not dec_bl))
  |str j=>obtain⟨O,rfl⟩:=P;exact PySem.EqMixed.ne_bool_str (gD I q (by simp))
  |_=>exact absurd (show false=true from hs) bU
 |int i=>
  obtain⟨t,rfl⟩:=N;cases y with
  |non=>cases P;exact PySem.EqNone.ne_int_none (gD I q (by simp))
  |int j=>obtain⟨O,rfl⟩:=P;exact ne_int (gD I q (congrArg not jXm))
  |str j=>obtain⟨O,rfl⟩:=P;exact PySem.EqMixed.ne_int_str (gD I q (by simp))
  |_=>exact absurd (show false=true from hs) bU
 |str i=>
  obtain⟨t,rfl⟩:=N;cases y with
  |non=>cases P;exact PySem.EqNone.ne_str_none (gD I q (by simp))
  |bl j=>cases P;exact PySem.EqMixed.ne_str_bool (gD I q (by simp))
  |int j=>obtain⟨O,rfl⟩:=P;exact PySem.EqMixed.ne_str_int (gD I q (by simp))
  |str j=>obtain⟨O,rfl⟩:=P;exact ne_str (gD I q (congrArg not jXl))
  |_=>exact absurd (show false=true from hs) bU
 |byt i=>
  obtain⟨t,rfl⟩:=N;cases y with
  |byt j=>obtain⟨O,rfl⟩:=P;exact PySem.W.ne_bytes (gD I q (congrArg not jXn))
  |_=>exact absurd (show false=true from hs) bU
 |_=>cases y<;>exact absurd (show false=true from hs) bU
def lP:OpR X (compareOp .Lt) (rI0 λi j=>.bl (decide (i<j))):=opB0 λ_ _ _ _ _ _ _ q=>lt_int q
def Cd:OpR X (compareOp .Gt) (rI0 λi j=>.bl (decide (j<i))):=opB0 λ_ _ _ _ _ _ _ q=>gt_int q
def op_ge:OpR X (compareOp .GtE) (rI0 λi j=>.bl (decide (j<=i))):=opB0 λ_ _ _ _ _ _ _ q=>ge_int q
def Hc:OpR X (compareOp .Is) (λx y H Q=>y=.non/\Q (.bl (decide (x=.non))) H):=by
 rintro B s Z H x y v u Q I N P ⟨rfl,q⟩;cases P;refine is_none_gen (gD I q ?_);cases x<;>first
  | (cases N;rfl)
  | (obtain⟨t,rfl⟩:=N;rfl)
def jXZ:OpR X (compareOp .IsNot) (λx y H Q=>y=.non/\Q (.bl (!decide (x=.non))) H):=by
 rintro B s Z H x y v u Q I N P ⟨rfl,q⟩;cases P;refine isnot_none_gen (gD I q ?_);cases x<;>first
  | (cases N;rfl)
  | (obtain⟨t,rfl⟩:=N;rfl)
def cZ(b:Expr)(h:op≠.In:=by decide)(h2:op≠.NotIn:=by decide):behindInMarks op b=false:=by
 have e1:(op==CmpOp.In)=false:=by cases op<;>first |rfl |exact absurd rfl h
 have C:(op==CmpOp.NotIn)=false:=by cases op<;>first |rfl |exact absurd rfl h2
 cases b<;>simp [behindInMarks,e1,C]
def vW{r:R2}(D:OpR X (compareOp op) r)(ha:PE X a ta)(hb:PE X b tb)(hm:behindInMarks op b=false):PE X (.Compare a [op] [b] pos) (tOp r ta tb):=by
 intro B s Z H Q I h;exact wpAny_Compare1 (binT ha hb I h λv u F x y M k N P q=>D B F Z M x y v u Q k N P q) hm
def cV(t:TE):TT:=λZ H Q=>t Z H λx H'=>exB x λk=>Q k H'
def cM{r:R2}(D:OpR X (compareOp op) r)(ha:PE X a ta)(hb:PE X b tb)(hm:behindInMarks op b=false):PT X (.Compare a [op] [b] pos) (cV (tOp r ta tb)):=by
 intro B s Z H Q I h;refine wpAny_isTrue_Compare1 (thE (ha B s Z H _ I h) λv O x S j f q1=>thE (hb B O Z S _ j q1) λu F y M d g G=>
  thn (D B F Z M x y v u _ d f g G) λc s3#[z,U,i,n,m]=>?_) hm
 obtain⟨k,e,m⟩:=Eq.mp jZ m;subst e;cases n;exact wpAny_truthy_bool #[U,i,m]
def TruV(K:aR)(x:V)(H:Hp)(k:Bool):Prop:=
 match x with
 | .non=>k=false
 | .bl b=>k=b
 | .int i=>k=(i !=0)
 | .str y=>y.length<=sizeLine/\k=((y.length:Int) !=0)
 | .byt y=>y.size<=sizeLine/\k=((y.size:Int) !=0)
 | .ref p=>(∃xs,SqL K H p xs/\k= !xs.isEmpty)∨(∃xs,SqT K H p xs/\k= !xs.isEmpty)∨∃kvs,H p=some (.dK kvs)/\k= !kvs.isEmpty
 |_=>False
def jZb{kvs:List (d×V)}{vs:List (d×Value)}(r:KV kvs vs):(!vs.isEmpty)= !kvs.isEmpty:=by
 cases r<;>rfl
def Ou{G:List Value}(r:fF xs G):(!G.toArray.isEmpty)= !xs.isEmpty:=by
 cases r<;>simp
def Mh:(sizeLine:Nat)<2^63:=by rw[sizeLine_eq];decide
def tru_ok:TruR X (λx H Q=>∃k,TruV X.K x H k/\Q k H):=by
 rintro B s Z H x v Q I N ⟨k,e,q⟩;have Y:=Mh;have hs:sizeLine=16777216:=sizeLine_eq;cases x with
 |non=>
  cases N;have A:k=false:=e;subst A;exact truthy_none #[H,I,q]
 |bl b=>
  cases N;have A:k=b:=e;subst A;exact wpAny_truthy_bool #[H,I,q]
 |int i=>
  obtain⟨t,rfl⟩:=N;have A:k=(i !=0):=e;subst A;exact PySem.P.truthy_int #[H,I,q]
 |str y=>
  obtain⟨t,rfl⟩:=N;obtain⟨d,A⟩:y.length<=sizeLine/\k=((y.length:Int) !=0):=e;subst A;exact PySem.P.truthy_str #[] #[H,I.tok _,q]
 |byt y=>
  obtain⟨t,rfl⟩:=N;obtain⟨d,A⟩:y.size<=sizeLine/\k=((y.size:Int) !=0):=e;subst A;exact PySem.W.truthy_bytes #[] #[H,I.tok _,q]
 |ref p=>
  cases N;have A:(∃F,SqL X.K H p F/\k= !F.isEmpty)∨(∃F,SqT X.K H p F/\k= !F.isEmpty)∨∃n,H p=some (.dK n)/\k= !n.isEmpty:=e;rcases A with⟨F,hx,A⟩|⟨F,hx,A⟩|⟨n,hx,A⟩
  .subst A;obtain⟨G,r,g,M⟩:=I.list hx;have C:=r.length;exact wpAny_truthy_list g.isList (by simp only[bM];lia) #[H,I.tok _,by rw[Ou r];exact q]
  .subst A;obtain⟨G,r,g,M⟩:=I.tuple hx;have C:=r.length;exact truthy_tuple g (by simp only[bM];lia) #[H,I.tok _,by rw[Ou r];exact q]
  .subst A;obtain⟨M,j,f,r,m⟩:n.length<=sizeLine/\(p==sysModules)=false/\∃f,KV n f/\s.heap.DictOf (kB X.prog X.w) p f:=I.hok p _ hx;have C:n.length=f.length:=Paired.length r;exact wpAny_truthy_dict j m #[] #[H,I.tok _,by rw[jZb r];exact q]
 |_=>exact(show False from e).elim
def jWl(ha:PE X a ta)(l:∀g,isTrue a X.env g=(do let v ←g;standAt a.pos;holding [v] (truthy v))):
  PT X a (λZ H Q=>ta Z H λx d=>∃k,TruV X.K x d k/\Q k d):=by
 intro B s Z H Q I h;exact isTrue_plain (thE (ha B s Z H _ I h) λv O x S j f q1=>tru_ok B O Z S x v Q j f q1) (l _)
def xZ{x:V}(r:fF [x] us):∃u,us=[u]/\fD x u:=by
 cases r with
 |cons r1 r2=>cases r2;exact#[_,rfl,r1]
def Qv{x y:V}(r:fF [x,y] us):∃u J,us=[u,J]/\fD x u/\fD y J:=by
 cases r with
 |cons r1 r2=>
  cases r2 with
  |cons r3 r4=>cases r4;exact#[_,_,rfl,r1,r3]
def yY:pU X (.builtin "abs") (λF H Q=>∃i,F=[.int i]/\Q (.int (if i<0 then -i else i)) H):=by
 rintro B s Z H F R Q I r ⟨i,rfl,q⟩;obtain⟨u,rfl,t,rfl⟩:=xZ r;exact call_abs_int λu tk=>#[.int (if i<0 then -i else i),H,I.tok _,#[_,rfl],q]
def Ta(hc:X.calm=true):pU X (.builtin "max") (λF H Q=>∃i j,F=[.int i,.int j]/\Q (.int (if j>i then j else i)) H):=by
 rintro B s Z H F R Q I r ⟨i,j,rfl,q⟩;obtain⟨u,J,rfl,⟨t,rfl⟩,⟨O,rfl⟩⟩:=Qv r;refine max_two_ints (I.ok.hd hc) λU tk k=>#[_,H,I.kept k,?_,q];by_cases P:j>i
 .rw[aJ P,aJ P];exact#[_,rfl]
 .rw[aF P,aF P];exact#[_,rfl]
def Sx(hc:X.calm=true):pU X (.builtin "min") (λF H Q=>∃i j,F=[.int i,.int j]/\Q (.int (if j<i then j else i)) H):=by
 rintro B s Z H F R Q I r ⟨i,j,rfl,q⟩;obtain⟨u,J,rfl,⟨t,rfl⟩,⟨O,rfl⟩⟩:=Qv r;refine min_two_ints (I.ok.hd hc) λU tk k=>#[_,H,I.kept k,?_,q];by_cases P:j<i
 .rw[aJ P,aJ P];exact#[_,rfl]
 .rw[aF P,aF P];exact#[_,rfl]
end
structure Zm(h:Heap)(x dx C:Addr)(mA:Str->Option Value):Prop where
 obj:h.get? x=some (PySem.W.instObj C dx)
 ns:h.Ns1 dx mA
 ne:dx≠x
def jYt{f:Addr}{B:Str->Option Value}(n:h.Ns1 f B):∃M,h.get? f=some M/\∀b,PySem.W.lookIn b M=some (B b):=by
 obtain⟨o,g,j,D,hd,hk,_,hm⟩:=n;refine#[o,D,λb=>?_];have e:=hm b;unfold nsFind findBy at e;rw[←Array.find?_toList]at e;unfold PySem.W.lookIn;rw[hd];dsimp only;split
 .rename_i y q
  rw[q]at e;exact congrArg some e
 .rename_i q
  rw[q]at e;have a:g.toList.any (·.refKey)=false:=by
   rw[List.any_eq_false];intro y d;obtain⟨z,t,c⟩:=hk y (Array.mem_toList_iff.mp d);simp [DictEntry.refKey,c]
  have i:¬g.toList.any (·.refKey)=true:=by rw[a];exact bU
  rw[aF i];exact congrArg some e
def Zm.look{x f:Addr}{B:Str->Option Value}(I:Zm h x f C B):∃M,PySem.W.InstAt h x (PySem.W.instObj C f) C (some M)/\∀b,PySem.W.lookIn b M=some (B b):=
 let⟨M,ho,hl⟩:=jYt I.ns
 #[M,#[I.obj,rfl,rfl,ho],hl]
section
variable{prog:Program}{w:World}{A:Around}{E:Value->Shared->Prop}{s:Shared}{K:aR}{x dx C f:Addr}{mA:Str->Option Value}{name:Str}{v:Value}
def get_map{b:Bool}(X:K.In s.heap)(I:Zm s.heap x dx C mA)(hg:PySem.W.plainGet K C name=true)(t:PySem.W.hasDictIn K C=true)
  (ha:PySem.W.findIn K (.ref C) name=some none) (hv:mA name=some v) (a:PySem.W.handedIn v=true) (h:Q v { s with toks:=s.toks+1 }):
  wpAny (model prog w) A (getAttr (.ref x) name b) Q E s:=by
 obtain⟨M,J,Y⟩:=I.look;exact PySem.W.get_value X J (PySem.W.plainGet_of hg).1 (PySem.W.findObj_own t ha rfl (by rw[Y,hv])) a h
def jVX{Q:Value×List Value->Shared->Prop}(X:K.In s.heap)(I:Zm s.heap x dx C mA)(hg:PySem.W.plainGet K C name=true)
  (hf:PySem.W.findIn K (.ref C) name=some (some (.ref f))) (y:PySem.W.isFn K (.ref f)=true) (hv:mA name=none) (h:Q (.ref f,[.ref x]) s):
  wpAny (model prog w) A (getMethod (.ref x) name pl) Q E s:=by
 obtain⟨M,J,Y⟩:=I.look;exact PySem.W.method_fn X J (PySem.W.plainGet_of hg).1 (PySem.W.plainGet_of hg).2 hf (beq_iff_eq.mp y) (by show(PySem.W.lookIn name M).map (·.isSome)=some false;rw[Y,hv];rfl) h
def set_map{ns:List Str}{Q:Unit->Shared->Prop}(X:K.In s.heap)(I:Zm s.heap x dx C mA)
  (hs:PySem.W.findIn K (.ref C) "__setattr__"=some (some (.builtin "object.__setattr__"))) (hp:PySem.W.plainOver K C=true) (l:PySem.W.takerIn K C name=some none) (t:PySem.W.hasDictIn K C=true)
  (hw:PySem.Within mA ns) (hsz:ns.length<=sizeLine)
  (h:∀U,Zm U x dx C (λy=>if y=name then some v else mA y)->Heap.SameBut dx s.heap U->Q () { s with heap:=U,toks:=s.toks+2 }):
  wpAny (model prog w) A (setAttr (.ref x) name v) Q E s:=by
 obtain⟨M,J,Y⟩:=I.look;refine PySem.W.set_plain X J hs (PySem.W.osa_open (s:={ s with toks:=s.toks+1 }) (r:=none) X J hp l λb=>?_);obtain⟨m,hc,G⟩:=PySem.W.any_some t;have hx:s.heap.get? x=some #[.ref C,some dx,.plain,(List.toArray [])]:=I.obj;refine aC (aU (aC (aC (wpAny_loadPart hx (aC (PySem.W.Looks.here (s:={ s with toks:=s.toks+1 }) (PySem.W.looks_clsIn X hc) ?_))))));rw[G];refine aU (a:=some dx) (aC (aU (aC ?_)));refine wpAny_nsSet1 (s:={ s with toks:=s.toks+1 }) I.ns λU S g=>?_;obtain⟨c,j,k,d,e,i⟩:=S.count (PySem.Within.cons name v hw);refine aC (wpAny_lookBehind d (by rw[e];exact pastItsLine_dict (cK i (by rw[dB];lia))) ?_);exact aU (h _ #[(g.2 _ (Ne.symm I.ne)).trans I.obj,S,I.ne] g)
def jW0{R:Result->Shared->Prop}{vs:List Value}{i:List (Str×Value)}(X:K.In s.heap)(hm:PySem.W.makesIn K C=true)
  (hi:PySem.W.findIn K (.ref C) "__init__"=some (some (.ref f))) (hf:PySem.W.typeIn K (.ref f)=some (.type "function"))
  (h:codeAny (model prog w) (A.under (.builtin "type.__call__" #[.ref C::vs,i])) (.call (.ref f) #[.ref (s.heap.objs.size+1)::vs,i]) (PySem.W.InitBack (s.heap.objs.size+1) R)
   { s with heap:=(s.heap.push PySem.W.emptyDict).push (PySem.W.instObj C s.heap.objs.size) }):
  codeAny (model prog w) A (.call (.ref C) #[vs,i]) R s:=by
 obtain⟨a,g,d,t,os⟩:=s;exact PySem.W.make_core (PySem.W.makes_of X hm) (PySem.W.looks_findIn X hi) (λself=>PySem.W.bind_fn X self hf) (.inl rfl) h
end
noncomputable def hJ(f:Str)(v:V):List (Str×V)->List (Str×V)
 | []=>[(f,v)]
 | (g,x)::r=>if g=f then(g,v)::r else(g,x)::hJ f v r
def lD(f g:Str)(v:V):∀fs:List (Str×V),(hJ f v fs).lookup g=if g=f then some v else fs.lookup g
 | []=>by
  show List.lookup g [(f,v)]=_;by_cases h:g=f
  .have hb:(g==f)=true:=beq_iff_eq.mpr h;simp only[List.lookup,hb,aJ h]
  .have hb:(g==f)=false:=beq_eq_false_iff_ne.mpr h;simp only[List.lookup,hb,aF h]
 | (k,x)::r=>by
  have m:=lD f g v r;rw[show hJ f v ((k,x)::r)=(if k=f then(k,v)::r else(k,x)::hJ f v r)from rfl];by_cases hk:k=f
  .rw[aJ hk];by_cases h:g=k
   .have hb:(g==k)=true:=beq_iff_eq.mpr h;simp only[List.lookup,hb,aJ (h.trans hk)]
   .have hb:(g==k)=false:=beq_eq_false_iff_ne.mpr h;simp only[List.lookup,hb,aF (λe:g=f=>h (e.trans hk.symm))]
  .rw[aF hk];by_cases h:g=k
   .have hb:(g==k)=true:=beq_iff_eq.mpr h;simp only[List.lookup,hb,aF (λe:g=f=>hk (h.symm.trans e))]
   .have hb:(g==k)=false:=beq_eq_false_iff_ne.mpr h;simp only[List.lookup,hb];exact m
def Ih(f:Str)(v:V):∀fs:List (Str×V),f∈(hJ f v fs).map (·.1)/\∀g,g∈fs.map (·.1)->g∈(hJ f v fs).map (·.1)
 | []=>#[by simp [hJ],λg h=>by simp at h]
 | (k,x)::r=>by
  obtain⟨O,C⟩:=Ih f v r;rw[show hJ f v ((k,x)::r)=(if k=f then(k,v)::r else(k,x)::hJ f v r)from rfl];by_cases hk:k=f
  .rw[aJ hk];subst hk;exact#[by simp,λg h=>by simpa using h]
  .rw[aF hk];refine#[?_,λg h=>?_]
   .rw[bR];exact bK _ O
   .rw[bR]at h⊢;rcases eA.mp h with e |e
    .exact eA.mpr (.inl e)
    .exact bK _ (C g e)
def Kd(f:Str)(v:V):∀fs:List (Str×V),(hJ f v fs).length<=fs.length+1
 | []=>by simp [hJ]
 | (k,x)::r=>by
  have m:=Kd f v r;rw[show hJ f v ((k,x)::r)=(if k=f then(k,v)::r else(k,x)::hJ f v r)from rfl];by_cases hk:k=f
  .rw[aJ hk,dB,dB];lia
  .rw[aF hk,dB,dB];lia
def Bu.some_of{v:V}{o:Option Value}(r:Bu (some v) o):∃u,o=some u/\fD v u:=by
 cases o with
 |none=>exact(show False from r).elim
 |some u=>exact#[u,rfl,r]
def Bu.none_of{o:Option Value}(r:Bu none o):o=none:=by
 cases o with
 |none=>rfl
 |some u=>exact(show False from r).elim
def jY2{v:V}(r:fD v u):PySem.W.handedIn u=true:=by
 cases v with
 |non=>cases(show u=Value.none from r);rfl
 |bl b=>cases(show u=Value.bool b from r);rfl
 |int i=>obtain⟨t,e⟩:=(show ∃t,u=Value.int i t from r);cases e;rfl
 |str x=>obtain⟨t,e⟩:=(show ∃t,u=Value.str x t from r);cases e;rfl
 |byt b=>obtain⟨t,e⟩:=(show ∃t,u=Value.bytes b t from r);cases e;rfl
 |flt b=>obtain⟨t,e⟩:=(show ∃t,u=Value.float b t from r);cases e;rfl
 |ref a=>cases(show u=Value.ref a from r);rfl
 |ty n=>cases(show u=Value.type n from r);rfl
section
variable{P:Program}{w:World}{H H':Hp}{h h':Heap}{a C dx:Addr}{fs fs':List (Str×V)}
def Ln(hok:HOk P w H h)(e:H a=some (.ins C dx fs)):∃B,Zm h a dx C B/\(∀f,Bu (fs.lookup f) (B f))/\PySem.Within B (fs.map (·.1))/\fs.length<=1000/\H dx=some (.own a):=by
 obtain⟨d,z,ne,ob,B,n,r,q⟩:=(show jF P w H h a (.ins C dx fs)from hok a _ e);exact#[B,#[ob,n,ne],r,q,z,d]
end
structure Cls(K:aR)(C:Addr):Prop where
 pg:PySem.W.plainGet K C Str.empty=true
 hd:PySem.W.hasDictIn K C=true
 po:PySem.W.plainOver K C=true
 sa:PySem.W.findIn K (.ref C) "__setattr__"=some (some (.builtin "object.__setattr__"))
def Cls.get{K:aR}{C:Addr}(c:Cls K C)(f:Str):PySem.W.plainGet K C f=true:=c.pg
def pO(K:aR)(C:Addr)(f:Str):Prop:=PySem.W.findIn K (.ref C) f=some none
def pO.taker{f:Str}(n:pO K C f):PySem.W.takerIn K C f=some none:=by
 unfold PySem.W.takerIn;rw[show PySem.W.findIn K (.ref C) f=some none from n];rfl
structure Meth(K:aR)(C:Addr)(m:Str)(f:Addr):Prop where
 at_:PySem.W.findIn K (.ref C) m=some (some (.ref f))
 fn:PySem.W.isFn K (.ref f)=true
 kp:PySem.W.keepIn K (.ref f)=true
section
variable{X:Cx}{pins:List (Addr×Obj)}{σ:St}{H:Hp}{s:Shared}{a C dx:Addr}{fs:List (Str×V)}{f:Str}{v:V}{A:Around}{E:Value->Shared->Prop}
def jZc{b:Bool}(I:Inv X pins σ H s)(e:H a=some (.ins C dx fs))(c:Cls X.K C)(n:pO X.K C f)(l:fs.lookup f=some v)
  (h:∀u U,Inv X pins σ H U->fD v u->Q u U):wpAny (model X.prog X.w) A (getAttr (.ref a) f b) Q E s:=by
 obtain⟨B,O,r,_,_,_⟩:=Ln I.hok e;obtain⟨u,R,k⟩:=Bu.some_of (v:=v) (o:=B f) (by rw[←l];exact r f);exact get_map I.kIn O (c.get f) c.hd n R (jY2 k) (h u _ (I.tok _) k)
def Ow{m:Str}{g:Addr}{Q:Value×List Value->Shared->Prop}(I:Inv X pins σ H s)(e:H a=some (.ins C dx fs))(c:Cls X.K C)(k:Meth X.K C m g)(l:fs.lookup m=none)
  (h:Q (.ref g,[.ref a]) s):wpAny (model X.prog X.w) A (getMethod (.ref a) m pl) Q E s:=by
 obtain⟨B,O,r,_,_,_⟩:=Ln I.hok e;have R:B m=none:=Bu.none_of (by rw[←l];exact r m);exact jVX I.kIn O (c.get m) k.at_ k.fn R h
def jJd{y:V}{Q:Unit->Shared->Prop}(I:Inv X pins σ H s)(e:H a=some (.ins C dx fs))(c:Cls X.K C)(n:pO X.K C f)(Y:fs.length<1000)(P:fD y u)
  (h:∀U,Inv X pins σ (upd H a (.ins C dx (hJ f y fs))) U->Q () U):wpAny (model X.prog X.w) A (setAttr (.ref a) f u) Q E s:=by
 obtain⟨B,O,r,i,_,D⟩:=Ln I.hok e;have M:(fs.map (·.1)).length<=sizeLine:=by rw[aA,sizeLine_eq];lia
 refine set_map I.kIn O c.sa c.po n.taker c.hd i M λj d sb=>h _ ?_;have hd:∃o,j.get? dx=some o:=let⟨o,_,_,e',_⟩:=d.ns;#[o,e'];refine I.write (x:=a) (e:=dx) (by rw[e];exact True.intro) (.inr D) (λb q hb z=>(sb.2 b hb).trans z) hd ?_;refine#[by rw[bY O.ne];exact D,?_,O.ne,d.obj,_,d.ns,λg=>?_,λg hg=>?_]
 .have:=Kd f y fs;lia
 .show Bu ((hJ f y fs).lookup g) (if g=f then some u else B g);rw[lD];by_cases q:g=f
  .rw[aJ q,aJ q];exact P
  .rw[aF q,aF q];exact r g
 .by_cases q:g=f
  .rw[q];exact(Ih f y fs).1
  .refine(Ih f y fs).2 g (i g λz=>hg ?_);show(if g=f then some u else B g)=none;rw[aF q];exact z
def Inv.made(I:Inv X pins σ H s):Inv X pins σ (upd (upd H s.heap.objs.size (.own (s.heap.objs.size+1))) (s.heap.objs.size+1) (.ins C s.heap.objs.size []))
  { s with heap:=(s.heap.push PySem.W.emptyDict).push (PySem.W.instObj C s.heap.objs.size) }:=by
 have e1:(s.heap.push PySem.W.emptyDict).get? s.heap.objs.size=some PySem.W.emptyDict:=bL s.heap rfl;have c:((s.heap.push PySem.W.emptyDict).push (PySem.W.instObj C s.heap.objs.size)).get? (s.heap.objs.size+1)=some (PySem.W.instObj C s.heap.objs.size):=by
  have:=bL (s.heap.push PySem.W.emptyDict) (o:=PySem.W.instObj C s.heap.objs.size) rfl;rwa [Heap.size_push]at this
 have O:(s.heap.push PySem.W.emptyDict).Ns s.heap.objs.size (λ_=>none):=#[PySem.W.emptyDict,(List.toArray []),_,e1,rfl,(λe l=>absurd l (by simp)),λ_=>rfl];have j:=I.laid (a:=s.heap.objs.size) (o:=.own (s.heap.objs.size+1)) (h':=s.heap.push PySem.W.emptyDict) (t':=s.toks) (λb u q=>aS _ q) (aM _) #[_,e1];refine j.laid (a:=s.heap.objs.size+1) (o:=.ins C s.heap.objs.size []) (t':=s.toks) (λb u q=>aS _ q) (Nat.le_of_eq (Heap.size_push _ _)) ?_;have ne:s.heap.objs.size≠s.heap.objs.size+1:=bJ (gK _);refine#[by rw[bY ne,aI],dN _,ne,c,λ_=>none,(Heap.Ns1.of_empty O).at λo q=>aS _ q,λ_=>True.intro,λy d=>absurd rfl d]
def attr_of{prog:Program}{w:World}{env:Env}{f:Str}{pos:Pos}{s:Shared}(hb:attributeBase e f env (eval e env)=eval e env)
  (h:wpAny (model prog w) A (eval e env) (λo N=>wpAny (model prog w) A (getAttr o f true) Q E N) E s):wpAny (model prog w) A (eval (.Attribute e f pos) env) Q E s:=
 Attribute_any_ h (by rw[arm_eval_Attribute,hb])
end
def gS(K:aR)(c:TE)(f:Str):TE:=λZ H Q=>c Z H λx S=>exR x λa=>∃C b fs v,S a=some (.ins C b fs)/\Cls K C/\pO K C f/\fs.lookup f=some v/\Q v S
def xX(K:aR)(c tv:TE)(f:Str):TS:=λD Z H=>tv Z H λy S=>c Z S λx M=>exR x λa=>∃C b fs,M a=some (.ins C b fs)/\Cls K C/\pO K C f/\fs.length<1000/\
 D.nx Z (upd M a (.ins C b (hJ f y fs)))
section
variable{X:Cx}{o e value:Expr}{f:Str}{pos pos' tpos:Pos}{ta tv:TE}
def gC(d:PE X e ta)(hb:attributeBase e f X.env (eval e X.env)=eval e X.env):PE X (.Attribute e f pos) (gS X.K ta f):=by
 intro B s Z H Q I h;refine attr_of hb (thE (d B s Z H _ I h) λu O x S j N b=>?_);obtain⟨a,ex,C,m,fs,v,Y,c,n,l,q⟩:=Eq.mp iQ b;subst ex;obtain rfl:u=Value.ref a:=N;exact jZc j Y c n l λi F k g=>#[v,S,k,g,q]
def yO(ha:PE X o ta)(hv:PE X value tv)(hs:swapsWith value (some (.Attribute o f pos')) pos.line X.env=pure false):PS X (.Assign [.Attribute o f pos'] value pos) (xX X.K ta tv f):=by
 intro B s Z H D I h;refine plainObj_wpAny_Assign_Attribute (thE (hv B s Z H _ I h) λu O y S j P q=>thE (ha B O Z S _ j q) λJ F x M k N b=>?_) hs;obtain⟨a,ex,C,d,fs,Y,c,n,l,G⟩:=Eq.mp iQ b;subst ex;obtain rfl:J=Value.ref a:=N;exact jJd k Y c n l P λs3 z=>#[Z,_,z,G]
end
section
variable{X:Cx}{pins:List (Addr×Obj)}{σ:St}{H:Hp}{s:Shared}{A:Around}{E:Value->Shared->Prop}{Q:Value->Shared->Prop}{c:Value}{b:Bool}
inductive Ku (K:aR) (H:Hp):V->Value->Prop where
 |non:Ku K H .non (.type "NoneType")
 |bl (x:Bool):Ku K H (.bl x) (.type "bool")
 |int (i:Int):Ku K H (.int i) (.type "int")
 |str (x:Str):Ku K H (.str x) (.type "str")
 |flt (x:UInt64):Ku K H (.flt x) (.type "float")
 |lst {a:Addr} {xs:List V} (e:H a=some (.lst xs)):Ku K H (.ref a) (.type "list")
 |frz {a:Addr} {o:Obj} {xs:List V} (e:H a=some (.frz o (.lst xs))):Ku K H (.ref a) (.type "list")
 |tup {a:Addr} {xs:List V} (e:H a=some (.tup xs)):Ku K H (.ref a) (.type "tuple")
 |dK {a:Addr} {kvs:List (Key×V)} (e:H a=some (.dK kvs)):Ku K H (.ref a) (.type "dict")
 |dT {a:Addr} {kvs:List (List Key×V)} (e:H a=some (.dT kvs)):Ku K H (.ref a) (.type "dict")
 |ins {a C dx:Addr} {fs:List (Str×V)} (e:H a=some (.ins C dx fs)) (cl:Cls K C) (ha:PySem.W.findIn K (.ref C) "__class__"=some (some (.builtin "object.__class__")))
   (hn:PySem.W.specialIn K (.builtin "object.__class__") "__get__"=some (some (.builtin "getset_descriptor.__get__"))) (htk:PySem.W.takesIn K (.builtin "object.__class__")=some true)
   (hm:PySem.W.mroIn K C (.type "object")=some true):Ku K H (.ref a) (.ref C)
def qH{x:V}{t:Value}(I:Inv X pins σ H s)(N:fD x u)(d:Ku X.K H x t)(e:PySem.W.kitOne X.K t c=some b)(h:∀tk,Q (.bool b) { s with toks:=tk }):
  wpAny (model X.prog X.w) A (call (.builtin "isinstance") [u,c]) Q E s:=by
 cases d with
 |non=>cases(show u=Value.none from N);exact PySem.W.kia_one PySem.W.kitx_none I.kIn True.intro e (λz=>nomatch z) h
 |bl y=>cases(show u=Value.bool y from N);exact PySem.W.kia_one PySem.W.kitx_bool I.kIn True.intro e (λz=>nomatch z) h
 |int i=>obtain⟨t,q⟩:=(show ∃t,u=Value.int i t from N);cases q;exact PySem.W.kia_one PySem.W.kitx_int I.kIn True.intro e (λz=>nomatch z) h
 |str y=>obtain⟨t,q⟩:=(show ∃t,u=Value.str y t from N);cases q;exact PySem.W.kia_one PySem.W.kitx_str I.kIn True.intro e (λz=>nomatch z) h
 |flt y=>obtain⟨t,q⟩:=(show ∃t,u=Value.float y t from N);cases q;exact PySem.W.kia_one PySem.W.kitx_float I.kIn True.intro e (λz=>nomatch z) h
 |@lst a F ea=>
  cases(show u=Value.ref a from N);obtain⟨_,_,n,_,h1⟩:=(show jF X.prog X.w H s.heap a (.lst F)from I.hok a _ ea);exact PySem.W.kia_one PySem.W.kitx_list I.kIn #[_,h1,rfl] e (λz=>nomatch z) h
 |@frz a ob F ea=>
  cases(show u=Value.ref a from N);obtain⟨_,_,_,n,_,h1⟩:=(show jF X.prog X.w H s.heap a (.frz ob (.lst F))from I.hok a _ ea);exact PySem.W.kia_one PySem.W.kitx_list I.kIn #[_,h1,rfl] e (λz=>nomatch z) h
 |@tup a F ea=>
  cases(show u=Value.ref a from N);obtain⟨_,_,_,p⟩:=(show jF X.prog X.w H s.heap a (.tup F)from I.hok a _ ea);obtain⟨o,h1,h2,_⟩:=p;exact PySem.W.kia_one PySem.W.kitx_tuple I.kIn #[o,h1,h2] e (λz=>nomatch z) h
 |@dK a kvs ea=>
  cases(show u=Value.ref a from N);obtain⟨_,_,m,_,p⟩:=(show jF X.prog X.w H s.heap a (.dK kvs)from I.hok a _ ea);obtain⟨o,g,j,h1,h2,_⟩:=p;exact PySem.W.kia_one PySem.W.kitx_dict I.kIn #[o,h1,h2.1] e (λz=>nomatch z) h
 |@dT a kvs ea=>
  cases(show u=Value.ref a from N);obtain⟨_,_,F,_,o,g,j,h1,h2,_⟩:=(show jF X.prog X.w H s.heap a (.dT kvs)from I.hok a _ ea);exact PySem.W.kia_one PySem.W.kitx_dict I.kIn #[o,h1,h2.1] e (λz=>nomatch z) h
 |@ins a C dx fs ea cl ha hn htk hm=>
  cases(show u=Value.ref a from N);obtain⟨B,O,_⟩:=Ln I.hok ea;obtain⟨M,J,_⟩:=O.look;exact PySem.W.kia_one (PySem.W.kitx_own (cl.get _) cl.hd ha hn htk hm) I.kIn J e (λz=>nomatch z) h
end
structure mQ(k:Nat)(A:Around):Prop where
 hd:A.handled=none
 dp:A.depth+3*k+5<recursionLimit
 un:A.units+16*k+200<cLine
def mQ.mono(r:mQ k A)(h:j<=k):mQ j A:=#[r.hd,by have:=r.dp;lia,by have:=r.un;lia]
def mQ.deeper(r:mQ (k+1) A)(env:Env):mQ k (A.deeper env):=
 #[r.hd,by have:=r.dp;show A.depth+1+3*k+5<_;lia,by have:=r.un;show A.units+3+16*k+200<_;lia]
def jZX{i:List (Str×Value)}:(A.under (.builtin "type.__call__" #[.ref C::us,i])).depth=A.depth+1:=by
 first |rfl |simp [Around.under,Code.weight,Code.isCreation,Code.isGuard,Code.isCaller,Code.frames,Code.isFrame,guardIds]
def jZZ{i:List (Str×Value)}:(A.under (.builtin "type.__call__" #[.ref C::us,i])).units=A.units+1:=by
 first |rfl |simp [Around.under,Code.cUnits,Code.frames,Code.isFrame]
def mQ.make(r:mQ (k+1) A)(C:Addr)(us:List Value)(i:List (Str×Value)):mQ k (A.under (.builtin "type.__call__" #[.ref C::us,i])):=
 #[r.hd,by have:=r.dp;rw[jZX];lia,by have:=r.un;rw[jZZ];lia]
def mQ.depth(r:mQ k A):A.depth<recursionLimit:=by have:=r.dp;lia
def mQ.units(r:mQ k A):A.units+64<cLine:=by have:=r.un;lia
def bE:TA:=λ_ H Q=>Q [] H
def aH(c:TE)(a:TA):TA:=λZ H Q=>c Z H λx S=>a Z S λxs M=>Q (x::xs) M
section
variable{X:Cx}{e:Expr}{es:List Expr}{te:TE}{t:TA}{pos:Pos}
def aN:PA X [] bE:=λ_ _ _ _ H Q I h=>Calls.spliced_nil #[[],H,I,.nil,h]
def aB(ha:PE X e te)(hr:PA X es t)(hs:starEach (e::es) X.env=(false,eval e X.env)::starEach es X.env:=by rfl):PA X (e::es) (aH te t):=by
 intro pos B s Z H Q I h;rw[hs];show wpAny _ _ (spliced ((false,eval e X.env)::backTo pos (starEach es X.env))) _ _ s;refine Calls.spliced_cons (thE (ha B s Z H _ I h) λu O x S j f q1=>?_);exact thF (hr pos B O Z S _ j q1) λR a F M k g G=>#[x::F,M,k,.cons f g,G]
def iA(t:TA):TE:=λZ H Q=>t Z H λxs S=>xs.length<=sizeLine/\∀p,S p=none->Q (.ref p) (upd S p (.tup xs))
def kQ(t:TA):TE:=λZ H Q=>t Z H λxs S=>xs.length<=sizeLine/\∀p,S p=none->Q (.ref p) (upd S p (.lst xs))
def fL{x1}(h:PA X es t):PE X (.Tuple es x1 pos) (iA t):=by
 intro B s Z H Q I J;refine wpAny_Tuple_spliced (thn (h pos B s Z H _ I J) λR O#[F,S,j,r,z,q]=>#[by rw[←r.length];exact z,?_]);have hf:S O.heap.objs.size=none:=j.hok.fresh (aM _);refine#[.ref O.heap.objs.size,upd S O.heap.objs.size (.tup F),j.laid (t':=O.toks) (λb u e=>aS _ e) (aM _) ?_,rfl,q _ hf];exact#[z,R,r,#[_,bL _ rfl,rfl,_,rfl]]
def iG(h:PA X es t):PE X (.List es pos) (kQ t):=by
 intro B s Z H Q I J;refine wpAny_List_spliced (thn (h pos B s Z H _ I J) λR O#[F,S,j,r,z,q]=>#[by rw[←r.length];exact z,?_]);have hf:S O.heap.objs.size=none:=j.hok.fresh (aM _);refine#[.ref O.heap.objs.size,upd S O.heap.objs.size (.lst F),j.laid (t':=O.toks) (λb u e=>aS _ e) (aM _) ?_,rfl,q _ hf];exact#[z,R,0,r,bL _ rfl]
end
noncomputable abbrev Sp:=List V->Hp->VK->XK->Prop
noncomputable abbrev CXT:=List Env->Hp->Shared->XK->Value->Shared->Prop
structure Zn(P:Program)(w:World)(K:aR)(mg:Str->Option Value)(base:Heap)(A:Around)(outer:List Env)(s:Shared)(H:Hp):Prop where
 frames:A.frames=some outer
 mod:Mod K mg base
 bs:∀b o,base.get? b=some o->s.heap.get? b=some o/\H b=none
 bsz:base.objs.size<=s.heap.objs.size
 funs:s.heap.FunFrames base outer
 frf:∀b∈frs outer,H b=none
 hok:HOk P w H s.heap
 bare:AllBare s.gens
def CE(outer:List Env)(P:Program)(w:World)(H:Hp)(s:Shared)(Q:VK)(u:Value)(U:Shared):Prop:=
 ∃v H',U.os=s.os/\AllBare U.gens/\Un (frs outer) [] H H' s.heap U.heap/\HOk P w H' U.heap/\fD v u/\Q v H'
def CR(CX:CXT)(outer:List Env)(P:Program)(w:World)(H:Hp)(s:Shared)(Q:VK)(E:XK)(r:Result)(U:Shared):Prop:=
 match r with
 | .ok (.ret u)=>CE outer P w H s Q u U
 | .ok _=>False
 | .error e=>CX outer H s E e U
structure Bw(P:Program)(w:World)(K:aR)(mg:Str->Option Value)(base:Heap)(CX:CXT)(k:Nat)(f:Addr)(fd:FuncData)(ps:List Str)(sp:Sp):Prop where
 len:∀vs H Q E,sp vs H Q E->vs.length=ps.length
 run:∀(A:Around)(outer:List Env)(s:Shared)(H:Hp)(args:Args)(us:List Value)(vs:List V)(Q:VK)(E:XK),mQ k A->Zn P w K mg base A outer s H->BindsTo s fd args (ps.zip us)->fF vs us->sp vs H Q E->
  codeAny (model P w) A (.call (.ref f) args) (CR CX outer P w H s Q E) s
def Zn.make{P:Program}{w:World}{outer:List Env}(e:Zn P w K mg base A outer s H)(C:Addr)(us:List Value)(i:List (Str×Value)):
  Zn P w K mg base (A.under (.builtin "type.__call__" #[.ref C::us,i])) outer s H:=#[by first |exact e.frames |(simpa [Around.under,Code.envs,Code.isFrame,pushEnvs]using e.frames),e.mod,e.bs,e.bsz,e.funs,e.frf,e.hok,e.bare]
section
variable{X:Cx}{pins:List (Addr×Obj)}{σ:St}{H:Hp}{s s':Shared}
def Inv.env0(I:Inv X pins σ H s):Zn X.prog X.w X.K X.mg X.base X.A X.stack s H:=
 #[I.ok.frames,I.ok.mod,I.bs,cK I.ok.bsz I.sz,I.stack,I.stkFree,I.hok,I.bare]
def Inv.after{Q:VK}(I:Inv X pins σ H s)(h:CE X.stack X.prog X.w H s Q u s'):EP X pins σ Q u s':=by
 obtain⟨v,c,os,bare,un,hok,r,q⟩:=h;obtain⟨e,g,d,t,a⟩:=s';obtain rfl:a=s.os:=os;exact#[v,c,I.call (h':=e) (g':=g) (d':=d) (t':=t) (ch:=[]) un hok bare (λb z=>absurd z (by simp)),r,q]
end
def cD(sp:Sp)(b:List V)(E:XK)(t:TA):TE:=λZ H Q=>t Z H λvs S=>sp (vs++b) S Q E
def eZ(C:Addr)(m:Str)(sp:Sp)(b:List V)(E:XK)(c:TE)(t:TA):TE:=λZ H Q=>c Z H λx S=>exR x λa=>∃f fs,S a=some (.ins C f fs)/\fs.lookup m=none/\
 t Z S λvs M=>sp (x::(vs++b)) M Q E
def Ca(C:Addr)(sp:Sp)(b:List V)(E:XK)(t:TA):TE:=λZ H Q=>t Z H λvs S=>∀x f,S x=none->S f=none->f≠x->
 sp (.ref x::(vs++b)) (upd (upd S f (.own x)) x (.ins C f [])) (λv M=>v=.non/\Q (.ref x) M) E
def sE(K:aR)(fd:FuncData)(ps:List Str)(a:List Value):Prop:=
 ∀(s:Shared)(us:List Value),K.In s.heap->(us++a).length=ps.length->BindsTo s fd #[us,[]] (ps.zip (us++a))
def sE.all{fd:FuncData}(h:∀R:List Value,R.length=ps.length->bindArgs fd #[R,[]]=pure (ps.zip R)):sE K fd ps []:=λs R _ Y=>by
 rw[cA]at Y⊢;exact .of_eq (h R Y)
def Dk(CX:CXT)(X:Cx)(E:XK):Prop:=∀(B:List (Addr×Obj))(Z:St)(H:Hp)(s:Shared)(e:Value)(U:Shared),Inv X B Z H s->CX X.stack H s E e U->X.xe e U
section
variable{X:Cx}{CX:CXT}{k:Nat}{f C:Addr}{fd:FuncData}{ps:List Str}{sp:Sp}{dvs:List V}{ds:List Value}{E:XK}{x m:Str}{p pos apos:Pos}{e o:Expr}{es:List Expr}{ta:TE}{t:TA}
def Zw{B:List (Addr×Obj)}{Q:VK}(F:Bw X.prog X.w X.K X.mg X.base CX k f fd ps sp)(hr:mQ k X.A)(hb:sE X.K fd ps ds)(hd:fF dvs ds)(hx:Dk CX X E)
  (I:Inv X B Z H s) (r:fF vs us) (h:sp (vs++dvs) H Q E):wpAny (model X.prog X.w) X.A (call (.ref f) us) (EP X B Z Q) X.xe s:=by
 have g:fF (vs++dvs) (us++ds):=r.append hd;have Y:(us++ds).length=ps.length:=by rw[←g.length];exact F.len _ _ _ _ h
 refine wpAny_call (codeAny_mono (F.run X.A X.stack s H #[us,[]] (us++ds) (vs++dvs) Q E hr I.env0 (hb s us I.kIn Y) g h) λr U J=>?_);cases r with
 |error e=>exact hx B Z H s e U I J
 |ok fl=>
  cases fl with
  |ret u=>exact I.after J
  |next=>exact False.elim J
  |brk=>exact False.elim J
  |cont=>exact False.elim J
def pe_call(F:Bw X.prog X.w X.K X.mg X.base CX k f fd ps sp)(hr:mQ k X.A)(hg:Gl X x)(hm:X.mg x=some (.ref f))(hk:PySem.W.keepIn X.K (.ref f)=true)(hb:sE X.K fd ps ds)(hd:fF dvs ds)(hx:Dk CX X E)
  (ha:PA X (e::es) t) (a:(x==("__debug__":Str))=false:=by decide) (l:starEach (e::es) X.env=(false,eval e X.env)::starEach es X.env:=by rfl) (d:(backTo pos (starEach es X.env)).any (·.1)=false:=by rfl):
  PE X (.Call (.Name x p) (e::es) [] pos) (cD sp dvs E t):=by
 intro B s Z H Q I h;refine wpAny_Call_Name_kw (Vl I hg hm ?_ a);refine PySem.W.callWith_K (h₀:=X.base) I.ok.mod.kin hk (thF (ha pos B s Z H _ I h) λR O b S j r q=>#[j.kIn,?_]) l d;exact Zw F hr hb hd hx j r q
def pe_meth(i:PE X o ta)(c:Cls X.K C)(hm:Meth X.K C m f)(F:Bw X.prog X.w X.K X.mg X.base CX k f fd ps sp)(hr:mQ k X.A)(hb:sE X.K fd ps ds)(hd:fF dvs ds)(hx:Dk CX X E)(ha:PA X (e::es) t)
  (T:starEach (e::es) X.env=(false,eval e X.env)::starEach es X.env:=by rfl) (d:(backTo pos (starEach es X.env)).any (·.1)=false:=by rfl)
  (y:eval (.Call (.Attribute o m apos) (e::es) [] pos) X.env=(do
   let J ←eval o X.env
   standAt apos.atName
   let(f,first) ←holding [J] (getMethod J m pl)
   callWith pos f first (backTo pos (starEach (e::es) X.env)) (backToKw pos (keywordEach [] X.env))):=by rfl):
  PE X (.Call (.Attribute o m apos) (e::es) [] pos) (eZ C m sp dvs E ta t):=by
 intro B s Z H Q I h;refine PySem.W.methodCall_KW (pl:=pl) (thE (i B s Z H _ I h) λu O x S j N b=>?_) y;obtain⟨a,ex,v,fs,Y,l,q⟩:=Eq.mp iQ b;subst ex;obtain rfl:u=Value.ref a:=N;refine Ow j Y c hm l ?_;refine PySem.W.callWith_K (first:=[.ref a]) (h₀:=X.base) I.ok.mod.kin hm.kp (thF (ha pos B O Z S _ j q) λR z n M g r G=>#[g.kIn,?_]) T d
 exact Zw (us:=.ref a::R) (vs:=.ref a::n) F hr hb hd hx g (.cons rfl r) G
def jWo(d:PE X o ta)(c:Cls X.K C)(hm:Meth X.K C m f)(F:Bw X.prog X.w X.K X.mg X.base CX k f fd ps sp)(hr:mQ k X.A)(hb:sE X.K fd ps ds)(hd:fF dvs ds)(hx:Dk CX X E)
  (y:eval (.Call (.Attribute o m apos) [] [] pos) X.env=(do
   let J ←eval o X.env
   standAt apos.atName
   let(f,first) ←holding [J] (getMethod J m pl)
   callWith pos f first (backTo pos (starEach [] X.env)) (backToKw pos (keywordEach [] X.env))):=by rfl):
  PE X (.Call (.Attribute o m apos) [] [] pos) (eZ C m sp dvs E ta bE):=by
 intro B s Z H Q I h;refine PySem.W.methodCall_KW (pl:=pl) (thE (d B s Z H _ I h) λu O x S j N b=>?_) y;obtain⟨a,ex,g,fs,Y,l,q⟩:=Eq.mp iQ b;subst ex;obtain rfl:u=Value.ref a:=N;refine Ow j Y c hm l ?_;exact PySem.W.callWith_K0 (first:=[.ref a]) j.kIn hm.kp (Zw (us:=[.ref a]) (vs:=[.ref a]) F hr hb hd hx j (.cons rfl .nil) q)
structure Mk(K:aR)(C f:Addr):Prop where
 makes:PySem.W.makesIn K C=true
 init:PySem.W.findIn K (.ref C) "__init__"=some (some (.ref f))
 fn:PySem.W.isFn K (.ref f)=true
 kp:PySem.W.keepIn K (.ref C)=true
def jWa{B:List (Addr×Obj)}{Q:VK}(M:Mk X.K C f)(F:Bw X.prog X.w X.K X.mg X.base CX k f fd ps sp)(hr:mQ (k+1) X.A)(hb:sE X.K fd ps ds)(hd:fF dvs ds)
  (hx:Dk CX X E) (I:Inv X B Z H s) (r:fF vs us)
  (h:∀x a,H x=none->H a=none->a≠x->sp (.ref x::(vs++dvs)) (upd (upd H a (.own x)) x (.ins C a [])) (λv c=>v=.non/\Q (.ref x) c) E):
  wpAny (model X.prog X.w) X.A (call (.ref C) us) (EP X B Z Q) X.xe s:=by
 have J:=h (s.heap.objs.size+1) s.heap.objs.size (I.hok.fresh (Nat.le_succ _)) (I.hok.fresh (aM _)) (bJ (gK _));have b:=Inv.made (C:=C) I;have g:fF (V.ref (s.heap.objs.size+1)::(vs++dvs)) (Value.ref (s.heap.objs.size+1)::(us++ds)):=.cons rfl (r.append hd);have Y:(Value.ref (s.heap.objs.size+1)::us++ds).length=ps.length:=by
  have e:=g.length;rw[F.len _ _ _ _ J]at e;exact e.symm
 refine wpAny_call (jW0 (f:=f) I.kIn M.makes M.init (beq_iff_eq.mp M.fn) (codeAny_mono (F.run _ X.stack _ _ #[Value.ref (s.heap.objs.size+1)::us,[]] (Value.ref (s.heap.objs.size+1)::(us++ds)) _ _ E (hr.make C us [])
  (b.env0.make C us []) (hb _ (Value.ref (s.heap.objs.size+1)::us) b.kIn Y) g J) λr U n=>?_))
 cases r with
 |error e=>exact hx B Z _ _ e U b n
 |ok fl=>
  cases fl with
  |ret u=>
   obtain⟨v,d,z,D,i,j⟩:=b.after n;subst i;exact#[D,#[V.ref (s.heap.objs.size+1),d,z,rfl,j]]
  |next=>exact False.elim n
  |brk=>exact False.elim n
  |cont=>exact False.elim n
def pe_make(M:Mk X.K C f)(F:Bw X.prog X.w X.K X.mg X.base CX k f fd ps sp)(hr:mQ (k+1) X.A)(hg:Gl X x)(hm:X.mg x=some (.ref C))(hb:sE X.K fd ps ds)(hd:fF dvs ds)(hx:Dk CX X E)
  (ha:PA X (e::es) t) (a:(x==("__debug__":Str))=false:=by decide) (l:starEach (e::es) X.env=(false,eval e X.env)::starEach es X.env:=by rfl) (d:(backTo pos (starEach es X.env)).any (·.1)=false:=by rfl):
  PE X (.Call (.Name x p) (e::es) [] pos) (Ca C sp dvs E t):=by
 intro B s Z H Q I h;refine wpAny_Call_Name_kw (Vl I hg hm ?_ a);refine PySem.W.callWith_K (h₀:=X.base) I.ok.mod.kin M.kp (thF (ha pos B s Z H _ I h) λR O b S j r q=>#[j.kIn,?_]) l d;exact jWa M F hr hb hd hx j r q
end
structure Bc(N P:List Str)(sc:Scope):Prop where
 kind:sc.kind=.function
 co:sc.isCoroutine=false
 gen:sc.isGenerator=false
 nd:N.Nodup
 pre:N.take P.length=P
 par:∀x∈P,sc.names.lookup x=some .local∨sc.names.lookup x=some .cell
 nofree:∀y∈sc.names,y.2≠.free
def Tc{a:Str->Option NameKind}{x:Str}:∀{binds:List (Str×Value)}{m:Str->Option Value},(∀v,(x,v)∉binds)->bindL a binds m x=m x
 | [],_,_=>rfl
 | (n,v)::r,m,h=>by
  unfold bindL;rw[Tc λw hw=>h w (bK _ hw)];split
  .have:x≠n:=by rintro rfl;exact h v bT
   simp [this]
  .rfl
def Te{a:Str->Option NameKind}{x:Str}:∀{binds:List (Str×Value)}{m:Str->Option Value},(∀v,(x,v)∉binds)->bindC a binds m x=m x
 | [],_,_=>rfl
 | (n,v)::r,m,h=>by
  unfold bindC;rw[Te λw hw=>h w (bK _ hw)];split
  .rfl
  .have:x≠n:=by rintro rfl;exact h v bT
   simp [this]
def Td{a:Str->Option NameKind}{x:Str}{v:Value}:∀{P:List Str}{vs:List Value}{i:Nat}{m:Str->Option Value},P.Nodup->P[i]?=some x->vs[i]?=some v->a x=some .local->
  bindL a (P.zip vs) m x=some v
 | [],_,_,_,_,h,_,_=>by simp at h
 |_::_,[],_,_,_,_,h,_=>by simp at h
 |p::P,w::vs,0,m,nd,h1,h2,hk=>by
  simp at h1 h2;subst h1;subst h2;show bindL a ((p,w)::P.zip vs) m p=_;unfold bindL;rw[Tc λv hv=>(List.nodup_cons.mp nd).1 (List.of_mem_zip hv).1,aJ hk];simp
 |p::P,w::vs,i+1,m,nd,h1,h2,hk=>by
  show bindL a ((p,w)::P.zip vs) m x=_;unfold bindL;exact Td (i:=i) (List.nodup_cons.mp nd).2 (by simpa using h1) (by simpa using h2) hk
def Tf{a:Str->Option NameKind}{x:Str}{v:Value}:∀{P:List Str}{vs:List Value}{i:Nat}{m:Str->Option Value},P.Nodup->P[i]?=some x->vs[i]?=some v->a x≠some .local->
  bindC a (P.zip vs) m x=some v
 | [],_,_,_,_,h,_,_=>by simp at h
 |_::_,[],_,_,_,_,h,_=>by simp at h
 |p::P,w::vs,0,m,nd,h1,h2,hk=>by
  simp at h1 h2;subst h1;subst h2;show bindC a ((p,w)::P.zip vs) m p=_;unfold bindC;rw[Te λv hv=>(List.nodup_cons.mp nd).1 (List.of_mem_zip hv).1,aF hk];simp
 |p::P,w::vs,i+1,m,nd,h1,h2,hk=>by
  show bindC a ((p,w)::P.zip vs) m x=_;unfold bindC;exact Tf (i:=i) (List.nodup_cons.mp nd).2 (by simpa using h1) (by simpa using h2) hk
def start(N:List Str)(vs:List V):St:=vs.map some++List.replicate (N.length-vs.length) none
noncomputable def Wo(CX:CXT)(P:Program)(w:World)(K:aR)(mg:Str->Option Value)(base:Heap)(N:List Str)(j:Str)(g:Scope)(f:Addr)(m:Value)(A:Around)(outer:List Env)(s:Shared)(H:Hp)(E:XK):Cx where
 prog:=P
 w:=w
 K:=K
 mg:=mg
 base:=base
 A:=A.deeper (envOfC j g s.heap.objs.size f m)
 N:=N
 s₀:=s
 H₀:=H
 env:=envOfC j g s.heap.objs.size f m
 outer:=outer
 stack:=envOfC j g s.heap.objs.size f m::outer
 ex:=[]
 calm:=true
 fn:=λ_=>true
 pn:=[]
 xe:=λe U=>wpAny (model P w) (A.deeper (envOfC j g s.heap.objs.size f m)) (leaving (envOfC j g s.heap.objs.size f m) e) (λ_ a=>CX outer H s E e a) (λb a=>CX outer H s E b a) U
def Yb{sc:Scope}{n:Nat}{x:Str}(h:sc.names.lookup x=some .cell):∃c,(cellsFrom n sc.names []).lookup x=some c:=by
 have q:=PySem.W.cellsFrom_some sc.names n [] (.inl h);exact Option.isSome_iff_exists.mp q
def jY0{CX:CXT}{P:Program}{w:World}{j:Str}{g:Scope}{f:Addr}{m:Value}{outer:List Env}{O:Shared}{E:XK}
  (S:Bc N ps g) (hd:A.handled=none) (F:Zn P w K mg base A outer s H) (Y:vs.length=ps.length) (r:fF vs us)
  (x:InCallC s s.heap.objs.size (bindL (envOfC j g s.heap.objs.size f m).kindOf (ps.zip us) λ_=>none) (cellsFrom (s.heap.objs.size+1) g.names []) (bindC (envOfC j g s.heap.objs.size f m).kindOf (ps.zip us) λ_=>none) O):
  Inv (Wo CX P w K mg base N j g f m A outer s H E) [] (start N vs) H O:=by
 have t:ps.length<=N.length:=by have:=congrArg List.length S.pre;rw[dO]at this;lia
 obtain⟨h1,tk,rfl,hk⟩:=x.done;have l:∀b:Addr,b∉(Wo CX P w K mg base N j g f m A outer s H E).ex:=λb z=>absurd (show b∈([]:List Addr)from z) (by simp);refine#[#[F.mod,S.kind,rfl,rfl,aM _,λy z c h1 h2=>?_,λy d=>?_,λy c _ h=>?_,λ_=>hd,Around.frames_deeper F.frames,.inr #[rfl,rfl],λb z=>absurd z (l b),F.bs,F.bsz,λb _ _=>l b,λb z=>absurd z (l b),F.funs,F.frf],
  rfl,F.bare,Un.kept hk,#[_,x.toInCall.ns,λi y v h1 h2 h3=>?_],λy c h=>#[_,x.cell y c h],F.hok.fresh (aM _),λy c h=>?_,λp hp=>absurd (show p∈([]:List (Addr×Obj))from hp) (by simp),F.hok.kept hk,?_]
 .exact name_of_addr x.apart (PySem.mem_of_lookup h1) (PySem.mem_of_lookup h2)
 .have d:g.names.lookup y=some .cell∨g.names.lookup y=some .free:=d;rcases d with d |d
  .exact Yb d
  .exact absurd rfl (S.nofree _ (PySem.mem_of_lookup d))
 .exact jT (x.above y c (PySem.mem_of_lookup h))
 .have hi:i<vs.length:=by
   unfold start at h2;by_cases hi:i<vs.length
   .exact hi
   .rw[bO (by simpa using hi)]at h2;rw[List.getElem?_replicate]at h2;split at h2<;>cases h2
  have ha:vs[i]?=some v:=by
   unfold start at h2;rw[bV (by simpa using hi),aX]at h2;cases e:vs[i]? with
   |none=>rw[e]at h2;cases h2
   |some a=>rw[e]at h2;cases h2;rfl
  obtain⟨u,R,D⟩:=r.get ha;have hp:ps[i]?=some y:=by
   rw[←S.pre,List.getElem?_take_of_lt #[]];exact h1
  have o:ps.Nodup:=by rw[←S.pre];exact S.nd.sublist (List.take_sublist _ _)
  refine#[u,D,?_];rcases S.par y (aL hp)with k |k
  .exact .inl #[k,Td o hp R k]
  .obtain⟨c,e⟩:=Yb (n:=s.heap.objs.size+1) k;refine .inr #[.inl k,c,e,?_];have q:=x.cell y c e;rw[Tf o hp R (by show g.names.lookup y≠_;rw[k];decide)]at q;exact q
 .exact F.hok.fresh (jT (x.above y c (PySem.mem_of_lookup h)))
 .unfold start;show _=N.length;rw[bC,aA,List.length_replicate];lia
def fn_of{CX:CXT}{P:Program}{w:World}{f:Addr}{name j:Str}{h:Arguments}{a:List Stmt}{g:Scope}{dV kV i z cdv ct X:Value}{C M:Option Addr}
  {G:Array (Option Value)} {sp:Sp} (Z:K.lookup f=some #[X,M,.func (PySem.W.fnOf name j h a g dV kV i z C cdv ct),G]) (p:PySem.W.codeIn K cdv j=true) (S:Bc N ps g)
  (len:∀vs H Q E,sp vs H Q E->vs.length=ps.length)
  (m:∀(A:Around)(outer:List Env)(s:Shared)(H:Hp)(vs:List V)(Q:VK)(E:XK),mQ k (A.deeper (envOfC j g s.heap.objs.size f cdv))->sp vs H Q E->
   ∃t,PSs (Wo CX P w K mg base N j g f cdv A outer s H E) a t/\t { nx:=λ_ d=>Q .non d,rt:=Q } (start N vs) H):
  Bw P w K mg base CX (k+1) f (PySem.W.fnOf name j h a g dV kV i z C cdv ct) ps sp:=by
 refine#[len,λA outer s H c R vs Q E hr F hb r B=>?_];have Y:=len _ _ _ _ B;have KX:K.In s.heap:=F.mod.kin.keeps λb o e=>(F.bs b o e).1;have lim:s.heap.NoLimit:=F.mod.nolimit.keeps λb o e=>(F.bs b o e).1;have T:∀y∈ps.zip R,g.names.lookup y.1=some .local∨(g.names.lookup y.1=some .cell/\((cellsFrom (s.heap.objs.size+1) g.names []).lookup y.1).isSome=true):=fun⟨n,v⟩ hy=>by
  rcases S.par n (List.of_mem_zip hy).1 with q |q
  .exact .inl q
  .exact .inr #[q,PySem.W.cellsFrom_some _ _ _ (.inl q)]
 refine codeAny_call_function hr.depth (KX _ _ Z) rfl S.co S.gen rfl (PySem.W.codeRec_of KX p) (hb _ _ _ _ ?_);refine wpAny_newFunctionEnv_cells S.kind T λenv l O x=>?_;subst l;refine#[lim.keeps x.toInCall.keep,codeAny_func ?_];obtain⟨t,ht,hq⟩:=m A outer s H vs Q E (hr.deeper _) B;have I:Inv (Wo CX P w K mg base N j g f cdv A outer s H E) [] (start N vs) H O:=jY0 S hr.hd F Y r x;refine wpAny_mono (ht [] O (start N vs) H _ I hq) (λfl U hs=>?_) λe U hs=>hs;have fin:∀{a0:St}{d:Hp}{v:V}{u:Value},Inv (Wo CX P w K mg base N j g f cdv A outer s H E) [] a0 d U->fD v u->Q v d->CE outer P w H s Q u U:=
  fun{a0 d v u} J D q=>#[v,d,J.os,J.bare,J.base,J.hok,D,q]
 cases fl with
 |ret u=>
  obtain⟨v,a0,d,J,D,q⟩:=hs;exact fin J D q
 |next=>
  obtain⟨a0,d,J,q⟩:=hs;exact fin (v:=V.non) (u:=Value.none) J rfl q
 |brk=>
  obtain⟨_,_,_,q⟩:=hs;exact False.elim q
 |cont=>
  obtain⟨_,_,_,q⟩:=hs;exact False.elim q
section
variable{X:Cx}{x:Str}{p pos:Pos}{e:Expr}{es:List Expr}{t:TA}{id T:String}{r:List V->Hp->VK->Prop}
def tCB(r:List V->Hp->VK->Prop)(t:TA):TE:=λZ H Q=>t Z H λvs S=>r vs S Q
def cS(hc:pU X (.builtin id) r)(hg:Gl X x)(hm:X.mg x=none)(hv:bootBuiltins x=some (.builtin id))(ha:PA X (e::es) t)(R:x≠ "__name__":=by decide)(a:(x==("__debug__":Str))=false:=by decide)
  (l:starEach (e::es) X.env=(false,eval e X.env)::starEach es X.env:=by rfl) (d:(backTo pos (starEach es X.env)).any (·.1)=false:=by rfl):PE X (.Call (.Name x p) (e::es) [] pos) (tCB r t):=by
 intro B s Z H Q I h;refine wpAny_Call_Name_kw (lR I hg hm hv ?_ R a);exact PyProof.Rows.callWith_builtin1 (thF (ha pos B s Z H _ I h) λb O m S j f q1=>hc B O Z S m b Q j f q1) l d
def mO(hc:pU X (.type T) r)(hg:Gl X x)(hm:X.mg x=none)(hv:bootBuiltins x=some (.type T))(ha:PA X (e::es) t)(R:x≠ "__name__":=by decide)(a:(x==("__debug__":Str))=false:=by decide)
  (l:starEach (e::es) X.env=(false,eval e X.env)::starEach es X.env:=by rfl) (d:(backTo pos (starEach es X.env)).any (·.1)=false:=by rfl):PE X (.Call (.Name x p) (e::es) [] pos) (tCB r t):=by
 intro B s Z H Q I h;refine wpAny_Call_Name_kw (lR I hg hm hv ?_ R a);exact cI (thF (ha pos B s Z H _ I h) λb O m S j f q1=>hc B O Z S m b Q j f q1) l d
end
end L2
namespace HT
open PySem PyProof.Rows
section
open PySem.SeqAt
open PySem.AutoSeq1 (wpAny_loadPart')
open PySem.MeetsSeq PySem.MeetsSeq2 PySem.MeetsSeq3
end
section
variable{prog:Program}{w:World}{A:Around}{E:Value->Shared->Prop}{s:Shared}
def cat_tup{t b:Addr}{vs f:List Value}{Q:Value->Shared->Prop}(y:IsTup s.heap t vs.toArray)(hb:IsTup s.heap b f.toArray)(hv:vs≠[])
  (h1:f=[]->Q (.ref t) s) (h2:f≠[]->Q (.ref s.heap.objs.size) { s with heap:=s.heap.push { cls:=.type "tuple",data:=.seq (vs++f).toArray } })
  (hsz:vs.length+f.length<=sizeLine):wpAny (model prog w) A (binaryOp .Add (.ref t) (.ref b)) Q E s:=by
 obtain⟨⟨z,G,o,sl⟩,D,hc,n,hd⟩:=id y;obtain⟨⟨r,k,m,c⟩,i,j,n2,d⟩:=id hb;simp only at hc hd j d;subst hc hd j d;have e:vs.toArray++f.toArray=(vs++f).toArray:=by simp
 by_cases hw:f=[]
 .exact concat_meets #[_,D,rfl] #[_,i,rfl] noFill_tuple_add seq_tuple_add PySem.F.slot_tuple_add PySem.F.entry_tuple_add (PySem.F.args_tuple_add_2 _ _)
   (tuple_addW1 t b vs.toArray f.toArray n n2 G k sl c (by simpa using hv) (by simp [hw])) #[D,i,h1 hw]
 .refine concat_meets #[_,D,rfl] #[_,i,rfl] noFill_tuple_add seq_tuple_add PySem.F.slot_tuple_add PySem.F.entry_tuple_add (PySem.F.args_tuple_add_2 _ _)
   (tuple_addW2 t b vs.toArray f.toArray n n2 G k sl c (by simpa using hv) (by simpa using hw) (by rw[List.size_toArray,List.size_toArray];exact hsz)) #[D,i,?_]
  rw[e];exact h2 hw
noncomputable def sIx(n d:Nat):Option Int->Nat
 |none=>d
 |some v=>if v<0 then(v+(n:Int)).toNat else min v.toNat n
def sIx_none(n d:Nat):sIx n d none=d:=rfl
def sIx_nat(n d k:Nat):sIx n d (some (k:Int))=min k n:=by
 show(if(k:Int)<0 then((k:Int)+(n:Int)).toNat else min (k:Int).toNat n)=min k n;rw[if_neg #[],Int.toNat_natCast]
def sIx_le(n d:Nat)(hd:d<=n)(o:Option Int):sIx n d o<=n:=by
 cases o with
 |none=>exact hd
 |some v=>
  show(if v<0 then(v+(n:Int)).toNat else min v.toNat n)<=n;by_cases hv:v<0
  .rw[if_pos hv];lia
  .rw[if_neg hv];exact Nat.min_le_right _ _
def jXs(v:Int)(n d:Nat):(if v<0 then max (v+(n:Int)) 0 else min v (n:Int))=((sIx n d (some v):Nat):Int):=by
 show(if v<0 then max (v+(n:Int)) 0 else min v (n:Int))=(((if v<0 then(v+(n:Int)).toNat else min v.toNat n):Nat):Int);by_cases hv:v<0
 .simp only[if_pos hv];lia
 .simp only[if_neg hv];lia
def jZm(lo hi:Option Int)(n:Nat):Builtin.Slice.sliceAdjust lo hi 1 (n:Int)=(((sIx n 0 lo:Nat):Int),((sIx n n hi:Nat):Int)):=by
 have h1:¬((1:Int)<0):=#[];unfold Builtin.Slice.sliceAdjust;simp only[h1,if_false];refine Prod.ext ?_ ?_
 .cases lo with
  |none=>rfl
  |some v=>exact jXs v n 0
 .cases hi with
  |none=>rfl
  |some v=>exact jXs v n n
def jJy(i j:Nat):Builtin.Slice.slicePlaces (i:Int) (j:Int) 1=j-i:=by
 unfold Builtin.Slice.slicePlaces;have h1:(1:Int)>0:=#[];simp only[h1,if_true,Int.ediv_one];split<;>lia
def Oj{v:Value}{o:Option Int}{Q:Option Int->Shared->Prop}(p:IsPart v o)(h:Q o s):wpAny (model prog w) A (Builtin.Slice.slicePartIndex v) Q E s:=by
 cases p with
 |none=>exact slicePart_none h
 |int i t=>exact slicePart_int h
def vF{sl:Addr}{c d:Value}{lo hi:Option Int}{n:Nat}{Q:Int×Int×Nat->Shared->Prop}(hs:s.heap.IsSliceOf sl c d .none)(pl:IsPart c lo)(i:IsPart d hi)
  (h:Q (((sIx n 0 lo:Nat):Int),1,sIx n n hi-sIx n 0 lo) s):wpAny (model prog w) A (Builtin.Slice.sliceApplied (.ref sl) (pure (n:Int))) Q E s:=by
 obtain⟨os,b,g,e⟩:=id hs;unfold Builtin.Slice.sliceApplied Builtin.Slice.sliceFields;refine wpAny_bind (wpAny_bind (wpAny_field b e (x:=c) rfl (wpAny_bind (wpAny_field b e (x:=d) rfl (wpAny_bind (wpAny_field b e (x:=.none) rfl (wpAny_pure ?_)))))));refine wpAny_bind (slicePart_none ?_);show wpAny _ _ (if((1:Int)==0)=true then _ else _) _ _ s;rw[if_neg (by decide)];refine wpAny_bind (Oj pl (wpAny_bind (Oj i (wpAny_bind (wpAny_pure ?_)))));show wpAny _ _ (match Builtin.Slice.sliceAdjust lo hi 1 (n:Int)with |(lo,hi)=>pure (lo,(1:Int),Builtin.Slice.slicePlaces lo hi 1)) _ _ s
 rw[jZm lo hi n];show wpAny _ _ (pure (((sIx n 0 lo:Nat):Int),(1:Int),Builtin.Slice.slicePlaces ((sIx n 0 lo:Nat):Int) ((sIx n n hi:Nat):Int) 1)) _ _ s;rw[jJy];exact wpAny_pure h
def jWn(xs:Array Value)(i k:Nat):((List.range k).filterMap fun(m:Nat)=>xs[((i:Int)+(m:Int)*1).toNat]?).toArray=((xs.toList.drop i).take k).toArray:=by
 have e:(fun(m:Nat)=>xs[((i:Int)+(m:Int)*1).toNat]?)=λm=>xs[i+m]?:=by
  funext m
  have:((i:Int)+(m:Int)*1).toNat=i+m:=#[];rw[this]
 rw[e];have:=pick_run xs i k;rw[List.filterMap_map]at this;have C:((λx=>xs[x]?)∘λx=>i+x)=λm=>xs[i+m]?:=rfl;rw[C]at this;rw[this]
def getItem_tuple_cut{t sl:Addr}{items:Array Value}{c d:Value}{lo hi:Option Int}{Q:Value->Shared->Prop}(y:IsTup s.heap t items)(hs:s.heap.IsSliceOf sl c d .none)(pl:IsPart c lo)(i:IsPart d hi)
  (hw:¬(sIx items.size 0 lo=0/\sIx items.size items.size hi=items.size))
  (h:Q (.ref s.heap.objs.size) { s with heap:=s.heap.push { cls:=.type "tuple",data:=.seq ((items.toList.drop (sIx items.size 0 lo)).take (sIx items.size items.size hi-sIx items.size 0 lo)).toArray } })
  (hsz:items.size<=sizeLine):wpAny (model prog w) A (getItem (.ref t) (.ref sl)) Q E s:=by
 have a:sizeOk (.seq ((items.toList.drop (sIx items.size 0 lo)).take (sIx items.size items.size hi-sIx items.size 0 lo)).toArray):=by
  show((items.toList.drop (sIx items.size 0 lo)).take (sIx items.size items.size hi-sIx items.size 0 lo)).toArray.size<=sizeLine;rw[List.size_toArray,List.length_take,List.length_drop,Array.length_toList];lia
 have P:sIx items.size items.size hi<=items.size:=sIx_le _ _ (Nat.le_refl _) hi;obtain⟨os,b,g,e⟩:=id hs;have j:s.TypeIs (.ref sl) "slice":=#[os,b,g];unfold getItem
 try with_reducible refine wpAny_holding ?_
 first |refine wpAny_bind (wpAny_pure ?_)|skip
 refine wpAny_bind (wpAny_sequenceKey y.typeIs (by decide) ?_);refine wpAny_bind (wpAny_callSpecial?_slot (name:=Str.ofString "__getitem__") y.typeIs PyProof.Rows.slot_tuple_getitem
  (wpAny_call_entry PyProof.Rows.slot_tuple_getitem y.typeIs entry_tuple_getitem ?_ (args_tuple_getitem _ _)))
 show wpAny _ _ (Builtin.Tuple.tupleItemsOf (.ref t)>>=_) _ _ s;refine wpAny_bind (tupleItemsOf_ y ?_);refine wpAny_bind (wpAny_typeOf j ?_);rw[if_pos (by decide)];refine wpAny_bind (vF hs pl i ?_);have f:¬((((sIx items.size 0 lo:Nat):Int)==0&&(1:Int)==1&&(sIx items.size items.size hi-sIx items.size 0 lo)==items.size)=true):=by
  intro q;rw[Bool.and_eq_true,Bool.and_eq_true]at q;have q1:((sIx items.size 0 lo:Nat):Int)=0:=eq_of_beq q.1.1;have G:sIx items.size items.size hi-sIx items.size 0 lo=items.size:=eq_of_beq q.2;exact hw #[#[],#[]]
 show wpAny _ _ (if(((sIx items.size 0 lo:Nat):Int)==0&&(1:Int)==1&&(sIx items.size items.size hi-sIx items.size 0 lo)==items.size)=true then _ else _) _ _ s;rw[if_neg f,jWn]
 first
  |exact wpAny_bind (m:=Builtin.Tuple.tupleExact _) (wpAny_newObj_type (wpAny_pure #[_,rfl,wpAny_pure h]) a)
  |exact wpAny_bind (m:=Builtin.Tuple.tupleExact _) (wpAny_newObj_type (wpAny_bind (wpAny_pure (wpAny_pure #[_,rfl,wpAny_pure h]))) a)
  |exact wpAny_bind (wpAny_bind (m:=Builtin.Tuple.tupleExact _) (wpAny_newObj_type (wpAny_pure (wpAny_pure #[_,rfl,wpAny_pure h])) a))
  |exact wpAny_bind (wpAny_bind (m:=Builtin.Tuple.tupleExact _) (wpAny_newObj_type (wpAny_pure #[_,rfl,wpAny_pure h]) a))
end
end HT
namespace L2
open PySem PySem.Spec PyProof.Rows
variable{G:List Value}{s:Shared}
noncomputable abbrev TO:=St->Hp->(Option Int->Hp->Prop)->Prop
def PO(X:Cx)(e:Option Expr)(t:TO):Prop:=
 ∀(B:List (Addr×Obj))(s:Shared)(Z:St)(H:Hp)(Q:Option Int->Hp->Prop),Inv X B Z H s->t Z H Q->
  wpAny (model X.prog X.w) X.A (evalPart e X.env) (λu U=>∃o H',Inv X B Z H' U/\IsPart u o/\Q o H') X.xe s
def iC:TO:=λ_ H Q=>Q none H
def lX(t:TE):TO:=λZ H Q=>t Z H λx S=>∃i,x=.int i/\Q (some i) S
section
variable{X:Cx}{e:Expr}{te:TE}{lo hi:Option Expr}{tl th:TO}{pos p2:Pos}
def mC:PO X none iC:=by
 intro B s Z H Q I h;rw[evalPart_none];exact aU #[none,H,I,.none,h]
def mB(h:PE X e te):PO X (some e) (lX te):=by
 intro B s Z H Q I hw;rw[evalPart_some];refine thE (h B s Z H _ I hw) λu O x S j f q1=>?_;obtain⟨i,rfl,q⟩:=q1;obtain⟨t,rfl⟩:=f;exact#[some i,S,j,.int i t,q]
def SlR(X:Cx)(r:V->Option Int->Option Int->Hp->VK->Prop):Prop:=
 ∀(B:List (Addr×Obj))(s:Shared)(Z:St)(H:Hp)(x:V)(v c d:Value)(lo hi:Option Int)(sl:Addr)(Q:VK),Inv X B Z H s->fD x v->s.heap.IsSliceOf sl c d .none->IsPart c lo->IsPart d hi->r x lo hi H Q->
  ∃T id,typeLookup (.type T) "__getitem__"=pure (some (.builtin id))/\s.TypeIs v T/\wpAny (model X.prog X.w) X.A (getItem v (.ref sl)) (EP X B Z Q) X.xe s
def tSl(r:V->Option Int->Option Int->Hp->VK->Prop)(te:TE)(tl th:TO):TE:=λZ H Q=>te Z H λx S=>tl Z S λl M=>th Z M λu U=>r x l u U Q
def kM{r:V->Option Int->Option Int->Hp->VK->Prop}(hr:SlR X r)(n:PE X e te)(Y:PO X lo tl)(R:PO X hi th):PE X (.Subscript e (.Slice lo hi none p2) pos) (tSl r te tl th):=by
 intro B s Z H Q I h;refine Subscript_ (thn (n B s Z H _ I h) λv O#[x,S,j,f,q1]=>?_);refine wpAny_Slice (thn (Y B O Z S _ j q1) λc F#[l,M,k,g,G]=>thn (R B F Z M _ k G) λd s3#[u,U,z,i,m]=>?_);rw[evalPart_none];refine aU ?_;have p:Inv X B Z U { s3 with heap:=s3.heap.push { cls:=.type "slice",data:=.fields (List.toArray [c,d,.none]) } }:=z.kept (t':=s3.toks) λb ob q=>aS _ q;obtain⟨T,a,o,y,hg⟩:=hr B { s3 with heap:=s3.heap.push { cls:=.type "slice",data:=.fields (List.toArray [c,d,.none]) } } Z U x v c d l u s3.heap.objs.size Q p f (Heap.IsSliceOf.new ..) g i m;show wpAny (model X.prog X.w) X.A (subscriptTail e (.Slice lo hi none p2) v (.ref s3.heap.objs.size)) (EP X B Z Q) X.xe { s3 with heap:=s3.heap.push { cls:=.type "slice",data:=.fields (List.toArray [c,d,.none]) } };exact tail_any (ops:=[.ref s3.heap.objs.size,v]) y o hg (by with_unfolding_all rfl)
noncomputable def qK(xs:List V)(lo hi:Option Int):List V:=(xs.drop (HT.sIx xs.length 0 lo)).take (HT.sIx xs.length xs.length hi-HT.sIx xs.length 0 lo)
def Ad(xs:List V)(lo hi:Option Int):(qK xs lo hi).length<=xs.length:=by
 unfold qK;rw[dO,List.length_drop];lia
noncomputable def rSlT(K:aR):V->Option Int->Option Int->Hp->VK->Prop:=λx lo hi H Q=>∃a xs,x=.ref a/\SqT K H a xs/\
 ¬(HT.sIx xs.length 0 lo=0/\HT.sIx xs.length xs.length hi=xs.length)/\∀p,H p=none->Q (.ref p) (upd H p (.tup (qK xs lo hi)))
def sl_tup:SlR X (rSlT X.K):=by
 rintro B s Z H x v c d lo hi sl Q I N hs g i ⟨a,F,rfl,hx,hw,q⟩;cases N;obtain⟨G,r,y,M⟩:=I.tuple hx;have C:G.toArray.size=F.length:=by rw[bM];exact r.length.symm
 refine#["tuple",_,PyProof.Rows.slot_tuple_getitem.lookup,y.typeIs,?_];refine HT.getItem_tuple_cut y hs g i (by rw[C];exact hw) ?_ (by rw[C];exact M);rw[C];refine#[.ref s.heap.objs.size,_,I.laid (t':=s.toks) (o:=.tup (qK F lo hi)) (λb ob q=>aS _ q) (aM _) ?_,rfl,q _ (I.hok.fresh (aM _))];exact#[cK (Ad F lo hi) M,_,(r.drop (HT.sIx F.length 0 lo)).take (HT.sIx F.length F.length hi-HT.sIx F.length 0 lo),IsTup.new _ _]
def rCatT(K:aR):R2:=λx y H Q=>∃a b xs ys,x=.ref a/\y=.ref b/\SqT K H a xs/\SqT K H b ys/\xs≠[]/\xs.length+ys.length<=sizeLine/\
 (ys=[]->Q (.ref a) H)/\(ys≠[]->∀p,H p=none->Q (.ref p) (upd H p (.tup (xs++ys))))
def fF.nil_iff{xs:List V}{us:List Value}(r:fF xs us):us=[]↔xs=[]:=by
 cases r with
 |nil=>simp
 |cons _ _=>simp
def op_catT:OpR X (binaryOp .Add) (rCatT X.K):=by
 rintro B s Z H x y v u Q I N P ⟨a,b,F,T,rfl,rfl,ha,hb,hx,M,q1,d⟩;cases N;cases P;obtain⟨G,f,i,_⟩:=I.tuple ha;obtain⟨c,g,p2,_⟩:=I.tuple hb;refine HT.cat_tup i p2 (λz=>hx (f.nil_iff.mp z)) (λz=>#[.ref a,H,I,rfl,q1 (g.nil_iff.mp z)]) (λz=>?_) (by rw[←f.length,←g.length];exact M);refine#[.ref s.heap.objs.size,_,I.laid (t':=s.toks) (o:=.tup (F++T)) (λb ob q=>aS _ q) (aM _) ?_,rfl,d (λw=>z (g.nil_iff.mpr w)) _ (I.hok.fresh (aM _))];exact#[by rw[bC];exact M,_,f.append g,IsTup.new _ _]
end
noncomputable def ixN(n:Nat)(i:Int):Option Nat:=if 0<=i then(if i<n then some i.toNat else none)else if -(n:Int)<=i then some (i+n).toNat else none
noncomputable def atI{d:Type}(xs:List d)(i:Int):Option d:=(ixN xs.length i).bind λj=>xs[j]?
def jXe{n:Nat}{i:Int}{j:Nat}(h:ixN n i=some j):seqIndex? i n=some j/\j<n/\-(n:Int)<=i/\i<n:=by
 unfold ixN at h;by_cases c:0<=i
 .rw[aJ c]at h;by_cases h1:i<n
  .rw[aJ h1]at h;have e:i.toNat=j:=aV h;exact#[by rw[seqIndex_of c h1,e],#[],#[],h1]
  .rw[aF h1]at h;cases h
 .rw[aF c]at h;by_cases h1:-(n:Int)<=i
  .rw[aJ h1]at h;have e:(i+n).toNat=j:=aV h;exact#[by rw[seqIndex_neg #[] h1,e],#[],h1,#[]]
  .rw[aF h1]at h;cases h
def jXw{d:Type}{xs:List d}{i:Int}{v:d}(h:atI xs i=some v):∃j,seqIndex? i xs.length=some j/\xs[j]?=some v/\j<xs.length/\-(xs.length:Int)<=i/\i<xs.length:=by
 unfold atI at h;cases e:ixN xs.length i with
 |none=>rw[e]at h;cases h
 |some j=>
  rw[e]at h;obtain⟨h1,h2,h3,A⟩:=jXe e;exact#[j,h1,h,h2,h3,A]
def gU{d:Type}{xs:List d}{j:Nat}{v:d}(h:xs[j]?=some v):atI xs (j:Int)=some v:=by
 have P:j<xs.length:=(aK.mp h).1;have e:ixN xs.length (j:Int)=some j:=by
  unfold ixN;rw[aJ #[],aJ #[]];simp
 unfold atI;rw[e];exact h
def Vr(b:Expr):Prop:=∀o i,subscripted b false o i=operate [o,i] (getItem o i)
def IxR(X:Cx)(r:R2):Prop:=
 ∀(e d:Expr)(B:List (Addr×Obj))(s:Shared)(Z:St)(H:Hp)(x y:V)(v u:Value)(Q:VK),Inv X B Z H s->fD x v->fD y u->r x y H Q->
  subscripted d false v u=operate [v,u] (getItem v u)->wpAny (model X.prog X.w) X.A (subscriptTail e d v u) (EP X B Z Q) X.xe s
def MtR(X:Cx)(id:String)(r:V->List V->Hp->VK->Prop):Prop:=
 ∀(B:List (Addr×Obj))(s:Shared)(Z:St)(H:Hp)(x:V)(xs:List V)(v:Value)(us:List Value)(Q:VK),Inv X B Z H s->fD x v->fF xs us->r x xs H Q->
  wpAny (model X.prog X.w) X.A (call (.builtin id) (v::us)) (EP X B Z Q) X.xe s
section
variable{X:Cx}{a b:Expr}{ta tb:TE}{pos:Pos}
def pe_ix{r:R2}(hr:IxR X r)(ha:PE X a ta)(hb:PE X b tb)(hs:Vr b):PE X (.Subscript a b pos) (tOp r ta tb):=by
 intro B s Z H Q I h;exact Subscript_ (binT ha hb I h λv u F x y M k N P q=>hr a b B F Z M x y v u Q k N P q (hs _ _))
def fX(K:aR):R2:=λx y H Q=>exR x λp=>exI y λi=>∃xs,SqL K H p xs/\∃v,atI xs i=some v/\Q v H
def dU(K:aR):R2:=λx y H Q=>exR x λp=>exI y λi=>∃xs,SqT K H p xs/\∃v,atI xs i=some v/\Q v H
def ix_list:IxR X (fX X.K):=by
 intro e d B s Z H x y v u Q I N k h hs;obtain⟨p,rfl,h1⟩:=Eq.mp iQ h;obtain⟨i,rfl,F,J,z,l,q⟩:=Eq.mp hE h1;cases N;obtain⟨t,rfl⟩:=k;obtain⟨G,r,g,M⟩:=I.list J;obtain⟨j,h1,h2,h3,A,m⟩:=jXw l;obtain⟨w,f,C⟩:=r.get h2;have Y:=r.length;have R:=Mh;have fin:EP X B Z Q w s:=#[z,H,I,C,q];by_cases c:0<=i
 .have P:i.toNat=j:=by
   rw[seqIndex_of c m]at h1;exact aV h1
  exact item_listR g.isList c #[] (by rw[P];simpa using f) fin hs
 .have P:(i+(G.toArray.size:Int)).toNat=j:=by
   rw[seqIndex_neg #[] A]at h1;rw[bM,←Y];exact aV h1
  exact subscriptTail_builtinR (x:=w) g.isList.typeIs slot_list_getitem.lookup
   (wpAny_getItem_list_neg (Q:=λr U=>r=w/\EP X B Z Q r U) g.isList #[] (by rw[bM]<;>lia) #[] (by rw[P];simpa using f) #[rfl,fin]) hs
def ix_tup:IxR X (dU X.K):=by
 intro e d B s Z H x y v u Q I N P h hs;obtain⟨p,rfl,h1⟩:=Eq.mp iQ h;obtain⟨i,rfl,F,J,z,l,q⟩:=Eq.mp hE h1;cases N;obtain⟨t,rfl⟩:=P;obtain⟨G,r,g,M⟩:=I.tuple J;obtain⟨j,h1,h2,h3,A,c⟩:=jXw l;obtain⟨w,f,C⟩:=r.get h2;have Y:=r.length;have R:=Mh;have fin:EP X B Z Q w s:=#[z,H,I,C,q];exact subscriptTail_builtinR (x:=w) g.typeIs slot_tuple_getitem.lookup
  (getItem_tuple (j:=j) (Q:=λr U=>r=w/\EP X B Z Q r U) g #[] #[] (by rw[bM,←Y];exact h1) (by simpa using f) #[rfl,fin]) hs
def jZJ(G:List Value)(n j:Nat)(u:Value):Obj.mapSeq (·.setIfInBounds j u) { cls:=.type "list",data:=.seq G.toArray n }={ cls:=.type "list",data:=.seq (G.set j u).toArray n }:=by
 simp [Obj.mapSeq]
def Inv.lst{B:List (Addr×Obj)}{Z:St}{H:Hp}{s:Shared}{p:Addr}{xs:List V}(I:Inv X B Z H s)(h:H p=some (.lst xs)):
  ∃(G:List Value)(n:Nat),fF xs G/\s.heap.get? p=some { cls:=.type "list",data:=.seq G.toArray n }/\xs.length<=sizeLine:=by
 obtain⟨z,G,n,r,e⟩:=I.hok p _ h;exact#[G,n,r,e,z]
def Inv.lstUpd{B:List (Addr×Obj)}{Z:St}{H:Hp}{p:Addr}{xs ys:List V}{its':List Value}{n g:Nat}{f:Obj->Obj}(I:Inv X B Z H s)(h:H p=some (.lst xs))
  (D:s.heap.get? p=some { cls:=.type "list",data:=.seq G.toArray n }) (hf:f { cls:=.type "list",data:=.seq G.toArray n }={ cls:=.type "list",data:=.seq its'.toArray g }) (r:fF ys its') (hz:ys.length<=sizeLine) (t:Nat):
  Inv X B Z (upd H p (.lst ys)) { s with heap:=s.heap.update p f,toks:=t }:=by
 have e:(s.heap.update p f).get? p=some { cls:=.type "list",data:=.seq its'.toArray g }:=by
  rw[Heap.get?_update_self f D (by rw[hf]<;>rfl),hf]
 refine I.write (x:=p) (e:=p) (by rw[h];trivial) (.inl rfl) (λb u hb q=>(dL _ _ (Ne.symm hb)).trans q) #[_,e] ?_;exact#[hz,its',g,r,e]
noncomputable def xH:V->V->V->Hp->(Hp->Prop)->Prop:=λo i v H Q=>∃p xs k j,o=.ref p/\i=.int k/\H p=some (.lst xs)/\ixN xs.length k=some j/\Q (upd H p (.lst (xs.set j v)))
def uC:PSet X xH:=by
 rintro B s Z H o i v J l u Q I e d f ⟨p,F,k,j,rfl,rfl,hp,P,q⟩;cases e;obtain⟨t,rfl⟩:=d;obtain⟨G,n,r,D,M⟩:=I.lst hp;obtain⟨h1,h2,h3,A⟩:=jXe P;have Y:=r.length;have R:=Mh;have g:Inv X B Z (upd H p (.lst (F.set j v))) { s with heap:=s.heap.update p (Obj.mapSeq (·.setIfInBounds j u)) }:=
  I.lstUpd hp D (jZJ G n j u) (r.set f j) (by rw[List.length_set];exact M) s.toks
 by_cases c:0<=k
 .have hk:k.toNat=j:=by
   rw[seqIndex_of c A]at h1;exact aV h1
  exact PySem.W.ki_setAt D c #[] (by rw[bM,←Y];exact A) (by rw[hk];exact#[_,g,q])
 .have hk:(k+(G.toArray.size:Int)).toNat=j:=by
   rw[seqIndex_neg #[] h3]at h1;rw[bM,←Y];exact aV h1
  exact PySem.W.ki_setBack D #[] (by rw[bM,←Y];exact h3) #[] (by rw[hk];exact#[_,g,q])
def Vu(lo hi:Option Int)(n:Nat):(sliceBounds lo hi none n).1=((HT.sIx n 0 lo:Nat):Int)/\(sliceBounds lo hi none n).2.1=((HT.sIx n n hi:Nat):Int)/\(sliceBounds lo hi none n).2.2=1:=by
 refine#[?_,?_,rfl]
 .cases lo with
  |none=>simp [sliceBounds,HT.sIx]
  |some i=>
   simp only[sliceBounds,HT.sIx,Option.getD_none,show(1:Int)>0 by decide,if_true];by_cases h:i<0
   .simp only[h,if_true]<;>lia
   .simp only[h,if_false]<;>lia
 .cases hi with
  |none=>simp [sliceBounds,HT.sIx]
  |some i=>
   simp only[sliceBounds,HT.sIx,Option.getD_none,show(1:Int)>0 by decide,if_true];by_cases h:i<0
   .simp only[h,if_true]<;>lia
   .simp only[h,if_false]<;>lia
def Qm(G:List Value)(lo hi:Option Int):slicePick G.toArray lo hi none=((G.drop (HT.sIx G.length 0 lo)).take (HT.sIx G.length G.length hi-HT.sIx G.length 0 lo)).toArray:=by
 obtain⟨h1,h2,h3⟩:=Vu lo hi G.toArray.size;unfold slicePick;rw[h1,h2,h3];simp only[sliceRange_one,pick_run,bM]<;>rfl
noncomputable def xS(K:aR):V->Option Int->Option Int->Hp->VK->Prop:=λx lo hi H Q=>∃a xs,x=.ref a/\SqL K H a xs/\∀p,H p=none->Q (.ref p) (upd H p (.lst (qK xs lo hi)))
def Av:SlR X (xS X.K):=by
 rintro B s Z H x v c d e hi sl Q I N hs g i ⟨a,F,rfl,hx,q⟩;cases N;obtain⟨G,r,y,M⟩:=I.list hx;have C:=r.length;refine#["list",_,slot_list_getitem.lookup,y.isList.typeIs,?_];refine wpAny_getItem_list_slice y.isList hs g i .none (by simp) ?_ (by rw[bM]<;>lia);rw[Qm,←C];refine#[.ref s.heap.objs.size,_,I.laid (t':=s.toks) (o:=.lst (qK F e hi)) (λb ob q=>aS _ q) (aM _) ?_,rfl,q _ (I.hok.fresh (aM _))];exact#[cK (Ad F e hi) M,_,0,(r.drop (HT.sIx F.length 0 e)).take (HT.sIx F.length F.length hi-HT.sIx F.length 0 e),bL _ rfl]
noncomputable def Jb:V->Bool
 | .non=>true
 | .bl _=>true
 | .int _=>true
 | .str _=>true
 |_=>false
noncomputable def eqV:V->V->Bool
 | .non,.non=>true
 | .bl a,.bl b=>a==b
 | .bl a,.int b=>(if a then 1 else 0)==b
 | .int a,.bl b=>a==(if b then 1 else 0)
 | .int a,.int b=>a==b
 | .str a,.str b=>a==b
 |_,_=>false
def eqAt_V{A:Around}{y x:V}{u v:Value}(P:fD y u)(N:fD x v)(d:Jb y=true)(c:Jb x=true):SeqAt.EqAt A s u v (eqV y x):=by
 cases y with
 |non=>
  cases P;cases x with
  |non=>cases N;exact SeqAt.EqAt.same _
  |bl b=>cases N;exact SeqAt.EqAt.none_bool b
  |int b=>obtain⟨t,rfl⟩:=N;exact SeqAt.EqAt.none_int b t
  |str b=>obtain⟨t,rfl⟩:=N;exact SeqAt.EqAt.none_str b t
  |_=>exact absurd (show false=true from c) bU
 |bl a=>
  cases P;cases x with
  |non=>cases N;exact SeqAt.EqAt.bool_none a
  |bl b=>cases N;exact SeqAt.EqAt.bool_bool a b
  |int b=>obtain⟨t,rfl⟩:=N;exact SeqAt.EqAt.bool_int a b t
  |str b=>obtain⟨t,rfl⟩:=N;exact SeqAt.EqAt.bool_str a b t
  |_=>exact absurd (show false=true from c) bU
 |int a=>
  obtain⟨O,rfl⟩:=P;cases x with
  |non=>cases N;exact SeqAt.EqAt.int_none a O
  |bl b=>cases N;exact SeqAt.EqAt.int_bool a O b
  |int b=>obtain⟨t,rfl⟩:=N;exact SeqAt.EqAt.int_int a O b t
  |str b=>obtain⟨t,rfl⟩:=N;exact SeqAt.EqAt.int_str a O b t
  |_=>exact absurd (show false=true from c) bU
 |str a=>
  obtain⟨O,rfl⟩:=P;cases x with
  |non=>cases N;exact SeqAt.EqAt.str_none a O
  |bl b=>cases N;exact SeqAt.EqAt.str_bool a O b
  |int b=>obtain⟨t,rfl⟩:=N;exact SeqAt.EqAt.str_int a O b t
  |str b=>obtain⟨t,rfl⟩:=N;exact SeqAt.EqAt.str_str a O b t
  |_=>exact absurd (show false=true from c) bU
 |_=>exact absurd (show false=true from d) bU
def eqU(x:V)(u:Value):Bool:=match u with
 | .none=>eqV .non x
 | .bool b=>eqV (.bl b) x
 | .int i _=>eqV (.int i) x
 | .str z _=>eqV (.str z) x
 |_=>false
def eqU_of{x y:V}{u:Value}(r:fD y u)(f:Jb y=true):eqU x u=eqV y x:=by
 cases y with
 |non=>cases r;rfl
 |bl b=>cases r;rfl
 |int i=>obtain⟨t,rfl⟩:=r;rfl
 |str z=>obtain⟨t,rfl⟩:=r;rfl
 |_=>exact absurd (show false=true from f) bU
def Vq{x:V}:∀{xs:List V}{us:List Value},fF xs us->xs.all Jb=true->us.any (eqU x)=xs.any λy=>eqV y x
 |_,_,.nil,_=>rfl
 |y::xs,u::us,.cons r t,f=>by
  rw[List.all_cons,Bool.and_eq_true]at f;rw[List.any_cons,List.any_cons,eqU_of r f.1,Vq t f.2]
def Nu{A:Around}{s:Shared}{x:V}{v:Value}(N:fD x v)(c:Jb x=true):∀{xs:List V}{us:List Value},fF xs us->xs.all Jb=true->∀u∈us,SeqAt.EqAt A s u v (eqU x u)
 |_,_,.nil,_=>λu R=>by cases R
 |y::xs,u::us,.cons r t,f=>λi R=>by
  rw[List.all_cons,Bool.and_eq_true]at f;rcases eA.mp R with rfl |R
  .rw[eqU_of r f.1];exact eqAt_V r N f.1 c
  .exact Nu N c t f.2 i R
def inV(x:V)(xs:List V):Bool:=xs.any λy=>eqV y x
def rIn(K:aR)(neg:Bool):R2:=λx y H Q=>∃p xs,y=.ref p/\(SqL K H p xs∨SqT K H p xs)/\Jb x=true/\xs.all Jb=true/\Q (.bl (if neg then !inV x xs else inV x xs)) H
def We:OpR X (compareOp .NotIn) (rIn X.K true):=by
 rintro B s Z H x y v u Q I N P ⟨p,F,rfl,J,c,fs,q⟩;cases P;rcases J with J |J
 .obtain⟨G,r,g,M⟩:=I.list J;refine SeqAt.notIn_listAt (eqU x) g.isList (λw hw=>Nu N c r fs w (by simpa using hw)) #[.bl _,H,I,rfl,?_];rw[show G.toArray.any (eqU x)=G.any (eqU x) by simp,Vq r fs];exact q
 .obtain⟨G,r,g,M⟩:=I.tuple J;refine SeqAt.notIn_tupleAt (eqU x) g (λw hw=>Nu N c r fs w (by simpa using hw)) #[.bl _,H,I,rfl,?_];rw[show G.toArray.any (eqU x)=G.any (eqU x) by simp,Vq r fs];exact q
def cX:pU X (.builtin "len") (λF H Q=>∃p T,F=[.ref p]/\(SqL X.K H p T∨SqT X.K H p T)/\Q (.int T.length) H):=by
 rintro B s Z H F c Q I r ⟨p,T,rfl,J,q⟩;obtain⟨u,rfl,N⟩:=xZ r;cases N;have R:=Mh;rcases J with J |J
 .obtain⟨G,t,g,M⟩:=I.list J;have C:=t.length;exact Calls.call_len_list g.isList (by simp only[bM]<;>lia) #[.int T.length,H,I.tok _,#[s.toks+1,by rw[bM,C]],q]
 .obtain⟨G,t,g,M⟩:=I.tuple J;have C:=t.length;exact len_tuple g (by simp only[bM]<;>lia) #[.int T.length,H,I.tok _,#[s.toks+1,by rw[bM,C]],q]
def jI:pU X (.type "list") (λF H Q=>∃p T,F=[.ref p]/\(SqL X.K H p T∨SqT X.K H p T)/\∀l,H l=none->Q (.ref l) (upd H l (.lst T))):=by
 rintro B s Z H F R Q I r ⟨p,T,rfl,J,q⟩;obtain⟨u,rfl,N⟩:=xZ r;cases N;have fin:∀(G:List Value),fF T G->T.length<=sizeLine->∀(U:Heap)(k:Nat),(∀b c,s.heap.get? b=some c->U.get? b=some c)->
   U.get? s.heap.objs.size=some { cls:=.type "list",dict:=none,data:=.seq G.toArray k,slots:=(List.toArray []) }->EP X B Z Q (.ref s.heap.objs.size) { s with heap:=U }:=λG t M U k kp e=>
  #[.ref s.heap.objs.size,_,I.laid (t':=s.toks) kp (aM _) (show jF X.prog X.w _ U _ (.lst T)from#[M,G,k,t,e]),rfl,q _ (I.hok.fresh (aM _))]
 rcases J with J |J
 .obtain⟨G,t,g,M⟩:=I.list J;have C:=t.length;obtain⟨o,D,hc,n,hd⟩:=g.isList;exact call_list_seq p (.inl rfl) D hc hd (λU k kp e=>fin G t M U k kp e) (by simp only[bM]<;>lia)
 .obtain⟨G,t,g,M⟩:=I.tuple J;have C:=t.length;obtain⟨o,D,hc,n,hd⟩:=g;exact call_list_seq p (.inr rfl) D hc hd (λU k kp e=>fin G t M U k kp e) (by simp only[bM]<;>lia)
def tyV(K:aR)(T:String)(x:V)(H:Hp):Prop:=match x with
 | .str _=>T="str"
 | .int _=>T="int"
 | .ref p=>(T="list"/\∃xs,SqL K H p xs)∨(T="tuple"/\∃o,K.lookup p=some o/\o.cls=.type "tuple"/\o.dict=none)∨
   (T="dict"/\((∃kvs,H p=some (.dK kvs))∨∃kvs,H p=some (.dT kvs)))∨(T="set"/\∃S n,H p=some (.set S n))
 |_=>False
def tyV_is{B:List (Addr×Obj)}{Z:St}{H:Hp}{T:String}{x:V}{v:Value}(I:Inv X B Z H s)(r:fD x v)(d:tyV X.K T x H):
  s.TypeIs v T/\∀a,v=.ref a->∃ob,s.heap.get? a=some ob/\ob.dict=none:=by
 cases x with
 |str z=>
  obtain⟨t,rfl⟩:=r;cases(show T="str" from d);exact#[typeIs_str s z t,λ_ e=>nomatch e]
 |int i=>
  obtain⟨t,rfl⟩:=r;cases(show T="int" from d);exact#[typeIs_int s i t,λ_ e=>nomatch e]
 |ref p=>
  cases r;rcases d with⟨rfl,F,J⟩|⟨rfl,o,hk,hc,hd⟩|⟨rfl,hk⟩|⟨rfl,S,n,hk⟩
  .obtain⟨G,_,g,_⟩:=I.list J;refine#[g.isList.typeIs,λa e=>?_];cases e;obtain⟨o,n,e,c,hd,_⟩:=g;exact#[o,e,hd]
  .refine#[#[o,I.kIn p o hk,hc],λa e=>?_];cases e;exact#[o,I.kIn _ o hk,hd]
  .have z:∃o,s.heap.get? p=some o/\o.ExactDict:=by
    rcases hk with⟨f,hk⟩|⟨f,hk⟩
    .obtain⟨_,_,_,_,o,_,_,e,ex,_⟩:=I.hok p _ hk;exact#[o,e,ex]
    .obtain⟨_,_,_,_,o,_,_,e,ex,_⟩:=I.hok p _ hk;exact#[o,e,ex]
   obtain⟨o,e,ex⟩:=z;refine#[#[o,e,ex.1],λa C=>?_];cases C;exact#[o,e,ex.2.1]
  .obtain⟨o,_,_,_,e,ex,_⟩:=I.hok p _ hk;refine#[#[o,e,ex.1],λa C=>?_];cases C;exact#[o,e,ex.2.1]
 |_=>exact False.elim d
def tBM0(K:aR)(T:String)(r:V->List V->Hp->VK->Prop)(to:TE):TE:=λZ H Q=>to Z H λx S=>tyV K T x S/\r x [] S Q
def tBM(K:aR)(T:String)(r:V->List V->Hp->VK->Prop)(to:TE)(t:TA):TE:=λZ H Q=>to Z H λx S=>tyV K T x S/\t Z S λxs M=>r x xs M Q
variable{o e:Expr}{es:List Expr}{to:TE}{t:TA}{name:Str}{apos cpos:Pos}{T id:String}{r:V->List V->Hp->VK->Prop}
def pe_bm0(q:PlainAttrs T)(slot:Slot T name id)(n:typeOf (.builtin id)=pure (.type "method_descriptor"))(hm:MtR X id r)(D:PE X o to)
  (c:attributeBase o name X.env (eval o X.env)=eval o X.env:=by rfl) (i:(apos.endLine==cpos.line)=true:=by rfl):PE X (.Call (.Attribute o name apos) [] [] cpos) (tBM0 X.K T r to):=by
 intro B s Z H Q I h;refine wpAny_Call_method0_late c i (thE (D B s Z H _ I h) λv O x S j f w=>?_);obtain⟨d,q1⟩:=w;obtain⟨h1,h2⟩:=tyV_is j f d;exact#[T,id,q,slot,n,h1,h2,Calls.callWith_builtin rfl (PySem.evalArgs_none (hm B O Z S x [] v [] Q j f .nil q1))]
def jZo(q:PlainAttrs T)(slot:Slot T name id)(n:typeOf (.builtin id)=pure (.type "method_descriptor"))(hm:MtR X id r)(D:PE X o to)(ha:PA X (e::es) t)
  (c:attributeBase o name X.env (eval o X.env)=eval o X.env:=by rfl)
  (p:((backTo cpos (starEach (e::es) X.env)).all (λx=>!x.1)&&(backToKw cpos (keywordEach [] X.env)).all (λx=>x.1.isSome)
   &&decide ((e::es).length+([]:List Keyword).length+(if([]:List Keyword).isEmpty then 0 else 1)<30))=true:=by rfl)
  (i:(apos.endLine==cpos.line)=true:=by rfl) (hs:starEach (e::es) X.env=(false,eval e X.env)::starEach es X.env:=by rfl) (l:(backTo cpos (starEach es X.env)).any (·.1)=false:=by rfl):
  PE X (.Call (.Attribute o name apos) (e::es) [] cpos) (tBM X.K T r to t):=by
 intro B s Z H Q I h;refine wpAny_Call_method_late c p i rfl (thE (D B s Z H _ I h) λv O x S j f w=>?_);obtain⟨d,q1⟩:=w;obtain⟨h1,h2⟩:=tyV_is j f d;refine#[T,id,q,slot,n,h1,h2,?_];have u:=ha cpos B O Z S _ j q1;rw[hs]at u⊢;refine Calls.callWith_builtin (by show(false||(backTo cpos (starEach es X.env)).any (·.1))=false;rw[l]<;>rfl) (Calls.evalArgs_plain ?_);exact thn u λR F#[m,M,k,g,G]=>hm B F Z M x m v R Q k f g G
end
def MtM(X:Cx)(id:String)(r:V->List V->Hp->VK->Prop):Prop:=
 ∀(B:List (Addr×Obj))(s:Shared)(Z:St)(H:Hp)(x:V)(xs:List V)(v:Value)(us:List Value)(Q:VK),Inv X B Z H s->fD x v->fF xs us->r x xs H Q->
  wpAny (model X.prog X.w) X.A (call (.builtin id) (v::us)) (EP X B Z Q) X.xe s
def fF.one:∀{x:V}{us:List Value},fF [x] us->∃u,us=[u]/\fD x u
 |_,_,.cons r .nil=>#[_,rfl,r]
def fF.eraseIdx:∀{xs:List V}{us:List Value}(i:Nat),fF xs us->fF (xs.eraseIdx i) (us.eraseIdx i)
 |_,_,_,.nil=>.nil
 |_,_,0,.cons _ t=>t
 |_,_,i+1,.cons r t=>.cons r (fF.eraseIdx i t)
def Sg{d:Type}:∀(l:List d)(i:Nat),(l.eraseIdx i).length<=l.length
 | [],_=>aM _
 |_::_,0=>Nat.le_succ _
 |_::r,i+1=>Nat.succ_le_succ (Sg r i)
section
variable{X:Cx}{pins:List (Addr×Obj)}{σ:St}{H:Hp}{s:Shared}{l b:Addr}{xs ys zs:List V}
def Inv.lset{its':List Value}{n:Nat}{f:Array Value->Array Value}{t':Nat}(I:Inv X pins σ H s)(o:H l=some (.lst xs))
  (e:s.heap.get? l=some { cls:=.type "list",data:=.seq G.toArray n }) (hf:f G.toArray=its'.toArray) (hv:fF ys its') (hz:ys.length<=sizeLine):
  Inv X pins σ (upd H l (.lst ys)) { s with heap:=s.heap.update l (Obj.mapSeq f),toks:=t' }:=by
 have q:=PySem.IsL.update e f;rw[hf]at q;refine I.write (x:=l) (e:=l) (by rw[o];exact trivial) (.inl rfl) (λi u hb R=>(dL s.heap (Obj.mapSeq f) (Ne.symm hb)).trans R) #[_,q] ?_;exact#[hz,its',_,hv,q]
def Inv.lnew{t':Nat}(I:Inv X pins σ H s)(hv:fF ys G)(hz:ys.length<=sizeLine):
  Inv X pins σ (upd H s.heap.objs.size (.lst ys)) { s with heap:=s.heap.push { cls:=.type "list",data:=.seq G.toArray },toks:=t' }:=
 I.laid (λ_ _ q=>aS _ q) (aM _) #[hz,G,0,hv,bL _ rfl]
def Inv.fresh(I:Inv X pins σ H s):H s.heap.objs.size=none:=I.hok.fresh (aM _)
def Inv.lstM(I:Inv X pins σ H s)(o:H l=some (.lst xs)):xs.length<=sizeLine/\∃(G:List Value)(n:Nat),fF xs G/\xs.length=G.length/\s.heap.get? l=some { cls:=.type "list",data:=.seq G.toArray n }:=by
 obtain⟨z,G,n,r,e⟩:=I.hok l _ o;exact#[z,G,n,r,r.length,e]
def jWx{n:Nat}(h:n<=sizeLine):Builtin.List.listTooLong n=false:=by
 unfold Builtin.List.listTooLong;exact decide_eq_false #[]
end
section
variable{X:Cx}
noncomputable def Vh:V->List V->Hp->VK->Prop:=λx vs H Q=>∃l xs y,x=.ref l/\vs=[y]/\H l=some (.lst xs)/\xs.length<sizeLine/\Q .non (upd H l (.lst (xs++ [y])))
def jYr:MtM X "list.append" Vh:=by
 rintro B s Z H x m v R Q I N D ⟨l,a,y,rfl,rfl,o,M,q⟩;cases N;obtain⟨u,rfl,k⟩:=D.one;obtain⟨z,G,n,r,Y,e⟩:=I.lstM o;refine call_meets F.slot_list_append #[_,e,rfl] F.entry_list_append (F.args_list_append_2 _ _) (PySem.list_append l G.toArray n u (by rw[bM];lia)) #[e,?_];refine#[.non,_,I.lset (its':=G++ [u]) o e (by simp) (r.append (.cons k .nil)) ?_,rfl,q];rw[bC,List.length_singleton];lia
noncomputable def Vg:V->List V->Hp->VK->Prop:=λx vs H Q=>∃l b xs zs,x=.ref l/\vs=[.ref b]/\H l=some (.lst xs)/\H b=some (.lst zs)/\xs.length+zs.length<=sizeLine/\Q .non (upd H l (.lst (xs++zs)))
def Sc:MtM X "list.extend" Vg:=by
 rintro B s Z H x m v R Q I d D ⟨l,b,f,N,rfl,rfl,o,t,M,q⟩;cases d;obtain⟨u,rfl,k⟩:=D.one;cases k;obtain⟨z,G,n,r,Y,e⟩:=I.lstM o;obtain⟨S,c,n2,g,J,C⟩:=I.lstM t;have w:G.toArray.size+c.toArray.size<=sizeLine:=by rw[bM,bM];lia
 have a:¬(!G.toArray.isEmpty&&Builtin.List.listTooLong (G.toArray.size+c.toArray.size))=true:=by
  rw[jWx w,Bool.and_false];exact bU
 refine call_meets F.slot_list_extend #[_,e,rfl] F.entry_list_extend (F.args_list_extend_2 _ _)
  (AutoSeq1.list_extend_list_list_0 l G.toArray n b c.toArray n2 a (by rw[bM];lia) #[]) #[e,C,?_]
 refine#[.non,_,I.lset (its':=G++c) o e (by simp) (r.append g) ?_,rfl,q];rw[bC];lia
def qJ:R2:=λx y H Q=>∃l b xs zs,x=.ref l/\y=.ref b/\H l=some (.lst xs)/\H b=some (.lst zs)/\xs.length+zs.length<=sizeLine/\∀p,H p=none->Q (.ref p) (upd H p (.lst (xs++zs)))
def nU:OpR X (binaryOp .Add) qJ:=by
 rintro B s Z H x y v u Q I a d ⟨l,b,F,N,rfl,rfl,o,t,M,q⟩;cases a;cases d;obtain⟨z,G,n,r,Y,e⟩:=I.lstM o;obtain⟨S,c,n2,g,J,C⟩:=I.lstM t;refine PySem.P.add_list e C ?_ (by rw[bM,bM];lia);have f:G.toArray++c.toArray=(G++c).toArray:=by simp
 rw[f];exact#[.ref _,_,I.lnew (t':=s.toks) (r.append g) (by rw[bC];lia),rfl,q _ I.fresh]
end
end L2
namespace Att
open PySem PySem.W PySem.Calls PyProof.Rows
def Kz{P:Params}{h:Heap}:∀(ns:List Int)(vs:List Value),WellAll P h vs (ns.map WData.int)->IntsAre vs ns:=by
 intro ns
 induction ns with
 |nil=>
  intro vs w;rw[List.map_nil]at w;cases w;exact .nil
 |cons n ns ih=>
  intro vs w;rw[List.map_cons]at w;cases w with
  |cons a b=>
   cases a;exact .cons _ _ (ih _ b)
def jYY{l:OpenLaw}{n:Nat}(R:l.most=some n){P:Params}{h:Heap}{c:List WData}{g:List Value}
  (e:l.row.toRowW.claim.pre c=true) (b:WellAll P h g c):
  ∃a m ns,g=[Value.ref a]/\c=[WData.list (ns.map WData.int)]/\h.get? a=some { cls:=.type "list",data:=.seq m.toArray }/\IntsAre m ns/\ns.length<=n:=by
 have j:WShape.hasAll [] c [.list .int]=true:=(pre_splitW e).1;have hc:l.pre.holds [] { args:=c }=true:=(pre_splitW e).2;obtain⟨d,r,rfl,h1,h2⟩:=hasAllW_cons j;obtain rfl:=hasAllW_nil h2;obtain⟨F,rfl,h3⟩:=hasW_list h1;obtain⟨ns,rfl⟩:=items_int h3;have C:ns.length<=n:=by
  unfold OpenLaw.pre at hc;have A:(WTm.not (.lt (.lit (.int (n:Int))) (.len (.arg 0)))).holds [] { args:=[.list (ns.map .int)] }=true:=by
   have A:=(holds_andW hc).1;rw[R]at A;exact A
  have i:=condW_of A (w_not (w_lt w_lit (w_len_list (w_arg rfl))));rw[List.length_map]at i;refine Nat.le_of_not_lt λq=>?_;have f:(n:Int)<((ns.length:Nat):Int):=#[]
  first
   | (rw[decide_eq_true f]at i;exact absurd i (by decide))
   | (simp at i;lia)
 cases b with
 |cons w1 w2=>
  cases w2;cases w1 with
  |list ho hall=>exact#[_,_,ns,rfl,rfl,ho,Kz ns _ hall,C]
def jYh(l:OpenLaw)(c:List WData):l.row.toRowW.claim.post c (.bool true) c=true:=
 postW_of (r:=l.row.toRowW) (X:=(true==true))
  (show WShape.has [] (.bool true) .bool=true by first |rfl |decide |simp [WShape.has,WShape.arms,WShape.armsAll])
  (show(WTm.eq .res (.lit (.bool true))).value [] { args:=c,res:=some (.bool true),after:=c }=some (.bool (true==true))from w_eq_bool (w_res rfl) w_lit) rfl
def attach_call{l:OpenLaw}{n:Nat}{q:Program}{j:List Str}{v:(Str->Option Value)->Heap->Prop}{Q:World->Heap->Prop}{d:DefRec}
  (R:l.most=some n) (I:d.params.defaults=[])
  (call:∀(w:World)(s₀ N:Shared)(mg M:Str->Option Value)(y:Addr)(o:Obj)(z m i:Value)(a:Addr)(vs:List Value)(ns:List Int),
   Ground q j [] v w s₀ mg M N.heap->Q w N.heap->
   N.heap.get? y=some o->o.data=.func (docDef d.name d.params d.body d.scope z m i)->N.heap.CodeRec m d.name->mg d.name=some (.ref y)->
   N.heap.get? a=some { cls:=.type "list",data:=.seq vs.toArray }->IntsAre vs ns->ns.length<=n->N.gens=(List.toArray [])->
   codeAny (model l.prog w) callerA (.call (.ref y) #[[.ref a],[]]) (λr U=>r=.ok (.ret (.bool true))/\OldK N.heap U.heap/\U.os=N.os/\AllBare U.gens) N):
  WalkO q j v Q l.row.toRowW d [] (λf vs=>PySem.call f vs):=by
 intro w s₀ N mg M G Y y o z m i h kV D hd p K X hg c g s e k u b x;obtain rfl:h=.none:=Dflts.none K I;obtain rfl:kV=.none:=Dflts.noKw K;obtain⟨a,vs,ns,rfl,rfl,O,t,C⟩:=jYY R e b;refine enter_call (codeAny_mono (call w s₀ N mg M y o z m i a vs ns G Y D (fd_plain hd) p X O t C hg) λr U J=>?_);obtain⟨rfl,h2,h3,A⟩:=J;exact#[.inl #[.bool true,.bool true,[],rfl,λ_=>rfl,.bool true,jYh l _,λ_=>#[List.Pairwise.nil,λ_ hm=>(nomatch hm)]],h2,h3,A]
end Att
namespace L2
open PySem PySem.Spec PyProof.Rows
variable{A:Prop}{H:Hp}{k:Nat}
def Ra:∀{vs:List Value}{ns:List Int},IntsAre vs ns->fF (ns.map V.int) vs
 |_,_,.nil=>.nil
 |_,_,.cons n t h=>.cons #[t,rfl] (Ra h)
def Only(H:Hp):Prop:=∀b,H b=none∨∃o xs,H b=some (.frz o (.lst xs))
def jW5{P:Program}{w:World}{K:aR}{mg M:Str->Option Value}{CX:CXT}{y a:Addr}{fd:FuncData}{x:Str}{sp:Sp}{N:Shared}{vs:List Value}{ns:List Int}
  (J:K.In N.heap) (i:N.heap.Ns mainGlobals mg) (hb:N.heap.Ns builtinsNs M) (a2:∀x:Str,x≠ "__name__"->M x=bootBuiltins x) (O:N.heap.NoLimit) (hg:N.gens=(List.toArray []))
  (ha:N.heap.get? a=some { cls:=.type "list",data:=.seq vs.toArray }) (hi:IntsAre vs ns) (Y:ns.length<=sizeLine) (hr:mQ k callerA)
  (F:∀base:Heap,K.In base->base.Ns mainGlobals mg->Bw P w K mg base CX k y fd [x] sp) (I:∀(s:Shared)(u:Value),BindsTo s fd #[[u],[]] [(x,u)])
  (B:∀H:Hp,Only H->SqL K H a (ns.map V.int)->sp [.ref a] H (λv _=>v=.bl true) λ_ _ _=>False)
  (a3:∀H e U,CX [] H N (λ_ _ _=>False) e U->False):
  codeAny (model P w) callerA (.call (.ref y) #[[.ref a],[]]) (λr U=>r=.ok (.ret (.bool true))/\OldK N.heap U.heap/\U.os=N.os/\AllBare U.gens) N:=by
 have D:=Ra hi;have Z:=hi.length
 --from an abstract heap in which nothing but the script may be tracked
 have G:∀H:Hp,Only H->SqL K H a (ns.map V.int)->HOk P w H N.heap->(∀b,H b≠none->b=a)->(H a≠none->K.lookup a=none)->
   codeAny (model P w) callerA (.call (.ref y) #[[.ref a],[]]) (λr U=>r=.ok (.ret (.bool true))/\OldK N.heap U.heap/\U.os=N.os/\AllBare U.gens) N:=by
  intro H hO hS hok hA Q;have c:∀{b:Addr}{o:Obj},N.heap.get? b=some o->H b=none->(Tz N.heap H).get? b=some o:=λe n=>jVJ e n;have l:∀{b:Addr}{o:Obj}{g:Array DictEntry}{j:Nat},N.heap.get? b=some o->o.data=.dict g j->H b=none:=fun{b o g j} e d=>by
   cases q:H b with
   |none=>rfl
   |some u=>
    have A:b=a:=hA b (by rw[q];simp);subst A;rw[ha]at e;cases e;have R:Data.seq vs.toArray _=Data.dict g j:=d;cases R
  have p:∀{b:Addr}{m:Str->Option Value},N.heap.Ns b m->(Tz N.heap H).Ns b m:=fun{b m}⟨o,g,j,e,d,r⟩=>#[o,g,j,c e (l e d),d,r];have a0:K.In (Tz N.heap H):=λb o e=>c (J b o e) (by
   cases q:H b with
   |none=>rfl
   |some u=>
    have A:b=a:=hA b (by rw[q];simp);subst A;rw[Q (by rw[q];simp)]at e;cases e)
  have X:Mod K mg (Tz N.heap H):=#[a0,p i,#[M,p hb,a2],let⟨mc,h1,h2⟩:=O;#[mc,p h1,h2]];have e0:Zn P w K mg (Tz N.heap H) callerA [] N H:=#[rfl,X,λb o e=>of_hidT e,Nat.le_of_eq (jY1 _ _),trivial,λb hb=>absurd (show b∈([]:List Addr)from hb) (by simp),hok,.of_eq hg];refine codeAny_mono ((F _ a0 (p i)).run callerA [] N H #[[.ref a],[]] [.ref a] [.ref a] _ _ hr e0 (I N (.ref a)) (.cons rfl .nil) (B H hO hS)) λr U h=>?_;cases r with
  |error e=>exact(a3 H e U h).elim
  |ok fl=>
   cases fl with
   |next=>exact False.elim h
   |brk=>exact False.elim h
   |cont=>exact False.elim h
   |ret u=>
    obtain⟨v,H',os,bare,un,a1,t,q⟩:=h;have f:v=.bl true:=q;subst f;obtain rfl:u=Value.bool true:=t;refine#[rfl,OldK.of_keep λb o e=>?_,os,bare];cases q:H b with
    |none=>exact un.keep b o e q (by intro z;exact absurd (show b∈([]:List Addr)from z) (by simp)) (by simp)
    |some u=>
     rcases hO b with z |⟨ob,xs,z⟩
     .rw[q]at z;cases z
     .have S:=un.frzs b ob _ z;obtain⟨e1,_⟩:=hok b _ z;obtain⟨C,_⟩:=a1 b _ S;rw[e]at e1;cases e1;exact C
 cases hk:K.lookup a with
 |some o=>
  --the script is one of the module's own objects
  have e:=J a o hk;rw[ha]at e;cases e;refine G (λ_=>none) (λ_=>.inl rfl) (.inr #[_,vs.toArray,_,hk,rfl,rfl,rfl,by rw[bM,Z];exact Y,by simpa using D]) (λb u z=>by have T:(none:Option HO)=some u:=z;cases T) (λb z=>absurd rfl z) λz=>absurd rfl z
 |none=>
  refine G (λb=>if b=a then some (.frz { cls:=.type "list",data:=.seq vs.toArray } (.lst (ns.map V.int)))else none) (λb=>?_) (.inl (.inr #[{ cls:=.type "list",data:=.seq vs.toArray },aJ rfl])) (λb u z=>?_) (λb z=>?_) λ_=>hk
  .by_cases hb:b=a
   .exact .inr #[_,_,aJ hb]
   .exact .inl (aF hb)
  .by_cases hb:b=a
   .have T:=(aJ hb).symm.trans z;cases T;subst hb;exact#[ha,by rw[aA];exact Y,vs,_,D,ha]
   .have T:=(aF hb).symm.trans z;cases T
  .by_cases hb:b=a
   .exact hb
   .exact absurd (aF hb) z
def walk_of{l:PySem.W.OpenLaw}{n:Nat}{q:Program}{j:List Str}{XP:(Str->Option Value)->Heap->Prop}{Q:World->Heap->Prop}{d:DefRec}{K:Params->aR}{CX:World->CXT}{sp:World->Sp}{x:Str}
  (R:l.most=some n) (S:n<=sizeLine) (I:d.params.defaults=[]) (hr:mQ k callerA)
  (Z:∀(w:World)(h:Heap),Q w h->(K w.params).In h)
  (F:∀(w:World)(mg:Str->Option Value)(y:Addr)(h:Heap),(K w.params).In h->h.Ns mainGlobals mg->mg d.name=some (.ref y)->
   ∃fd:FuncData,(∀(s:Shared)(u:Value),BindsTo s fd #[[u],[]] [(x,u)])/\
    ∀base:Heap,(K w.params).In base->base.Ns mainGlobals mg->Bw l.prog w (K w.params) mg base (CX w) k y fd [x] (sp w))
  (B:∀(w:World)(H:Hp)(a:Addr)(ns:List Int),ns.length<=n->Only H->SqL (K w.params) H a (ns.map V.int)->sp w [.ref a] H (λv _=>v=.bl true) λ_ _ _=>False)
  (r:∀(w:World)(H:Hp)(s:Shared)(e:Value)(U:Shared),CX w [] H s (λ_ _ _=>False) e U->False):
  PySem.W.WalkO q j XP Q l.row.toRowW d [] (λf m=>PySem.call f m):=by
 refine Att.attach_call R I λw s₀ N mg M y o z cd i a m ns G Y D hd p X O t C hg=>?_;have J:=Z w _ Y;obtain⟨fd,hb,c⟩:=F w mg y _ J G.T.g X;exact jW5 J G.T.g G.T.b G.T.builtins G.T.nolimit hg O t (cK C S) hr c hb (λH A P=>B w H a ns C A P) λH e U=>r w H N e U
def jP(s:Stmt)(j:Nat):Stmt:=match s with
 | .ClassDef _ _ _ body _ _ _ _ _ _ _=>body.getD j (.Pass #[0,0,0,0])
 |_=>.Pass #[0,0,0,0]
def oP(s:Stmt):Arguments:=match s with
 | .FunctionDef _ a _ _ _ _ _ _ _ _=>a
 |_=>{ posonlyargs:=[],args:=[],vararg:=none,kwonlyargs:=[],kw_defaults:=[],kwarg:=none,defaults:=[] }
noncomputable def nA(s:Stmt):List Stmt:=match s with
 | .FunctionDef _ _ b _ _ _ _ _ _ _=>b
 |_=>[]
def eV(s:Stmt):Scope:=match s with
 | .FunctionDef _ _ _ _ _ _ sc _ _ _=>sc
 |_=>{ kind:=.function,names:=[],isGenerator:=false,isCoroutine:=false }
noncomputable abbrev CX0:CXT:=λ_ _ _ _ _ _=>False
noncomputable abbrev E0:XK:=λ_ _ _=>False
def jZp{X:Cx}:Dk CX0 X E0:=λ_ _ _ _ _ _ _ h=>h.elim
def mT{A:Around}(hr:mQ k A):A.units+1<cLine:=fU (Nat.add_le_add_left (by decide:1<=64) _) hr.units
def sR{B:Prop}(h:B):if false=true then A else B:=by
 rw[aF bU];exact h
def iteT{B:Prop}(h:A):if true=true then A else B:=by
 rw[aJ rfl];exact h
def kX{c B:Prop} [Decidable c](h1:c->A)(h2:¬c->B):if c then A else B:=by
 by_cases h:c
 .rw[aJ h];exact h1 h
 .rw[aF h];exact h2 h
def iteNS{c B:Prop} [Decidable c](hc:c)(h:B):if(!decide c)=true then A else B:=by
 rw[decide_eq_true hc];exact sR h
def aQ(H H':Hp):Prop:=∀b o,H b=some o->H' b=some o
def aQ.refl(H:Hp):aQ H H:=λ_ _ h=>h
def aQ.trans{S M:Hp}(a:aQ H S)(b:aQ S M):aQ H M:=λc o h=>b c o (a c o h)
def aQ.free{H':Hp}(e:aQ H H'){l:Addr}(h:H' l=Option.none):H l=Option.none:=by
 cases q:H l with
 |none=>rfl
 |some o=>
  rw[e l o q]at h;cases h
def aQ.seq{K:aR}{H':Hp}{a:Addr}{xs:List V}(e:aQ H H')(h:SqL K H a xs):SqL K H' a xs:=by
 rcases h with(h |⟨o,h⟩)|h
 .exact .inl (.inl (e _ _ h))
 .exact .inl (.inr #[o,e _ _ h])
 .exact .inr h
end L2
set_option Elab.async false
set_option linter.all false
set_option maxRecDepth 100000
set_option maxHeartbeats 4000000
namespace L2
open PySem PySem.Spec PyProof.Rows
variable{H H':Hp}{Q:Value->Shared->Prop}{a:Addr}{kvs:List (List Key×V)}{u:Value}{xs:List (List Key×Addr×Value)}
section
variable{κ:Type} [DecidableEq κ]
noncomputable def kY(kvs:List (κ×V))(k:κ):Option V:=(kvs.find? λB=>decide (B.1=k)).map (·.2)
noncomputable def Bp(kvs:List (κ×V))(k:κ)(v:V):List (κ×V):=
 if(kvs.any λB=>decide (B.1=k))=true then kvs.map (λB=>if B.1=k then(B.1,v)else B)else kvs++ [(k,v)]
def kJ{p:κ×V}{r:List (κ×V)}{k:κ}(e:p.1=k):kY (p::r) k=some p.2:=by simp [kY,List.find?_cons,e]
def kK{p:κ×V}{r:List (κ×V)}{k:κ}(e:¬p.1=k):kY (p::r) k=kY r k:=by simp [kY,List.find?_cons,e]
def yS(k:κ):∀n:List (κ×V),(n.any λB=>decide (B.1=k))=(kY n k).isSome
 | []=>rfl
 |p::r=>by
  rw[List.any_cons];by_cases e:p.1=k
  .simp only[kJ e,decide_eq_true e,Bool.true_or,Option.isSome_some]
  .rw[kK e,decide_eq_false e,Bool.false_or];exact yS k r
def Xd(k j:κ)(y:V):∀n:List (κ×V),kY (n.map λB=>if B.1=k then(B.1,y)else B) j=(kY n j).map λx=>if j=k then y else x
 | []=>rfl
 |p::r=>by
  have m:=Xd k j y r;rw[bR];by_cases h:p.1=k
  .rw[aJ h];by_cases e:p.1=j
   .rw[kJ (p:=(p.1,y)) e,kJ e,Option.map_some,aJ (e.symm.trans h)]
   .rw[kK (p:=(p.1,y)) e,kK e,m]
  .rw[aF h];by_cases e:p.1=j
   .rw[kJ (p:=p) e,kJ e,Option.map_some,aF (λz=>h (e.trans z))]
   .rw[kK (p:=p) e,kK e,m]
def Rb(k j:κ)(y:V):∀n:List (κ×V),kY n k=none->kY (n++ [(k,y)]) j=if j=k then some y else kY n j
 | [],_=>by
  by_cases e:k=j
  .rw[aJ e.symm];exact kJ (p:=(k,y)) e
  .rw[aF (λz=>e z.symm)];exact kK (p:=(k,y)) e
 |p::r,hn=>by
  rw[List.cons_append];have hk:¬p.1=k:=λz=>by rw[kJ z]at hn;cases hn
  rw[kK hk]at hn;have m:=Rb k j y r hn;by_cases e:p.1=j
  .rw[kJ e,kJ e,aF (λz=>hk (e.trans z))]
  .rw[kK e,kK e,m]
def Ey(kvs:List (κ×V))(k j:κ)(y:V):kY (Bp kvs k y) j=if j=k then some y else kY kvs j:=by
 unfold Bp;by_cases a:(kvs.any λB=>decide (B.1=k))=true
 .rw[aJ a,Xd];rw[yS]at a;by_cases e:j=k
  .obtain⟨x,hx⟩:=Option.isSome_iff_exists.mp a;rw[aJ e,e,hx,Option.map_some,aJ rfl]
  .rw[aF e];cases kY kvs j with
   |none=>rfl
   |some x=>rw[Option.map_some,aF e]
 .rw[aF a];refine Rb k j y kvs ?_;rw[yS]at a;cases q:kY kvs k with
  |none=>rfl
  |some x=>rw[q]at a;exact(a rfl).elim
def Ab(kvs:List (κ×V))(k:κ)(v:V):(Bp kvs k v).length<=kvs.length+1:=by
 unfold Bp;split
 .rw[aA];lia
 .rw[bC,dB,List.length_nil];lia
def nF{kvs:List (κ×V)}{k:κ}(v:V)(h:kY kvs k=none):Bp kvs k v=kvs++ [(k,v)]:=by
 unfold Bp;rw[yS,h];exact aF (by decide)
def Bu.isSome_eq{o:Option V}{u:Option Value}(r:Bu o u):o.isSome=u.isSome:=by
 cases o with
 |none=>cases u with
  |none=>rfl
  |some _=>exact(show False from r).elim
 |some _=>cases u with
  |none=>exact(show False from r).elim
  |some _=>rfl
def KV.val{kvs:List (κ×V)}{vs:List (κ×Value)}(r:KV kvs vs)(k:κ):Bu (kY kvs k) (valueAt vs k):=by
 unfold KV at r
 induction r with
 |nil=>exact True.intro
 |@cons p q ps qs h t ih=>
  obtain⟨h1,h2⟩:=h;by_cases e:p.1=k
  .have A:q.1=k:=h1.symm.trans e;have b:valueAt (q::qs) k=some q.2:=by simp [valueAt,List.find?_cons,A]
   rw[kJ e,b];exact h2
  .have A:¬q.1=k:=λz=>e (h1.trans z);have b:valueAt (q::qs) k=valueAt qs k:=by simp [valueAt,List.find?_cons,A]
   rw[kK e,b];exact ih
def KV.any{kvs:List (κ×V)}{vs:List (κ×Value)}(r:KV kvs vs)(k:κ):(kvs.any λB=>decide (B.1=k))=vs.any λB=>decide (B.1=k):=by
 unfold KV at r
 induction r with
 |nil=>rfl
 |cons h t ih=>rw[List.any_cons,List.any_cons,ih,h.1]
def KV.repl{kvs:List (κ×V)}{vs:List (κ×Value)}(r:KV kvs vs)(k:κ){y:V}(P:fD y u):
  KV (kvs.map λB=>if B.1=k then(B.1,y)else B) (vs.map λB=>if B.1=k then(B.1,u)else B):=by
 unfold KV at r⊢
 induction r with
 |nil=>exact .nil
 |@cons p q ps qs h t ih=>
  rw[bR,bR];refine .cons ?_ ih;obtain⟨h1,h2⟩:=h;by_cases e:p.1=k
  .rw[aJ e,aJ (h1.symm.trans e)];exact#[h1,P]
  .rw[aF e,aF (λz=>e (h1.trans z))];exact#[h1,h2]
def KV.put{kvs:List (κ×V)}{vs:List (κ×Value)}(r:KV kvs vs)(k:κ){y:V}(P:fD y u):KV (Bp kvs k y) (stored vs k u):=by
 unfold Bp stored;rw[r.any k];by_cases e:(vs.any λB=>decide (B.1=k))=true
 .rw[aJ e,aJ e];exact r.repl k P
 .rw[aF e,aF e];exact Paired.snoc r #[rfl,P]
def KV.length{kvs:List (κ×V)}{vs:List (κ×Value)}(r:KV kvs vs):kvs.length=vs.length:=Paired.length r
end
def jZt{P:Program}{w:World}{k:Key}(r:fD (kV k) u):(kB P w).is k u=true:=by
 cases k with
 |inl i=>obtain⟨t,e⟩:=(show ∃t,u=Value.int i t from r);subst e;exact Zd P w i t
 |inr x=>obtain⟨t,e⟩:=(show ∃t,u=Value.str x t from r);subst e;exact Zc P w x t
def Sm{P:Program}{w:World}:∀{ks:List Key}{us:List Value},fF (ks.map kV) us->ItemsAre (kB P w) ks us
 | [],_,r=>by rw[cR]at r;cases r;exact .nil
 |k::ks,_,r=>by
  rw[bR]at r;cases r with
  |cons h t=>exact .cons (jZt h) (Sm t)
noncomputable abbrev KT(H:Hp):List (List Key×V)->List (List Key×Addr×Value)->Prop:=Paired λp q=>p.1=q.1/\H q.2.1=some (.tup (p.1.map kV))/\fD p.2 q.2.2
def KT.val(r:KT H kvs xs)(k:List Key):Bu (kY kvs k) ((atKey xs k).map (·.2)):=by
 induction r with
 |nil=>exact True.intro
 |@cons p q ps qs h t ih=>
  obtain⟨h1,_,h2⟩:=h;by_cases e:p.1=k
  .have A:q.1=k:=h1.symm.trans e;have b:atKey (q::qs) k=some q.2:=by simp [atKey,List.find?_cons,A]
   rw[kJ e,b];exact h2
  .have A:¬q.1=k:=λz=>e (h1.trans z);have b:atKey (q::qs) k=atKey qs k:=by simp [atKey,List.find?_cons,A]
   rw[kK e,b];exact ih
def KT.repl(r:KT H kvs xs)(k:List Key){y:V}(P:fD y u):
  KT H (kvs.map λB=>if B.1=k then(B.1,y)else B) (xs.map (putAt k u)):=by
 induction r with
 |nil=>exact .nil
 |@cons p q ps qs h t ih=>
  rw[bR,bR];refine .cons ?_ ih;obtain⟨h1,h2,h3⟩:=h;unfold putAt;by_cases e:p.1=k
  .rw[aJ e,aJ (h1.symm.trans e)];exact#[h1,h2,P]
  .rw[aF e,aF (λz=>e (h1.trans z))];exact#[h1,h2,h3]
def KT.put(r:KT H kvs xs)(k:List Key){b:Addr}{y:V}(hb:H b=some (.tup (k.map kV)))(P:fD y u):
  KT H (Bp kvs k y) (storedH xs k b u):=by
 have e:(kvs.any λB=>decide (B.1=k))=(atKey xs k).isSome:=by
  rw[yS,(r.val k).isSome_eq,Option.isSome_map]
 unfold Bp storedH;rw[e];by_cases q:(atKey xs k).isSome=true
 .rw[aJ q,aJ q];exact r.repl k P
 .rw[aF q,aF q];exact Paired.snoc r #[rfl,hb,P]
def KT.keeps(r:KT H kvs xs)(y:∀b T,H b=some (.tup T)->H' b=some (.tup T)):KT H' kvs xs:=
 Paired.mapP r λ_ _ z=>#[z.1,y _ _ z.2.1,z.2.2]
section
variable{P:Program}{w:World}{H:Hp}{h:Heap}{a:Addr}
def rd_of{u:HO}(ok:HOk P w H h)(e:Rd H a u):jF P w H h a u:=e.ok ok
def jZv{kvs:List (Key×V)}(ok:HOk P w H h)(e:Rd H a (.dK kvs)):kvs.length<=sizeLine/\(a==sysModules)=false/\∃m,KV kvs m/\h.DictOf (kB P w) a m:=
 show jF P w H h a (.dK kvs)from rd_of ok e
def dk_of{kvs:List (Key×V)}(ok:HOk P w H h)(e:H a=some (.dK kvs)):kvs.length<=sizeLine/\(a==sysModules)=false/\∃m,KV kvs m/\h.DictOf (kB P w) a m:=jZv ok (.inl e)
def Mj{ks:List Key}(ok:HOk P w H h)(e:H a=some (.tup (ks.map kV))):(tupleKind (kB P w)).is h ks a:=by
 obtain⟨_,G,r,o,h1,h2,n,h3⟩:=(show jF P w H h a (.tup (ks.map kV))from ok a _ e);exact#[o,G.toArray,n,h1,h2,h3,by simpa using Sm r]
def jZu(ok:HOk P w H h)(e:Rd H a (.dT kvs)):kvs.length<=sizeLine/\(a==sysModules)=false/\
  ∃F,KT H kvs F/\h.DictOfH (tupleKind (kB P w)) a F:=by
 obtain⟨z,y,F,r,o,g,j,h1,h2,h3,A,i⟩:=(show jF P w H h a (.dT kvs)from rd_of ok e);refine#[z,y,F,r,o,g,j,h1,h2,h3,A,λx hx=>?_,i];have all:∀{l:List (List Key×V)}{m:List (List Key×Addr×Value)},KT H l m->∀x∈m,(tupleKind (kB P w)).is h x.1 x.2.1:=by
  intro l m q
  induction q with
  |nil=>intro x hx;exact nomatch hx
  |@cons p q ps qs hq t ih=>
   intro x hx;rcases eA.mp hx with e |hx
   .subst e;exact Mj ok (by rw[←hq.1];exact hq.2.1)
   .exact ih x hx
 exact all r x hx
def dt_of(ok:HOk P w H h)(e:H a=some (.dT kvs)):kvs.length<=sizeLine/\(a==sysModules)=false/\
  ∃F,KT H kvs F/\h.DictOfH (tupleKind (kB P w)) a F:=jZu ok (.inl e)
end
def Lz(H:Hp)(a:Addr)(y:V)(r:Option V):Prop:=
 (∃kvs k,Rd H a (.dK kvs)/\y=kV k/\r=kY kvs k)∨∃kvs k b,Rd H a (.dT kvs)/\y=.ref b/\H b=some (.tup (k.map kV))/\r=kY kvs k
def DPut(H:Hp)(a:Addr)(y v:V)(H':Hp):Prop:=
 (∃kvs k,H a=some (.dK kvs)/\y=kV k/\kvs.length<sizeLine/\H'=upd H a (.dK (Bp kvs k v)))∨
 ∃kvs k b,H a=some (.dT kvs)/\y=.ref b/\H b=some (.tup (k.map kV))/\kvs.length<sizeLine/\H'=upd H a (.dT (Bp kvs k v))
def Lz.t{b:Addr}{k:List Key}(e:H a=some (.dT kvs))(O:H b=some (.tup (k.map kV))):Lz H a (.ref b) (kY kvs k):=.inr #[kvs,k,b,.inl e,rfl,O,rfl]
def DPut.t{b:Addr}{k:List Key}{v:V}(e:H a=some (.dT kvs))(O:H b=some (.tup (k.map kV)))(Y:kvs.length<sizeLine):
  DPut H a (.ref b) v (upd H a (.dT (Bp kvs k v))):=.inr #[kvs,k,b,e,rfl,O,Y,rfl]
section
variable{X:Cx}{pins:List (Addr×Obj)}{σ:St}{H:Hp}{s:Shared}{a:Addr}{y v:V}{u r:Value}{o:Option V}{A:Around}{E:Value->Shared->Prop}
def Inv.big(I:Inv X pins σ H s):sysModules<s.heap.objs.size:=by
 have h:mainGlobals<s.heap.objs.size:=(I.mod.glob.keeps I.bk).lt;exact Nat.lt_trans (by decide) h
def jY5(R:A.units+1<cLine)(I:Inv X pins σ H s)(g:Lz H a y (some v))(P:fD y u)(h:∀J U,Inv X pins σ H U->fD v J->Q J U):
  wpAny (model X.prog X.w) A (getItem (.ref a) u) Q E s:=by
 rcases g with⟨n,k,e,S,l⟩|⟨n,k,b,e,S,O,l⟩
 .subst S;obtain⟨z,hd,m,d,G⟩:=jZv I.hok e;obtain⟨J,hw,C⟩:=Bu.some_of (v:=v) (o:=valueAt m k) (by rw[l];exact d.val k);exact wpAny_getItem_of (jZt P) G.mapOf hw (h J _ (I.tok _) C)
 .subst S;cases(show u=Value.ref b from P);obtain⟨z,hd,F,d,G⟩:=jZu I.hok e;obtain⟨J,hw,C⟩:=Bu.some_of (v:=v) (o:=(atKey F k).map (·.2)) (by rw[l];exact d.val k);obtain⟨p,hp,j⟩:=Option.map_eq_some_iff.mp hw;refine wpAny_getItem_heap (tupleKind_room_in1 R) (Mj I.hok O) G hp ?_;rw[j];exact h J _ (I.tok _) C
def d_notIn(R:A.units+1<cLine)(I:Inv X pins σ H s)(g:Lz H a y o)(P:fD y u)(h:∀U,Inv X pins σ H U->Q (.bool (!o.isSome)) U):
  wpAny (model X.prog X.w) A (compareOp .NotIn u (.ref a)) Q E s:=by
 rcases g with⟨n,k,e,S,l⟩|⟨n,k,b,e,S,O,l⟩
 .subst S;obtain⟨z,hd,m,d,G⟩:=jZv I.hok e;refine wpAny_notIn_of (jZt P) hd G.mapOf ?_;rw[←(d.val k).isSome_eq,←l];exact h _ (I.tok _)
 .subst S;cases(show u=Value.ref b from P);obtain⟨z,hd,F,d,G⟩:=jZu I.hok e;refine wpAny_notIn_heap (tupleKind_room_in1 R) (Mj I.hok O) hd G ?_;have q:=(d.val k).isSome_eq;rw[Option.isSome_map]at q;rw[←q,←l];exact h _ (I.tok _)
def jXo{h':Heap}{t':Nat}{ob:HO}(I:Inv X pins σ H s)(mu:Mut (H a))(hs:Heap.SameBut a s.heap h')(l:∃q,h'.get? a=some q)(new:jF X.prog X.w (upd H a ob) h' a ob):
  Inv X pins σ (upd H a ob) { s with heap:=h',toks:=t' }:=
 I.write (x:=a) (e:=a) mu (.inl rfl) (λb q hb z=>(hs.2 b hb).trans z) l new
def dk_new{P:Program}{w:World}{h':Heap}{kvs:List (Key×V)}{vs:List (Key×Value)}(z:kvs.length<=sizeLine)(hd:(a==sysModules)=false)(d:KV kvs vs)(G:h'.DictOf (kB P w) a vs):
  jF P w H' h' a (.dK kvs):=#[z,hd,vs,d,G]
def jY4{Q:Unit->Shared->Prop}(R:A.units+1<cLine)(I:Inv X pins σ H s)(g:DPut H a y v H')(P:fD y u)(D:fD v r)(h:∀U,Inv X pins σ H' U->Q () U):
  wpAny (model X.prog X.w) A (setItem (.ref a) u r) Q E s:=by
 rcases g with⟨n,k,e,S,l,t⟩|⟨n,k,b,e,S,O,l,t⟩
 .subst S t;obtain⟨z,hd,m,d,G⟩:=dk_of I.hok e;have M:m.length<=sizeLine:=by rw[←d.length];exact z
  have Y:(Bp n k v).length<=sizeLine:=by have:=Ab n k v;lia
  refine wpAny_setItem_pairs (hsz:=M) (jZt P) G λx f hs=>h _ ?_;have B:∃q,x.get? a=some q:=let⟨q,_,_,J,_⟩:=f;#[q,J];exact jXo I (by rw[e];exact True.intro) hs B (dk_new Y hd (d.put k D) f)
 .subst S t;cases(show u=Value.ref b from P);obtain⟨z,hd,F,d,G⟩:=dt_of I.hok e;have M:F.length<=sizeLine:=by rw[←Paired.length d];exact z
  have Y:(Bp n k v).length<=sizeLine:=by have:=Ab n k v;lia
  refine wpAny_setItem_heap (hsz:=M) (tupleKind_room_in1 R) (Mj I.hok O) G λx f hs=>h _ ?_;obtain⟨q,C,j,J,h2,h3,K,_,i⟩:=f;refine jXo I (by rw[e];exact True.intro) hs #[q,J] #[Y,hd,_,(d.put k O D).keeps λc T p=>?_,q,C,j,J,h2,h3,K,i];rw[bY (kS p e (λz=>nomatch z))]
  exact p
end
def NoSl(i:Expr):Prop:=∀J l,subscripted i false J l=operate [J,l] (getItem J l)
def subD_of{prog:Program}{w:World}{A:Around}{E:Value->Shared->Prop}{s:Shared}{env:Env}{e d:Expr}{pos:Pos}{T id:String}
  (Y:typeLookup (.type T) "__getitem__"=pure (some (.builtin id))) (hs:NoSl d)
  (h:wpAny (model prog w) A (eval e env) (λo N=>wpAny (model prog w) A (eval d env) (λi m=>m.TypeIs o T/\wpAny (model prog w) A (getItem o i) Q E m) E N) E s):
  wpAny (model prog w) A (eval (.Subscript e d pos) env) Q E s:=by
 refine Subscript_ (wpAny_mono h (λo N a=>wpAny_mono a (λi m j=>?_) λ_ _ x=>x) λ_ _ x=>x);obtain⟨B,j⟩:=j;unfold subscriptTail;refine aC ?_;rw[getitemInPython_of_ne B.not_modules];refine aC (wpAny_specialOf B Y ?_);have fin:wpAny (model prog w) A (subscripted d false o i) (λr b=>wpAny (model prog w) A (letTemporaryGo e o r>>=λ_=>pure r) Q E b) E m:=by
  rw[hs o i];exact wpAny_operating (wpAny_mono j (λr b l=>aC (wpAny_letTemporaryGo (aU l))) λ_ _ x=>x)
 first
  |exact aU (aC fin)
  |exact aC (aU (aC fin))
  |exact aC fin
def Zh{X:Cx}{B:List (Addr×Obj)}{Z:St}{s:Shared}{y:V}{o:Option V}(I:Inv X B Z H s)(g:Lz H a y o):s.TypeIs (.ref a) "dict":=by
 rcases g with⟨n,k,e,_,_⟩|⟨n,k,b,e,_,_,_⟩
 .obtain⟨_,_,m,_,G⟩:=jZv I.hok e;exact G.typeIs
 .obtain⟨_,_,F,_,G⟩:=jZu I.hok e;exact G.typeIs
def jW(r d:TE):TE:=λZ H Q=>r Z H λx S=>d Z S λy M=>∃a v,x=.ref a/\Lz M a y (some v)/\Q v M
def Eo(d r:TE):TE:=λZ H Q=>d Z H λy S=>r Z S λx M=>∃a o,x=.ref a/\Lz M a y o/\Q (.bl (!o.isSome)) M
def Cb(r d tv:TE):TS:=λD Z H=>tv Z H λv S=>r Z S λx M=>d Z M λy U=>∃a w,x=.ref a/\DPut U a y v w/\D.nx Z w
section
variable{X:Cx}{o i e value:Expr}{pos pos' tpos:Pos}{td ty tv:TE}
def lK(R:X.A.units+1<cLine)(D:PE X o td)(hi:PE X i ty)(hs:NoSl i):PE X (.Subscript o i pos) (jW td ty):=by
 intro B s Z H Q I h;refine subD_of PySem.F.slot_dict_getitem.lookup hs (thE (D B s Z H _ I h) λu O x S j N q1=>thE (hi B O Z S _ j q1) λl b y M k P w=>?_);obtain⟨a,v,ex,g,G⟩:=w;subst ex;obtain rfl:u=Value.ref a:=N;exact#[Zh k g,jY5 R k g P λJ s3 z C=>#[v,M,z,C,G]]
def Rw(R:X.A.units+1<cLine)(hi:PE X i ty)(D:PE X o td):PC X .NotIn i o (Eo ty td):=by
 intro B s Z H Q I h;refine thE (hi B s Z H _ I h) λl O y S j P q1=>thE (D B O Z S _ j q1) λu F x M k N w=>?_;obtain⟨a,J,ex,g,G⟩:=w;subst ex;obtain rfl:u=Value.ref a:=N;exact d_notIn R k g P λs3 z=>#[.bl (!J.isSome),M,z,rfl,G]
def Lk(R:X.A.units+1<cLine)(b:PE X o td)(hi:PE X i ty)(hv:PE X value tv)(hs:swapsWith value (some (.Subscript o i pos')) pos.line X.env=pure false):
  PS X (.Assign [.Subscript o i pos'] value pos) (Cb td ty tv):=by
 intro B s Z H D I h;refine wpAny_Assign_Subscript (thE (hv B s Z H _ I h) λr O v S j c q1=>thE (b B O Z S _ j q1) λu F x M k N d=>thE (hi B F Z M _ k d) λl s3 y U z P w=>?_) hs;obtain⟨a,w,ex,g,m⟩:=w;subst ex;obtain rfl:u=Value.ref a:=N;exact jY4 R z g P c λG p=>#[Z,w,p,m]
end
def jVa{P:Program}{w:World}(h:Heap)(hb:sysModules<h.objs.size):jF P w H (h.push { cls:=.type "dict",data:=.dict (List.toArray []) }) h.objs.size (.dT []):=
 #[dN _,beq_eq_false_iff_ne.mpr (Ne.symm (bJ hb)),[],.nil,_,(List.toArray []),0,bL _ rfl,#[rfl,rfl,rfl],rfl,rfl,List.nodup_nil]
def vN:TE:=λ_ H Q=>∀p,H p=none->Q (.ref p) (upd H p (.dT []))
section
variable{X:Cx}{pos:Pos}
def Fd:PE X (.Dict [] [] pos) vN:=λB s Z H Q I h=>
 wpAny_Dict_empty #[.ref s.heap.objs.size,_,I.laid (a:=s.heap.objs.size) (o:=.dT []) (t':=s.toks) (λ_ _ q=>aS _ q) (aM _) (jVa s.heap I.big),rfl,h _ (I.hok.fresh (aM _))]
end
end L2
namespace L2
open PySem
variable{H:Hp}{K:aR}{Z:St}{i j:Int}{m:Nat}{p:Addr}{xs:List V}
def BB(n:Nat)(i:Int):Prop:=i.natAbs<2^n
def Em(i j:Int):Prop:=∃m n,m+n<=100000000/\((BB m i/\BB n j)∨BB 64 i∨BB 64 j)
def CDivB(_ j:Int):Prop:=j≠0/\BB 9000 j
def iF:R2:=rI0 λi j=>.int (i+j)
def kZ:R2:=rI0 λi j=>.int (i-j)
def eT:R2:=rI Em λi j=>.int (i*j)
def kR:R2:=rI CDivB λi j=>.int (i.fdiv j)
def Ja:R2:=rI CDiv λi j=>.int (i/j)
def gR:R2:=rI (λ_ j=>0<j) λi j=>.int (i%j)
def tV:R2:=rI CPow λi j=>.int (i^j.toNat)
noncomputable def iK:V->Hp->VK->Prop:=rU λi=>.int (-i)
def kH:R2:=rI0 λi j=>.bl (decide (i<j))
def Zl:R2:=rI0 λi j=>.bl (decide (i<=j))
def tT:R2:=rI0 λi j=>.bl (decide (j<i))
def Ty:R2:=rI0 λi j=>.bl (decide (j<=i))
noncomputable def Dh:List V->Hp->VK->Prop:=λxs H Q=>∃i,xs=[.int i]/\Q (.int (if i<0 then -i else i)) H
noncomputable def jE(K:aR):List V->Hp->VK->Prop:=λxs H Q=>∃p ys,xs=[.ref p]/\(SqL K H p ys∨SqT K H p ys)/\Q (.int ys.length) H
def isB(x:V)(H:Hp)(T:String)(b:Bool):Prop:=match x with
 | .int _=>(T="int"/\b=true)∨(T="bool"/\b=false)
 | .bl _=>T="bool"/\b=true
 | .ref p=>T="tuple"/\b=true/\∃xs,H p=some (.tup xs)
 |_=>False
noncomputable def Kt:List V->Hp->VK->Prop:=λxs H Q=>∃x T b,xs=[x,.ty T]/\isB x H T b/\Q (.bl b) H
def BB.mono{n:Nat}(h:BB m i)(hm:m<=n):BB n i:=bQ h (fY (by decide) hm)
def Em.l(h:BB 64 i):Em i j:=#[0,0,by decide,.inr (.inl h)]
def Em.r(h:BB 64 j):Em i j:=#[0,0,by decide,.inr (.inr h)]
def aQ.tup{K:aR}{H H':Hp}{a:Addr}{xs:List V}(e:aQ H H')(h:SqT K H a xs):SqT K H' a xs:=by
 rcases h with(h |⟨o,h⟩)|h
 .exact .inl (.inl (e _ _ h))
 .exact .inl (.inr #[o,e _ _ h])
 .exact .inr h
def Ar{i:Nat}{Q:VK}(h:aE i Z H Q):∃v,Z[i]?=some (some v)/\Q v H:=by
 first
 |exact h
 | (unfold aE at h
    split at h
    .exact#[_,‹_›,h]
    .exact h.elim)
def Aq{i:Nat}{Q:VK}{v:V}(e:Z[i]?=some (some v))(q:Q v H):aE i Z H Q:=by
 first
 |exact#[v,e,q]
 | (unfold aE
    rw[e];exact q)
def aQ.upd{o:HO}(h:H p=none):aQ H (upd H p o):=λb u e=>by
 rw[bY (dE e h)];exact e
def BB.of_le{n:Nat}(h:BB n j)(Y:i.natAbs<=j.natAbs):BB n i:=fU Y h
def BB.mul{n:Nat}(hi:BB m i)(P:BB n j):BB (m+n) (i*j):=by
 unfold BB at*;rw[cH,Nat.pow_add];exact Nat.mul_lt_mul_of_lt_of_lt hi P
def BB.add{n:Nat}(hi:BB n i)(P:BB n j):BB (n+1) (i+j):=by
 unfold BB at*;rw[iH];lia
def BB.sub{n:Nat}(hi:BB n i)(P:BB n j):BB (n+1) (i-j):=by
 unfold BB at*;rw[iH];lia
def BB.gcd{n:Nat}(P:BB n j)(h0:j≠0):BB n (Int.gcd i j:Nat):=by
 refine P.of_le ?_;rw[Int.natAbs_natCast];exact Int.gcd_le_natAbs_right _ h0
def BB.neg{n:Nat}(h:BB n i):BB n (-i):=by unfold BB at*;rwa [Int.natAbs_neg]
def Em.b{n:Nat}(hi:BB m i)(P:BB n j)(h:m+n<=100000000:=by decide):Em i j:=#[m,n,h,.inl #[hi,P]]
def cN(Z:St)(caps:List Nat):St:=caps.map λj=>(Z[j]?).join
def vS(J:It)(Z:St)(caps:List Nat)(c:TE)(S:Hp)(fin:List V->Hp->Prop):Prop:=
 ∃(n:Nat)(W:Nat->List V->Hp->Prop),n<=sizeLine/\W 0 [] S/\∀i ys M,i<=n->ys.length=i->W i ys M->
  (J.stop i M/\fin ys M)∨(i<n/\J.go i M/\∀x U,J.yld i M x U->c (some x::cN Z caps) U λy w=>W (i+1) (ys++ [y]) w)
def dQ(q:TI)(caps:List Nat)(c:TE):TE:=λZ H Q=>q Z H λJ S=>vS J Z caps c S λys M=>∀p,M p=none->Q (.ref p) (upd M p (.lst ys))
def Ite(K:aR)(a:Addr):It:=
 #[λi H=>∃xs x,SqL K H a xs/\xs[i]?=some x,λi H v H'=>∃p x,v=.ref p/\H p=none/\H'=upd H p (.tup [.int i,x])/\∀xs,SqL K H a xs->xs[i]?=some x,λi H=>∃xs,SqL K H a xs/\xs.length<=i]
def xI(K:aR)(w:TE):TI:=λZ H R=>w Z H λx S=>∃a,x=.ref a/\(∃xs,SqL K S a xs)/\R (Ite K a) S
def Fh{a:Addr}{g:TG}{tb:TS}{D:rW}(h:Nat->St->Hp->Prop)(h0:h 0 Z H)(Y:∀i Z H,i<=xs.length->h i Z H->SqL K H a xs)
  (hs:∀i x p Z H,xs[i]?=some x->h i Z H->H p=none->g (.ref p) Z (upd H p (.tup [.int i,x])) λj M=>tb { D with nx:=h (i+1),ct:=h (i+1),bk:=D.nx } j M) (hd:∀Z H,h xs.length Z H->D.nx Z H):
  ∃W:Nat->Nat->St->Hp->Prop,(∃m,W 0 m Z H)/\∀i m Z H,W i m Z H->
   ((Ite K a).stop i H/\D.nx Z H)∨((Ite K a).go i H/\∃N:St->Hp->Prop,(∀P d,N P d->∃Q,Q<m/\W (i+1) Q P d)/\∀x d,(Ite K a).yld i H x d->g x Z d λj M=>tb { D with nx:=N,ct:=N,bk:=D.nx } j M):=by
 refine#[λi m Z H=>m=xs.length-i/\i<=xs.length/\h i Z H,#[xs.length,by simp,dN _,h0],?_];rintro i m Z H ⟨rfl,hi,p⟩;have q:=Y i Z H hi p;by_cases f:i<xs.length
 .refine .inr #[#[xs,xs[i],q,by simp [f]],h (i+1),λP d k=>#[xs.length-(i+1),#[],rfl,f,k],λx d y=>?_];obtain⟨u,z,e1,C,O,y⟩:=y;subst e1 O;exact hs i z u Z _ (y xs q) p C
 .have e:i=xs.length:=#[];subst e;exact .inl #[#[xs,q,aM _],hd Z H p]
def eR{a:Addr}{caps:List Nat}{c:TE}{S:Hp}{fin:List V->Hp->Prop}(W:Nat->List V->Hp->Prop)(hz:xs.length<=sizeLine)(h0:W 0 [] S)(Y:∀i T H,i<=xs.length->W i T H->SqL K H a xs)
  (hs:∀i x T H,xs[i]?=some x->T.length=i->W i T H->c (some x::cN Z caps) H λy w=>W (i+1) (T++ [y]) w) (hd:∀T H,T.length=xs.length->W xs.length T H->fin T H):vS (Itl K a) Z caps c S fin:=by
 refine#[xs.length,W,hz,h0,λi T M hi d hw=>?_];have q:=Y i T M hi hw;by_cases f:i<xs.length
 .refine .inr #[f,#[xs,xs[i],q,by simp [f]],λx U y=>?_];obtain⟨e,y⟩:=y;subst e;exact hs i x T _ (y xs q) d hw
 .have e:i=xs.length:=#[];subst e;exact .inl #[#[xs,q,aM _],hd T M d hw]
def kD{lo:Int}{n:Nat}{caps:List Nat}{c:TE}{S:Hp}{fin:List V->Hp->Prop}(W:Nat->List V->Hp->Prop)(hz:n<=sizeLine)(h0:W 0 [] S)
  (hs:∀i T H,i<n->T.length=i->W i T H->c (some (.int (lo+i))::cN Z caps) H λy w=>W (i+1) (T++ [y]) w) (hd:∀T H,T.length=n->W n T H->fin T H):vS (Itr lo n) Z caps c S fin:=by
 refine#[n,W,hz,h0,λi T M hi d hw=>?_];by_cases f:i<n
 .refine .inr #[f,f,λx U y=>?_];obtain⟨e1,C⟩:=y;subst e1 C;exact hs i T _ f d hw
 .have e:i=n:=#[];subst e;exact .inl #[aM _,hd T M d hw]
noncomputable def cSum(K:aR):List V->Hp->VK->Prop:=λxs H Q=>∃p ns,xs=[.ref p]/\SqL K H p (List.map V.int ns)/\Q (.int ns.sum) H
noncomputable def cMax:List V->Hp->VK->Prop:=λxs H Q=>∃i j,xs=[.int i,.int j]/\Q (.int (if j>i then j else i)) H
noncomputable def cMin:List V->Hp->VK->Prop:=λxs H Q=>∃i j,xs=[.int i,.int j]/\Q (.int (if j<i then j else i)) H
noncomputable def pT(K:aR):List V->Hp->VK->Prop:=λxs H Q=>∃p ys,xs=[.ref p]/\(SqL K H p ys∨SqT K H p ys)/\∀l,H l=none->Q (.ref l) (upd H l (.lst ys))
def aQ.put{H':Hp}{o:HO}(s:aQ H H')(h:H p=none):aQ H (L2.upd H' p o):=λb u e=>by
 rw[bY (dE e h)];exact s b u e
def SqT.off{r:Addr}{ys zs:List V}(h:SqT K H p xs)(hr:H r=some (.lst ys)):SqT K (upd H r (.lst zs)) p xs:=by
 rcases h with(h |⟨o,h⟩)|h
 .exact .inl (.inl (by rw[bY (kS h hr (by intro z;cases z))];exact h))
 .exact .inl (.inr #[o,by rw[bY (kS h hr (by intro z;cases z))];exact h])
 .exact .inr h
end L2
namespace L2
open PySem PySem.Spec PyProof.Rows
variable{i j:Int}
def bt_int:bootBuiltins "int"=some (.type "int"):=by decide+kernel
def bt_bool:bootBuiltins "bool"=some (.type "bool"):=by decide+kernel
def Od:bootBuiltins "tuple"=some (.type "tuple"):=by decide+kernel
def nB:bootBuiltins "list"=some (.type "list"):=by decide+kernel
def jXu:bootBuiltins "dict"=some (.type "dict"):=by decide+kernel
def Mp:bootBuiltins "abs"=some (.builtin "abs"):=by decide+kernel
def gE:bootBuiltins "len"=some (.builtin "len"):=by decide+kernel
def kP:bootBuiltins "isinstance"=some (.builtin "isinstance"):=by decide+kernel
def Mo:bootBuiltins "max"=some (.builtin "max"):=by decide+kernel
def Mn:bootBuiltins "min"=some (.builtin "min"):=by decide+kernel
def bt_sum:bootBuiltins "sum"=some (.builtin "sum"):=by decide+kernel
def oZ{n:Nat}{k:Int}(h:BB n k):Builtin.Int.intBits k<=n:=by
 unfold Builtin.Int.intBits;split
 .exact dN _
 .rename_i h0
  have hp:k.natAbs≠0:=by simpa using h0
  have h2:=(Nat.log2_lt hp).mpr h;lia
def Em.ok(h:Em i j):IntMulOk i j:=by
 obtain⟨m,n,M,⟨h1,h2⟩|h1 |h1⟩:=h
 .exact IntMulOk.of_le (oZ h1) (oZ h2) #[]
 .exact .of_left (oZ h1)
 .exact .of_right (oZ h1)
def noPyB(h:BB 9000 j):Builtin.divisionGoesByPylong i j=false:=by
 refine PyProof.noPylong_of_log2 ?_;by_cases c:j.natAbs=0
 .rw[c];decide+kernel
 .exact(Nat.log2_lt c).mpr h
section
variable{X:Cx}
def eE:OpR X (binaryOp .Mult) eT:=opI λ_ _ _ _ _ _ _ hc q=>mul_int q hc.ok
def nH:OpR X (binaryOp .FloorDiv) kR:=opI λ_ _ _ _ _ _ _ hc q=>floordiv_int hc.1 q (.inl (noPyB hc.2))
def kit_ii(K:aR):PySem.W.kitOne K (.type "int") (.type "int")=some true:=by rfl
def kit_ib(K:aR):PySem.W.kitOne K (.type "int") (.type "bool")=some false:=by rfl
def kit_bb(K:aR):PySem.W.kitOne K (.type "bool") (.type "bool")=some true:=by rfl
def kit_tt(K:aR):PySem.W.kitOne K (.type "tuple") (.type "tuple")=some true:=by rfl
def Oc:pU X (.builtin "isinstance") Kt:=by
 rintro B s Z H F R Q I r ⟨x,T,b,rfl,hb,q⟩;obtain⟨u,c,rfl,k,a⟩:=Qv r;obtain rfl:c=Value.type T:=a;have fin:∀tk,EP X B Z Q (.bool b) { s with toks:=tk }:=λtk=>#[.bl b,H,I.tok _,rfl,q];cases x with
 |int i=>
  rcases hb with⟨rfl,rfl⟩|⟨rfl,rfl⟩
  .exact qH I k (.int i) (kit_ii _) fin
  .exact qH I k (.int i) (kit_ib _) fin
 |bl i=>
  obtain⟨rfl,rfl⟩:=hb;exact qH I k (.bl i) (kit_bb _) fin
 |ref p=>
  obtain⟨rfl,rfl,F,hp⟩:=hb;exact qH I k (.tup hp) (kit_tt _) fin
 |_=>exact(show False from hb).elim
end
noncomputable def nW(env:Env):List (Str×NameKind)->List (Str×Addr)->List (Str×Addr)
 | [],cs=>cs
 | (n,k)::r,cs=>nW env r (if(k==NameKind.free)=true then(n,(env.cells.lookup n).getD 0)::cs else cs)
def Cs{g:Scope}{env:Env}(h:∀p∈g.names,p.2=.free->∃c,env.cells.lookup p.1=some c):closureFor g env=pure (nW env g.names []):=by
 have go:∀(f:Str×NameKind->List (Str×Addr)->Sem (ForInStep (List (Str×Addr)))),(∀n k u,f (n,k) u=if(k==NameKind.free)=true then(cellOf env n>>=λa=>pure (ForInStep.yield ((n,a)::u)))else pure (ForInStep.yield u))->
   ∀(l:List (Str×NameKind))(u:List (Str×Addr)),(∀p∈l,p.2=.free->∃c,env.cells.lookup p.1=some c)->(forIn l u f:Sem _)=pure (nW env l u):=by
  intro f hf l
  induction l with
  |nil=>intro u _;rfl
  |cons p r ih=>
   intro u Y;obtain⟨n,k⟩:=p;have hr:∀p∈r,p.2=.free->∃c,env.cells.lookup p.1=some c:=λp hp=>Y p (bK _ hp);rw[List.forIn_cons,hf];by_cases hk:(k==NameKind.free)=true
   .obtain⟨c,hc⟩:=Y (n,k) bT (by simpa using hk);have F:env.cells.lookup n=some c:=hc;have e:cellOf env n=pure c:=by unfold cellOf;rw[F]
    rw[aJ hk,e,pure_bind,pure_bind];dsimp only;rw[ih _ hr];have C:nW env ((n,k)::r) u=nW env r ((n,c)::u):=by
     show nW env r (if(k==NameKind.free)=true then(n,(env.cells.lookup n).getD 0)::u else u)=_;rw[aJ hk,F];rfl
    rw[C]
   .rw[aF hk,pure_bind];dsimp only;rw[ih _ hr];have C:nW env ((n,k)::r) u=nW env r u:=by
     show nW env r (if(k==NameKind.free)=true then(n,(env.cells.lookup n).getD 0)::u else u)=_;rw[aF hk]
    rw[C]
 unfold closureFor;show(forIn g.names [] _>>=λs=>pure s)=_;rw[go _ (λn k u=>by rfl) g.names [] h,pure_bind]
def Oy{env:Env}:∀{l:List (Str×NameKind)}{cs:List (Str×Addr)},(∀p∈l,p.2=.free->∃c,env.cells.lookup p.1=some c)->(∀p∈cs,env.cells.lookup p.1=some p.2)->∀p∈nW env l cs,env.cells.lookup p.1=some p.2
 | [],_,_,h,p,hp=>h p hp
 | (n,k)::r,cs,hl,h,p,hp=>by
  refine Oy (l:=r) (λq J=>hl q (bK _ J)) (λq J=>?_) p hp;by_cases hk:(k==NameKind.free)=true
  .rw[aJ hk]at J;rcases eA.mp J with rfl |J
   .obtain⟨c,hc⟩:=hl (n,k) bT (by simpa using hk);have F:env.cells.lookup n=some c:=hc;show env.cells.lookup n=some ((env.cells.lookup n).getD 0);rw[F];rfl
   .exact h q J
  .rw[aF hk]at J;exact h q J
def Kf{env:Env}{y:Str}:∀{l:List (Str×NameKind)}{cs:List (Str×Addr)},y∈cs.map (·.1)->y∈(nW env l cs).map (·.1)
 | [],_,h=>h
 | (n,k)::r,cs,h=>by
  refine Kf (l:=r) ?_;by_cases hk:(k==NameKind.free)=true
  .rw[aJ hk];exact bK _ h
  .rw[aF hk];exact h
def Eg{env:Env}{y:Str}:∀{l:List (Str×NameKind)}{cs:List (Str×Addr)},(y,NameKind.free)∈l->y∈(nW env l cs).map (·.1)
 | [],_,h=>nomatch h
 | (n,k)::r,cs,h=>by
  rcases eA.mp h with e |h
  .cases e;refine Kf (l:=r) ?_;rw[aJ (by rfl)];exact bT
  .exact Eg (l:=r) h
def tQ{d:Type}{y:Str}:∀{l:List (Str×d)},y∈l.map (·.1)->∃c,l.lookup y=some c
 | [],h=>nomatch h
 | (n,c)::r,h=>by
  cases hx:y==n with
  |true=>exact#[c,by simp only[List.lookup_cons,hx]]
  |false=>
   have U:y∈r.map (·.1):=by
    rcases eA.mp h with e |h
    .have A:y=n:=e;rw[A]at hx;simp at hx
    .exact h
   obtain⟨k,e⟩:=tQ U;exact#[k,by simp only[List.lookup_cons,hx];exact e]
def Go{env:Env}(hk:env.scope.kind=.function):∀{names:List (Str×NameKind)}{y:Str},names.lookup y=some .free->env.kindOf y=some .cell->
  (names.map fun(n,k)=>if(k==NameKind.free&&env.scope.kind== .function&&env.kindOf n==some .cell)then(n,NameKind.cell)else(n,k)).lookup y=some .cell
 | [],_,h,_=>by simp at h
 | (n,k)::r,y,h,hc=>by
  have m:=@Go env hk r y;show List.lookup y ((if(k==NameKind.free&&env.scope.kind== .function&&env.kindOf n==some .cell)=true then(n,NameKind.cell)else(n,k))::_)=_;cases hx:y==n with
  |true=>
   simp only[List.lookup_cons,hx]at h;cases h;have e:y=n:=by simpa using hx
   subst e;have a:(NameKind.free==NameKind.free&&env.scope.kind== .function&&env.kindOf y==some .cell)=true:=by rw[hk,hc];rfl
   rw[aJ a];simp only[List.lookup_cons,hx]
  |false=>
   simp only[List.lookup_cons,hx]at h;by_cases F:(k==NameKind.free&&env.scope.kind== .function&&env.kindOf n==some .cell)=true
   .rw[aJ F];simp only[List.lookup_cons,hx];exact m h hc
   .rw[aF F];simp only[List.lookup_cons,hx];exact m h hc
def Ol{env:Env}:∀{names:List (Str×NameKind)}{y:Str},(∀p∈names,p.2≠.cell)->
  (∃k,(names.map fun(n,k)=>if(k==NameKind.free&&env.scope.kind== .function&&env.kindOf n==some .cell)then(n,NameKind.cell)else(n,k)).lookup y=some k/\(k=.cell∨k=.free))->(y,NameKind.free)∈names
 | [],_,_,⟨_,h,_⟩=>by simp at h
 | (n,k)::r,y,hn,⟨kk,h,hkk⟩=>by
  have h:List.lookup y ((if(k==NameKind.free&&env.scope.kind== .function&&env.kindOf n==some .cell)=true then(n,NameKind.cell)else(n,k))::r.map fun(n,k)=>if(k==NameKind.free&&env.scope.kind== .function&&env.kindOf n==some .cell)then(n,NameKind.cell)else(n,k))=some kk:=h;have m:=@Ol env r y λp hp=>hn p (bK _ hp);cases hx:y==n with
  |true=>
   have e:y=n:=by simpa using hx
   subst e;by_cases F:(k==NameKind.free&&env.scope.kind== .function&&env.kindOf y==some .cell)=true
   .have hf:k=.free:=by
     rw[Bool.and_eq_true,Bool.and_eq_true]at F;simpa using F.1.1
    rw[hf];exact bT
   .rw[aF F]at h;simp only[List.lookup_cons,hx]at h;have C:k=kk:=aV h;subst C;rcases hkk with z |z
    .exact absurd z (hn (y,k) bT)
    .rw[z];exact bT
  |false=>
   have h2:(r.map fun(n,k)=>if(k==NameKind.free&&env.scope.kind== .function&&env.kindOf n==some .cell)then(n,NameKind.cell)else(n,k)).lookup y=some kk:=by
    by_cases F:(k==NameKind.free&&env.scope.kind== .function&&env.kindOf n==some .cell)=true
    .rw[aJ F]at h;simp only[List.lookup_cons,hx]at h;exact h
    .rw[aF F]at h;simp only[List.lookup_cons,hx]at h;exact h
   exact bK _ (m #[kk,h2,hkk])
structure sS(FS scope:Scope)(N:List Str)(x:Str)(ys:List Str)(caps:List Nat):Prop where
 ncell:∀y∈scope.names,y.2≠.cell
 kind:scope.kind=.function
 names:∀y∈scope.names,y.2=.local->scope.names.lookup y.1=some .local
 loc:scope.names.lookup x=some .local
 fr:∀p∈scope.names,p.2=.free->FS.names.lookup p.1=some .cell
 fk:FS.kind=.function
 cap:∀p∈ys.zip caps,N[p.2]?=some p.1/\scope.names.lookup p.1=some .free
 len:ys.length=caps.length
 nd:(x::ys).Nodup
noncomputable abbrev Ce(X:Cx)(g:Scope):List (Str×Addr):=nW X.env g.names []
def fG(X:Cx)(g:Scope)(a:List Str)(s:Shared)(H:Hp)(ex:List Addr)(pn:List (Addr×Obj)):Cx:=
 { X with N:=a,s₀:=s,H₀:=H,env:=compEnvC g (Ce X g) s.heap.objs.size X.env,outer:=X.stack,stack:=X.stack,ex:=ex,fn:=λ_=>false,pn:=pn,xe:=λ_ _=>False }
section
variable{X:Cx}{pins:List (Addr×Obj)}{σ:St}{H:Hp}{s:Shared}
def Inv.adopt{D:Addr}{o:HO}(I:Inv X pins σ H s)(R:H D=none)(hs:X.s₀.heap.objs.size<=D)(C:D≠X.env.locals)(hc:∀x c,X.env.cells.lookup x=some c->c≠D)(hp:∀p∈X.pn++pins,p.1≠D)
  (new:jF X.prog X.w (upd H D o) s.heap D o):Inv X pins σ (upd H D o) s:=by
 have u:Un X.fs X.ex H (upd H D o) s.heap s.heap->True:=λ_=>trivial;refine#[I.ok,I.os,I.bare,#[I.base.keep,I.base.slot,λb ob e n hx=>?_,I.base.there,λb F e=>?_,λb ob F e=>?_,λb J e=>?_],I.loc,I.cell,?_,λx c e=>?_,λp h=>?_,λb ob e=>?_,I.len]
 .rw[bY (bJ (bQ (aW e) hs))];exact I.base.free b ob e n hx
 .have q:=I.base.tups b F e;rw[bY (dE q R)];exact q
 .have q:=I.base.frzs b ob F e;rw[bY (dE q R)];exact q
 .obtain⟨Lx,q⟩:=I.base.tbls b J e;exact#[Lx,by rw[bY (dE q R)];exact q]
 .rw[bY (Ne.symm C)];exact I.free
 .rw[bY (hc x c e)];exact I.freeC x c e
 .obtain⟨Q,U,l⟩:=I.pin p h;exact#[Q,by rw[bY (hp p h)];exact U,l]
 .by_cases hb:b=D
  .subst hb;rw[aI]at e;cases e;exact new
  .rw[bY hb]at e;exact(I.hok b ob e).stay (λc v _ q=>q) (λc q=>by rw[bY (dE q R)];exact q) λc F q=>by rw[bY (dE q R)];exact q
end
section
variable{X:Cx}{scope:Scope}{x:Str}{ys:List Str}{caps:List Nat}{elt iter:Expr}{te:TE}{px pos:Pos}
def nxE{d:Type}{t:Sem d}{Q f:d->Shared->Prop}{M:Model}{A:Around}{F E:Value->Shared->Prop}{s:Shared}(c:F=λ_ _=>False)(h:wpAny M A t Q F s)(p:∀a s,Q a s->f a s):wpAny M A t f E s:=
 wpAny_mono h p λe U z=>by
  rw[c]at z;exact z.elim
noncomputable abbrev Br(G:List Value)(n:Nat):Obj:={ cls:=.type "list",data:=.seq G.toArray n }
end
def Wm:bootBuiltins "enumerate"=some (.type "enumerate"):=by decide+kernel
section
variable{X:Cx}{pins:List (Addr×Obj)}{σ:St}{H:Hp}{s:Shared}{h':Heap}
def Inv.turnedL{t':Nat}{ch:List Addr}(I:Inv X pins σ H s)(k:∀b o,b∉ch->s.heap.get? b=some o->h'.get? b=some o)(hf:∀b∈ch,Ue X pins H b):Inv X pins σ H { s with heap:=h',toks:=t' }:=by
 have a:∀b u,H b=some u->b∉ch:=λb u e z=>by rw[(hf b z).1]at e;cases e
 refine I.step (g':=s.gens) (d':=s.drawn) (ch:=ch) (λb hb=>?_) (λb o _ _ hc e _=>k b o hc e) (λb o _ _ hc e _=>#[o.slots,k b o hc e]) (λ_ _ _ _ n=>n)
  (λb o hc e=>#[o,k b o hc e]) (λ_ _ e=>e) (λ_ _ _ e=>e) (λb J e=>#[(List.toArray []),by rw[e];simp]) (λm hm=>?_) (λb u e=>?_) I.bare
 .obtain⟨Q,U,l,d,f,B⟩:=hf b hb;exact#[d,U,f,B]
 .obtain⟨o,g,j,D,r⟩:=hm;exact#[o,g,j,k _ o (λz=>(hf _ z).2.1 rfl) D,r]
 .refine(I.hok b u e).stay (λc v hc q=>k c v ?_ q) (λ_ q=>q) λ_ _ q=>q;rcases hc with z |z
  .rw[z];exact a b u e
  .exact a c _ z
end
def jYZ{P:Program}{w:World}{K:aR}{A:List Expr}{k:Nat}{tp:Pos}(a e S:Addr)(O:e≠S):
  Ua P w K (.Tuple A k tp) (Ite K a) [e,S] e (λi h=>(∃C,IsEnum h e S i C)/\h.IsListIter S a i) where
 mem:=by simp
 obj:=λi h st b hb=>by
  obtain⟨⟨C,l⟩,t⟩:=st;have z:b=e∨b=S:=by simpa using hb
  rcases z with rfl |rfl
  .exact#[_,l,λv z=>by
    have z':Data.fields _=Data.cell v:=z;cases z']
  .obtain⟨o,e,c,d⟩:=t;exact#[o,e,λv z=>by rw[d]at z;cases z]
 keep:=λi h U st k=>by
  obtain⟨⟨C,l⟩,t⟩:=st;exact#[#[C,k e (by simp) _ l],t.at λo q=>k S (by simp) o q]
 item:=by
  intro X N hw Q hc i B s Z H E I hf st hg;subst N hw Q;obtain⟨F,x,J,hx⟩:=hg;obtain⟨G,D,p,M⟩:=I.list J;obtain⟨u,R,ru⟩:=D.get hx;obtain⟨⟨C,l⟩,t⟩:=st;refine wpAny_pyNext_enum_item l t p.isList (x:=u) (by simpa using R) O λh1 out a1 tup sz kp=>#[_,rfl,?_];refine wpAny_letOwnedTupleGo_enum (s:={ s with heap:=h1,toks:=s.toks+1 }) out λh2 en sb=>?_;have a2:e<s.heap.objs.size:=aW l;have a3:s.heap.objs.size≠e:=Nat.ne_of_gt a2;have g:Heap.SameBut e h1 h2:=sb;have j:Inv X B Z H { s with heap:=h2,toks:=s.toks+1 }:=I.turnedL (ch:=[e,S]) (λb o hb q=>by
   have a0:b≠e/\b≠S:=by simpa using hb
   exact(g.2 b a0.1).trans (kp b o a0.1 a0.2 q)) hf
  have m:H s.heap.objs.size=none:=I.hok.fresh (aM _);have n:h2.get? s.heap.objs.size=some { cls:=.type "tuple",data:=.seq (List.toArray [.int i s.toks,u]) }:=(g.2 _ a3).trans tup;have I2:Inv X B Z (upd H s.heap.objs.size (.tup [.int i,x])) { s with heap:=h2,toks:=s.toks+1 }:=j.adopt m I.sz (Nat.ne_of_gt I.lt) (λy c q=>by
   obtain⟨v,z⟩:=I.cell y c q;exact bJ z.lt) (λq J=>bJ (aW (I.pin q J).1)) #[by show 2<=sizeLine;decide,[.int i s.toks,u],.cons #[_,rfl] (.cons ru .nil),#[_,n,rfl,_,rfl]]
  refine#[.ref s.heap.objs.size,_,I2,rfl,#[_,x,rfl,m,rfl,λT hy=>by rw[I.list_inj hy J];exact hx],#[#[_,by have:=en;exact_mod_cast this],?_],λb hb=>?_]
  .obtain⟨o,q,r⟩:=a1;exact#[o,(g.2 S (Ne.symm O)).trans q,r]
  .have a4:=(hf b hb).1;have z:b=e∨b=S:=by simpa using hb
   have f:b<s.heap.objs.size:=by
    rcases z with rfl |rfl
    .exact a2
    .obtain⟨o,q,_⟩:=t;exact aW q
   rw[bY (bJ f)];exact a4
 done:=by
  intro X N hw Q hc i B s Z H E I hf st hg;subst N hw Q;obtain⟨F,J,hx⟩:=hg;obtain⟨G,D,p,M⟩:=I.list J;obtain⟨⟨C,l⟩,t⟩:=st;obtain⟨f0,f1,f2,f3,f4,f5⟩:=hf S (by simp);have Y:=D.length;exact wpAny_pyNext_enum_end (I.ok.hd hc) l t p.isList (by simp;lia) λU eb=>#[rfl,I.turned (t':=s.toks) (λb o hb e=>eb b o hb e) f0 f1 f3 f4 f5]
 self:=λ_ _ _ _ _ st h=>by
  obtain⟨⟨C,l⟩,t⟩:=st;exact wpAny_pyIter_enum l h
section
variable{X:Cx}
def Es{A:List Expr}{k:Nat}{n:Pos}{a:Expr}{w:TE}{p pos:Pos}(hg:Gl X "enumerate")(hm:X.mg "enumerate"=none)(Y:PE X a w)(hs:starEach [a] X.env=[(false,eval a X.env)]:=by rfl):PI X (.Tuple A k n) (.Call (.Name "enumerate" p) [a] [] pos) (xI X.K w):=by
 intro B s Z H R I h;have v:PA X [a] (aH w bE):=aB Y aN (by rw[hs];rfl);refine Call_ (lR I hg hm Wm (cI (thn (v pos B s Z H (λm S=>∃x,m=[x]/\∃a,x=.ref a/\(∃F,SqL X.K S a F)/\R (Ite X.K a) S) I ?_) λP O#[m,S,j,f,q1]=>?_) hs rfl))
 .show w Z H λx S=>∃y,[x]=[y]/\_;have e:(fun(x:V)(S:Hp)=>∃y,[x]=[y]/\∃a,y=V.ref a/\(∃F,SqL X.K S a F)/\R (Ite X.K a) S)=λx S=>∃a,x=V.ref a/\(∃F,SqL X.K S a F)/\R (Ite X.K a) S:=by
   funext x S
   exact propext #[fun⟨y,e,r⟩=>by cases e;exact r,λr=>#[x,rfl,r]]
  have U:w Z H λx S=>∃a,x=V.ref a/\(∃F,SqL X.K S a F)/\R (Ite X.K a) S:=h;rw[←e]at U;exact U
 .obtain⟨x,e1,b,C,⟨F,J⟩,q⟩:=q1;subst e1 C;obtain⟨u,rfl,d⟩:=xZ f;cases d;obtain⟨G,D,g,M⟩:=j.list J;refine call_enumerate_list g.isList λh1 l t o hk=>?_;refine wpAny_pyIter_enum l ?_;have N:Inv X B Z S { O with heap:=h1 }:=j.kept (t':=O.toks) hk;refine#[O.heap.objs.size+1,[O.heap.objs.size+1,O.heap.objs.size],_,Ite X.K b,S,rfl,N,jYZ b _ _ (Nat.succ_ne_self _),#[#[_,l],t],λc hc=>?_,q];have z:c=O.heap.objs.size+1∨c=O.heap.objs.size:=by simpa using hc
  have i:O.heap.objs.size<=c:=by rcases z with rfl |rfl<;>lia
  exact j.fpOk i (j.hok.fresh i)
def Jw(ns:List Int):∀n,n<=ns.length->preSum (λi=>ns.getD i 0) n=(ns.take n).sum
 |0,_=>by simp [preSum]
 |n+1,h=>by
  show preSum _ n+ns.getD n 0=_;have R:n<ns.length:=#[];rw[Jw ns n #[],List.take_succ,List.sum_append,aP,aD R];simp
def Sw(hc:X.calm=true):pU X (.builtin "sum") (cSum X.K):=by
 rintro B s Z H F R Q I r ⟨p,ns,rfl,J,q⟩;obtain⟨u,rfl,k⟩:=xZ r;cases k;obtain⟨G,D,g,M⟩:=I.list J;have Y:=D.length;rw[aA]at Y;have d:p<s.heap.objs.size:=by obtain⟨o,e,_⟩:=g.isList;exact aW e
 refine call_sum_walkG (wpAny_pyIter_list g.isList #[s.heap.objs.size,_,_,_,_,_,λi=>ns.getD i 0,rfl,Walks.list (A:=X.A.in1) (I.ok.hd hc) s.heap.objs.size p (bJ d) G.toArray,#[#[_,bL _ rfl,rfl,rfl],g.isList.push _],λb hb=>?_,λi v hv=>?_,λU tk O hk=>?_])
 .show b<(s.heap.push _).objs.size;rw[Heap.size_push];have z:b=s.heap.objs.size∨b=p:=by simpa using hb
  rcases z with rfl |rfl
  .exact gK _
  .exact Nat.lt_succ_of_lt d
 .have a:G[i]?=some v:=by simpa using hv
  obtain⟨x,ex,N⟩:∃x,(List.map V.int ns)[i]?=some x/\fD x v:=by
   have hi:i<G.length:=(aK.mp a).1;have f:i<(List.map V.int ns).length:=by rw[aA];lia
   obtain⟨u,c,k⟩:=D.get (i:=i) (x:=(List.map V.int ns)[i]) (aD f);rw[a]at c;cases c;exact#[_,aD f,k]
  rw[aX]at ex;cases e:ns[i]? with
  |none=>rw[e]at ex;cases ex
  |some z=>
   rw[e]at ex;have:V.int z=x:=aV ex;subst this;obtain⟨t,rfl⟩:=N;exact#[t,by show Value.int z t=Value.int (ns.getD i 0) t;rw[aP,e];rfl]
 .have e:preSum (λi=>ns.getD i 0) G.toArray.size=ns.sum:=by
   rw[bM,←Y,Jw ns _ (aM _),cB]
  rw[e];refine#[.int ns.sum,H,I.kept λb o q=>?_,#[_,rfl],q];exact hk b o (by
   intro z;have T:b=s.heap.objs.size:=by simpa using z
   exact absurd (aW q) (by rw[T];exact eW _)) (aS _ q)
def Sr{A:Around}{s:Shared}{u v:Value}(f:fD (.int i) u)(g:fD (.int j) v):SeqAt.EqAt A s u v (i==j):=by
 obtain⟨t,rfl⟩:=f;obtain⟨O,rfl⟩:=g;exact λprog w E Q J=>wpAny_eqBool_int J
end
def eI(K:aR)(x:Str):Addr:=match PySem.W.nsIn K mainGlobals x with
 |some (some (.ref C))=>C
 |_=>0
def mZ{K:aR}{x:Str}{C:Addr}(h:PySem.W.nsIn K mainGlobals x=some (some (.ref C))):eI K x=C:=by unfold eI;rw[h]
section
open PySem.W Builtin Builtin.ObjectAttr Builtin.Getset_descriptor
end
end L2
namespace L2
end L2
namespace L2
open PySem PySem.Spec PyProof.Rows Builtin Builtin.ObjectAttr
end L2
namespace L2
open PySem PySem.Spec PyProof.Rows
variable{A:Around}{H:Hp}{J:It}{K:aR}{M o ob:Obj}{N:List Str}{Q:Option Value->Shared->Prop}{X:Cx}{a d z:Addr}{a0 p p1:Pos}{c:TE}{caps:List Nat}{ex:List Addr}{h:Heap}{i j k:Nat}{kvs:List (List Key×V)}{m:TT}{prog:Program}{s:Shared}{tb:TS}{xs ys:List V}
section
open PySem.W Builtin Builtin.ObjectAttr Builtin.Getset_descriptor
end
def REq(K:aR)(H:Hp)(D:V->V->Bool->Prop)(x y:V)(b:Bool):Prop:=∃a c xs ys,x=.ref a/\y=.ref c/\
 ((SqL K H a xs/\SqL K H c ys/\((xs.length≠ys.length/\b=false)∨(xs.length=ys.length/\∃e:Nat->Bool,(∀(j:Nat) x' y',xs[j]?=some x'->ys[j]?=some y'->D x' y' (e j))/\b=(List.range xs.length).all e)))∨
  (SqT K H a xs/\SqT K H c ys/\∃e:Nat->Bool,(∀(j:Nat) x' y',xs[j]?=some x'->ys[j]?=some y'->D x' y' (e j))/\b=((List.range (min xs.length ys.length)).all e&&xs.length==ys.length)))
noncomputable def DEq(K:aR)(H:Hp):Nat->V->V->Bool->Prop
 |0,x,y,b=>(x=y/\(∃a,x=.ref a)/\b=true)∨∃i j,x=.int i/\y=.int j/\b=(i==j)
 |n+1,x,y,b=>((x=y/\(∃a,x=.ref a)/\b=true)∨∃i j,x=.int i/\y=.int j/\b=(i==j))∨(x≠y/\REq K H (DEq K H n) x y b)
def rEqD(K:aR)(n:Nat):R2:=λx y H Q=>∃b,REq K H (DEq K H n) x y b/\Q (.bl b) H
def fF.ix{us:List Value}(r:fF xs us)(h:j<us.toArray.size):∃x,xs[j]?=some x/\fD x us.toArray[j]:=by
 have Y:=r.length;have h1:j<us.length:=by simpa using h
 have h2:j<xs.length:=#[];obtain⟨u,e,q⟩:=r.get (i:=j) (x:=xs[j]) (aD h2);refine#[xs[j],aD h2,?_];have C:us.toArray[j]=u:=by
  obtain⟨_,z⟩:=aK.mp e;simpa using z
 rw[C];exact q
section
variable{X:Cx}{pins:List (Addr×Obj)}{σ:St}{H:Hp}{s:Shared}
def rc_of{D:V->V->Bool->Prop}(I:Inv X pins σ H s)(n:A.units<cLine)(r:∀x y u v b,fD x u->fD y v->D x y b->SeqAt.EqAt A.in1 s u v b){x y:V}{u v:Value}{b:Bool}(N:fD x u)(P:fD y v)(h:REq X.K H D x y b):SeqAt.RcAt A s u v b:=by
 obtain⟨a,c,F,T,rfl,rfl,h⟩:=h;cases N;cases P;rcases h with⟨ha,hc,h⟩|⟨ha,hc,e,l,rfl⟩
 .obtain⟨O,f,k,_⟩:=I.list ha;obtain⟨C,g,m,_⟩:=I.list hc;have p:=f.length;have Z:=g.length;rcases h with⟨R,rfl⟩|⟨Y,e,l,rfl⟩
  .exact SeqAt.RcAt.lists_lengths k.isList m.isList (by rw[bM,bM];simp;lia) n
  .have q:=SeqAt.RcAt.lists (e:=e) k.isList m.isList (by rw[bM,bM];lia) n λj h1 h2=>by
    obtain⟨B,ex,d⟩:=f.ix h1;obtain⟨o,S,i⟩:=g.ix h2;exact r _ _ _ _ _ d i (l j B o ex S)
   rw[bM,←p]at q;exact q
 .obtain⟨O,f,k,_⟩:=I.tuple ha;obtain⟨C,g,m,_⟩:=I.tuple hc;have p:=f.length;have Z:=g.length;have q:=SeqAt.RcAt.tuples (e:=e) k m n λj h1 h2=>by
   obtain⟨B,ex,d⟩:=f.ix h1;obtain⟨o,S,i⟩:=g.ix h2;exact r _ _ _ _ _ d i (l j B o ex S)
  rw[bM,bM,←p,←Z]at q;exact q
def jXk{x y:V}{u v:Value}{b:Bool}(N:fD x u)(P:fD y v)(h:(x=y/\(∃a,x=.ref a)/\b=true)∨∃i j,x=.int i/\y=.int j/\b=(i==j)):SeqAt.EqAt A s u v b:=by
 rcases h with⟨rfl,⟨a,rfl⟩,rfl⟩|⟨i,j,rfl,rfl,rfl⟩
 .cases N;cases P;exact SeqAt.EqAt.same _
 .exact Sr N P
def Sq(I:Inv X pins σ H s):∀(n:Nat)(A:Around),A.units+n<cLine->∀x y u v b,fD x u->fD y v->DEq X.K H n x y b->SeqAt.EqAt A s u v b
 |0,_,_,_,_,_,_,_,N,P,h=>jXk N P h
 |n+1,A,hu,x,y,u,v,b,N,P,h=>by
  rcases h with h |⟨O,h⟩
  .exact jXk N P h
  .have q:=rc_of I (A:=A) #[] (λx y u v b N P d=>Sq I n A.in1 (by show A.units+1+n<cLine;lia) x y u v b N P d) N P h;obtain⟨a,c,F,T,rfl,rfl,_⟩:=h;cases N;cases P;exact SeqAt.EqAt.of_refs (λz=>O (by rw[z])) q
end
section
variable{X:Cx}
def op_eqD(n:Nat)(R:X.A.units+(n+1)<cLine):OpR X (compareOp .Eq) (rEqD X.K n):=by
 rintro B s Z H x y v u Q I N P ⟨b,h,q⟩;exact rc_of I (A:=X.A) #[] (Sq I n X.A.in1 (by show X.A.units+1+n<cLine;lia)) N P h _ _ _ _ #[.bl b,H,I,rfl,q]
end
def sB:R2:=λx y H Q=>∃a b xs ys,x=.ref a/\y=.ref b/\H a=some (.tup xs)/\H b=some (.tup ys)/\xs.length+ys.length<=sizeLine/\∀p H',aQ H H'->H' p=some (.tup (xs++ys))->Q (.ref p) H'
noncomputable def Qi:V->Option Int->Option Int->Hp->VK->Prop:=λx lo hi H Q=>∃a xs,x=.ref a/\H a=some (.tup xs)/\∀p H',aQ H H'->H' p=some (.tup (qK xs lo hi))->Q (.ref p) H'
section
variable{X:Cx}
def vX:OpR X (binaryOp .Add) sB:=by
 rintro B s Z H x y v u Q I N P ⟨a,b,t,T,rfl,rfl,ha,hb,M,q⟩;by_cases hx:t=[]
 .subst hx;cases N;cases P;obtain⟨O,f,w,_⟩:=I.tuple (SqT.of ha);obtain⟨C,g,l,_⟩:=I.tuple (SqT.of hb);have e1:O=[]:=by cases f;rfl
  subst e1;obtain⟨⟨z,G,o,sl⟩,D,hc,n,hd⟩:=id w;obtain⟨⟨r,k,m,c⟩,i,j,n2,d⟩:=id l;simp only at hc hd j d;subst hc hd j d;exact concat_meets #[_,D,rfl] #[_,i,rfl] noFill_tuple_add seq_tuple_add PySem.F.slot_tuple_add PySem.F.entry_tuple_add (PySem.F.args_tuple_add_2 _ _) (tuple_addW0 a b _ _ n n2 G k sl c (by simp)) #[D,i,#[.ref b,H,I,rfl,q b H (aQ.refl H) hb]]
 .refine op_catT B s Z H _ _ v u Q I N P #[a,b,t,T,rfl,rfl,SqT.of ha,SqT.of hb,hx,M,λe=>?_,λ_ p hp=>q p _ (aQ.upd hp) aI];subst e;exact q a H (aQ.refl H) (by rw[cA];exact ha)
end
def Zi:bootBuiltins "reversed"=some (.type "reversed"):=by decide+kernel
section
variable{prog:Program}{w:World}{A:Around}{E:Value->Shared->Prop}{s:Shared}
open HT in
def Yo{t sl:Addr}{items:Array Value}{vl vu:Value}{lo hi:Option Int}{Q:Value->Shared->Prop}(ht:IsTup s.heap t items)(hs:s.heap.IsSliceOf sl vl vu .none)(pl:IsPart vl lo)(pu:IsPart vu hi)
  (hw:sIx items.size 0 lo=0/\sIx items.size items.size hi=items.size) (h:Q (.ref t) s):wpAny (model prog w) A (getItem (.ref t) (.ref sl)) Q E s:=by
 obtain⟨os,hos,hcs,hds⟩:=id hs;have hTs:s.TypeIs (.ref sl) "slice":=#[os,hos,hcs];unfold getItem
 try with_reducible refine wpAny_holding ?_
 first |refine aC (aU ?_)|skip
 refine aC (wpAny_sequenceKey ht.typeIs (by decide) ?_);refine aC (wpAny_callSpecial?_slot (name:=Str.ofString "__getitem__") ht.typeIs PyProof.Rows.slot_tuple_getitem
  (wpAny_call_entry PyProof.Rows.slot_tuple_getitem ht.typeIs entry_tuple_getitem ?_ (args_tuple_getitem _ _)))
 show wpAny _ _ (Builtin.Tuple.tupleItemsOf (.ref t)>>=_) _ _ s;refine aC (tupleItemsOf_ ht ?_);refine aC (wpAny_typeOf hTs ?_);rw[aJ (by decide)];refine aC (vF hs pl pu ?_);have yes:((((sIx items.size 0 lo:Nat):Int)==0&&(1:Int)==1&&(sIx items.size items.size hi-sIx items.size 0 lo)==items.size)=true):=by
  rw[hw.1,hw.2];simp
 show wpAny _ _ (if(((sIx items.size 0 lo:Nat):Int)==0&&(1:Int)==1&&(sIx items.size items.size hi-sIx items.size 0 lo)==items.size)=true then _ else _) _ _ s;rw[aJ yes];unfold Builtin.Tuple.tupleIsExact;refine aC (aC (wpAny_typeOf ht.typeIs (aU ?_)));rw[aJ (by decide)]
 first
  |exact aC (wpAny_rule (aU #[_,rfl,aU h]))
  |exact aC (wpAny_rule (aC (aU (aU #[_,rfl,aU h]))))
  |exact aC (wpAny_rule (aU h))
end
section
variable{X:Cx}
def jZf{lo hi:Option Int}(h:HT.sIx xs.length 0 lo=0/\HT.sIx xs.length xs.length hi=xs.length):qK xs lo hi=xs:=by
 unfold qK;rw[h.1,h.2,List.drop_zero,Nat.sub_zero,cB]
def Au:SlR X Qi:=by
 rintro B s Z H x v c d b hi sl Q I N hs g i ⟨a,F,rfl,hx,q⟩;by_cases hw:HT.sIx F.length 0 b=0/\HT.sIx F.length F.length hi=F.length
 .cases N;obtain⟨G,r,y,M⟩:=I.tuple (SqT.of hx);have C:G.toArray.size=F.length:=by rw[bM];exact r.length.symm
  refine#["tuple",_,PyProof.Rows.slot_tuple_getitem.lookup,y.typeIs,?_];exact Yo y hs g i (by rw[C];exact hw) #[.ref a,H,I,rfl,q a H (aQ.refl H) (by rw[jZf hw];exact hx)]
 .exact sl_tup B s Z H _ v c d b hi sl Q I N hs g i #[a,F,rfl,SqT.of hx,hw,λp hp=>q p _ (aQ.upd hp) aI]
end
def Itv(K:aR)(a:Addr)(n:Nat):It:=
 #[λi H=>i<n/\∃xs,SqL K H a xs/\xs.length=n,λi H v H'=>H'=H/\∀xs,SqL K H a xs->xs[n-1-i]?=some v,λi _=>n<=i]
def iRev(K:aR)(w:TE):TI:=λZ H R=>w Z H λx S=>∃a xs,x=.ref a/\SqL K S a xs/\R (Itv K a xs.length) S
def jWV{P:Program}{w:World}{m:Expr}(a S:Addr)(n:Nat):Ua P w K m (Itv K a n) [S] S (λi h=>i<=n/\h.IsRevIter S a ((n:Int)-1-(i:Int))) where
 mem:=by simp
 obj:=λi h st b hb=>by
  obtain⟨_,o,e,c,d⟩:=st;have z:b=S:=by simpa using hb
  subst z;exact#[o,e,λv z=>by rw[d]at z;cases z]
 keep:=λi h U st k=>#[st.1,st.2.at λo q=>k S (by simp) o q]
 item:=by
  intro X N hw Q hc i B s Z H E I hf st hg;subst N hw Q;obtain⟨hi,F,J,R⟩:=hg;obtain⟨G,D,p,M⟩:=I.list J;have Y:=D.length;obtain⟨f0,r,y,g,j,f5⟩:=hf S (by simp);have e1:(n:Int)-1-(i:Int)=((n-1-i:Nat):Int):=#[];have t:=st.2;rw[e1]at t;have f:n-1-i<F.length:=#[];obtain⟨u,hu,ru⟩:=D.get (aD f);refine wpAny_pyNext_rev_item t p.isList (x:=u) (by simpa using hu) λU l sb=>#[_,rfl,?_];obtain⟨o',A,a0,a1⟩:=id l;refine go_of A a0 a1 (by decide+kernel) ?_;have C:((n-1-i:Nat):Int)-1=(n:Int)-1-((i+1:Nat):Int):=#[];rw[C]at l;exact#[_,H,I.turned (t':=s.toks) (λb o hb e=>(sb.2 b hb).trans e) f0 r g j f5,ru,#[rfl,λT hy=>by rw[I.list_inj hy J];exact aD f],#[hi,l],λb hb=>by
   have z:b=S:=by simpa using hb
   rw[z];exact f0]
 done:=by
  intro X N hw Q hc i B s Z H E I hf st hg;subst N hw Q;obtain⟨f0,r,y,g,j,f5⟩:=hf S (by simp);have e1:(n:Int)-1-(i:Int)= -1:=by
   have:=st.1;have h2:n<=i:=hg;lia
  have t:=st.2;rw[e1]at t;exact wpAny_pyNext_rev_end (I.ok.hd hc) t λU O=>#[rfl,I.turned (t':=s.toks) (λb o hb e=>O b o hb e) f0 r g j f5]
 self:=λ_ _ _ _ _ st h=>wpAny_pyIter_revIter st.2 h
section
variable{X:Cx}
def pi_rev{d:Expr}{a:Expr}{w:TE}{pos:Pos}(hg:Gl X "reversed")(hm:X.mg "reversed"=none)(Y:PE X a w)(hs:starEach [a] X.env=[(false,eval a X.env)]:=by rfl):PI X d (.Call (.Name "reversed" p) [a] [] pos) (iRev X.K w):=by
 intro B s Z H R I h;have v:PA X [a] (aH w bE):=aB Y aN (by rw[hs];rfl);refine Call_ (lR I hg hm Zi (cI (thn (v pos B s Z H (λm S=>∃x,m=[x]/\∃a F,x=.ref a/\SqL X.K S a F/\R (Itv X.K a F.length) S) I ?_) λi O#[m,S,j,f,q1]=>?_) hs rfl))
 .show w Z H λx S=>∃y,[x]=[y]/\_;have e:(fun(x:V)(S:Hp)=>∃y,[x]=[y]/\∃a F,y=V.ref a/\SqL X.K S a F/\R (Itv X.K a F.length) S)=λx S=>∃a F,x=V.ref a/\SqL X.K S a F/\R (Itv X.K a F.length) S:=by
   funext x S
   exact propext #[fun⟨y,e,r⟩=>by cases e;exact r,λr=>#[x,rfl,r]]
  have U:w Z H λx S=>∃a F,x=V.ref a/\SqL X.K S a F/\R (Itv X.K a F.length) S:=h;rw[←e]at U;exact U
 .obtain⟨x,e1,b,F,C,J,q⟩:=q1;subst e1 C;obtain⟨u,rfl,k⟩:=xZ f;cases k;obtain⟨G,D,g,M⟩:=j.list J;have Y:=D.length;refine call_reversed_list g.isList ?_;have t:(O.heap.push (revObj b (((G.toArray.size:Nat):Int)-1))).IsRevIter O.heap.objs.size b ((F.length:Int)-1-((0:Nat):Int)):=#[_,bL _ rfl,rfl,by
   show Data.fields (List.toArray [.ref b,rawInt (((G.toArray.size:Nat):Int)-1)])=_;rw[bM,←Y];simp]
  refine wpAny_pyIter_revIter (s:={ O with heap:=O.heap.push (revObj b (((G.toArray.size:Nat):Int)-1)) }) t ?_;refine#[O.heap.objs.size,[O.heap.objs.size],_,Itv X.K b F.length,S,rfl,j.kept (t':=O.toks) λc o e=>aS _ e,jWV b _ _,#[dN _,t],λc hc=>?_,q];have z:c=O.heap.objs.size:=by simpa using hc
  exact j.fpOk (Nat.le_of_eq z.symm) (j.hok.fresh (Nat.le_of_eq z.symm))
end
def for_rev{g:TG}{D:rW}{Z:St}(h:Nat->St->Hp->Prop)(h0:h 0 Z H)(Y:∀i Z H,i<=xs.length->h i Z H->SqL K H a xs)
  (hs:∀i x Z H,i<xs.length->xs[xs.length-1-i]?=some x->h i Z H->g x Z H λj M=>tb { D with nx:=h (i+1),ct:=h (i+1),bk:=D.nx } j M) (hd:∀Z H,h xs.length Z H->D.nx Z H):
  ∃W:Nat->Nat->St->Hp->Prop,(∃m,W 0 m Z H)/\∀i m Z H,W i m Z H->
   ((Itv K a xs.length).stop i H/\D.nx Z H)∨((Itv K a xs.length).go i H/\∃N:St->Hp->Prop,(∀P d,N P d->∃Q,Q<m/\W (i+1) Q P d)/\∀x d,(Itv K a xs.length).yld i H x d->g x Z d λj M=>tb { D with nx:=N,ct:=N,bk:=D.nx } j M):=by
 refine#[λi m Z H=>m=xs.length-i/\i<=xs.length/\h i Z H,#[xs.length,by simp,dN _,h0],?_];rintro i m Z H ⟨rfl,hi,p⟩;have q:=Y i Z H hi p;by_cases f:i<xs.length
 .refine .inr #[#[f,xs,q,rfl],h (i+1),λP d k=>#[xs.length-(i+1),#[],rfl,f,k],λx d y=>?_];obtain⟨e,y⟩:=y;subst e;exact hs i x Z _ f (y xs q) p
 .have e:i=xs.length:=#[];subst e;exact .inl #[aM _,hd Z H p]
def oQ(J:It)(Z:St)(caps:List Nat)(m:TT)(c:TE)(S:Hp)(fin:List V->Hp->Prop):Prop:=
 ∃(n:Nat)(W:Nat->List V->Hp->Prop),n<=sizeLine/\W 0 [] S/\∀i ys M,i<=n->ys.length<=i->W i ys M->
  (J.stop i M/\fin ys M)∨(i<n/\J.go i M/\∀x U,J.yld i M x U->m (some x::cN Z caps) U λb w=>if b=true then c (some x::cN Z caps) w λy I=>W (i+1) (ys++ [y]) I else W (i+1) ys w)
def jX(q:TI)(caps:List Nat)(m:TT)(c:TE):TE:=λZ H Q=>q Z H λJ S=>oQ J Z caps m c S λys M=>∀p,M p=none->Q (.ref p) (upd M p (.lst ys))
noncomputable def Qy:List V->Hp->VK->Prop:=λxs H Q=>∃p kvs,xs=[.ref p]/\H p=some (.dT kvs)/\Q (.int (kvs.length:Nat)) H
def len_any{w:World}(hd:(d==sysModules)=false):MeetsIn prog w (Builtin.«dict.__len__» #[[.ref d],[]]) (λ_ R s=>∃o g j,s.heap.get? d=some o/\o.data=.dict g j/\R (.ok (.ret (.int (g.size:Nat) s.toks))) { s with toks:=s.toks+1 }):=
 .of_wp λA R s#[o,g,j,D,c,h]=>by
  show wpAny _ _ (dictSize d>>=_) _ _ s;unfold dictSize;refine aC (aC (wpAny_dictEntries D c (aU ?_)));show wpAny _ _ (Builtin.Dict.pendingCount d>>=_) _ _ s;refine aC (wpAny_pendingCount_other hd ?_);refine wpAny_ret_mkInt ?_;rw[Nat.add_zero];exact h
section
variable{X:Cx}
def Ir:pU X (.builtin "len") Qy:=by
 rintro B s Z H b R Q I r ⟨p,n,rfl,hp,q⟩;obtain⟨u,rfl,k⟩:=xZ r;cases k;obtain⟨z,hd,T,d,o,g,j,D,hc,c,l,_⟩:=dt_of I.hok hp;have a:s.TypeIs (.ref p) "dict":=#[o,D,hc.1];have sz:g.size=n.length:=by rw[size_of_entries l];exact(Paired.length d).symm
 have M:(g.size:Int)<2^63:=by rw[sz];rw[sizeLine_eq]at z;lia
 refine Calls.call_function_entry kind_len plain_len entry_len (args_len1 _) ?_;unfold Builtin.«len»;refine aC (m:=oneArg "len" _) (aU ?_);refine aC (m:=callSpecial? (.ref p) (Str.ofString "__len__")) (wpAny_callSpecial?_slot (name:=Str.ofString "__len__") a F.slot_dict_len (call_meetsIn F.slot_dict_len a F.entry_dict_len (F.args_dict_len_1 _) (len_any hd) #[o,g,j,D,c,?_]));show wpAny _ _ _ _ _ { s with toks:=s.toks+1 };refine aC (wpAny_holding (aU (aC (wpAny_letGo ?_))));show wpAny _ _ (if((g.size:Nat):Int)<0 then _ else _) _ _ _;rw[aF #[]];show wpAny _ _ (if((g.size:Nat):Int)≥2^63 then _ else _) _ _ _;rw[aF #[]];refine aC (wpAny_mkInt (aU #[_,rfl,?_]));exact#[.int (n.length:Nat),H,(I.tok _).tok _,#[_,by rw[sz]],q]
def isB2(x:V)(H:Hp)(T:String)(b:Bool):Prop:=isB x H T b∨(∃p xs,x=.ref p/\H p=some (.lst xs)/\T="list"/\b=true)
noncomputable def Xb:List V->Hp->VK->Prop:=λxs H Q=>∃x T b,xs=[x,.ty T]/\isB2 x H T b/\Q (.bl b) H
def kit_ll(K:aR):PySem.W.kitOne K (.type "list") (.type "list")=some true:=by rfl
def Tb:pU X (.builtin "isinstance") Xb:=by
 rintro B s Z H F R Q I r ⟨x,T,b,rfl,hb,q⟩;rcases hb with hb |⟨p,d,rfl,hp,rfl,rfl⟩
 .exact Oc B s Z H _ R Q I r #[x,T,b,rfl,hb,q]
 .obtain⟨u,c,rfl,k,a⟩:=Qv r;obtain rfl:c=Value.type "list":=a;exact qH I k (.lst hp) (kit_ll _) λtk=>#[.bl true,H,I.tok _,rfl,q]
end
structure TabK(K:aR):Prop where
 cl:Cls K (eI K "Table")
 nM:pO K (eI K "Table") "many"
 nC:pO K (eI K "Table") "cells"
def Ke{lo:Int}{n:Nat}{Z:St}{S:Hp}{fin:List V->Hp->Prop}(W:Nat->List V->Hp->Prop)(hz:n<=sizeLine)(h0:W 0 [] S)
  (hs:∀i T H,i<n->T.length<=i->W i T H->m (some (.int (lo+i))::cN Z caps) H λb w=>if b=true then c (some (.int (lo+i))::cN Z caps) w λy I=>W (i+1) (T++ [y]) I else W (i+1) T w)
  (hd:∀T H,W n T H->fin T H):oQ (Itr lo n) Z caps m c S fin:=by
 refine#[n,W,hz,h0,λi T M hi d hw=>?_];by_cases f:i<n
 .refine .inr #[f,f,λx U y=>?_];obtain⟨e1,C⟩:=y;subst e1 C;exact hs i T _ f d hw
 .have e:i=n:=#[];subst e;exact .inl #[aM _,hd T M hw]
noncomputable def vK(n:Nat):List Int:=(List.range n).map Int.ofNat
def jWb{n:Nat}(h:k<n):(vK n)[k]?=some (k:Int):=by
 unfold vK;rw[aX,List.getElem?_range h];rfl
def sL(n:Nat):(vK n).length=n:=by unfold vK;rw[aA,gX]
def Wu(c:TE):TE:=λZ H Q=>c Z H λx S=>∃n:Nat,x=.int n/\n<=10000/\∀p,S p=none->Q (.ref p) (upd S p (.lst (List.map V.int (vK n))))
def sH:∀{xs:List V}{us:List Value},xs.length=us.length->(∀(i:Nat)(x:V)(u:Value),xs[i]?=some x->us[i]?=some u->fD x u)->fF xs us
 | [],[],_,_=>.nil
 | [],_::_,h,_=>by simp at h
 |_::_,[],h,_=>by simp at h
 |x::xs,u::us,h,k=>.cons (k 0 x u rfl rfl) (sH (by simpa using h) λi x u h1 h2=>k (i+1) x u (by simpa using h1) (by simpa using h2))
section
variable{X:Cx}
def jZ7{a:Expr}{w:TE}{T l b:Pos}(z:Gl X "list")(J:X.mg "list"=none)(A:Gl X "range")(F:X.mg "range"=none)(hc:X.calm=true)(Y:PE X a w)
  (G:starEach [.Call (.Name "range" l) [a] [] a0] X.env=[(false,eval (.Call (.Name "range" l) [a] [] a0) X.env)]:=by rfl) (g:starEach [a] X.env=[(false,eval a X.env)]:=by rfl):
  PE X (.Call (.Name "list" T) [.Call (.Name "range" l) [a] [] a0] [] b) (Wu w):=by
 intro B s Z H Q I h;have v:PA X [a] (aH w bE):=aB Y aN (by rw[g];rfl);refine Call_ (lR I z J nB (cI (spliced_more ?_ (by rw[G];rfl)) G rfl));refine Call_ (lR I A F boot_range (cI (thn (v a0 B s Z H (λm S=>∃x,m=[x]/\∃n:Nat,x=.int n/\n<=10000/\∀p,S p=none->Q (.ref p) (upd S p (.lst (List.map V.int (vK n))))) I ?_) λus O#[m,S,j,f,q1]=>?_) g rfl))
 .show w Z H λx S=>∃y,[x]=[y]/\_;have e:(fun(x:V)(S:Hp)=>∃y,[x]=[y]/\∃n:Nat,y=V.int n/\n<=10000/\∀p,S p=none->Q (.ref p) (upd S p (.lst (List.map V.int (vK n)))))=λx S=>∃n:Nat,x=V.int n/\n<=10000/\∀p,S p=none->Q (.ref p) (upd S p (.lst (List.map V.int (vK n)))):=by
   funext x S
   exact propext #[fun⟨y,e,r⟩=>by cases e;exact r,λr=>#[x,rfl,r]]
  have U:w Z H λx S=>∃n:Nat,x=V.int n/\n<=10000/\∀p,S p=none->Q (.ref p) (upd S p (.lst (List.map V.int (vK n)))):=h;rw[←e]at U;exact U
 .obtain⟨x,e1,n,C,R,q⟩:=q1;subst e1 C;obtain⟨u,rfl,k⟩:=xZ f;obtain⟨t,rfl⟩:=k;refine call_range_1 (spliced_none ?_);have M:Builtin.Range.rangeSize 0 (n:Int) 1=(n:Int):=by rw[rangeSize_one];split<;>lia
  refine call_list_range (j.ok.hd hc) (IsRange.new ..) (small_one (by decide) (by decide) #[] #[]) M #[] λh2 tk d c' hk P N=>?_;have kp:∀c o,O.heap.get? c=some o->h2.get? c=some o:=λc o e=>hk c o (aS _ e);have K:(O.heap.push { cls:=.type "range",data:=.fields (List.toArray [.int 0 O.toks,.int (n:Int) t,.int 1 (O.toks+1)]) }).objs.size=O.heap.objs.size+1:=Heap.size_push ..;have lt:O.heap.objs.size<=(O.heap.push { cls:=.type "range",data:=.fields (List.toArray [.int 0 O.toks,.int (n:Int) t,.int 1 (O.toks+1)]) }).objs.size:=by rw[K];exact Nat.le_succ _
  refine#[.ref _,_,j.laid (t':=tk) (o:=.lst (List.map V.int (vK n))) kp lt #[by rw[aA,sL,sizeLine_eq];lia,d.toList,c',sH (by rw[aA,sL,Array.length_toList,N.1]) λi x u h1 h3=>?_,by simpa using P],rfl,q _ (j.hok.fresh lt)];have hi:i<n:=by
   have:=(aK.mp h1).1;rwa [aA,sL]at this
  rw[aX,jWb hi]at h1;cases h1;obtain⟨D,e⟩:=N.2 i u (by simpa using h3);rw[e];exact#[D,by simp]
end
def Uq:bootBuiltins "zip"=some (.type "zip"):=by decide+kernel
def Itz(K:aR)(a b:Addr):It:=
 #[λi H=>∃xs x ys y,SqL K H a xs/\xs[i]?=some x/\SqL K H b ys/\ys[i]?=some y,
  λi H v H'=>∃p x y,v=.ref p/\H p=none/\H'=upd H p (.tup [x,y])/\(∀xs,SqL K H a xs->xs[i]?=some x)/\(∀ys,SqL K H b ys->ys[i]?=some y),
  λi H=>∃xs ys,SqL K H a xs/\SqL K H b ys/\(xs.length<=i∨ys.length<=i)]
def mR(K:aR)(t:TA):TI:=λZ H R=>t Z H λvs S=>∃a b,vs=[.ref a,.ref b]/\(∃xs,SqL K S a xs)/\(∃ys,SqL K S b ys)/\R (Itz K a b) S
def jWW{P:Program}{w:World}{a8:List Expr}{tp:Pos}(a b z TI TO O i2:Addr)(D:ZipApart z TI TO O i2 a b):
  Ua P w K (.Tuple a8 k tp) (Itz K a b) [z,TI,TO,O,i2] z (λi h=>IsZip h z TI TO .none/\IsPair h TI (.ref O) (.ref i2)/\(∃u v,IsPair h TO u v)/\h.IsListIter O a i/\h.IsListIter i2 b i) where
 mem:=by simp
 obj:=λi h st c hc=>by
  obtain⟨M,m,⟨u,v,Y⟩,⟨S,e1,c1,d1⟩,⟨A,C,c2,d2⟩⟩:=st;have q:c=z∨c=TI∨c=TO∨c=O∨c=i2:=by simpa using hc
  rcases q with rfl |rfl |rfl |rfl |rfl
  .exact#[_,M,λv z=>nomatch z]
  .exact#[_,m,λv z=>nomatch z]
  .exact#[_,Y,λv z=>nomatch z]
  .exact#[S,e1,λv z=>by rw[d1]at z;cases z]
  .exact#[A,C,λv z=>by rw[d2]at z;cases z]
 keep:=λi h U st kp=>by
  obtain⟨M,m,⟨u,v,Y⟩,h1,h2⟩:=st;exact#[kp z (by simp) _ M,kp TI (by simp) _ m,#[u,v,kp TO (by simp) _ Y],h1.at λo q=>kp O (by simp) o q,h2.at λo q=>kp i2 (by simp) o q]
 item:=by
  intro X hP hw hK hc i B s Z H E I hf st hg;subst hP hw hK;obtain⟨F,x,T,y,J,hx,hr,d⟩:=hg;obtain⟨G,rv,p,b3⟩:=I.list J;obtain⟨b4,sv,r,b5⟩:=I.list hr;obtain⟨u,R,ru⟩:=rv.get hx;obtain⟨v,hv,b7⟩:=sv.get d;obtain⟨M,m,⟨u0,v0,Y⟩,h1,h2⟩:=st;refine wpAny_pyNext_zip_item D M m Y h1 h2 p.isList r.isList (x:=u) (y:=v) (by simpa using R) (by simpa using hv) λg Q a2 a3 a4 a5 a6 kp=>#[_,rfl,?_];refine wpAny_letOwnedTupleGo_zip (s:={ s with heap:=g }) Q λg2 en sb=>?_;have a0:Heap.SameBut z g g2:=sb;have lt:∀{c:Addr}{o:Obj},s.heap.get? c=some o->c<s.heap.objs.size:=λe=>aW e;have lz:=lt M;have b9:=lt m;have c3:=lt Y;have l1:O<s.heap.objs.size:=by obtain⟨_,e,_⟩:=h1;exact lt e
  have l2:i2<s.heap.objs.size:=by obtain⟨_,e,_⟩:=h2;exact lt e
  have j:Inv X B Z H { s with heap:=g2,toks:=s.toks }:=I.turnedL (ch:=[z,TI,TO,O,i2]) (λc o hb q=>by
   have l:c≠z/\c≠TI/\c≠TO/\c≠O/\c≠i2:=by simpa using hb
   exact(a0.2 c l.1).trans (kp c o l.1 l.2.2.1 l.2.2.2.1 l.2.2.2.2 q)) hf
  have a9:H s.heap.objs.size=none:=I.hok.fresh (aM _);have b0:g2.get? s.heap.objs.size=some { cls:=.type "tuple",data:=.seq (List.toArray [u,v]) }:=(a0.2 _ (Nat.ne_of_gt lz)).trans a5;have I2:Inv X B Z (upd H s.heap.objs.size (.tup [x,y])) { s with heap:=g2,toks:=s.toks }:=j.adopt a9 I.sz (Nat.ne_of_gt I.lt) (λn c q=>by
   obtain⟨v,z⟩:=I.cell n c q;exact bJ z.lt) (λq J=>bJ (aW (I.pin q J).1)) #[by show 2<=sizeLine;decide,[u,v],.cons ru (.cons b7 .nil),#[_,b0,rfl,_,rfl]]
  refine#[.ref s.heap.objs.size,_,I2,rfl,#[_,x,y,rfl,a9,rfl,λN a7=>by rw[I.list_inj a7 J];exact hx,λN a7=>by rw[I.list_inj a7 hr];exact d],#[en,?_,#[_,_,(a0.2 _ D.TOz).trans a2],?_,?_],λc hb=>?_]
  .exact(a0.2 _ D.TIz).trans (kp _ _ D.TIz D.TITO D.TIi1 D.TIi2 m)
  .obtain⟨o,q,t⟩:=a3;exact#[o,(a0.2 _ D.i1z).trans q,t]
  .obtain⟨o,q,t⟩:=a4;exact#[o,(a0.2 _ D.i2z).trans q,t]
  .have b8:=(hf c hb).1;have q:c=z∨c=TI∨c=TO∨c=O∨c=i2:=by simpa using hb
   have f:c<s.heap.objs.size:=by rcases q with rfl |rfl |rfl |rfl |rfl<;>assumption
   rw[bY (bJ f)];exact b8
 done:=by
  intro X hP hw hK hc i B s Z H E I hf st hg;subst hP hw hK;obtain⟨F,T,J,hr,hx⟩:=hg;obtain⟨G,rv,p,b3⟩:=I.list J;obtain⟨b4,sv,r,b5⟩:=I.list hr;obtain⟨M,m,⟨u0,v0,Y⟩,h1,h2⟩:=st;have l1:=rv.length;have l2:=sv.length;refine wpAny_pyNext_zip_end (I.ok.hd hc) D M m Y h1 h2 p.isList r.isList (by simp;lia) λg kp=>#[rfl,?_];exact I.turnedL (t':=s.toks) (ch:=[z,TI,TO,O,i2]) (λc o hb q=>by
   have l:c≠z/\c≠TI/\c≠TO/\c≠O/\c≠i2:=by simpa using hb
   exact kp c o l.1 l.2.2.1 l.2.2.2.1 l.2.2.2.2 q) hf
 self:=λ_ _ _ _ _ st h=>wpAny_pyIter_zip st.1 h
def He{n l1 l2:Nat}(h1:l1<n)(h2:l2<n):ZipApart (n+4) (n+2) (n+3) n (n+1) l1 l2:=by
 constructor<;>(intro e;have C:(_:Nat)=_:=e;lia)
section
variable{X:Cx}
def nT{A:List Expr}{n:Pos}{a b:Expr}{t:TA}{pos:Pos}(hg:Gl X "zip")(hm:X.mg "zip"=none)(Y:PA X [a,b] t)
  (l:starEach (a:: [b]) X.env=(false,eval a X.env)::starEach [b] X.env:=by rfl) (d:(backTo pos (starEach [b] X.env)).any (·.1)=false:=by rfl):PI X (.Tuple A k n) (.Call (.Name "zip" p) [a,b] [] pos) (mR X.K t):=by
 intro B s Z H R I h;refine wpAny_Call_Name_kw (lR I hg hm Uq ?_);refine cI (thF (Y pos B s Z H _ I h) λus O m S j f q1=>?_) l d;obtain⟨P,v,e0,⟨F,J⟩,⟨T,hr⟩,q⟩:=q1;subst e0;cases f with
 |cons ra f=>
 cases f with
 |cons rb f=>
 cases f;cases ra;cases rb;obtain⟨G,D,U,a0⟩:=j.list J;obtain⟨r,y,pm,u⟩:=j.list hr;have N:P<O.heap.objs.size:=by obtain⟨o,e,_⟩:=U.isList;exact aW e
 have Q:v<O.heap.objs.size:=by obtain⟨o,e,_⟩:=pm.isList;exact aW e
 refine call_zip_2 U.isList pm.isList λg M x C h1 h2 w hk=>?_;refine wpAny_pyIter_zip M ?_;have I2:Inv X B Z S { O with heap:=g }:=j.kept (t':=O.toks) hk;refine#[O.heap.objs.size+4,[O.heap.objs.size+4,O.heap.objs.size+2,O.heap.objs.size+3,O.heap.objs.size,O.heap.objs.size+1],_,Itz X.K P v,S,rfl,I2,jWW P v _ _ _ _ _ (He N Q),#[M,x,#[_,_,C],h1,h2],λc hc=>?_,q];have z:c=O.heap.objs.size+4∨c=O.heap.objs.size+2∨c=O.heap.objs.size+3∨c=O.heap.objs.size∨c=O.heap.objs.size+1:=by simpa using hc
 have i:O.heap.objs.size<=c:=by rcases z with rfl |rfl |rfl |rfl |rfl<;>lia
 exact j.fpOk i (j.hok.fresh i)
end
def for_zip{b:Addr}{g:TG}{D:rW}{Z:St}(h:Nat->St->Hp->Prop)(h0:h 0 Z H)(Y:∀i Z H,i<=xs.length->h i Z H->SqL K H a xs/\SqL K H b ys)(l:xs.length=ys.length)
  (hs:∀i x y p Z H,xs[i]?=some x->ys[i]?=some y->h i Z H->H p=none->g (.ref p) Z (upd H p (.tup [x,y])) λj M=>tb { D with nx:=h (i+1),ct:=h (i+1),bk:=D.nx } j M) (hd:∀Z H,h xs.length Z H->D.nx Z H):
  ∃W:Nat->Nat->St->Hp->Prop,(∃m,W 0 m Z H)/\∀i m Z H,W i m Z H->
   ((Itz K a b).stop i H/\D.nx Z H)∨((Itz K a b).go i H/\∃N:St->Hp->Prop,(∀P d,N P d->∃Q,Q<m/\W (i+1) Q P d)/\∀x d,(Itz K a b).yld i H x d->g x Z d λj M=>tb { D with nx:=N,ct:=N,bk:=D.nx } j M):=by
 refine#[λi m Z H=>m=xs.length-i/\i<=xs.length/\h i Z H,#[xs.length,by simp,dN _,h0],?_];rintro i m Z H ⟨rfl,hi,p⟩;obtain⟨q,r⟩:=Y i Z H hi p;by_cases f:i<xs.length
 .have n:i<ys.length:=#[];refine .inr #[#[xs,xs[i],ys,ys[i],q,by simp [f],r,by simp [n]],h (i+1),λP d k=>#[xs.length-(i+1),#[],rfl,f,k],λx d y=>?_];obtain⟨u,B,o,e1,C,O,X,v⟩:=y;subst e1 O;exact hs i B o u Z _ (X xs q) (v ys r) p C
 .have e:i=xs.length:=#[];subst e;exact .inl #[#[xs,ys,q,r,.inl (aM _)],hd Z H p]
section
variable{X:Cx}{pins:List (Addr×Obj)}{σ:List (Option V)}{H:Hp}{s:Shared}
def Xw{P:Program}{w:World}{u v:HO}(x:HOk P w H h)(e:H a=some u)(R:(∀F,u≠.tup F)/\∀y,u≠.own y)(new:jF P w H h a v):HOk P w (upd H a v) h:=by
 have D:∀b y,H b=some (.own y)->upd H a v b=some (.own y):=λb y q=>by
  rw[bY (λz=>by subst z;rw[e]at q;exact R.2 y (aV q))];exact q
 have d:∀b F,H b=some (.tup F)->upd H a v b=some (.tup F):=λb F q=>by
  rw[bY (λz=>by subst z;rw[e]at q;exact R.1 F (aV q))];exact q
 intro b o q;by_cases hb:b=a
 .subst hb;rw[aI]at q;cases q;exact new.stay (λ_ _ _ z=>z) (λc z=>D c _ z) d
 .rw[bY hb]at q;exact(x b o q).stay (λ_ _ _ z=>z) (λc z=>D c _ z) d
def Inv.freeze(I:Inv X pins σ H s)(e:H a=some (.dT kvs)):∃ob,s.heap.get? a=some ob/\Inv X pins σ (upd H a (.frz ob (.dT kvs))) s:=by
 have hx:=I.hok a _ e;obtain⟨_,_,_,_,ob,_,_,D,_⟩:=id hx;refine#[ob,D,?_];have ne:∀b,H b=none->b≠a:=λb q z=>by subst z;rw[e]at q;cases q
 refine I.step (s:=s) (h':=s.heap) (g':=s.gens) (d':=s.drawn) (t':=s.toks) (ch:=[]) (λ_ z=>nomatch z) (λ_ _ _ _ _ q _=>q) (λ_ o _ _ _ q _=>#[o.slots,q]) (λb _ _ _ q=>by rw[bY (ne b q)];exact q) (λ_ o _ q=>#[o,q])
  (λb F q=>by rw[bY (kS q e (by intro z;cases z))];exact q) (λb o u q=>by rw[bY (kS q e (by intro z;cases z))];exact q) (λb J q=>#[(List.toArray []),by rw[bY (kS q e (by intro z;cases z)),q];simp]) (λ_ q=>q) ?_ I.bare
 exact Xw I.hok e #[λ_ z=>(by cases z),λ_ z=>(by cases z)] #[D,hx]
def Inv.thaw(I:Inv X pins σ H s)(e:H a=some (.frz ob (.dT kvs)))(G:∀o u,X.H₀ a≠some (.frz o u)):Inv X pins σ (upd H a (.dT kvs)) s:=by
 have ne:∀b,H b=none->b≠a:=λb q z=>by subst z;rw[e]at q;cases q
 have off:∀b,H b=none->upd H a (.dT kvs) b=none:=λb q=>by rw[bY (ne b q)];exact q
 refine#[I.ok,I.os,I.bare,#[I.base.keep,I.base.slot,λb o q n hx=>off b (I.base.free b o q n hx),I.base.there,λb F q=>?_,λb o u q=>?_,λb J q=>?_],I.loc,I.cell,off _ I.free,λx c q=>off c (I.freeC x c q),λp hp=>?_,?_,I.len]
 .have z:=I.base.tups b F q;rw[bY (kS z e (by intro z;cases z))];exact z
 .have z:=I.base.frzs b o u q;have hb:b≠a:=λy=>by subst y;exact G o u q
  rw[bY hb];exact z
 .obtain⟨m,z⟩:=I.base.tbls b J q;exact#[m,by rw[bY (kS z e (by intro z;cases z))];exact z]
 .obtain⟨q,n,r⟩:=I.pin p hp;exact#[q,off _ n,r]
 .obtain⟨_,hx⟩:=I.hok a _ e;exact Xw I.hok e #[λ_ z=>(by cases z),λ_ z=>(by cases z)] hx
end
noncomputable def jZn(n:Addr->Prop)(D:rW):rW where
 nx:=λZ H=>∃a kvs ob,n a/\H a=some (.frz ob (.dT kvs))/\D.nx Z (upd H a (.dT kvs))
 rt:=λv H=>∃a kvs ob,n a/\H a=some (.frz ob (.dT kvs))/\D.rt v (upd H a (.dT kvs))
 bk:=λZ H=>∃a kvs ob,n a/\H a=some (.frz ob (.dT kvs))/\D.bk Z (upd H a (.dT kvs))
 ct:=λZ H=>∃a kvs ob,n a/\H a=some (.frz ob (.dT kvs))/\D.ct Z (upd H a (.dT kvs))
def KT.at{H:Hp}{kvs:List (List Key×V)}{xs:List (List Key×Addr×Value)}(r:KT H kvs xs):∀(i:Nat) p,kvs[i]?=some p->∃q,xs[i]?=some q/\p.1=q.1/\H q.2.1=some (.tup (p.1.map kV))/\fD p.2 q.2.2:=by
 induction r with
 |nil=>intro i p hp;simp at hp
 |@cons p q ps qs hq t ih=>
  intro i k hp;cases i with
  |zero=>simp at hp;subst hp;exact#[q,rfl,hq]
  |succ i=>exact ih i k (by simpa using hp)
structure jQ(FS scope:Scope)(N:List Str)(xs ys:List Str)(caps:List Nat):Prop where
 ncell:∀y∈scope.names,y.2≠.cell
 kind:scope.kind=.function
 names:∀y∈scope.names,y.2=.local->scope.names.lookup y.1=some .local
 fr:∀p∈scope.names,p.2=.free->FS.names.lookup p.1=some .cell
 fk:FS.kind=.function
 cap:∀p∈ys.zip caps,N[p.2]?=some p.1/\scope.names.lookup p.1=some .free
 len:ys.length=caps.length
def mD(J:It)(Z:St)(k:Nat)(caps:List Nat)(g:TG)(c:TE)(S:Hp)(fin:List V->Hp->Prop):Prop:=
 ∃(n:Nat)(W:Nat->List V->Hp->Prop),n<=sizeLine/\W 0 [] S/\∀i ys M,i<=n->ys.length=i->W i ys M->
  (J.stop i M/\fin ys M)∨(i<n/\J.go i M/\∀x U,J.yld i M x U->∀os:St,os.length=k->g x (os++cN Z caps) U λj w=>(∃h:St,h.length=k/\j=h++cN Z caps)/\c j w λy I=>W (i+1) (ys++ [y]) I)
def gY(q:TI)(k:Nat)(caps:List Nat)(g:TG)(c:TE):TE:=λZ H Q=>q Z H λJ S=>mD J Z k caps g c S λys M=>∀p,M p=none->Q (.ref p) (upd M p (.lst ys))
section
variable{X:Cx}{scope:Scope}{xs ys:List Str}{caps:List Nat}
def jQ.cells{B:List (Addr×Obj)}{Z:St}(S:jQ X.env.scope scope X.N xs ys caps)(I:Inv X B Z H s):∀p∈scope.names,p.2=.free->∃c,X.env.cells.lookup p.1=some c:=λp hp hf=>
 I.ok.has p.1 (.inl (S.fr p hp hf))
def jQ.sub{B:List (Addr×Obj)}{Z:St}(S:jQ X.env.scope scope X.N xs ys caps)(I:Inv X B Z H s){y:Str}{c:Addr}(e:(Ce X scope).lookup y=some c):X.env.cells.lookup y=some c:=
 Oy (S.cells I) (λp hp=>absurd hp (by simp)) (y,c) (PySem.mem_of_lookup e)
def Inv.enterG{B:List (Addr×Obj)}{Z:St}{a:Heap}{tk:Nat}{pl:List (Addr×Obj)}(S:jQ X.env.scope scope X.N xs ys caps)(t:X.calm=true)(I:Inv X B Z H s)
  (R:a.Ns s.heap.objs.size (λ_=>none)) (keep:∀b o,s.heap.get? b=some o->a.get? b=some o)
  (w:∀b∈ex,b<s.heap.objs.size/\b∉frs X.stack/\(∀y c,X.env.cells.lookup y=some c->c≠b)/\X.base.get? b=none)
  (a0:∀p∈pl,s.heap.get? p.1=some p.2/\H p.1=none/\p.1∉frs X.stack/\∀v,p.2.data≠.cell v):
  Inv (fG X scope (xs++ys) s H ex (X.pn++B)) pl (xs.map (λ_=>none)++cN Z caps) H { s with heap:=a,toks:=tk }:=by
 have hL:s.heap.objs.size≠X.env.locals:=Nat.ne_of_gt I.lt;have J:∀b o,s.heap.get? b=some o->b≠s.heap.objs.size:=λb o e=>bJ (aW e);have T:∀y c,X.env.cells.lookup y=some c->c<s.heap.objs.size:=λy c e=>by
  obtain⟨v,z⟩:=I.cell y c e;exact z.lt
 have x:∀{c:Addr}{v:Option Value},s.heap.IsCell c v->a.IsCell c v:=fun{c v}⟨o,D,hd⟩=>#[o,keep c o D,hd];refine#[#[I.ok.mod,S.kind,I.ok.glob,I.ok.blt,aM _,λy z c h1 h2=>I.ok.inj y z c (S.sub I h1) (S.sub I h2),λy d=>?_,λy c hf _=>?_,λ_=>I.ok.hd t,I.ok.frames,.inl rfl,λb hb=>?_,I.bs,cK I.ok.bsz I.sz,λb o e hb=>?_,λb hb=>(w b hb).2.1,I.stack,I.stkFree],
  rfl,I.bare,Un.kept keep,#[_,R,λi y v e1 C O=>?_],λy c e=>?_,I.hok.fresh (aM _),λy c e=>I.freeC y c (S.sub I e),λp hp=>?_,I.hok.kept keep,?_]
 .have f:(y,NameKind.free)∈scope.names:=Ol (env:=X.env) S.ncell (by
   rcases d with d |d
   .exact#[_,d,.inl rfl]
   .exact#[_,d,.inr rfl])
  exact tQ (Eg f)
 .exact absurd (show false=true from hf) bU
 .exact#[bJ (w b hb).1,λy c e=>(w b hb).2.2.1 y c (S.sub I e)]
 .have z:=(w b hb).2.2.2;have A:X.base.get? b=some o:=e;rw[z]at A;cases A
 .have G:(xs++ys)[i]?=some y:=e1;obtain⟨i,e1,C⟩:∃i',ys[i']?=some y/\(cN Z caps)[i']?=some (some v):=by
   by_cases hi:i<xs.length
   .rw[bV (by rw[aA];exact hi),aX,aD hi]at C;cases C
   .rw[bO #[]]at G;rw[bO (by rw[aA];lia),aA]at C;exact#[_,G,C]
  obtain⟨j,P,hv⟩:∃j,caps[i]?=some j/\Z[j]?=some (some v):=by
   unfold cN at C;rw[aX]at C;cases q:caps[i]? with
   |none=>rw[q]at C;cases C
   |some j=>
    rw[q]at C;have O:(Z[j]?).join=some v:=aV C;cases q2:Z[j]? with
    |none=>rw[q2]at O;cases O
    |some w'=>rw[q2]at O;exact#[j,rfl,by rw[show w'=some v from O]at q2;exact q2]
  have M:(y,j)∈ys.zip caps:=aL (i:=i) (by rw[List.getElem?_zip_eq_some];exact#[e1,P]);obtain⟨K,hf⟩:=S.cap (y,j) M;have h:X.env.kindOf y=some .cell:=S.fr (y,.free) (PySem.mem_of_lookup hf) rfl;obtain⟨m,hm,Y⟩:=I.loc;obtain⟨u,r,l⟩:=Y j y v K hv (.inr (.inl h));refine#[u,r,?_];rcases l with⟨hk,_⟩|⟨_,c,hc,g⟩
  .rw[h]at hk;cases hk
  .obtain⟨k,F⟩:=tQ (Eg (env:=X.env) (cs:=[]) (PySem.mem_of_lookup hf));have:=S.sub I F;rw[hc]at this;cases this;exact .inr #[.inl (Go S.fk hf h),c,F,x g]
 .obtain⟨v,z⟩:=I.cell y c (S.sub I e);exact#[v,x z]
 .rcases cW.mp hp with hp |hp
  .obtain⟨Q,U,a3,n,a5⟩:=I.pin p hp;exact#[keep _ _ Q,U,J _ _ Q,λz=>(eA.mp (I.stkSub p.1 z)).elim a3 n,a5]
  .obtain⟨Q,U,n,a5⟩:=a0 p hp;exact#[keep _ _ Q,U,J _ _ Q,n,a5]
 .show(xs.map (λ_=>none)++cN Z caps).length=(xs++ys).length;rw[bC,bC,aA,cN,aA,S.len]
end
def qS(J:It)(Z:St)(k:Nat)(caps:List Nat)(g:TG)(m:TT)(c:TE)(S:Hp)(fin:List V->Hp->Prop):Prop:=
 ∃(n:Nat)(W:Nat->List V->Hp->Prop),n<=sizeLine/\W 0 [] S/\∀i ys M,i<=n->ys.length<=i->W i ys M->
  (J.stop i M/\fin ys M)∨(i<n/\J.go i M/\∀x U,J.yld i M x U->∀os:St,os.length=k->g x (os++cN Z caps) U λj w=>(∃h:St,h.length=k/\j=h++cN Z caps)/\m j w λb I=>if b=true then c j I λy T=>W (i+1) (ys++ [y]) T else W (i+1) ys I)
def Vc(q:TI)(k:Nat)(caps:List Nat)(g:TG)(m:TT)(c:TE):TE:=λZ H Q=>q Z H λJ S=>qS J Z k caps g m c S λys M=>∀p,M p=none->Q (.ref p) (upd M p (.lst ys))
def tY:TT:=λ_ H Q=>Q true H
def PIs(X:Cx)(a:List Expr)(m:TT):Prop:=a=[]/\m=tY∨∃t,a=[t]/\PT X t m
def PIs.run{a:List Expr}{B:List (Addr×Obj)}{Z:St}{R:Bool->Hp->Prop}(h:PIs X a m)(I:Inv X B Z H s)(q:m Z H R):
  wpAny (model X.prog X.w) X.A (forIn a true λc r=>if r=true then do let ok ←isTrue c X.env (eval c X.env);pure (ForInStep.yield ok)else pure (ForInStep.yield r)) (TP X B Z R) X.xe s:=by
 rcases h with⟨rfl,rfl⟩|⟨t,rfl,p⟩
 .exact wpAny_tests_nil #[H,I,q]
 .exact wpAny_tests_one (p B s Z H R I q)
def pis0:PIs X [] tY:=.inl #[rfl,rfl]
def pis1{t:Expr}(h:PT X t m):PIs X [t] m:=.inr #[t,rfl,h]
section
variable{X:Cx}{scope:Scope}{xs ys:List Str}{caps:List Nat}{elt iter tg:Expr}{ifs:List Expr}{te:TE}{tt:TT}{g:TG}{pos:Pos}
def Sv{B:List (Addr×Obj)}{Z:St}{M:Hp}{F:Shared}{D:List Addr}{it:Addr}{tn:Nat->Heap->Prop}{E:Value->Shared->Prop}{fin:List V->Hp->Prop}{RR:Value->Addr->Result->Shared->Prop}
  (t:X.calm=true) (S:jQ X.env.scope scope X.N xs ys caps) (hg:∀s H ex pn,PG (fG X scope (xs++ys) s H ex pn) tg g) (hT:∀s H ex pn,PIs (fG X scope (xs++ys) s H ex pn) ifs tt) (l:∀s H ex pn,PE (fG X scope (xs++ys) s H ex pn) elt te)
  (I2:Inv X B Z M F) (T:Ua X.prog X.w X.K tg J D it tn) (d1:tn 0 F.heap) (f2:∀b∈D,Ue X B M b) (rd:qS J Z xs.length caps g tt te M fin)
  (f7:∀(C:Addr)(a7:List V)(G:List Value)(n:Nat)(H8:Hp)(s8:Shared)(m:Str->Option Value),C=F.heap.objs.size+1->Inv X B Z H8 s8->H8 F.heap.objs.size=none->H8 C=none->fF a7 G->a7.length<=sizeLine->
   s8.heap.get? F.heap.objs.size=some (Br G n)->s8.heap.Ns C m->fin a7 H8->RR (.ref F.heap.objs.size) C (.ok .next) s8):
  wpAny (model X.prog X.w) X.A (newList []) (λd2 a8=>wpAny (model X.prog X.w) X.A (newFunctionEnv scope X.env.globals (Ce X scope) [] X.env.qual none .none (some X.env)) (λb7 d3=>
   codeAny (model X.prog X.w) X.A (.compStart (.ListComp elt [#[tg,iter,ifs,0]] scope pos) 0 (.ref it) d2 { b7 with scope:=relabel scope X.env }) (RR d2 b7.locals) d3) E a8) E F:=by
 obtain⟨n0,W,h9,w0,turn⟩:=rd;refine wpAny_newObj_type (wpAny_newFunctionEnv S.ncell (by intro y hy;simp at hy) (λa c3 c4=>?_) S.kind);dsimp only at c3 c4⊢;generalize c5:F.heap.push { cls:=.type "list",dict:=none,data:=.seq ([]:List Value).toArray }=g3 at c3 c4⊢;have hC:g3.objs.size=F.heap.objs.size+1:=by rw[←c5,Heap.size_push]
 have d4:∀b o,F.heap.get? b=some o->g3.get? b=some o:=λb o e=>c5▸aS _ e;have I3:Inv X B Z M { F with heap:=g3 }:=I2.kept (t':=F.toks) d4;have keep:∀b o,g3.get? b=some o->a.get? b=some o:=λb o e=>c4.extBut b o (bJ (aW e)) (aS _ e);have d5:g3.get? F.heap.objs.size=some (Br [] 0):=c5▸bL _ rfl;have d6:F.heap.objs.size≠X.env.locals:=Nat.ne_of_gt I2.lt;have d7:F.heap.objs.size∉X.fs:=I2.nofs (aM _);have b8:F.heap.objs.size∉frs X.stack:=λz=>(eA.mp (I2.stkSub _ z)).elim d6 d7;have d9:∀y c,X.env.cells.lookup y=some c->c≠F.heap.objs.size:=λy c e=>by
  obtain⟨v,z⟩:=I2.cell y c e;exact bJ z.lt
 have e0:∀p∈X.pn++B,p.1≠F.heap.objs.size:=λp hp=>bJ (aW (I2.pin p hp).1);have c6:∀b∈D,b<F.heap.objs.size:=λb hb=>by
  obtain⟨o,e,_⟩:=T.obj _ _ d1 b hb;exact aW e
 have f8:X.base.objs.size<=X.s₀.heap.objs.size:=I2.ok.bsz;have c7:∀b∈F.heap.objs.size::D,(b∈X.ex∨X.s₀.heap.objs.size<=b)/\b≠X.env.locals/\(∀y c,X.env.cells.lookup y=some c->c≠b)/\∀p∈X.pn++B,p.1≠b:=λb hb=>by
  rcases eA.mp hb with rfl |hb
  .exact#[.inr I2.sz,d6,d9,e0]
  .obtain⟨a1,a2,a3,a4,a5,a6⟩:=f2 b hb;exact#[a4,a2,a5,a6]
 have c8:∀b∈F.heap.objs.size::D,b<g3.objs.size/\b∉frs X.stack/\(∀y c,X.env.cells.lookup y=some c->c≠b)/\X.base.get? b=none:=λb hb=>by
  have f9:b∉frs X.stack:=by
   rcases eA.mp hb with rfl |hb
   .exact b8
   .obtain⟨a1,a2,a3,a4,a5,a6⟩:=f2 b hb;exact λz=>(eA.mp (I2.stkSub _ z)).elim a2 a3
  have f:b<g3.objs.size:=by
   rw[hC];rcases eA.mp hb with rfl |hb
   .exact gK _
   .exact Nat.lt_succ_of_lt (c6 b hb)
  refine#[f,f9,(c7 b hb).2.2.1,?_];cases q:X.base.get? b with
  |none=>rfl
  |some o=>
   rcases(c7 b hb).1 with z |z
   .exact absurd z (I2.ok.noex b o q)
   .exact absurd (bQ (aW q) (cK f8 z)) (eW _)
 have g0:M F.heap.objs.size=none:=I2.hok.fresh (aM _);have I4:Inv (fG X scope (xs++ys) { F with heap:=g3 } M (F.heap.objs.size::D) (X.pn++B)) [(F.heap.objs.size,Br [] 0)] (xs.map (λ_=>none)++cN Z caps) M { F with heap:=a,toks:=F.toks+([]:List (Str×Value)).length }:=
  Inv.enterG S t I3 c3 keep c8 λp hp=>by
   have e:p=(F.heap.objs.size,Br [] 0):=by simpa using hp
   subst e;exact#[d5,g0,b8,λv z=>nomatch z]
 have e2:tn 0 a:=T.keep _ _ _ d1 λb hb o e=>keep b o (d4 b o e);generalize hY:fG X scope (xs++ys) { F with heap:=g3 } M (F.heap.objs.size::D) (X.pn++B)=Y at I4;have yP:Y.prog=X.prog:=by rw[←hY];rfl
 have yW:Y.w=X.w:=by rw[←hY];rfl
 have yK:Y.K=X.K:=by rw[←hY];rfl
 have yA:Y.A=X.A:=by rw[←hY];rfl
 have yC:Y.calm=true:=by rw[←hY];exact t
 have yX:Y.xe=λ_ _=>False:=by rw[←hY];rfl
 have yN:Y.N=xs++ys:=by rw[←hY];rfl
 have yE:Y.env=compEnvC scope (Ce X scope) g3.objs.size X.env:=by rw[←hY];rfl
 have e3:Y.ex=F.heap.objs.size::D:=by rw[←hY];rfl
 have e4:Y.pn=X.pn++B:=by rw[←hY];rfl
 have g1:Y.fs=frs X.stack:=by rw[←hY];rfl
 have c9:∀{pl P d U},Inv Y pl P d U->Un (frs X.stack) (F.heap.objs.size::D) M d g3 U.heap/\U.os=F.os:=by
  intro pl P d U I;rw[←hY]at I;exact#[I.base,I.os]
 have g4:PG Y tg g:=by rw[←hY];exact hg _ _ _ _
 have g5:PE Y elt te:=by rw[←hY];exact l _ _ _ _
 have g6:PIs Y ifs tt:=by rw[←hY];exact hT _ _ _ _
 have e5:∀y c,Y.env.cells.lookup y=some c->X.env.cells.lookup y=some c:=λy c e=>by
  rw[yE]at e;exact S.sub I2 e
 have e7:∀{d:Hp}{o:Obj},(∀b∈D,d b=none)->∀b∈D,Ue Y [(F.heap.objs.size,o)] d b:=fun{d o} R b hb=>by
  obtain⟨a1,a2,a3,a4,a5,a6⟩:=f2 b hb;refine#[R b hb,?_,?_,?_,λy c e=>a5 y c (e5 y c e),λp hp=>?_]
  .rw[yE];exact bJ (c8 b (bK _ hb)).1
  .rw[g1];exact(c8 b (bK _ hb)).2.1
  .rw[e3];exact .inl (bK _ hb)
  .rw[e4]at hp;rcases cW.mp hp with hp |hp
   .exact a6 p hp
   .have e:p=(F.heap.objs.size,o):=by simpa using hp
    subst e;exact Nat.ne_of_gt (c6 b hb)
 have b9:∀a8:Shared,a8={ F with heap:=a,toks:=F.toks+([]:List (Str×Value)).length }->
   codeAny (model X.prog X.w) X.A (.compLoop (.ListComp elt [#[tg,iter,ifs,0]] scope pos) 0 (.ref it) (.ref F.heap.objs.size) (compEnvC scope (Ce X scope) g3.objs.size X.env)) (RR (.ref F.heap.objs.size) g3.objs.size) a8:=by
  rintro a8 rfl;refine codeAny_loop rfl (λk U=>∃i a7 G a0 d os,os.length=xs.length/\k=n0+1-i/\Inv Y [(F.heap.objs.size,Br G a0)] (os++cN Z caps) d U/\tn i U.heap/\(∀b∈D,d b=none)/\fF a7 G/\a7.length<=i/\i<=n0/\W i a7 d) ?_ (n0+1)
   #[0,[],[],0,M,xs.map (λ_=>none),by rw[aA],rfl,I4,e2,λb hb=>(f2 b hb).1,.nil,aM _,dN _,w0]
  rintro k U ⟨i,a7,G,a0,d,os,g7,rfl,I',e8,g8,vv,e9,h0,hw⟩;show wpAny _ _ ((compTurn (.ListComp elt [#[tg,iter,ifs,0]] scope pos) 0 (.ref it) (.ref F.heap.objs.size) (compEnvC scope (Ce X scope) g3.objs.size X.env)).onRaise (λx=>do noteFrame x (compEnvC scope (Ce X scope) g3.objs.size X.env);theTreesLotGoes x)) _ _ U;refine wpAny_noted ?_;rw[compTurn_list];have c1:=e7 (o:=Br G a0) g8;rcases turn i a7 d h0 e9 hw with⟨stop,f1⟩|⟨f,go,step⟩
  .refine aC (wpAny_standAt (aC (thn (Q:=λr O=>r=none/\Inv Y [(F.heap.objs.size,Br G a0)] (os++cN Z caps) d O) ?_ λr O#[hr,j]=>?_)))
   .have:=T.done Y yP yW yK yC i _ U _ d (notedBy (model X.prog X.w) X.A (compEnvC scope (Ce X scope) g3.objs.size X.env) λe U=>RR (.ref F.heap.objs.size) g3.objs.size (.error e) U) I' c1 e8 stop;rw[yA]at this;exact this
   .subst hr;refine aU ?_;obtain⟨ub,uo⟩:=c9 j;obtain⟨m,hm,_⟩:=j.loc;obtain⟨p1,p2,_⟩:=j.pin (F.heap.objs.size,Br G a0) (cY _ bT);have hok:HOk X.prog X.w d O.heap:=by have:=j.hok;rw[yP,yW]at this;exact this
    have f3:=j.free;rw[yE]at hm f3;refine f7 g3.objs.size a7 G a0 d O m hC (I3.call' uo ub hok j.bare c7) p2 f3 vv #[] p1 hm f1
  .refine aC (wpAny_standAt (aC (thn (Q:=λr O=>∃u,r=some u/\wpAny (model X.prog X.w) X.A (letOwnedTupleGo tg (.ref it) u) (λ_ s5=>∃x H5,Inv Y [(F.heap.objs.size,Br G a0)] (os++cN Z caps) H5 s5/\fD x u/\J.yld i d x H5/\tn (i+1) s5.heap/\∀b∈D,H5 b=none)
     (notedBy (model X.prog X.w) X.A (compEnvC scope (Ce X scope) g3.objs.size X.env) λe U=>RR (.ref F.heap.objs.size) g3.objs.size (.error e) U) O) ?_ λr O#[u,hr,h4]=>?_)))
   .have:=T.item Y yP yW yK yC i _ U _ d (notedBy (model X.prog X.w) X.A (compEnvC scope (Ce X scope) g3.objs.size X.env) λe U=>RR (.ref F.heap.objs.size) g3.objs.size (.error e) U) I' c1 e8 go;rw[yA]at this;exact this
   .subst hr;refine aC (thn h4 λ_ s5#[xv,H5,I5,r5,y5,b0,h5]=>?_);have h6:=I5.pinned (e7 h5) (T.obj _ _ b0);have f4:=g4 _ s5 _ H5 xv u _ h6 r5 (step xv H5 y5 os g7);rw[yP,yW,yA,yE]at f4;refine aC (nxE yX f4 λ_ s6#[i0,H6,I6,#[h,c2,e6],t6]=>?_);subst e6;have tv:=g6.run I6 t6;rw[yP,yW,yA,yE]at tv;refine aC (nxE yX tv λok f5#[H7,b3,w6]=>?_);have i1:=vv.length;cases ok with
    |false=>
     rw[aF bU]at w6;rw[aF bU];obtain⟨zD,b5,a9,b4,_⟩:=b3.pin (F.heap.objs.size,Br G a0) (cY _ (iO _ bT));have I9:Inv Y [(F.heap.objs.size,Br G a0)] (h++cN Z caps) H7 f5:=b3.pins_of λp hp=>by
      have e:p=(F.heap.objs.size,Br G a0):=by simpa using hp
      subst e;exact#[zD,b5,a9,b4,(λv z=>nomatch z)]
     refine aU #[rfl,n0+1-(i+1),#[],i+1,a7,G,a0,H7,h,c2,rfl,I9,?_,?_,vv,#[],f,w6]
     .refine T.keep _ _ _ b0 λb hb ob e=>?_;exact(b3.pin (b,ob) (cY _ (cY _ (nY hb e)))).1
     .intro b hb;obtain⟨ob,e,_⟩:=T.obj _ _ b0 b hb;exact(b3.pin (b,ob) (cY _ (cY _ (nY hb e)))).2.1
    |true=>
     rw[aJ rfl]at w6;rw[aJ rfl];have ev:=g5 _ f5 _ H7 _ b3 w6;rw[yP,yW,yA,yE]at ev;refine aC (aC (nxE yX ev λyv s7#[y,H8,I7,r7,w7]=>?_));obtain⟨zD,b5,a9,b4,_⟩:=I7.pin (F.heap.objs.size,Br G a0) (cY _ (iO _ bT));refine aC (append_at zD (λh8 f6 d8=>aU (aU #[rfl,?_])) (by rw[bM];lia));have h7:Inv Y [] (h++cN Z caps) H8 s7:=I7.pins_of λp hp=>nomatch hp
     have I8:Inv Y [] (h++cN Z caps) H8 { s7 with heap:=h8 }:=h7.turned (t':=s7.toks) (λb ob hb e=>(f6.2 b hb).trans e) b5 a9 (.inl (by rw[e3];exact bT)) (λy c e=>d9 y c (e5 y c e)) (λp hp=>by
      rw[e4,cA]at hp;exact e0 p hp)
     have I9:Inv Y [(F.heap.objs.size,Br (G++ [yv]) (a0+1))] (h++cN Z caps) H8 { s7 with heap:=h8 }:=I8.pins_of λp hp=>by
      have e:p=(F.heap.objs.size,Br (G++ [yv]) (a0+1)):=by simpa using hp
      subst e;refine#[?_,b5,a9,b4,λv z=>nomatch z]
      show h8.get? F.heap.objs.size=some { cls:=.type "list",data:=.seq (G++ [yv]).toArray (a0+1) };rw[d8,List.push_toArray]
     refine#[n0+1-(i+1),#[],i+1,a7++ [y],G++ [yv],a0+1,H8,h,c2,rfl,I9,?_,?_,vv.append (.cons r7 .nil),by rw[bC];show a7.length+1<=i+1;lia,f,w7]
     .refine T.keep _ _ _ b0 λb hb ob e=>(f6.2 b (bJ (c6 b hb))).trans ?_;exact(I7.pin (b,ob) (cY _ (cY _ (nY hb e)))).1
     .intro b hb;obtain⟨ob,e,_⟩:=T.obj _ _ b0 b hb;exact(I7.pin (b,ob) (cY _ (cY _ (nY hb e)))).2.1
 exact codeAny_compStart_list (b9 _ rfl) (T.self _ 0 _ _ _ e2 (b9 _ rfl))
def Fe{q:TI}{RD:St->VK->It->Hp->Prop}(a0:∀Z Q J H1,RD Z Q J H1->qS J Z xs.length caps g tt te H1 λys M=>∀p,M p=none->Q (.ref p) (upd M p (.lst ys))){a:Scope}(j:jQ a scope N xs ys caps)(r:X.env.scope=a)(u:X.N=N)(t:X.calm=true)(hi:PI X tg iter q)(hT:∀s H ex pn,PIs (fG X scope (xs++ys) s H ex pn) ifs tt)(hg:∀s H ex pn,PG (fG X scope (xs++ys) s H ex pn) tg g)(l:∀s H ex pn,PE (fG X scope (xs++ys) s H ex pn) elt te)
  (hs:∀v,foldedSetIterable iter X.env v=pure v:=by intro _;rfl):PE X (.ListComp elt [#[tg,iter,ifs,0]] scope pos) (λZ H Q=>q Z H (RD Z Q)):=by
 have S:jQ X.env.scope scope X.N xs ys caps:=by rw[r,u];exact j
 intro B s Z H Q I h;rw[eval_ListComp];refine wpAny_comprehension_free (use:=none) rfl hs (Cs (S.cells I)) S.kind S.names (thn (hi B s Z H _ I h) λv O h1=>thn h1 λa4 F h2=>?_);obtain⟨it,D,i,J,M,rfl,k,T,Y,f2,rd⟩:=h2;refine Sv (RR:=λd C=>compPost (model X.prog X.w) X.A X.xe none (EP X B Z Q) d C) t S hg hT l k T Y f2 (a0 _ _ _ _ rd) ?_;intro C f G n x s8 m P I8 K a1 vv hz oD R fin;refine#[m,R,λU sb=>?_];have sz:=k.sz;have lt:=k.lt;have ap:∀b:Addr,b<F.heap.objs.size->b≠C/\C≠b:=λb hb=>by
  subst P;exact#[bJ (Nat.lt_succ_of_lt hb),Nat.ne_of_gt (Nat.lt_succ_of_lt hb)]
 have a2:X.s₀.heap.objs.size<=C:=by subst P;exact Nat.le_succ_of_le sz
 have DC:F.heap.objs.size≠C:=by subst P;exact bJ (gK _)
 have cl:∀y c,X.env.cells.lookup y=some c->c<F.heap.objs.size:=λy c e=>by
  obtain⟨w',z⟩:=k.cell y c e;exact z.lt
 have pl:∀p∈X.pn++B,p.1<F.heap.objs.size:=λp hp=>aW (k.pin p hp).1;have I9:Inv X B Z x { s8 with heap:=U }:=I8.turned (t':=s8.toks) (λb o hb e=>(sb.2 b hb).trans e) a1 (ap _ lt).2 (.inr a2) (λy c e=>(ap c (cl y c e)).1) (λp hp=>(ap p.1 (pl p hp)).1);have a3:U.get? F.heap.objs.size=some (Br G n):=(sb.2 _ DC).trans oD;exact#[.ref F.heap.objs.size,upd x F.heap.objs.size (.lst f),I9.adopt K sz (Nat.ne_of_gt lt) (λy c e=>bJ (cl y c e)) (λp hp=>bJ (pl p hp)) #[hz,G,n,vv,a3],rfl,fin _ K]
def zY{q:TI}{RD:St->VK->It->Hp->Prop}(a0:∀Z Q J H1,RD Z Q J H1->qS J Z xs.length caps g tt te H1 λys M=>∀p,M p=none->Q (.ref p) (upd M p (.lst ys))){FS:Scope}{y:Str}{py P:Pos}(j:jQ FS scope N xs ys caps)(r:X.env.scope=FS)(u:X.N=N)(t:X.calm=true)(K:X.N.Nodup)(d:X.N[i]?=some y)(Y:Loc X.env.scope y)(hi:PI X tg iter q)(hT:∀s H ex pn,PIs (fG X scope (xs++ys) s H ex pn) ifs tt)(hg:∀s H ex pn,PG (fG X scope (xs++ys) s H ex pn) tg g)(l:∀s H ex pn,PE (fG X scope (xs++ys) s H ex pn) elt te)
  (a1:swapsWith (.ListComp elt [#[tg,iter,ifs,0]] scope pos) (some (.Name y py)) P.line X.env=pure true:=by rfl)
  (hs:∀v,foldedSetIterable iter X.env v=pure v:=by intro _;rfl) (hf:X.fn y=true∨X.env.scope.names.lookup y=some .local:=by first |exact .inl rfl |exact .inr rfl |assumption):
  PS X (.Assign [.Name y py] (.ListComp elt [#[tg,iter,ifs,0]] scope pos) P) (cT (λZ H Q=>q Z H (RD Z Q)) (aZ i)):=by
 have S:jQ X.env.scope scope X.N xs ys caps:=by rw[r,u];exact j
 intro B s Z H D I h;rw[exec_Assign_Name_used _ _ _ _ a1];refine aC (wpAny_standAt (aC ?_));show wpAny _ X.A (do let _ ←comprehension (.ListComp elt [#[tg,iter,ifs,0]] scope pos) scope X.env _ (newList []) false (eval iter X.env) (some (assign (.Name y py) X.env))) _ _ s;refine aC (wpAny_mono (wpAny_comprehension_free (use:=some (assign (.Name y py) X.env)) (Q:=λ_ U=>SP X B D .next U) rfl hs (Cs (S.cells I)) S.kind S.names
  (thn (hi B s Z H _ I h) λv O h1=>thn h1 λa8 F h2=>?_)) (λ_ U hq=>aU (aU hq)) λ_ _ e=>e)
 obtain⟨it,fp,tn,J,M,rfl,k,T,a2,f2,rd⟩:=h2;refine Sv (RR:=λa3 C=>compPost (model X.prog X.w) X.A X.xe (some (assign (.Name y py) X.env)) (λ_ U=>SP X B D .next U) a3 C) t S hg hT l k T a2 f2 (a0 _ _ _ _ rd) ?_;intro C f G n x s8 m hC I8 hD a4 vv hz oD R fin;have sz:=k.sz;have lt:=k.lt;have ap:∀b:Addr,b<F.heap.objs.size->b≠C/\C≠b:=λb hb=>by
  subst hC;exact#[bJ (Nat.lt_succ_of_lt hb),Nat.ne_of_gt (Nat.lt_succ_of_lt hb)]
 have a5:X.s₀.heap.objs.size<=C:=by subst hC;exact Nat.le_succ_of_le sz
 have DC:C≠F.heap.objs.size:=by subst hC;exact Nat.ne_of_gt (gK _)
 have cl:∀y c,X.env.cells.lookup y=some c->c<F.heap.objs.size:=λy c e=>by
  obtain⟨w',z⟩:=k.cell y c e;exact z.lt
 have pl:∀p∈X.pn++B,p.1<F.heap.objs.size:=λp hp=>aW (k.pin p hp).1;have I9:Inv X B Z (upd x F.heap.objs.size (.lst f)) s8:=I8.adopt hD sz (Nat.ne_of_gt lt) (λy c e=>bJ (cl y c e)) (λp hp=>bJ (pl p hp)) #[hz,G,n,vv,oD];show wpAny (model X.prog X.w) X.A (assign (.Name y py) X.env (.ref F.heap.objs.size)) _ _ s8;refine wpAny_assign_Name (Rt (v:=.ref F.heap.objs.size) I9 K d Y rfl (λs9 a6#[a,sa,ha]=>?_) hf);have a7:C≠a:=by
  rcases ha with rfl |e
  .exact(ap _ lt).2
  .exact(ap _ (cl _ _ e)).2
 refine#[m,R.sameBut sa a7,λh' sb=>#[_,_,a6.turned (t':=s9.toks) (λb o hb e=>(sb.2 b hb).trans e) ?_ (ap _ lt).2 (.inr a5) (λy c e=>(ap c (cl y c e)).1) (λp hp=>(ap p.1 (pl p hp)).1),fin _ hD]];rw[bY DC];exact a4
def oX{X:Cx}{scope:Scope}{a:List Str}{pn:List (Addr×Obj)}{x:Str}{T:Pos}(K:a.Nodup)(hi:a[i]?=some x)(hx:scope.names.lookup x=some .local):PG (fG X scope a s H ex pn) (.Name x T) (aZ i):=
 jZ5 (X:=fG X scope a s H ex pn) K hi (.inl (lookup_relabel_local hx)) (.inr (lookup_relabel_local hx))
def sS.toG{a:Scope}{x:Str}(S:sS a scope N x ys caps):jQ a scope N [x] ys caps:=#[S.ncell,S.kind,S.names,S.fr,S.fk,S.cap,S.len]
def vS.toG{Z:St}{te:TE}{S:Hp}{fin:List V->Hp->Prop}:vS J Z caps te S fin->mD J Z 1 caps (aZ 0) te S fin:=by
 rintro⟨n,W,R,c,h⟩;refine#[n,W,R,c,λi ys M hi d hw=>?_];rcases h i ys M hi d hw with z |⟨z1,z2,z3⟩
 .exact .inl z
 .refine .inr #[z1,z2,λx U y os D=>?_]
  match os,D with
  | [o],_=>exact#[#[[some x],rfl,rfl],z3 x U y]
def mD.toT{Z:St}{S:Hp}{fin:List V->Hp->Prop}:mD J Z k caps g te S fin->qS J Z k caps g tY te S fin:=by
 rintro⟨n,W,R,c,h⟩;refine#[n,λi ys H=>ys.length=i/\W i ys H,R,#[rfl,c],λi ys M hi _#[d,hw]=>(h i ys M hi d hw).imp id fun⟨I,b,a⟩=>#[I,b,λx U y os D=>?_]];have e:(fun(y:V)(H:Hp)=>(ys++ [y]).length=i+1/\W (i+1) (ys++ [y]) H)=λy H=>W (i+1) (ys++ [y]) H:=funext λy=>funext λH=>propext #[And.right,λw=>#[by rw[bC,d];rfl,w]];show g x _ U λj f=>_/\te j f λy H=>(ys++ [y]).length=i+1/\W (i+1) (ys++ [y]) H;rw[e];exact a x U y os D
def oQ.toT{Z:St}{S:Hp}{fin:List V->Hp->Prop}:oQ J Z caps tt te S fin->qS J Z 1 caps (aZ 0) tt te S fin:=by
 rintro⟨n,W,R,c,h⟩;refine#[n,W,R,c,λi ys M hi d hw=>(h i ys M hi d hw).imp id fun⟨I,b,a⟩=>#[I,b,λx U y os D=>?_]]
 match os,D with
 | [o],_=>exact#[#[[some x],rfl,rfl],a x U y]
end
section
variable{X:Cx}{scope:Scope}{xs ys:List Str}{caps:List Nat}{elt iter tg tst:Expr}{te:TE}{tt:TT}{g:TG}{pos:Pos}{x:Str}{px:Pos}
def jWr{q:TI}{a:Scope}(j:jQ a scope N xs ys caps)(r:X.env.scope=a)(u:X.N=N)(t:X.calm=true)(hi:PI X tg iter q)(hg:∀s H ex pn,PG (fG X scope (xs++ys) s H ex pn) tg g)(l:∀s H ex pn,PE (fG X scope (xs++ys) s H ex pn) elt te)
  (hs:∀v,foldedSetIterable iter X.env v=pure v:=by intro _;rfl):PE X (.ListComp elt [#[tg,iter,[],0]] scope pos) (gY q xs.length caps g te):=Fe (λ_ _ _ _ h=>mD.toT h) j r u t hi (λ_ _ _ _=>pis0) hg l hs
def Yy{q:TI}{a:Scope}{y:Str}{b P:Pos}(j:jQ a scope N xs ys caps)(r:X.env.scope=a)(u:X.N=N)(t:X.calm=true)(K:X.N.Nodup)(d:X.N[i]?=some y)(Y:Loc X.env.scope y)(hi:PI X tg iter q)(hg:∀s H ex pn,PG (fG X scope (xs++ys) s H ex pn) tg g)(l:∀s H ex pn,PE (fG X scope (xs++ys) s H ex pn) elt te)
  (c:swapsWith (.ListComp elt [#[tg,iter,[],0]] scope pos) (some (.Name y b)) P.line X.env=pure true:=by rfl)
  (hs:∀v,foldedSetIterable iter X.env v=pure v:=by intro _;rfl) (hf:X.fn y=true∨X.env.scope.names.lookup y=some .local:=by first |exact .inl rfl |exact .inr rfl |assumption):
  PS X (.Assign [.Name y b] (.ListComp elt [#[tg,iter,[],0]] scope pos) P) (cT (gY q xs.length caps g te) (aZ i)):=zY (RD:=λZ Q J S=>mD J Z xs.length caps g te S λys M=>∀p,M p=none->Q (.ref p) (upd M p (.lst ys))) (λ_ _ _ _ h=>mD.toT h) j r u t K d Y hi (λ_ _ _ _=>pis0) hg l c hs hf
def pe_comp{q:TI}{a:Scope}(j:sS a scope N x ys caps)(r:X.env.scope=a)(u:X.N=N)(t:X.calm=true)(hi:PI X (.Name x px) iter q)(l:∀s H ex pn,PE (fG X scope (x::ys) s H ex pn) elt te)
  (hs:∀v,foldedSetIterable iter X.env v=pure v:=by intro _;rfl):PE X (.ListComp elt [#[.Name x px,iter,[],0]] scope pos) (dQ q caps te):=Fe (xs:=[x]) (g:=aZ 0) (λ_ _ _ _ h=>mD.toT (vS.toG h)) j.toG r u t hi (λ_ _ _ _=>pis0) (λ_ _ _ _=>oX j.nd rfl j.loc) l hs
def jJx{q:TI}{a:Scope}{y:Str}{b P:Pos}(j:sS a scope N x ys caps)(r:X.env.scope=a)(u:X.N=N)(t:X.calm=true)(K:X.N.Nodup)(d:X.N[i]?=some y)(Y:Loc X.env.scope y)(hi:PI X (.Name x px) iter q)(l:∀s H ex pn,PE (fG X scope (x::ys) s H ex pn) elt te)
  (c:swapsWith (.ListComp elt [#[.Name x px,iter,[],0]] scope pos) (some (.Name y b)) P.line X.env=pure true:=by rfl)
  (hs:∀v,foldedSetIterable iter X.env v=pure v:=by intro _;rfl) (hf:X.fn y=true∨X.env.scope.names.lookup y=some .local:=by first |exact .inl rfl |exact .inr rfl |assumption):
  PS X (.Assign [.Name y b] (.ListComp elt [#[.Name x px,iter,[],0]] scope pos) P) (cT (dQ q caps te) (aZ i)):=zY (RD:=λZ Q J S=>vS J Z caps te S λys M=>∀p,M p=none->Q (.ref p) (upd M p (.lst ys))) (xs:=[x]) (g:=aZ 0) (λ_ _ _ _ h=>mD.toT (vS.toG h)) j.toG r u t K d Y hi (λ_ _ _ _=>pis0) (λ_ _ _ _=>oX j.nd rfl j.loc) l c hs hf
def jWq{q:TI}{a:Scope}(j:sS a scope N x ys caps)(r:X.env.scope=a)(u:X.N=N)(t:X.calm=true)(hi:PI X (.Name x px) iter q)(B:∀s H ex pn,PT (fG X scope (x::ys) s H ex pn) tst tt)(l:∀s H ex pn,PE (fG X scope (x::ys) s H ex pn) elt te)
  (hs:∀v,foldedSetIterable iter X.env v=pure v:=by intro _;rfl):PE X (.ListComp elt [#[.Name x px,iter,[tst],0]] scope pos) (jX q caps tt te):=Fe (xs:=[x]) (g:=aZ 0) (λ_ _ _ _ h=>oQ.toT h) j.toG r u t hi (λ_ _ _ _=>pis1 (B _ _ _ _)) (λ_ _ _ _=>oX j.nd rfl j.loc) l hs
def Yx{q:TI}{a:Scope}{y:Str}{b P:Pos}(j:sS a scope N x ys caps)(r:X.env.scope=a)(u:X.N=N)(t:X.calm=true)(K:X.N.Nodup)(d:X.N[i]?=some y)(Y:Loc X.env.scope y)(hi:PI X (.Name x px) iter q)(B:∀s H ex pn,PT (fG X scope (x::ys) s H ex pn) tst tt)(l:∀s H ex pn,PE (fG X scope (x::ys) s H ex pn) elt te)
  (c:swapsWith (.ListComp elt [#[.Name x px,iter,[tst],0]] scope pos) (some (.Name y b)) P.line X.env=pure true:=by rfl)
  (hs:∀v,foldedSetIterable iter X.env v=pure v:=by intro _;rfl) (hf:X.fn y=true∨X.env.scope.names.lookup y=some .local:=by first |exact .inl rfl |exact .inr rfl |assumption):
  PS X (.Assign [.Name y b] (.ListComp elt [#[.Name x px,iter,[tst],0]] scope pos) P) (cT (jX q caps tt te) (aZ i)):=zY (RD:=λZ Q J S=>oQ J Z caps tt te S λys M=>∀p,M p=none->Q (.ref p) (upd M p (.lst ys))) (xs:=[x]) (g:=aZ 0) (λ_ _ _ _ h=>oQ.toT h) j.toG r u t K d Y hi (λ_ _ _ _=>pis1 (B _ _ _ _)) (λ_ _ _ _=>oX j.nd rfl j.loc) l c hs hf
def jYj{q:TI}{a:Scope}(j:jQ a scope N xs ys caps)(r:X.env.scope=a)(u:X.N=N)(t:X.calm=true)(hi:PI X tg iter q)(hg:∀s H ex pn,PG (fG X scope (xs++ys) s H ex pn) tg g)(B:∀s H ex pn,PT (fG X scope (xs++ys) s H ex pn) tst tt)(l:∀s H ex pn,PE (fG X scope (xs++ys) s H ex pn) elt te)
  (hs:∀v,foldedSetIterable iter X.env v=pure v:=by intro _;rfl):PE X (.ListComp elt [#[tg,iter,[tst],0]] scope pos) (Vc q xs.length caps g tt te):=Fe (λ_ _ _ _ h=>h) j r u t hi (λ_ _ _ _=>pis1 (B _ _ _ _)) hg l hs
end
noncomputable def Xa(K:aR):List V->Hp->VK->Prop:=λxs H Q=>∃p ns,xs=[.ref p]/\SqL K H p (List.map V.int ns)/\ns≠[]/\∀M,M∈ns->(∀a∈ns,a<=M)->Q (.int M) H
noncomputable def Ma(K:aR):List V->Hp->VK->Prop:=λxs H Q=>∃p ns,xs=[.ref p]/\SqL K H p (List.map V.int ns)/\ns≠[]/\∀M,M∈ns->(∀a∈ns,M<=a)->Q (.int M) H
def fF.ints:∀{ns:List Int}{us:List Value},fF (List.map V.int ns) us->∃F:List (Int×Tok),us=F.map (λp=>Value.int p.1 p.2)/\F.map (·.1)=ns
 | [],_,h=>by cases h;exact#[[],rfl,rfl]
 |n::ns,_,h=>by
  cases h with
  |cons r t=>
   obtain⟨tk,rfl⟩:=r;obtain⟨F,e1,C⟩:=fF.ints t;exact#[(n,tk)::F,by rw[e1];rfl,by rw[bR,C]]
def uD{xs:List (Int×Tok)}{ns:List Int}(e:xs.map (·.1)=ns)(i:Nat)(h:i<ns.length):∃n,ns[i]?=some n/\numAt xs.toArray i=n:=by
 have hx:i<xs.length:=by rw[←e,aA]at h;exact h
 refine#[xs[i].1,by rw[←e,aX,aD hx];rfl,?_];unfold numAt;rw[List.getElem?_toArray,aD hx];rfl
section
variable{X:Cx}
def Sy(hc:X.calm=true):pU X (.builtin "max") (Xa X.K):=by
 rintro B s Z H F R Q I r ⟨p,ns,rfl,J,O,q⟩;obtain⟨u,rfl,k⟩:=xZ r;cases k;obtain⟨G,D,g,e⟩:=I.list J;obtain⟨d,e1,C⟩:=D.ints;have Y:d.length=ns.length:=by rw[←C,aA]
 have c:0<ns.length:=List.length_pos_iff.mpr O;have o:G.toArray=intItems d.toArray:=by rw[e1];unfold intItems;simp
 have b:=g.isList;rw[o]at b;refine max_intList (I.ok.hd hc) b (by rw[bM];lia) λv U tk hv hk=>?_;obtain⟨t,rfl⟩:=intItems_at hv;obtain⟨N,g2⟩:=argBest_gt (numAt d.toArray) (d.toArray.size-1);rw[bM]at N g2⊢;obtain⟨M,m1,m2⟩:=uD C (argBest (λi j=>decide (numAt d.toArray i>numAt d.toArray j)) (d.length-1)) #[];rw[m2]at g2⊢;refine#[.int M,H,I.kept hk,#[_,rfl],q M (aL m1) λa ha=>?_];obtain⟨j,P,f⟩:=List.getElem_of_mem ha;obtain⟨n,n1,n2⟩:=uD C j P;rw[aD P,f]at n1;cases n1;rw[←n2];exact g2 j #[]
def Iq(hc:X.calm=true):pU X (.builtin "min") (Ma X.K):=by
 rintro B s Z H F R Q I r ⟨p,ns,rfl,J,O,q⟩;obtain⟨u,rfl,k⟩:=xZ r;cases k;obtain⟨G,D,g,e⟩:=I.list J;obtain⟨d,e1,C⟩:=D.ints;have Y:d.length=ns.length:=by rw[←C,aA]
 have c:0<ns.length:=List.length_pos_iff.mpr O;have o:G.toArray=intItems d.toArray:=by rw[e1];unfold intItems;simp
 have b:=g.isList;rw[o]at b;refine min_intList (I.ok.hd hc) b (by rw[bM];lia) λv U tk hv hk=>?_;obtain⟨t,rfl⟩:=intItems_at hv;obtain⟨N,g2⟩:=argBest_lt (numAt d.toArray) (d.toArray.size-1);rw[bM]at N g2⊢;obtain⟨M,m1,m2⟩:=uD C (argBest (λi j=>decide (numAt d.toArray i<numAt d.toArray j)) (d.length-1)) #[];rw[m2]at g2⊢;refine#[.int M,H,I.kept hk,#[_,rfl],q M (aL m1) λa ha=>?_];obtain⟨j,P,f⟩:=List.getElem_of_mem ha;obtain⟨n,n1,n2⟩:=uD C j P;rw[aD P,f]at n1;cases n1;rw[←n2];exact g2 j #[]
end
def Ef{Z:St}{S:Hp}{fin:List V->Hp->Prop}(W:Nat->List V->Hp->Prop)(hz:xs.length<=sizeLine)(h0:W 0 [] S)(Y:∀i T H,i<=xs.length->W i T H->SqL K H a xs)
  (hs:∀i x T H,xs[i]?=some x->T.length<=i->W i T H->m (some x::cN Z caps) H λb w=>if b=true then c (some x::cN Z caps) w λy I=>W (i+1) (T++ [y]) I else W (i+1) T w) (hd:∀T H,W xs.length T H->fin T H):oQ (Itl K a) Z caps m c S fin:=by
 refine#[xs.length,W,hz,h0,λi T M hi d hw=>?_];have q:=Y i T M hi hw;by_cases f:i<xs.length
 .refine .inr #[f,#[xs,xs[i],q,by simp [f]],λx U y=>?_];obtain⟨e,y⟩:=y;subst e;exact hs i x T _ (y xs q) d hw
 .have e:i=xs.length:=#[];subst e;exact .inl #[#[xs,q,aM _],hd T M hw]
noncomputable def eqN(n:Int):Value->Bool
 | .int a _=>a==n
 |_=>false
def lM{b:Addr}{Z:St}{g:TG}{S:Hp}{fin:List V->Hp->Prop}(W:Nat->List V->Hp->Prop)(hz:xs.length<=sizeLine)(l:xs.length=ys.length)(h0:W 0 [] S)(Y:∀i N H,i<=xs.length->W i N H->SqL K H a xs/\SqL K H b ys)
  (hs:∀i x y p N H,xs[i]?=some x->ys[i]?=some y->N.length=i->W i N H->H p=none->∀os:St,os.length=k->g (.ref p) (os++cN Z caps) (upd H p (.tup [x,y])) λj w=>(∃h:St,h.length=k/\j=h++cN Z caps)/\c j w λz I=>W (i+1) (N++ [z]) I)
  (hd:∀N H,N.length=xs.length->W xs.length N H->fin N H):mD (Itz K a b) Z k caps g c S fin:=by
 refine#[xs.length,W,hz,h0,λi N M hi d hw=>?_];obtain⟨q,r⟩:=Y i N M hi hw;by_cases f:i<xs.length
 .have n:i<ys.length:=#[];refine .inr #[f,#[xs,xs[i],ys,ys[i],q,by simp [f],r,by simp [n]],λx U y os D=>?_];obtain⟨u,B,o,e1,C,O,X,v⟩:=y;subst e1 O;exact hs i B o u N _ (X xs q) (v ys r) d hw C os D
 .have e:i=xs.length:=#[];subst e;exact .inl #[#[xs,ys,q,r,.inl (aM _)],hd N M d hw]
def jZi{Z:St}{g:TG}{S:Hp}{fin:List V->Hp->Prop}(W:Nat->List V->Hp->Prop)(hz:xs.length<=sizeLine)(h0:W 0 [] S)(Y:∀i N H,i<=xs.length->W i N H->SqL K H a xs)
  (hs:∀i x p N H,xs[i]?=some x->N.length=i->W i N H->H p=none->∀os:St,os.length=k->g (.ref p) (os++cN Z caps) (upd H p (.tup [.int i,x])) λj w=>(∃h:St,h.length=k/\j=h++cN Z caps)/\c j w λz I=>W (i+1) (N++ [z]) I)
  (hd:∀N H,N.length=xs.length->W xs.length N H->fin N H):mD (Ite K a) Z k caps g c S fin:=by
 refine#[xs.length,W,hz,h0,λi N M hi d hw=>?_];have q:=Y i N M hi hw;by_cases f:i<xs.length
 .refine .inr #[f,#[xs,xs[i],q,by simp [f]],λx U y os D=>?_];obtain⟨u,z,e1,C,O,y⟩:=y;subst e1 O;exact hs i z u N _ (y xs q) d hw C os D
 .have e:i=xs.length:=#[];subst e;exact .inl #[#[xs,q,aM _],hd N M d hw]
def Kq:R2:=λx y H Q=>y=.non/\Q (.bl (decide (x=.non))) H
def Ww:R2:=λx y H Q=>y=.non/\Q (.bl (!decide (x=.non))) H
def jVY{b:Addr}{g:TG}{D:rW}{Z:St}(n:Nat)(h:Nat->St->Hp->Prop)(h0:h 0 Z H)(Y:∀i Z H,i<=n->h i Z H->SqL K H a xs/\SqL K H b ys)(hx:n<=xs.length)(c:n<=ys.length)(l:xs.length<=n∨ys.length<=n)
  (hs:∀i x y p Z H,xs[i]?=some x->ys[i]?=some y->i<n->h i Z H->H p=none->g (.ref p) Z (upd H p (.tup [x,y])) λj M=>tb { D with nx:=h (i+1),ct:=h (i+1),bk:=D.nx } j M) (hd:∀Z H,h n Z H->D.nx Z H):
  ∃W:Nat->Nat->St->Hp->Prop,(∃m,W 0 m Z H)/\∀i m Z H,W i m Z H->
   ((Itz K a b).stop i H/\D.nx Z H)∨((Itz K a b).go i H/\∃N:St->Hp->Prop,(∀P d,N P d->∃Q,Q<m/\W (i+1) Q P d)/\∀x d,(Itz K a b).yld i H x d->g x Z d λj M=>tb { D with nx:=N,ct:=N,bk:=D.nx } j M):=by
 refine#[λi m Z H=>m=n-i/\i<=n/\h i Z H,#[n,by simp,dN _,h0],?_];rintro i m Z H ⟨rfl,hi,p⟩;obtain⟨q,r⟩:=Y i Z H hi p;by_cases f:i<n
 .have h1:i<xs.length:=#[];have h2:i<ys.length:=#[];refine .inr #[#[xs,xs[i],ys,ys[i],q,by simp [h1],r,by simp [h2]],h (i+1),λP d k=>#[n-(i+1),#[],rfl,f,k],λx d y=>?_];obtain⟨u,B,o,e1,C,O,X,v⟩:=y;subst e1 O;exact hs i B o u Z _ (X xs q) (v ys r) f p C
 .have e:i=n:=#[];subst e;exact .inl #[#[xs,ys,q,r,l],hd Z H p]
def jZh{b:Addr}{Z:St}{g:TG}{S:Hp}{fin:List V->Hp->Prop}(n:Nat)(W:Nat->List V->Hp->Prop)(hz:n<=sizeLine)(hx:n<=xs.length)(d:n<=ys.length)(l:xs.length<=n∨ys.length<=n)(h0:W 0 [] S)(Y:∀i N H,i<=n->W i N H->SqL K H a xs/\SqL K H b ys)
  (hs:∀i x y p N H,xs[i]?=some x->ys[i]?=some y->i<n->N.length=i->W i N H->H p=none->∀os:St,os.length=k->g (.ref p) (os++cN Z caps) (upd H p (.tup [x,y])) λj w=>(∃h:St,h.length=k/\j=h++cN Z caps)/\c j w λz I=>W (i+1) (N++ [z]) I)
  (hd:∀N H,N.length=n->W n N H->fin N H):mD (Itz K a b) Z k caps g c S fin:=by
 refine#[n,W,hz,h0,λi N M hi m hw=>?_];obtain⟨q,r⟩:=Y i N M hi hw;by_cases f:i<n
 .have h1:i<xs.length:=#[];have h2:i<ys.length:=#[];refine .inr #[f,#[xs,xs[i],ys,ys[i],q,by simp [h1],r,by simp [h2]],λx U y os D=>?_];obtain⟨u,B,o,e1,C,O,X,v⟩:=y;subst e1 O;exact hs i B o u N _ (X xs q) (v ys r) f m hw C os D
 .have e:i=n:=#[];subst e;exact .inl #[#[xs,ys,q,r,l],hd N M m hw]
structure xW(K:aR):Prop where
 cl:Cls K (eI K "Corner")
 nb:pO K (eI K "Corner") "begun"
 ns:pO K (eI K "Corner") "spans"
 nk:pO K (eI K "Corner") "kept"
 ni:pO K (eI K "Corner") "inside"
section
variable{X:Cx}
noncomputable def cIsT(K:aR):List V->Hp->VK->Prop:=λxs H Q=>∃p ys,xs=[.ref p,.ty "tuple"]/\SqT K H p ys/\Q (.bl true) H
def jVe:pU X (.builtin "isinstance") (cIsT X.K):=by
 rintro B s Z H F R Q I r ⟨p,T,rfl,J,q⟩;obtain⟨u,c,rfl,k,a⟩:=Qv r;obtain rfl:c=Value.type "tuple":=a;obtain rfl:u=Value.ref p:=k;obtain⟨G,t,⟨o,h1,h2,_⟩,M⟩:=I.tuple J;exact PySem.W.kia_one PySem.W.kitx_tuple I.kIn #[o,h1,h2] (kit_tt _) (λz=>nomatch z) λtk=>#[.bl true,H,I.tok _,rfl,q]
end
noncomputable def Wx:V->List V->Hp->VK->Prop:=λx vs H Q=>∃n:Int,x=.int n/\vs=[]/\Q (.int ((Builtin.Int.intBits n:Nat):Int)) H
def CShl(i n:Int):Prop:=0<=n/\((Builtin.Int.intBits i:Nat):Int)+n<=2^27
def rShl:R2:=rI CShl λi n=>.int (i*2^n.toNat)
def rShr:R2:=rI (λ_ n=>0<=n) λi n=>.int (i.fdiv (2^n.toNat))
section
variable{X:Cx}
def jXc:MtR X "int.bit_length" Wx:=by
 rintro B s Z H x F v R Q I N D ⟨n,rfl,rfl,q⟩;obtain⟨t,rfl⟩:=N;cases D;exact call_int_bit_length #[.int _,H,I.tok _,#[_,rfl],q]
def jXJ:OpR X (binaryOp .LShift) rShl:=opI λ_ _ _ _ _ _ _ hc q=>lshift_int hc.1 hc.2 q
def jZ9:OpR X (binaryOp .RShift) rShr:=opI λ_ _ _ _ _ _ _ hc q=>rshift_int hc q
end
def oS:plainId "list.remove.loop"=true:=by decide+kernel
def Cq:entryFor table "list.remove.loop"=some Builtin.«list.remove.loop»:=entryFor_of_fast (by kernel_rfl)
def Yp(l:Addr)(zs:Array Value)(c:Nat)(x:Value)(q:Value->Bool)(j:Nat)(P:j<zs.size)(t:q zs[j]=true)(hz:zs.size<=sizeLine):∀(d i:Nat),j=i+d->(∀m(hm:m<zs.size),m<j->q zs[m]=false)->
  Meets (Builtin.«list.remove.loop» #[[.ref l,x,rawInt i],[]])
   (λA R s=>s.heap.get? l=some { cls:=.type "list",data:=.seq zs c }/\(∀y,y∈zs->SeqAt.EqAt A.in1 s y x (q y))/\R (.ok (.ret .none)) { s with heap:=s.heap.update l (Obj.mapSeq λa=>a.eraseIdxIfInBounds j) }):=by
 intro d
 induction d with
 |zero=>
  intro i o n prog w A R s h;obtain⟨hp,g,G,tk,os⟩:=s;obtain⟨Y,f,h⟩:=h;obtain rfl:j=i:=o
  wp_walk using wpAny_loadPart' Y
  have e:zs[((j:Nat):Int).toNat]?=some zs[j]:=by simp [P]
  rw[e];refine aC (f _ (Array.getElem_mem P) prog w _ _ ?_);rw[t];have b:(zs.eraseIdxIfInBounds j).size<=sizeLine+1:=cK (PySem.MeetsSeq.size_erased zs _) (Nat.le_succ_of_le hz)
  wp_walk using(wpAny_updateSeq Y rfl (hz:=hz) (_hz':=b)),wpAny_loadPart' Y
  exact h
 |succ d ih=>
  intro i o n prog w A R s h;obtain⟨hp,g,G,tk,os⟩:=s;obtain⟨Y,f,h⟩:=h;have F:i<zs.size:=#[]
  wp_walk using wpAny_loadPart' Y
  have e:zs[((i:Nat):Int).toNat]?=some zs[i]:=by simp [F]
  have e1:((i:Int)+1)=((i+1:Nat):Int):=#[];rw[e];refine aC (f _ (Array.getElem_mem F) prog w _ _ ?_);rw[n i F #[]]
  wp_walk
  rw[e1];refine#[plainId_quiet oS _,codeAny_builtin Cq ?_];rw[Around.under_plainId oS _];exact ih (i+1) #[] n prog w A R _ #[Y,f,h]
def jYV(l:Addr)(zs:Array Value)(c:Nat)(x:Value)(q:Value->Bool)(j:Nat)(P:j<zs.size)(t:q zs[j]=true)(hz:zs.size<=sizeLine)(n:∀m(hm:m<zs.size),m<j->q zs[m]=false):
  Meets (Builtin.«list.remove» #[[.ref l,x],[]])
   (λA R s=>s.heap.get? l=some { cls:=.type "list",data:=.seq zs c }/\(∀y,y∈zs->SeqAt.EqAt A.in1 s y x (q y))/\R (.ok (.ret .none)) { s with heap:=s.heap.update l (Obj.mapSeq λa=>a.eraseIdxIfInBounds j) }):=by
 intro prog w A R s h;obtain⟨hp,g,G,tk,os⟩:=s
 wp_walk
 refine#[plainId_quiet oS _,codeAny_builtin Cq ?_];rw[Around.under_plainId oS _];exact Yp l zs c x q j P t hz j 0 #[] n prog w A R _ h
noncomputable def Li:V->List V->Hp->VK->Prop:=λx vs H Q=>∃l ns n j,x=.ref l/\vs=[.int n]/\H l=some (.lst (List.map V.int ns))/\ns[j]?=some n/\(∀m,m<j->ns[m]?≠some n)/\Q .non (upd H l (.lst (List.map V.int (ns.eraseIdx j))))
def Up{d c:Type}(f:d->c):∀(l:List d)(i:Nat),(l.eraseIdx i).map f=(l.map f).eraseIdx i
 | [],i=>by simp
 |a::r,0=>rfl
 |a::r,i+1=>by show f a::(r.eraseIdx i).map f=f a::(r.map f).eraseIdx i;rw[Up f r i]
def jYq:MtM X "list.remove" Li:=by
 rintro B s Z H x p v R Q I N D ⟨l,ns,n,j,rfl,rfl,o,P,f,q⟩;cases N;obtain⟨u,rfl,k⟩:=D.one;obtain⟨z,G,c,r,Y,e⟩:=I.lstM o;have b:j<ns.length:=(aK.mp P).1;have len:=r.length;rw[aA]at len;have at_:∀m(hm:m<G.toArray.size),∃a t,ns[m]?=some a/\G.toArray[m]=.int a t:=λm hm=>by
  have h1:m<G.length:=by simpa using hm
  have h2:m<ns.length:=#[];obtain⟨w,e1,C⟩:=r.get (i:=m) (x:=.int ns[m]) (by rw[aX,aD h2];rfl);obtain⟨t,rfl⟩:=C;refine#[ns[m],t,aD h2,?_];obtain⟨_,O⟩:=aK.mp e1;simpa using O
 refine call_meets F.slot_list_remove #[_,e,rfl] F.entry_list_remove (F.args_list_remove_2 _ _) (jYV l G.toArray c u (eqN n) j (by rw[bM];lia) ?_ (by rw[bM,←Y];exact z) λm hm g=>?_) #[e,λy d=>?_,?_]
 .obtain⟨a,t,e1,C⟩:=at_ j (by rw[bM];lia);rw[P]at e1;cases e1;rw[C];show(n==n)=true;simp
 .obtain⟨a,t,e1,C⟩:=at_ m hm;rw[C];show(a==n)=false;have:a≠n:=λz=>f m g (by rw[e1,z]);simpa using this
 .obtain⟨m,hm,e1⟩:=Array.getElem_of_mem d;obtain⟨a,t,_,C⟩:=at_ m hm;rw[←e1,C];exact Sr (i:=a) (j:=n) #[t,rfl] k
 .refine#[.non,_,I.lset (its':=G.eraseIdx j) o e ?_ ?_ ?_,rfl,q]
  .show G.toArray.eraseIdxIfInBounds j=(G.eraseIdx j).toArray;rw[List.eraseIdxIfInBounds_toArray]
  .rw[Up];exact r.eraseIdx j
  .have:=Sg (List.map V.int ns) j;rw[Up];lia
section
variable{prog:Program}{w:World}{A:Around}{R:Result->Shared->Prop}{it:Addr}{fp wr:List Addr}{n:Nat}{P:Nat->Value->Prop}{St:Nat->Heap->Prop}
def max_goD(W:Walks prog w A.in1 it fp wr n P St)(l:Nat->Nat->Bool)(u:CmpOf prog w A.in1 .Gt P l)(B:Addr)(out:B∉fp)(i:List (Str×Value)):∀(k j:Nat)(s:Shared)(d:Value)(c:Nat),n=j+1+k->St (j+1) s.heap->P (argBest l j) d->
  s.heap.get? B=some { cls:=.type "list",dict:=none,data:=.seq (List.toArray [d,d]) c,slots:=(List.toArray []) }->
  (∀v U tk,P (argBest l (n-1)) v->(∀b o,b∉wr->b≠B->s.heap.get? b=some o->U.get? b=some o)->R (.ok (.ret v)) { s with heap:=U,toks:=tk })->
  codeAny (model prog w) A (.builtin "max.loop" #[[.ref it,.none,.ref B],i]) R s:=by
 have m:B∉wr:=λz=>out (W.sub _ z);have C:(toString "max"++toString ".loop":String)="max.loop":=by decide
 intro k
 induction k with
 |zero=>
  intro j s d c en st G t fin;refine codeAny_builtin PySem.F.entry_max_loop ?_;rw[Around.under_plainId PySem.F.plain_max_loop _];show wpAny _ A.in1 (seqItems? (.ref B)>>=_) _ _ s;refine aC (wpAny_seqItems t rfl ?_);show wpAny _ A.in1 (tryCatch (pyNext (.ref it)) _>>=_) _ _ s;have r:n=j+1:=en;refine aC (wpAny_tryCatch (W.done s _ _ (r▸st) λU tk keep=>?_));have h:=keep B _ m t;show wpAny _ A.in1 (updateSeq B (λ_=>(List.toArray []))>>=_) _ _ _;refine aC ?_;refine wpAny_updateSeq h rfl (aC (wpAny_letGo (aU ?_)));refine fin d _ tk (by rw[r];exact G) λb o I q e=>(dL _ _ (Ne.symm q)).trans (keep b o I e)
 |succ k ih=>
  intro j s d c en st G t fin;refine codeAny_builtin PySem.F.entry_max_loop ?_;rw[Around.under_plainId PySem.F.plain_max_loop _];show wpAny _ A.in1 (seqItems? (.ref B)>>=_) _ _ s;refine aC (wpAny_seqItems t rfl ?_);show wpAny _ A.in1 (tryCatch (pyNext (.ref it)) _>>=_) _ _ s;refine aC (wpAny_tryCatch (W.item (j+1) s _ _ #[] st λv U tk y f keep=>?_));have h:=keep B _ m t;show wpAny _ A.in1 (tryCatch (holding [v,v] (richCompare .Gt v d>>=_)) _>>=_) _ _ { s with heap:=U,toks:=tk };refine aC (wpAny_tryCatch (wpAny_holding (aC (u (j+1) (argBest l j) v d _ _ _ y G (aC (wpAny_holding (wpAny_truthy_bool (aC (wpAny_letGo (aU ?_))))))))));cases better:l (j+1) (argBest l j)with
  |true=>
   simp only[if_true];refine aC ?_;refine wpAny_updateSeq h rfl (aC (wpAny_letGo ?_));rw[C];refine aU #[plainId_quiet PySem.F.plain_max_loop _,ih (j+1) _ v _ #[] (W.frame _ _ _ f λb x o e=>?_) (by simp only[argBest,better,if_true];exact y) (Heap.get?_update_self _ h rfl) λZ g D p a=>?_]
   .exact(dL _ _ (λz:B=b=>out (by rw[z];exact x))).trans e
   .exact fin Z g D p λb o I q e=>a b o I q ((dL _ _ (Ne.symm q)).trans (keep b o I e))
  |false=>
   simp only[Bool.false_eq_true,if_false];refine aC (wpAny_letGo ?_);rw[C];refine aU #[plainId_quiet PySem.F.plain_max_loop _,ih (j+1) _ d c #[] f (by simp only[argBest,better,Bool.false_eq_true,if_false];exact G) h λZ g D p a=>?_];exact fin Z g D p λb o I q e=>a b o I q (keep b o I e)
def jJ9(W:Walks prog w A.in1 it fp wr n P St)(l:Nat->Nat->Bool)(u:CmpOf prog w A.in1 .Gt P l)(B:Addr)(out:B∉fp)(d:Value){c:Nat}(st:St 0 s.heap)(t:s.heap.get? B=some { cls:=.type "list",dict:=none,data:=.seq (List.toArray []) c,slots:=(List.toArray []) })
  (f0:n=0->∀U tk,(∀b o,b∉wr->b≠B->s.heap.get? b=some o->U.get? b=some o)->R (.ok (.ret d)) { s with heap:=U,toks:=tk })
  (r:0<n->∀v U tk,P (argBest l (n-1)) v->(∀b o,b∉wr->b≠B->s.heap.get? b=some o->U.get? b=some o)->R (.ok (.ret v)) { s with heap:=U,toks:=tk }):
  codeAny (model prog w) A (.builtin "max.loop" #[[.ref it,.none,.ref B],[("default",d)]]) R s:=by
 have m:B∉wr:=λz=>out (W.sub _ z);have C:(toString "max"++toString ".loop":String)="max.loop":=by decide
 refine codeAny_builtin PySem.F.entry_max_loop ?_;rw[Around.under_plainId PySem.F.plain_max_loop _];show wpAny _ A.in1 (seqItems? (.ref B)>>=_) _ _ s;refine aC (wpAny_seqItems t rfl ?_);show wpAny _ A.in1 (tryCatch (pyNext (.ref it)) _>>=_) _ _ s;rcases Nat.eq_zero_or_pos n with n0 |n1
 .refine aC (wpAny_tryCatch (W.done s _ _ (n0▸st) λU tk keep=>?_))
  wp_walk
  exact f0 n0 U tk λb o I _ e=>keep b o I e
 .refine aC (wpAny_tryCatch (W.item 0 s _ _ n1 st λv U tk G f keep=>?_));have h:=keep B _ m t;show wpAny _ A.in1 (updateSeq B (λ_=>(List.toArray [v,v]))>>=_) _ _ { s with heap:=U,toks:=tk };refine aC ?_;refine wpAny_updateSeq h rfl ?_;rw[C];refine aU #[plainId_quiet PySem.F.plain_max_loop _,max_goD W l u B out _ (n-1) 0 _ v _ #[] (W.frame _ _ _ f λb x o e=>?_) G (Heap.get?_update_self _ h rfl) λZ g D p a=>?_]
  .exact(dL _ _ (λz:B=b=>out (by rw[z];exact x))).trans e
  .exact r n1 Z g D p λb o I q e=>a b o I q ((dL _ _ (Ne.symm q)).trans (keep b o I e))
end
def jZj{b:Addr}{Z:St}{g:TG}{S:Hp}{fin:List V->Hp->Prop}(W:Nat->List V->Hp->Prop)(hz:xs.length<=sizeLine)(l:xs.length=ys.length)(h0:W 0 [] S)(Y:∀i N H,i<=xs.length->W i N H->SqL K H a xs/\SqL K H b ys)
  (hs:∀i x y p N H,xs[i]?=some x->ys[i]?=some y->N.length<=i->W i N H->H p=none->∀os:St,os.length=k->g (.ref p) (os++cN Z caps) (upd H p (.tup [x,y])) λj w=>(∃h:St,h.length=k/\j=h++cN Z caps)/\m j w λb I=>if b=true then c j I λz T=>W (i+1) (N++ [z]) T else W (i+1) N I)
  (hd:∀N H,W xs.length N H->fin N H):qS (Itz K a b) Z k caps g m c S fin:=by
 refine#[xs.length,W,hz,h0,λi N M hi d hw=>?_];obtain⟨q,r⟩:=Y i N M hi hw;by_cases f:i<xs.length
 .have n:i<ys.length:=#[];refine .inr #[f,#[xs,xs[i],ys,ys[i],q,by simp [f],r,by simp [n]],λx U y os D=>?_];obtain⟨u,B,o,e1,C,O,X,v⟩:=y;subst e1 O;exact hs i B o u N _ (X xs q) (v ys r) d hw C os D
 .have e:i=xs.length:=#[];subst e;exact .inl #[#[xs,ys,q,r,.inl (aM _)],hd N M hw]
def jY6{lo:Int}{n:Nat}{Z:St}{S:Hp}{fin:List V->Hp->Prop}(W:Nat->List V->Hp->Prop)(hz:n<=sizeLine)(h0:W 0 [] S)
  (hs:∀i T H,i<n->T.length<=i->W i T H->m (some (.int (lo+i))::cN Z caps) H λb w=>if b=true then c (some (.int (lo+i))::cN Z caps) w λy I=>W (i+1) (T++ [y]) I else W (i+1) T w)
  (hd:∀T H,W n T H->fin T H):oQ (Itr lo n) Z caps m c S fin:=by
 refine#[n,W,hz,h0,λi T M hi d hw=>?_];by_cases f:i<n
 .refine .inr #[f,f,λx U y=>?_];obtain⟨e1,C⟩:=y;subst e1 C;exact hs i T _ f d hw
 .have e:i=n:=#[];subst e;exact .inl #[aM _,hd T M hw]
def jWZ(a d:Value):argsOk "max" #[[a],[("default",d)]]:=by unfold argsOk;kernel_rfl
section
variable{prog:Program}{w:World}{A:Around}{E:Value->Shared->Prop}{s:Shared}
def jZk{id:String}{b:Builtin}{c:List Value}{i:List (Str×Value)}{Q:Value->Shared->Prop}(kind:builtinKind id=none)(a:plainId id=true)(ent:entryFor table id=some b)(ok:argsOk id #[c,i])
  (run:wpAny (model prog w) A.in1 (b #[c,i]) (λfin z=>match fin with
   | .done g=>(match(Except.ok g:Result)with | .ok (.ret u)=>Q u z | .ok _=>False | .error e=>E e z)
   | .again k=>k.quiet=true/\codeAny (model prog w) A k (λr y=>match r with | .ok (.ret u)=>Q u y | .ok _=>False | .error e=>E e y) z) E s):
  wpAny (model prog w) A (call (.builtin id) c i) Q E s:=by
 refine wpAny_call (codeAny_call_builtin a ent ?_);simp only[checkBuiltinCall,kind];cases sig:Manifest.signature? id with
 |none=>exact aU run
 |some g=>
  have x:Bind.checkArgs id g #[c,i]=pure ():=by simpa only[argsOk,sig]using ok
  simp only[x];exact aU run
def jY7{l:Addr}{xs:Array (Int×Tok)}{d:Value}{Q:Value->Shared->Prop}(calm:A.handled=none)(Y:s.heap.IsList l (intItems xs))
  (f0:xs.size=0->∀U tk,(∀b o,s.heap.get? b=some o->U.get? b=some o)->Q d { s with heap:=U,toks:=tk })
  (r:0<xs.size->∀v U tk,(intItems xs)[argBest (λi j=>decide (numAt xs i>numAt xs j)) (xs.size-1)]?=some v->(∀b o,s.heap.get? b=some o->U.get? b=some o)->Q v { s with heap:=U,toks:=tk }):
  wpAny (model prog w) A (call (.builtin "max") [.ref l] [("default",d)]) Q E s:=by
 have C:(toString "max"++toString ".loop":String)="max.loop":=by decide
 have sz:(intItems xs).size=xs.size:=by simp [intItems]
 refine jZk PySem.F.kind_max PySem.F.plain_max PySem.F.entry_max (jWZ _ _) ?_;show wpAny _ A.in1 (Builtin.Builtins.bindParams "max" ["key","default"] 0 #[[],[("default",d)]]>>=_) _ _ s;refine aC (wpAny_of_eq (show Builtin.Builtins.bindParams "max" ["key","default"] 0 #[[],[("default",d)]]=pure [none,some d]from rfl) ?_);refine aC (aU (aC (iter_intList Y λm e st a c=>?_)));subst e;refine aC (wpAny_newObj_type ?_);rw[C];have W:=Walks.list (prog:=prog) (w:=w) (A:=A.in1) calm _ l c (intItems xs);refine aU #[plainId_quiet PySem.F.plain_max_loop _,jJ9 W _ (CmpOf.ints_gt (numAt xs) (λ_ _=>intItems_at)) _ (λz=>eW _ (a _ z)) d (W.frame _ _ _ st λb _ o e=>aS _ e) (bL _ rfl) (λN U tk keep=>?_) λn1 v U tk G keep=>?_]
 .refine f0 (by rw[←sz];exact N) U tk (old_kept λb o I e=>keep b o I (bJ (aW e)) (aS _ e))
 .rw[sz]at n1 G;refine r n1 v U tk G (old_kept λb o I e=>keep b o I (bJ (aW e)) (aS _ e))
end
def tMaxD(K:aR)(t:TA)(d:TE):TE:=λZ H Q=>t Z H λvs S=>∃x,vs=[x]/\d Z S λy b=>∃p ns,x=.ref p/\SqL K b p (List.map V.int ns)/\(ns=[]->Q y b)/\(ns≠[]->∀M,M∈ns->(∀a∈ns,a<=M)->Q (.int M) b)
def tTru(K:aR)(t:TE):TT:=λZ H Q=>t Z H λx H'=>∃k,TruV K x H' k/\Q k H'
section
variable{X:Cx}
def pe_maxD{e d:Expr}{c:TA}{r:TE}{kp pos:Pos}(calm:X.calm=true)(hg:Gl X "max")(hm:X.mg "max"=none)(ha:PA X [e] c)(hd:PE X d r)
  (h1:backTo pos (starEach [e] X.env)=(false,eval e X.env)::backTo pos (starEach [] X.env):=by rfl) (h2:(backTo pos (starEach [e] X.env)).any (·.1)=false:=by rfl):PE X (.Call (.Name "max" p) [e] [#[some "default",d,kp]] pos) (tMaxD X.K c r):=by
 intro B s Z H Q I h;refine wpAny_Call_Name_kw (lR I hg hm Mo ?_ (by decide) (by decide));refine callWith_kw ?_ h1 h2;refine thn (ha pos B s Z H _ I h) λR O z=>?_;obtain⟨m,S,A,f,x,rfl,q1⟩:=z;obtain⟨u,rfl,ru⟩:=xZ f;refine kws_cons (thn (hd B O Z S _ A q1) λv F#[y,q,k,ry,l,ns,ex,hp,q0,q2]=>kws_nil ?_);subst ex;cases ru;obtain⟨G,D,g,hz⟩:=k.list hp;obtain⟨J,e1,C⟩:=D.ints;have Y:J.length=ns.length:=by rw[←C,aA]
 have o:G.toArray=intItems J.toArray:=by rw[e1];unfold intItems;simp
 have b:=g.isList;rw[o]at b;refine jY7 (k.ok.hd calm) b (λN U tk keep=>?_) λn1 w U tk hw keep=>?_
 .rw[bM]at N;exact#[y,q,k.kept keep,ry,q0 (List.length_eq_zero_iff.mp #[])]
 .obtain⟨t,rfl⟩:=intItems_at hw;obtain⟨g1,g2⟩:=argBest_gt (numAt J.toArray) (J.toArray.size-1);rw[bM]at g1 g2 n1⊢;obtain⟨M,m1,m2⟩:=uD C (argBest (λi j=>decide (numAt J.toArray i>numAt J.toArray j)) (J.length-1)) #[];rw[m2]at g2⊢;refine#[.int M,q,k.kept keep,#[_,rfl],q2 (λz=>by rw[z,List.length_nil]at Y;lia) M (aL m1) λa ha=>?_];obtain⟨j,P,ej⟩:=List.getElem_of_mem ha;obtain⟨n,T,n2⟩:=uD C j P;rw[aD P,ej]at T;cases T;rw[←n2];exact g2 j #[]
def jWp{x:Str}{n:Int}{pos:Pos}(hg:Gl X x)(hm:∃t,X.mg x=some (.int n t))(hd:(x==("__debug__":Str))=false:=by decide):PE X (.Name x pos) (tC (.int n)):=
 let⟨t,e⟩:=hm
 pe_glob (v:=.int n) hg e #[t,rfl] hd
end
structure Bv(K:aR)(x qual:Str)(st:Stmt)(df:Value)(f:Addr)(fd:FuncData):Prop where
 ex:∃(oc:Value)(od:Option Addr)(kV doc pm:Value)(an:Option Addr)(cdv ct:Value)(osl:Array (Option Value)),
  fd=PySem.W.fnOf x qual (oP st) (nA st) (eV st) df kV doc pm an cdv ct/\K.lookup f=some #[oc,od,.func fd,osl]/\PySem.W.codeIn K cdv qual=true
 kp:PySem.W.keepIn K (.ref f)=true
section
variable{P:Program}{w:World}{K:aR}{mg:Str->Option Value}{base:Heap}{x qual:Str}{st:Stmt}{df:Value}{f:Addr}{fd:FuncData}{N ps:List Str}{k:Nat}{sp:Sp}
def Bv.binds(F:Bv K x qual st df f fd)(h:∀(kV i z:Value)(C:Option Addr)(cdv ct:Value)(us:List Value),us.length=ps.length->bindArgs (PySem.W.fnOf x qual (oP st) (nA st) (eV st) df kV i z C cdv ct) #[us,[]]=pure (ps.zip us)):sE K fd ps []:=by
 obtain⟨X,M,kV,i,z,C,cdv,ct,G,rfl,Z,p⟩:=F.ex;exact .all (h kV i z C cdv ct)
def Bv.bindsD{T:Addr}{items:Array Value}{n:Nat}(F:Bv K x qual st (.ref T) f fd)(d:K.lookup T=some o)(hd:o.data=.seq items n)
  (h:∀(kV i z:Value)(C:Option Addr)(cdv ct:Value)(us:List Value),us.length=ps.length->∃k,bindArgs (PySem.W.fnOf x qual (oP st) (nA st) (eV st) (.ref T) kV i z C cdv ct) #[us,[]]=seqItems? (.ref T)>>=k/\k (some items)=pure (ps.zip us)):sE K fd ps []:=by
 obtain⟨X,M,kV,i,z,C,cdv,ct,G,rfl,Z,p⟩:=F.ex;intro s us Q Y;rw[cA]at Y⊢;obtain⟨k,h1,h2⟩:=h kV i z C cdv ct us Y;exact BindsTo.of_defaults rfl (Q _ _ d) hd h1 h2
end
def ty_zip3(a b c:Value):checkTypeCall "zip" #[[a,b,c],[]]=pure ():=by kernel_rfl
def nw_zip3(a b c:Value):checkBuiltinCall "zip.__new__" #[[.type "zip",a,b,c],[]]=pure ():=by kernel_rfl
def jVi(a b c d:Value):argsOk "object.__init__" #[[a,b,c,d],[]]:=by unfold argsOk;rw[signature?_of (id:="object.__init__") (n:=['_','_','t','i','n','i','_','_']) (o:=['t','c','e','j','b','o']) (by kernel_rfl) F.owner_object];kernel_rfl
noncomputable abbrev yH(h:Heap)(T:Addr)(u v x:Value):Prop:=h.get? T=some { cls:=.type "tuple",data:=.seq (List.toArray [u,v,x]) }
structure Z3(n l1 l2 l3 i:Nat)(f0:Value)(h:Heap):Prop where
 z:IsZip h (n+5) (n+3) (n+4) f0
 ti:yH h (n+3) (.ref n) (.ref (n+1)) (.ref (n+2))
 to:∃u v x,yH h (n+4) u v x
 h1:h.IsListIter n l1 i
 h2:h.IsListIter (n+1) l2 i
 h3:h.IsListIter (n+2) l3 i
section
variable{prog:Program}{w:World}{A:Around}{E:Value->Shared->Prop}{s:Shared}{n l1 l2 l3 i:Nat}{xs ys zs:Array Value}
def Zp{T:Addr}{a b c x:Value}{Q:Unit->Shared->Prop}(B:yH s.heap T a b c)
  (h:∀g,g.get? T=some { cls:=.type "tuple",data:=.seq (((List.toArray [a,b,c]):Array Value).setIfInBounds k x) }->Heap.SameBut T s.heap g->Q () { s with heap:=g }):wpAny (model prog w) A (updateSeq T (·.setIfInBounds k x)) Q E s:=by
 refine wpAny_updateSeq B rfl (h _ ?_ (Heap.SameBut.update ..));rw[Heap.get?_update_self _ B rfl];simp [Obj.mapSeq]
def rZ{c0:Nat}{g g':Heap}(b:Heap.SameBut c0 g g'):∀(c:Nat) o,c≠c0->g.get? c=some o->g'.get? c=some o:=λc o h e=>b.extBut _ _ h e
def z3_item{x y z:Value}(b1:l1<n)(b2:l2<n)(R:l3<n)(Z:Z3 n l1 l2 l3 i .none s.heap)(T:s.heap.IsList l1 xs)(l:s.heap.IsList l2 ys)(P:s.heap.IsList l3 zs)
  (hx:xs[i]?=some x) (d:ys[i]?=some y) (hz:zs[i]?=some z)
  (k:∀g,Z3 n l1 l2 l3 (i+1) (rawInt s.heap.objs.size) g->yH g s.heap.objs.size x y z->(∀(c:Nat) o,c<n∨n+6<=c->s.heap.get? c=some o->g.get? c=some o)->Q (some (.ref s.heap.objs.size)) { s with heap:=g }):
  wpAny (model prog w) A (pyNext (.ref (n+5))) Q E s:=by
 have B:s.TypeIs (.ref (n+5)) "zip":=#[_,Z.z,rfl];unfold pyNext;refine aC (wpAny_attempt (wpAny_callSpecial?_slot (name:="__next__") B F.slot_zip_next (wpAny_call_entry F.slot_zip_next B F.entry_zip_next ?_ (F.args_zip_next_1 _))));obtain⟨u,v,t,kO⟩:=Z.to;show wpAny _ _ (field _ 2>>=_) _ _ _;refine aC (wpAny_field Z.z rfl (x:=.bool false) rfl ?_);show wpAny _ _ (field _ 3>>=_) _ _ _;refine aC (wpAny_field Z.z rfl (x:=.ref (n+3)) rfl (aC (wpAny_seqItems Z.ti rfl ?_)));show wpAny _ _ (Builtin.SmallTypes.ownedTupleIsFree _>>=_) _ _ _;refine aC ?_;unfold Builtin.SmallTypes.ownedTupleIsFree;refine aC (wpAny_field Z.z rfl (x:=.none) rfl (aU ?_));simp only[if_true];refine aC (wpAny_rule (aC (wpAny_field Z.z rfl (x:=.ref (n+4)) rfl (aC (wpAny_setField_rec Z.z (by simp) λN I b1=>?_)))));replace I:IsZip N (n+5) (n+3) (n+4) .ellipsis:=I;have r:=rZ b1;refine aC ?_;simp only[List.zipIdx_cons,List.zipIdx_nil,List.forIn_cons,List.forIn_nil];refine aC (aC (wpAny_onRaise ?_));show wpAny _ _ (Builtin.SmallTypes.nextOf _>>=_) _ _ _;refine aC (wpAny_nextOf_list_item (s:={ s with heap:=N }) (Z.h1.at λo e=>r _ o #[] e) (T.at λo e=>r _ o #[] e) hx λg2 G b2=>aU ?_);have J:=rZ b2;have t2:yH g2 (n+4) u v t:=J _ _ #[] (r _ _ #[] kO);refine aC (wpAny_seqItems t2 rfl (aC (Zp t2 λa f R=>?_)));replace f:yH a (n+4) x v t:=f;have p:=rZ R;refine aC (wpAny_letGo (aU (aC (aC (wpAny_onRaise ?_)))));show wpAny _ _ (Builtin.SmallTypes.nextOf _>>=_) _ _ _;have M:∀(c:Nat) o,c≠n+5->c≠n->c≠n+4->s.heap.get? c=some o->a.get? c=some o:=λc o q X c3 e=>p c o c3 (J c o X (r c o q e));refine aC (wpAny_nextOf_list_item (s:={ s with heap:=a }) (Z.h2.at λo e=>M _ o #[] #[] #[] e) (l.at λo e=>M _ o #[] #[] #[] e) d λg4 q4 C=>aU ?_);have H:=rZ C;have O:yH g4 (n+4) x v t:=H _ _ #[] f;refine aC (wpAny_seqItems O rfl (aC (Zp O λg5 U b=>?_)));replace U:yH g5 (n+4) x y t:=U;have m:=rZ b;refine aC (wpAny_letGo (aU (aC (aC (wpAny_onRaise ?_)))));show wpAny _ _ (Builtin.SmallTypes.nextOf _>>=_) _ _ _;have S:∀(c:Nat) o,c≠n+4->c≠n+1->a.get? c=some o->g5.get? c=some o:=λc o q X e=>m c o q (H c o X e);refine aC (wpAny_nextOf_list_item (s:={ s with heap:=g5 }) (Z.h3.at λo e=>S _ o #[] #[] (M _ o #[] #[] #[] e)) (P.at λo e=>S _ o #[] #[] (M _ o #[] #[] #[] e)) hz λg6 q6 b6=>aU ?_);have u6:=rZ b6;have t6:yH g6 (n+4) x y t:=u6 _ _ #[] U;refine aC (wpAny_seqItems t6 rfl (aC (Zp t6 λj t7 b7=>?_)));replace t7:yH j (n+4) x y z:=t7;have u7:=rZ b7;refine aC (wpAny_letGo (aU (aU (aC (wpAny_seqItems t7 rfl (aC (wpAny_newTuple ?_)))))));have sz:j.objs.size=s.heap.objs.size:=by rw[b7.1,b6.1,b.1,C.1,R.1,b2.1,b1.1]
 have v7:∀(c:Nat) o,c≠n+4->c≠n+2->g5.get? c=some o->j.get? c=some o:=λc o q X e=>u7 c o q (u6 c o X e);have z7:IsZip j (n+5) (n+3) (n+4) .ellipsis:=v7 _ _ #[] #[] (S _ _ #[] #[] (p _ _ #[] (J _ _ #[] I)));have zl:n+5<j.objs.size:=aW z7;show wpAny _ _ (Builtin.SmallTypes.ownedTupleHandOut _ (.ref j.objs.size)>>=_) _ _ _;refine aC ?_;unfold Builtin.SmallTypes.ownedTupleHandOut;refine aC (wpAny_setField_rec (aS _ z7) (by simp) λg8 z8 b8=>?_);replace z8:IsZip g8 (n+5) (n+3) (n+4) (rawInt j.objs.size):=z8;refine wpAny_setField_rec z8 (by simp) λg9 z9 D=>?_;replace z9:IsZip g9 (n+5) (n+3) (n+4) (rawInt j.objs.size):=z9;have Y:∀(c:Nat) o,c≠n+5->j.get? c=some o->g9.get? c=some o:=λc o h e=>rZ D c o h (rZ b8 c o h (aS _ e));have K:yH g9 j.objs.size x y z:=rZ D _ _ (Nat.ne_of_gt zl) (rZ b8 _ _ (Nat.ne_of_gt zl) (bL _ rfl));refine aU #[_,rfl,aU ?_];show Q (some (.ref j.objs.size)) _;rw[sz]at z9 K⊢;refine k g9 #[z9,Y _ _ #[] (v7 _ _ #[] #[] (S _ _ #[] #[] (M _ _ #[] #[] #[] Z.ti))),#[_,_,_,Y _ _ #[] t7],G.at λo e=>Y _ o #[] (v7 _ o #[] #[] (S _ o #[] #[] (p _ o #[] e))),q4.at λo e=>Y _ o #[] (v7 _ o #[] #[] (m _ o #[] e)),q6.at λo e=>Y _ o #[] (u7 _ o #[] e)] K λc o hc e=>Y c o #[] (v7 c o #[] #[] (S c o #[] #[] (M c o #[] #[] #[] e)))
def z3_end(t:A.handled=none)(b1:l1<n)(Z:Z3 n l1 l2 l3 i .none s.heap)(f:s.heap.IsList l1 xs)(hx:xs[i]?=none)
  (k:∀g,(∀(c:Nat) o,c<n∨n+6<=c->s.heap.get? c=some o->g.get? c=some o)->Q none { s with heap:=g }):wpAny (model prog w) A (pyNext (.ref (n+5))) Q E s:=by
 have B:s.TypeIs (.ref (n+5)) "zip":=#[_,Z.z,rfl];unfold pyNext;refine aC (wpAny_attempt (wpAny_callSpecial?_slot (name:="__next__") B F.slot_zip_next (wpAny_call_entry F.slot_zip_next B F.entry_zip_next ?_ (F.args_zip_next_1 _))));show wpAny _ _ (field _ 2>>=_) _ _ _;refine aC (wpAny_field Z.z rfl (x:=.bool false) rfl ?_);show wpAny _ _ (field _ 3>>=_) _ _ _;refine aC (wpAny_field Z.z rfl (x:=.ref (n+3)) rfl (aC (wpAny_seqItems Z.ti rfl ?_)));show wpAny _ _ (Builtin.SmallTypes.ownedTupleIsFree _>>=_) _ _ _;refine aC ?_;unfold Builtin.SmallTypes.ownedTupleIsFree;refine aC (wpAny_field Z.z rfl (x:=.none) rfl (aU ?_));simp only[if_true];refine aC (wpAny_rule (aC (wpAny_field Z.z rfl (x:=.ref (n+4)) rfl (aC (wpAny_setField_rec Z.z (by simp) λN I q=>?_)))));replace I:IsZip N (n+5) (n+3) (n+4) .ellipsis:=I;have r:=rZ q;refine aC ?_;simp only[List.zipIdx_cons,List.zipIdx_nil,List.forIn_cons,List.forIn_nil];refine aC (aC (wpAny_onRaise ?_));show wpAny _ _ (Builtin.SmallTypes.nextOf _>>=_) _ _ _;refine aC (wpAny_nextOf_list_end t (s:={ s with heap:=N }) (Z.h1.at λo e=>r _ o #[] e) (f.at λo e=>r _ o #[] e) hx λg2 e b2 l=>?_);obtain⟨y,d,u⟩:=l;have S:IsZip g2 (n+5) (n+3) (n+4) .ellipsis:=b2 _ _ (show(n+5:Nat)≠n by lia) I;have j:e≠n+5:=λh=>by rw[h,S]at d;cases d;simp at u
 refine wpAny_setField_rec S (by simp) λa _ R=>?_;refine aC (wpAny_isInstance (T:="StopIteration") (b:=true) #[y,R.extBut _ _ j d,u] isSubtype_stop (aU (k a λc o hc h=>rZ R c o #[] (b2 c o (show(c:Nat)≠n by lia) (r c o #[] h)))))
end
noncomputable abbrev za1(g:Heap)(a:Addr):Heap:=g.push { cls:=.type "list_iterator",data:=.fields (List.toArray [.ref a,.int 0 0]) }
noncomputable abbrev za3(g:Heap)(a b c:Addr):Heap:=za1 (za1 (za1 g a) b) c
noncomputable abbrev za4(g:Heap)(a b c:Addr):Heap:=(za3 g a b c).push { cls:=.type "tuple",data:=.seq (List.toArray [.ref g.objs.size,.ref (za1 g a).objs.size,.ref (za1 (za1 g a) b).objs.size]) }
noncomputable abbrev za5(g:Heap)(a b c:Addr):Heap:=(za4 g a b c).push { cls:=.type "tuple",data:=.seq (List.toArray [.none,.none,.none]) }
noncomputable abbrev za6(g:Heap)(a b c:Addr):Heap:=(za5 g a b c).push { cls:=.type "zip",data:=.fields (List.toArray [.none,.bool false,.bool false,.ref (za3 g a b c).objs.size,.ref (za4 g a b c).objs.size]) }
def jWz(a b c:Addr)(xs ys zs:Array Value):Meets (Builtin.«zip.__new__» #[[.type "zip",.ref a,.ref b,.ref c],[]]) (λ_ R s=>s.heap.IsList a xs/\s.heap.IsList b ys/\s.heap.IsList c zs/\R (.ok (.ret (.ref (za5 s.heap a b c).objs.size))) { s with heap:=za6 s.heap a b c }):=
 .of_wp λprog w A R s h=>by
  obtain⟨hp,g,d,tk,os⟩:=s;obtain⟨ha,hb,hc,h⟩:=h;have e:=sub_zip;have h1:Heap.IsList (Shared.heap #[hp,g,d,tk,os]) a xs:=ha;have h2:Heap.IsList (Shared.heap #[za1 hp a,g,d,tk,os]) b ys:=Heap.IsList.push hb _;have h3:Heap.IsList (Shared.heap #[za1 (za1 hp a) b,g,d,tk,os]) c zs:=Heap.IsList.push (Heap.IsList.push hc _) _
  wp_walk using wpAny_pyIter_list h1,wpAny_pyIter_list h2,wpAny_pyIter_list h3
  exact#[_,rfl,h]
section
variable{prog:Program}{w:World}{A:Around}{E:Value->Shared->Prop}{s:Shared}
def call_z3{b c:Addr}{xs ys zs:Array Value}{Q:Value->Shared->Prop}(ha:s.heap.IsList a xs)(hb:s.heap.IsList b ys)(hc:s.heap.IsList c zs)
  (k:∀g n,n=s.heap.objs.size->Z3 n a b c 0 .none g->(∀c o,s.heap.get? c=some o->g.get? c=some o)->Q (.ref (n+5)) { s with heap:=g }):wpAny (model prog w) A (call (.type "zip") [.ref a,.ref b,.ref c]) Q E s:=by
 refine callType_new F.called_zip (by decide) (ty_zip3 _ _ _) (nw_zip3 _ _ _) (λobj=>jVi obj _ _ _) F.entry_zip_new (jWz a b c xs ys zs) #[ha,hb,hc,?_];have X:(za1 s.heap a).objs.size=s.heap.objs.size+1:=Heap.size_push ..;have v:(za1 (za1 s.heap a) b).objs.size=s.heap.objs.size+2:=by rw[Heap.size_push,X]
 have G:(za3 s.heap a b c).objs.size=s.heap.objs.size+3:=by rw[Heap.size_push,v]
 have j:(za4 s.heap a b c).objs.size=s.heap.objs.size+4:=by rw[Heap.size_push,G]
 have f:(za5 s.heap a b c).objs.size=s.heap.objs.size+5:=by rw[Heap.size_push,j]
 have d:∀i o,(za4 s.heap a b c).get? i=some o->(za6 s.heap a b c).get? i=some o:=λ_ _ e=>aS _ (aS _ e);have r:∀i o,(za3 s.heap a b c).get? i=some o->(za6 s.heap a b c).get? i=some o:=λ_ _ e=>d _ _ (aS _ e);have h:(za6 s.heap a b c).get? (za5 s.heap a b c).objs.size=some _:=bL _ rfl;have S:(za6 s.heap a b c).get? (za4 s.heap a b c).objs.size=some _:=aS _ (bL _ rfl);have t:(za6 s.heap a b c).get? (za3 s.heap a b c).objs.size=some _:=d _ _ (bL _ rfl);have O:(za6 s.heap a b c).get? (za1 (za1 s.heap a) b).objs.size=some _:=r _ _ (bL _ rfl);have C:(za6 s.heap a b c).get? (za1 s.heap a).objs.size=some _:=r _ _ (aS _ (bL _ rfl));have e1:(za6 s.heap a b c).get? s.heap.objs.size=some _:=r _ _ (aS _ (aS _ (bL _ rfl)));show _/\_;rw[G,j,f]at h;rw[j]at S;rw[X,v,G]at t;rw[v]at O;rw[X]at C;rw[f];exact#[#[_,h,rfl],k _ _ rfl #[h,t,#[_,_,_,S],#[_,e1,rfl,rfl],#[_,C,rfl,rfl],#[_,O,rfl,rfl]] λi o e=>r _ _ (aS _ (aS _ (aS _ e)))]
end
def z3_out{d n:Nat}(h:d≠n+5/\d≠n+3/\d≠n+4/\d≠n/\d≠n+1/\d≠n+2):d<n∨n+6<=d:=#[]
def Itz3(K:aR)(a b c:Addr):It:=
 #[λi H=>∃xs x ys y zs z,SqL K H a xs/\xs[i]?=some x/\SqL K H b ys/\ys[i]?=some y/\SqL K H c zs/\zs[i]?=some z,
  λi H v H'=>∃p x y z,v=.ref p/\H p=none/\H'=upd H p (.tup [x,y,z])/\(∀xs,SqL K H a xs->xs[i]?=some x)/\(∀ys,SqL K H b ys->ys[i]?=some y)/\(∀zs,SqL K H c zs->zs[i]?=some z),
  λi H=>∃xs,SqL K H a xs/\xs.length<=i]
def iZip3(K:aR)(t:TA):TI:=λZ H R=>t Z H λvs S=>∃a b c,vs=[.ref a,.ref b,.ref c]/\(∃xs,SqL K S a xs)/\(∃ys,SqL K S b ys)/\(∃zs,SqL K S c zs)/\R (Itz3 K a b c) S
def turn_z3{P:Program}{w:World}{a3:List Expr}{tp:Pos}(n a b c:Nat)(b1:a<n)(b2:b<n)(b3:c<n):
  Ua P w K (.Tuple a3 k tp) (Itz3 K a b c) [n+5,n+3,n+4,n,n+1,n+2] (n+5) (λi h=>Z3 n a b c i .none h) where
 mem:=by simp
 obj:=λi h st d hd=>by
  obtain⟨M,m,⟨u,v,x,Y⟩,⟨S,e1,_,d1⟩,⟨A,C,_,d2⟩,⟨o3,O,_,d3⟩⟩:=st;have q:d=n+5∨d=n+3∨d=n+4∨d=n∨d=n+1∨d=n+2:=by simpa using hd
  rcases q with rfl |rfl |rfl |rfl |rfl |rfl
  .exact#[_,M,λv z=>nomatch z]
  .exact#[_,m,λv z=>nomatch z]
  .exact#[_,Y,λv z=>nomatch z]
  .exact#[S,e1,λv z=>by rw[d1]at z;cases z]
  .exact#[A,C,λv z=>by rw[d2]at z;cases z]
  .exact#[o3,O,λv z=>by rw[d3]at z;cases z]
 keep:=λi h U st kp=>by
  obtain⟨M,m,⟨u,v,x,Y⟩,h1,h2,h3⟩:=st;exact#[kp _ (by simp) _ M,kp _ (by simp) _ m,#[u,v,x,kp _ (by simp) _ Y],h1.at λo q=>kp _ (by simp) o q,h2.at λo q=>kp _ (by simp) o q,h3.at λo q=>kp _ (by simp) o q]
 item:=by
  intro X hP hw hK hc i B s Z H E I hf st hg;subst hP hw hK;obtain⟨F,x,T,y,N,z,J,hx,hr,hy,ht,M⟩:=hg;obtain⟨G,D,p,_⟩:=I.list J;obtain⟨a9,sv,r,_⟩:=I.list hr;obtain⟨b0,tv,t,_⟩:=I.list ht;obtain⟨u,R,ru⟩:=D.get hx;obtain⟨v,hv,a6⟩:=sv.get hy;obtain⟨q,a7,rq⟩:=tv.get M;refine z3_item b1 b2 b3 st p.isList r.isList t.isList (x:=u) (y:=v) (z:=q) (by simpa using R) (by simpa using hv) (by simpa using a7) λg Q a2 kp=>#[_,rfl,?_];refine wpAny_letOwnedTupleGo_zip (s:={ s with heap:=g }) Q.z λg2 en sb=>?_;have ub:=rZ (c0:=n+5) sb;have lz:n+5<s.heap.objs.size:=aW st.z;have j:Inv X B Z H { s with heap:=g2,toks:=s.toks }:=I.turnedL (ch:=[n+5,n+3,n+4,n,n+1,n+2]) (λd o hb q=>by
   have l:d≠n+5/\d≠n+3/\d≠n+4/\d≠n/\d≠n+1/\d≠n+2:=by simpa using hb
   exact ub d o l.1 (kp d o (z3_out l) q)) hf
  have a4:H s.heap.objs.size=none:=I.hok.fresh (aM _);have a5:g2.get? s.heap.objs.size=some { cls:=.type "tuple",data:=.seq (List.toArray [u,v,q]) }:=ub _ _ (Nat.ne_of_gt lz) a2;have I2:Inv X B Z (upd H s.heap.objs.size (.tup [x,y,z])) { s with heap:=g2,toks:=s.toks }:=j.adopt a4 I.sz (Nat.ne_of_gt I.lt) (λn c q=>by
   obtain⟨v,z⟩:=I.cell n c q;exact bJ z.lt) (λq J=>bJ (aW (I.pin q J).1)) #[by show 3<=sizeLine;decide,[u,v,q],.cons ru (.cons a6 (.cons rq .nil)),#[_,a5,rfl,_,rfl]]
  refine#[.ref s.heap.objs.size,_,I2,rfl,#[_,x,y,z,rfl,a4,rfl,λN a0=>by rw[I.list_inj a0 J];exact hx,λN a0=>by rw[I.list_inj a0 hr];exact hy,λN a0=>by rw[I.list_inj a0 ht];exact M],#[en,ub _ _ #[] Q.ti,?_,Q.h1.at λo e=>ub _ o #[] e,Q.h2.at λo e=>ub _ o #[] e,Q.h3.at λo e=>ub _ o #[] e],λd hb=>?_]
  .obtain⟨u,v,x,e⟩:=Q.to;exact#[u,v,x,ub _ _ #[] e]
  .have a8:=(hf d hb).1;have q:d=n+5∨d=n+3∨d=n+4∨d=n∨d=n+1∨d=n+2:=by simpa using hb
   have f:d<s.heap.objs.size:=by rcases q with q |q |q |q |q |q<;>rw[q]<;>first |exact lz |exact fU (Nat.add_le_add_left (by decide) n) lz |exact fU (dF n 5) lz
   rw[bY (bJ f)];exact a8
 done:=by
  intro X hP hw hK hc i B s Z H E I hf st hg;subst hP hw hK;obtain⟨F,J,hx⟩:=hg;obtain⟨G,D,p,_⟩:=I.list J;have l1:=D.length;refine z3_end (I.ok.hd hc) b1 st p.isList (by simp;lia) λg kp=>#[rfl,?_];exact I.turnedL (t':=s.toks) (ch:=[n+5,n+3,n+4,n,n+1,n+2]) (λd o hb q=>by
   have l:d≠n+5/\d≠n+3/\d≠n+4/\d≠n/\d≠n+1/\d≠n+2:=by simpa using hb
   exact kp d o (z3_out l) q) hf
 self:=λ_ _ _ _ _ st h=>wpAny_pyIter_zip st.z h
section
variable{X:Cx}
def pi_zip3{A:List Expr}{D:Pos}{a b c:Expr}{t:TA}{pos:Pos}(hg:Gl X "zip")(hm:X.mg "zip"=none)(Y:PA X [a,b,c] t)
  (M:starEach (a:: [b,c]) X.env=(false,eval a X.env)::starEach [b,c] X.env:=by rfl) (d:(backTo pos (starEach [b,c] X.env)).any (·.1)=false:=by rfl):PI X (.Tuple A k D) (.Call (.Name "zip" p) [a,b,c] [] pos) (iZip3 X.K t):=by
 intro B s Q H R I h;refine wpAny_Call_Name_kw (lR I hg hm Uq ?_);refine cI (thF (Y pos B s Q H _ I h) λus O m S j f q1=>?_) M d;obtain⟨P,v,w,U,⟨F,J⟩,⟨T,hr⟩,⟨N,y⟩,q⟩:=q1;subst U;rcases f with _ |⟨ra,_ |⟨rb,_ |⟨rc,f⟩⟩⟩;cases f;cases ra;cases rb;cases rc;obtain⟨G,_,x,_⟩:=j.list J;obtain⟨r,_,C,_⟩:=j.list hr;obtain⟨u,_,pn,_⟩:=j.list y;have lt:∀{l:Addr}{F:Array Value},O.heap.IsList l F->(l:Nat)<O.heap.objs.size:=λe=>by obtain⟨o,e,_⟩:=e;exact aW e
 refine call_z3 x.isList C.isList pn.isList λg n hn Z hk=>?_;subst hn;refine wpAny_pyIter_zip Z.z ?_;refine#[O.heap.objs.size+5,[O.heap.objs.size+5,O.heap.objs.size+3,O.heap.objs.size+4,O.heap.objs.size,O.heap.objs.size+1,O.heap.objs.size+2],_,Itz3 X.K P v w,S,rfl,j.kept (t':=O.toks) hk,turn_z3 _ P v w (lt x.isList) (lt C.isList) (lt pn.isList),Z,λc hc=>?_,q];have i:O.heap.objs.size<=c:=by
  have z:c=O.heap.objs.size+5∨c=O.heap.objs.size+3∨c=O.heap.objs.size+4∨c=O.heap.objs.size∨c=O.heap.objs.size+1∨c=O.heap.objs.size+2:=by simpa using hc
  rcases z with rfl |rfl |rfl |rfl |rfl |rfl<;>lia
 exact j.fpOk i (j.hok.fresh i)
end
def jVW{b c:Addr}{zs:List V}{g:TG}{D:rW}{Z:St}(h:Nat->St->Hp->Prop)(h0:h 0 Z H)(Y:∀i Z H,i<=xs.length->h i Z H->SqL K H a xs/\SqL K H b ys/\SqL K H c zs)(l:xs.length=ys.length)(hf:xs.length=zs.length)
  (hs:∀i x y z p Z H,xs[i]?=some x->ys[i]?=some y->zs[i]?=some z->h i Z H->H p=none->g (.ref p) Z (upd H p (.tup [x,y,z])) λj M=>tb { D with nx:=h (i+1),ct:=h (i+1),bk:=D.nx } j M) (hd:∀Z H,h xs.length Z H->D.nx Z H):
  ∃W:Nat->Nat->St->Hp->Prop,(∃m,W 0 m Z H)/\∀i m Z H,W i m Z H->
   ((Itz3 K a b c).stop i H/\D.nx Z H)∨((Itz3 K a b c).go i H/\∃N:St->Hp->Prop,(∀P d,N P d->∃Q,Q<m/\W (i+1) Q P d)/\∀x d,(Itz3 K a b c).yld i H x d->g x Z d λj M=>tb { D with nx:=N,ct:=N,bk:=D.nx } j M):=by
 refine#[λi m Z H=>m=xs.length-i/\i<=xs.length/\h i Z H,#[xs.length,by simp,dN _,h0],?_];rintro i m Z H ⟨rfl,hi,p⟩;obtain⟨q,r,t⟩:=Y i Z H hi p;by_cases f:i<xs.length
 .refine .inr #[#[xs,xs[i],ys,ys[i],zs,zs[i],q,by simp [f],r,by simp,t,by simp],h (i+1),λP d k=>#[xs.length-(i+1),#[],rfl,f,k],λx d y=>?_];obtain⟨u,B,o,T,e1,C,O,X,v,G⟩:=y;subst e1 O;exact hs i B o T u Z _ (X xs q) (v ys r) (G zs t) p C
 .have e:i=xs.length:=#[];subst e;exact .inl #[#[xs,q,aM _],hd Z H p]
noncomputable abbrev Hd(h:Heap)(z TI TO:Addr)(T:Addr)(b:Bool):Prop:=
 h.get? z=some { cls:=.type "zip",dict:=none,data:=.fields (List.toArray [rawInt T,.bool b,.bool false,.ref TI,.ref TO]),slots:=(List.toArray []) }
section
variable{prog:Program}{w:World}{A:Around}{E:Value->Shared->Prop}{s:Shared}
def Qz{TI TO T:Addr}{b:Bool}{Q:Bool->Shared->Prop}(hz:Hd s.heap z TI TO T b)(B:s.heap.get? T=some o)
  (h:∀U,Hd U z TI TO T true->Heap.SameBut z s.heap U->Q false { s with heap:=U }):wpAny (model prog w) A (Builtin.SmallTypes.ownedTupleIsFree (.ref z)) Q E s:=by
 unfold Builtin.SmallTypes.ownedTupleIsFree;refine aC (wpAny_field hz rfl (x:=rawInt T) rfl ?_);show wpAny _ _ (loadIfAlive (T:Int).toNat>>=_) _ _ _;refine aC (λd p c=>?_);unfold loadIfAlive;rw[Sem.wp_loadIfAlive,dA,B]
 revert d p c
 show wpAny _ _ (pure (some o)) _ _ _;refine aU ?_;show wpAny _ _ (field (.ref z) 1>>=_) _ _ _;refine aC (wpAny_field hz rfl (x:=.bool b) rfl ?_);cases b with
 |true=>
  rw[aF (by decide)];exact aC (aU (aU (h _ hz #[rfl,λ_ _=>rfl])))
 |false=>
  rw[aJ (by decide)];exact aC (wpAny_setField_rec hz (by simp) λe g a=>aU (h e g a))
def jX9{TI TO O C l1 l2 T:Addr}{b:Bool}{xs ys:Array Value}{x y:Value}(D:ZipApart z TI TO O C l1 l2)
  (hz:Hd s.heap z TI TO T b) (B:s.heap.get? T=some o) (m:IsPair s.heap TI (.ref O) (.ref C))
  (h1:s.heap.IsListIter O l1 k) (h2:s.heap.IsListIter C l2 k) (I:s.heap.IsList l1 xs) (J:s.heap.IsList l2 ys) (hx:xs[k]?=some x) (d:ys[k]?=some y)
  (p:∀U,Hd U z TI TO T true->U.IsListIter O l1 (k+1)->U.IsListIter C l2 (k+1)->IsPair U s.heap.objs.size x y->
   (∀c o,c≠z->c≠O->c≠C->s.heap.get? c=some o->U.get? c=some o)->Q (some (.ref s.heap.objs.size)) { s with heap:=U }):
  wpAny (model prog w) A (pyNext (.ref z)) Q E s:=by
 have G:s.TypeIs (.ref z) "zip":=#[_,hz,rfl];unfold pyNext;refine aC (wpAny_attempt (wpAny_callSpecial?_slot (name:=Str.ofString "__next__") G F.slot_zip_next (wpAny_call_entry F.slot_zip_next G F.entry_zip_next ?_ (F.args_zip_next_1 _))));show wpAny _ _ (field (.ref z) 2>>=_) _ _ _;refine aC (wpAny_field hz rfl (x:=.bool false) rfl ?_);show wpAny _ _ (field (.ref z) 3>>=_) _ _ _;refine aC (wpAny_field hz rfl (x:=.ref TI) rfl ?_);refine aC (wpAny_seqItems m rfl ?_);show wpAny _ _ (Builtin.SmallTypes.ownedTupleIsFree (.ref z)>>=_) _ _ _;refine aC (Qz hz B λu g a=>?_);simp only[Bool.false_eq_true,if_false];refine aC ?_;rw[←Array.forIn_toList];simp only[List.forIn_cons,List.forIn_nil];refine aC (aC (wpAny_holding ?_));show wpAny _ _ (Builtin.SmallTypes.nextOf (.ref O)>>=_) _ _ _;refine aC (wpAny_nextOf_list_item (h1.extBut a.extBut D.i1z) (I.extBut a.extBut D.l1z) hx λj i f=>aU (aU ?_));refine aC (aC (wpAny_holding ?_));show wpAny _ _ (Builtin.SmallTypes.nextOf (.ref C)>>=_) _ _ _;refine aC (wpAny_nextOf_list_item ((h2.extBut a.extBut D.i2z).extBut f.extBut D.i12.symm) ((J.extBut a.extBut D.l2z).extBut f.extBut D.l2i1) d λl n h=>aU (aU (aU ?_)));show wpAny _ _ (newTuple [x,y]>>=_) _ _ _;refine aC (wpAny_newTuple (aU #[_,rfl,aU ?_]));have t:l.objs.size=s.heap.objs.size:=by rw[h.1,f.1,a.1]
 have r:=h.extBut _ _ D.i2z.symm (f.extBut _ _ D.i1z.symm g);show Q (some (.ref l.objs.size)) _;rw[t];refine p _ (aS _ r) ((i.extBut h.extBut D.i12).at λo e=>aS _ e) (n.at λo e=>aS _ e) (t▸bL _ rfl) λc o q X v e=>aS _ (h.extBut _ _ v (f.extBut _ _ X (a.extBut _ _ q e)))
def jWY{TI TO O C l1 l2 T:Addr}{b:Bool}{xs:Array Value}(t:A.handled=none)(D:ZipApart z TI TO O C l1 l2)
  (hz:Hd s.heap z TI TO T b) (B:s.heap.get? T=some o) (m:IsPair s.heap TI (.ref O) (.ref C)) (h1:s.heap.IsListIter O l1 k) (I:s.heap.IsList l1 xs) (hx:xs[k]?=none)
  (p:∀U,(∀c o,c≠z->c≠O->s.heap.get? c=some o->U.get? c=some o)->Q none { s with heap:=U }):wpAny (model prog w) A (pyNext (.ref z)) Q E s:=by
 have G:s.TypeIs (.ref z) "zip":=#[_,hz,rfl];unfold pyNext;refine aC (wpAny_attempt (wpAny_callSpecial?_slot (name:=Str.ofString "__next__") G F.slot_zip_next (wpAny_call_entry F.slot_zip_next G F.entry_zip_next ?_ (F.args_zip_next_1 _))));show wpAny _ _ (field (.ref z) 2>>=_) _ _ _;refine aC (wpAny_field hz rfl (x:=.bool false) rfl ?_);show wpAny _ _ (field (.ref z) 3>>=_) _ _ _;refine aC (wpAny_field hz rfl (x:=.ref TI) rfl ?_);refine aC (wpAny_seqItems m rfl ?_);show wpAny _ _ (Builtin.SmallTypes.ownedTupleIsFree (.ref z)>>=_) _ _ _;refine aC (Qz hz B λh g a=>?_);simp only[Bool.false_eq_true,if_false];refine aC ?_;rw[←Array.forIn_toList];simp only[List.forIn_cons,List.forIn_nil];refine aC (aC (wpAny_holding ?_));show wpAny _ _ (Builtin.SmallTypes.nextOf (.ref O)>>=_) _ _ _;refine aC (wpAny_nextOf_list_end t (h1.extBut a.extBut D.i1z) (I.extBut a.extBut D.l1z) hx λj e f l=>?_);obtain⟨y,d,u⟩:=l;refine aC (wpAny_isInstance (T:="StopIteration") (b:=true) #[y,d,u] isSubtype_stop ?_);exact aU (p _ λc o q v x=>f _ _ v (a.extBut _ _ q x))
end
section
variable{prog:Program}{w:World}{A:Around}{E:Value->Shared->Prop}{s:Shared}
def Wl:entryFor table "zip.__getattribute__"=some Builtin.«object.__getattribute__»:=
 entryFor_alias (id':="object.__getattribute__") (by kernel_rfl) (by decide+kernel) (by decide+kernel) (by kernel_rfl)
def jJW:typeLookup (.type "zip") "keys"=pure none:=by rw[typeLookup_type,builtinLookup_eq_fast];kernel_rfl
def jJV:typeLookup (.type "zip") "__getattr__"=pure none:=by rw[typeLookup_type,builtinLookup_eq_fast];kernel_rfl
def Ym(a:Addr)(fs:Array Value)(u:Tok):
  Meets (Builtin.«object.__getattribute__» #[[.ref a,.str "keys" u],[]]) (λA R s=>s.heap.get? a=some { cls:=.type "zip",dict:=none,data:=.fields fs,slots:=(List.toArray []) }/\raisesAttr (.ref a) "keys" A R s):=
 Meets.of_wp λprog w A R s hs=>by
  obtain⟨hp,g,d,tk,os⟩:=s;obtain⟨hx,hs⟩:=hs;have B:(#[hp,g,d,tk,os]:Shared).TypeIs (.ref a) "zip":=#[_,hx,rfl];have b:=jJW;unfold Builtin.«object.__getattribute__»
  repeat(any_goals(first |assumption |wp_step))
  exact wpAny_raiseAttrError hs.1 hs.2 (attrMsg_fits (by decide+kernel) (by size_fits))
def jWX{fs:Array Value}(hx:s.heap.get? a=some { cls:=.type "zip",dict:=none,data:=.fields fs,slots:=(List.toArray []) })(v:A.handled=none)
  (h:∀U tk,(∀b ob,s.heap.get? b=some ob->U.get? b=some ob)->Q none { s with heap:=U,toks:=tk }):wpAny (model prog w) A (getAttr? (.ref a) "keys") Q E s:=by
 obtain⟨hp,g,d,tk,os⟩:=s;have B:∀D,(#[hp,g,d,D,os]:Shared).TypeIs (.ref a) "zip":=λ_=>#[_,hx,rfl];have r:=sub_AttributeError;have c:=F.slot_zip_getattribute.lookup;have f:=F.slot_zip_getattribute.bind (.ref a);have q:=jJV;unfold getAttr? getAttrBy? getAttrBy
 repeat(any_goals(first |assumption |exact B _ |((with_reducible show wpAny _ _ (call (Value.builtin "zip.__getattribute__") _ _) _ _ _);refine call_meets F.slot_zip_getattribute (B _) Wl (F.args_zip_getattribute_2 _ _) (Ym a fs _) #[hx,v,λU D e M=>?_])|wp_step))
 obtain⟨O,i,l⟩:=M.there;show wpAny _ _ (getattributeRaised _ _ _ _ _ _ _) _ _ _;unfold getattributeRaised
 repeat(any_goals(first |assumption |wp_step))
 exact h _ _ M.keeps
end
def Ss:entryFor table "dict.update.loop"=some Builtin.«dict.update.loop»:=entryFor_of_tree (by kernel_rfl)
def Bj:plainId "dict.update.loop"=true:=by decide+kernel
structure ZS(N l1 l2 i:Nat)(h:Heap):Prop where
 ti:IsPair h (N+2) (.ref N) (.ref (N+1))
 h1:h.IsListIter N l1 i
 h2:h.IsListIter (N+1) l2 i
 z:(IsZip h (N+4) (N+2) (N+3) .none/\∃u v,IsPair h (N+3) u v)∨∃(T:Nat)(b:Bool)(o:Obj),Hd h (N+4) (N+2) (N+3) T b/\h.get? T=some o/\N+6<=T
section
variable{prog:Program}{w:World}{A:Around}{E:Value->Shared->Prop}{s:Shared}{N l1 l2 i:Nat}{xs ys:Array Value}
def ZS.keep{h':Heap}(Z:ZS N l1 l2 i h)(k:∀(c:Nat) o,c≠N+5->h.get? c=some o->h'.get? c=some o):ZS N l1 l2 i h':=by
 refine#[k _ _ #[] Z.ti,Z.h1.at λo e=>k _ o #[] e,Z.h2.at λo e=>k _ o #[] e,?_];rcases Z.z with⟨a,u,v,b⟩|⟨T,b,o,a,e,le⟩
 .exact .inl #[k _ _ #[] a,u,v,k _ _ #[] b]
 .exact .inr #[T,b,o,k _ _ #[] a,k _ _ #[] e,le]
def ZS.item{x y:Value}(b1:l1<N)(b2:l2<N)(Z:ZS N l1 l2 i s.heap)(a:N+5<s.heap.objs.size)(I:s.heap.IsList l1 xs)(J:s.heap.IsList l2 ys)(hx:xs[i]?=some x)(d:ys[i]?=some y)
  (p:∀U,ZS N l1 l2 (i+1) U->IsPair U s.heap.objs.size x y->(∀(c:Nat) o,c<N∨N+5<=c->s.heap.get? c=some o->U.get? c=some o)->Q (some (.ref s.heap.objs.size)) { s with heap:=U }):wpAny (model prog w) A (pyNext (.ref (N+4))) Q E s:=by
 have D:=He b1 b2;rcases Z.z with⟨z,u,v,o⟩|⟨T,b,o,z,e,le⟩
 .refine wpAny_pyNext_zip_item D z Z.ti o Z.h1 Z.h2 I J hx d λU g h l n f B kp=>p U #[kp _ _ D.TIz D.TITO D.TIi1 D.TIi2 Z.ti,l,n,.inr #[_,_,_,g,f,a]] f λc o hc e=>kp c o ?_ ?_ ?_ ?_ e<;>(intro q;have G:(_:Nat)=_:=q;lia)
 .refine jX9 D z e Z.ti Z.h1 Z.h2 I J hx d λU g l n f kp=>p U #[kp _ _ D.TIz D.TIi1 D.TIi2 Z.ti,l,n,.inr #[_,_,_,g,kp _ _ ?_ ?_ ?_ e,le]] f λc o hc e=>kp c o ?_ ?_ ?_ e
  all_goals(intro q;have G:(_:Nat)=_:=q)
  all_goals lia
def ZS.stop(t:A.handled=none)(b1:l1<N)(b2:l2<N)(Z:ZS N l1 l2 i s.heap)(I:s.heap.IsList l1 xs)(J:s.heap.IsList l2 ys)(hx:xs[i]?=none)
  (p:∀U,(∀(c:Nat) o,c<N∨N+5<=c->s.heap.get? c=some o->U.get? c=some o)->Q none { s with heap:=U }):wpAny (model prog w) A (pyNext (.ref (N+4))) Q E s:=by
 have D:=He b1 b2;rcases Z.z with⟨z,u,v,o⟩|⟨T,b,o,z,e,le⟩
 .refine wpAny_pyNext_zip_end t D z Z.ti o Z.h1 Z.h2 I J (.inl hx) λU kp=>p U λc o hc e=>kp c o ?_ ?_ ?_ ?_ e<;>(intro q;have G:(_:Nat)=_:=q;lia)
 .refine jWY t D z e Z.ti Z.h1 I hx λU kp=>p U λc o hc e=>kp c o ?_ ?_ e<;>(intro q;have G:(_:Nat)=_:=q;lia)
end
section
variable{prog:Program}{w:World}{A:Around}{R:Result->Shared->Prop}{K:Type} [DecidableEq K]{knd:KeyKind prog w K}{s:Shared}{h0:Heap}{l1 l2:Nat}{xs ys:Array Value}{ps:List (List K×Addr×Value)}
def dz_loop(I:h0.IsList l1 xs)(Y:h0.IsList l2 ys)(hx:∀(i:Nat)(p:List K×Addr×Value),ps[i]?=some p->xs[i]?=some (.ref p.2.1)/\ys[i]?=some p.2.2/\(tupleKind knd).is h0 p.1 p.2.1)(hn:xs.size=ps.length)(nd:(ps.map (·.1)).Nodup)(hz:ps.length<=sizeLine)(t:A.in1.handled=none)(hu:(tupleKind knd).room A.in1)
  (T:∀U tk,(∀b o,h0.get? b=some o->U.get? b=some o)->U.DictOfH (tupleKind knd) (h0.objs.size+5) ps->R (.ok (.ret .none)) { s with heap:=U,toks:=tk }):
  ∀(k i:Nat)(j:Int)(h:Heap)(tk:Nat),ps.length-i=k->i<=ps.length->ZS h0.objs.size l1 l2 i h->h0.objs.size+5<h.objs.size->(∀b o,h0.get? b=some o->h.get? b=some o)->h.DictOfH (tupleKind knd) (h0.objs.size+5) (ps.take i)->
   codeAny (model prog w) A (Code.builtin "dict.update.loop" #[[Value.ref (h0.objs.size+5),.ref (h0.objs.size+4),rawInt j,.none],[]]) R { s with heap:=h,toks:=tk }:=by
 have N:l1<h0.objs.size:=by obtain⟨o,e,_⟩:=I;exact aW e
 have Q:l2<h0.objs.size:=by obtain⟨o,e,_⟩:=Y;exact aW e
 intro k
 induction k with
 |zero=>
  intro i j h tk hk hi Z hs kp hd;have e:i=ps.length:=#[];subst e;refine codeAny_builtin Ss ?_;rw[Around.under_plainId Bj _];show wpAny _ A.in1 (pyNext (Value.ref (h0.objs.size+4))>>=_) _ _ _;refine aC (Z.stop (s:={ s with heap:=h,toks:=tk }) t N Q (I.at λo e=>kp _ o e) (Y.at λo e=>kp _ o e) (by rw[Array.getElem?_eq_none #[]]) λU v=>?_);show wpAny _ A.in1 (Builtin.Dict.addKeywords (h0.objs.size+5) []>>=_) _ _ _;refine aC (aU (aU (T U tk (λb o e=>v b o (.inl (aW e)) (kp b o e)) ?_)));rw[cB]at hd;obtain⟨o,g,ep,D,hc,C,he,H,F⟩:=hd;refine#[o,g,ep,v _ _ (.inr (aM _)) D,hc,C,he,λx M=>?_,F];obtain⟨m,hm⟩:=cJ M;obtain⟨q,u,n,J,r⟩:=(hx m x hm).2.2;exact#[q,u,n,v _ _ (.inl (aW J)) (kp _ _ J),r]
 |succ k ih=>
  intro i j h tk hk hi Z hs kp hd;have f:i<ps.length:=#[];have hp:ps[i]?=some ps[i]:=aD f;obtain⟨x1,X,y⟩:=hx i _ hp;refine codeAny_builtin Ss ?_;rw[Around.under_plainId Bj _];show wpAny _ A.in1 (pyNext (Value.ref (h0.objs.size+4))>>=_) _ _ _;refine aC (Z.item (s:={ s with heap:=h,toks:=tk }) N Q hs (I.at λo e=>kp _ o e) (Y.at λo e=>kp _ o e) x1 X λU O B v=>?_);have a:∀b o,h0.get? b=some o->U.get? b=some o:=λb o e=>v b o (.inl (aW e)) (kp b o e);have z:h.objs.size<U.objs.size:=aW B;have S:Shared.TypeIs { s with heap:=U,toks:=tk } (.ref h.objs.size) "tuple":=#[_,B,rfl];have G:U.DictOfH (tupleKind knd) (h0.objs.size+5) (ps.take i):=by
   obtain⟨o,g,ep,D,hc,C,he,H,F⟩:=hd;refine#[o,g,ep,v _ _ (.inr (aM _)) D,hc,C,he,λx M=>?_,F];obtain⟨m,hm⟩:=cJ (List.mem_of_mem_take M);obtain⟨q,u,n,J,r⟩:=(hx m x hm).2.2;exact#[q,u,n,a _ _ J,r]
  show wpAny _ A.in1 (holding [Value.ref h.objs.size] (tryCatch (Builtin.Dict.pairItems (.ref h.objs.size)) _>>=_)>>=_) _ _ _;refine aC (wpAny_holding (aC (wpAny_tryCatch ?_)));unfold Builtin.Dict.pairItems;refine aC (wpAny_typeOf S ?_);rw[aJ (by decide)];refine aC (wpAny_seqItems B rfl (aU ?_));show wpAny _ A.in1 (holding [Value.ref ps[i].2.1,ps[i].2.2] (dictSet (h0.objs.size+5) (.ref ps[i].2.1) ps[i].2.2)) _ _ _;refine wpAny_holding (wpAny_dictSet_heap (s:={ s with heap:=U,toks:=tk }) (hsz:=by rw[dO];lia) hu (let⟨q,u,n,J,r⟩:=y;#[q,u,n,a _ _ J,r]) G λh2 d sb=>aU #[plainId_quiet Bj _,?_]);refine ih (i+1) _ h2 _ #[] f (O.keep λc o hc e=>sb.extBut _ _ hc e) (by rw[sb.1];exact Nat.lt_trans hs z) (λb o e=>sb.extBut _ _ (bJ (bQ (aW e) (dF _ _))) (a b o e)) ?_;have none:atKey (ps.take i) ps[i].1=none:=by
   refine atKey_none_of_get λm q hm=>?_;have P:m<i:=by have:=(aK.mp hm).1;rw[dO]at this;lia
   rw[List.getElem?_take_of_lt P]at hm;have e:m=i:=(List.getElem?_inj (l:=ps.map (·.1)) (by rw[aA];lia) nd).mp (by rw[aX,aX,hm,hp];rfl);lia
  rw[storedH_new none]at d;rw[List.take_add_one,hp];exact d
end
section
variable{prog:Program}{w:World}{A:Around}{E:Value->Shared->Prop}{K:Type} [DecidableEq K]{knd:KeyKind prog w K}{s:Shared}{l1 l2:Nat}{xs ys:Array Value}{ps:List (List K×Addr×Value)}
def dz_call{h0:Heap}{Q:Value->Shared->Prop}(hs:s.heap.objs.size=h0.objs.size+5)(Z:ZS h0.objs.size l1 l2 0 s.heap)(kp:∀b o,h0.get? b=some o->s.heap.get? b=some o)(I:h0.IsList l1 xs)(J:h0.IsList l2 ys)
  (hx:∀(i:Nat)(p:List K×Addr×Value),ps[i]?=some p->xs[i]?=some (.ref p.2.1)/\ys[i]?=some p.2.2/\(tupleKind knd).is h0 p.1 p.2.1) (R:xs.size=ps.length) (nd:(ps.map (·.1)).Nodup) (hz:ps.length<=sizeLine) (t:A.handled=none) (q:(tupleKind knd).room A.in1.in1)
  (h:∀U tk,(∀b o,h0.get? b=some o->U.get? b=some o)->U.DictOfH (tupleKind knd) (h0.objs.size+5) ps->Q (.ref (h0.objs.size+5)) { s with heap:=U,toks:=tk }):
  wpAny (model prog w) A (call (.type "dict") [.ref (h0.objs.size+4)]) Q E s:=by
 refine callType_codes (Q₁:=λobj N=>obj=.ref s.heap.objs.size/\N={ s with heap:=s.heap.push { cls:=.type "dict",data:=.dict (List.toArray []) } }) F.kt_called_dict (F.kt_typeCall_dict_1 _) F.entry_dict_init (kt_code_dict_new _ #[rfl,rfl]) ?_;rintro obj N ⟨rfl,rfl⟩;have f:(s.heap.push { cls:=.type "dict",data:=.dict (List.toArray []) }).get? s.heap.objs.size=some { cls:=.type "dict",data:=.dict (List.toArray []) }:=bL _ rfl;have n:Shared.TypeIs { s with heap:=s.heap.push { cls:=.type "dict",data:=.dict (List.toArray []) } } (.ref s.heap.objs.size) "dict":=#[_,f,rfl];have d:s.heap.get? (h0.objs.size+4)=some { cls:=.type "zip",dict:=none,data:=.fields (List.toArray [.none,.bool false,.bool false,.ref (h0.objs.size+2),.ref (h0.objs.size+3)]),slots:=(List.toArray []) }:=by
  rcases Z.z with⟨z,_⟩|⟨T,b,o,_,e,le⟩
  .exact z
  .have:T<s.heap.objs.size:=aW e;lia
 have g:(s.heap.push { cls:=.type "dict",data:=.dict (List.toArray []) }).get? (h0.objs.size+4)=_:=aS _ d;have k:Shared.TypeIs { s with heap:=s.heap.push { cls:=.type "dict",data:=.dict (List.toArray []) } } (.ref (h0.objs.size+4)) "zip":=#[_,g,rfl];refine#[n,F.args_dict_init_2 _ _,?_];unfold Builtin.«dict.__init__»;refine aC ?_;unfold Builtin.Dict.selfAndRest;refine aC (wpAny_notOrdered_dict n ?_);show wpAny _ _ (pure (s.heap.objs.size,[Value.ref (h0.objs.size+4)])) _ _ _;refine aU ?_;show wpAny _ _ (Builtin.Dict.updateFrom "dict.__init__" s.heap.objs.size (.ref (h0.objs.size+4)) [] .none) _ _ _;unfold Builtin.Dict.updateFrom;refine aC (wpAny_typeOf k ?_);rw[aJ (by decide)];refine aC (jWX g t λU tk v=>?_);rw[aJ (by rfl)];refine aC (wpAny_rule ?_);have a:∀b o,s.heap.get? b=some o->U.get? b=some o:=λb o e=>v b o (aS _ e);refine aC (wpAny_pyIter_zip (a _ _ d) (aU #[plainId_quiet Bj _,?_]));rw[hs];rw[hs]at f;have j:=v _ _ f;refine dz_loop (A:=A.in1) (s:=s) I J hx R nd hz t q (λh2 l m hd=>?_) _ 0 0 U tk rfl (dN _) (Z.keep λc o _ e=>a c o e) (aW j) (λb o e=>a b o (kp b o e)) #[_,_,_,j,#[rfl,rfl,rfl],rfl,rfl,(λx hx=>nomatch hx),List.nodup_nil]
 exact#[rfl,h h2 l m hd]
end
def tDZip(K:aR)(t:TA):TE:=λZ H Q=>t Z H λvs S=>∃(a b:Addr)(ks:List (List Key))(qs:List Addr)(ys:List V),vs=[.ref a,.ref b]/\SqL K S a (qs.map V.ref)/\SqL K S b ys/\qs.length=ks.length/\ks.length<=ys.length/\
 (∀(i:Nat) q k,qs[i]?=some q->ks[i]?=some k->S q=some (.tup (k.map kV)))/\ks.Nodup/\∀p,S p=none->Q (.ref p) (upd S p (.dT (ks.zip ys)))
def kt_zip{H:Hp}:∀{ks:List (List Key)}{qs:List Addr}{ys:List V}{us:List Value},qs.length=ks.length->fF ys us->ks.length<=ys.length->(∀(i:Nat) q k,qs[i]?=some q->ks[i]?=some k->H q=some (.tup (k.map kV)))->KT H (ks.zip ys) (ks.zip (qs.zip us))
 | [],[],_,_,_,_,_,_=>.nil
 | [],_::_,_,_,h,_,_,_=>nomatch h
 |_::_,[],_,_,h,_,_,_=>nomatch h
 |_::_,_::_,_,_,_,.nil,h,_=>absurd h (Nat.not_succ_le_zero _)
 |k::ks,q::qs,_,_,h1,.cons r rs,h2,h3=>.cons #[rfl,h3 0 q k rfl rfl,r] (kt_zip (Nat.succ.inj h1) rs (Nat.le_of_succ_le_succ h2) λi q k e1 C=>h3 (i+1) q k e1 C)
def Ms{d c a:Type}{ks:List d}{qs:List c}{us:List a}{p:d×c×a}(h:(ks.zip (qs.zip us))[i]?=some p):ks[i]?=some p.1/\qs[i]?=some p.2.1/\us[i]?=some p.2.2:=by
 rw[List.getElem?_zip_eq_some,List.getElem?_zip_eq_some]at h;exact h
section
variable{X:Cx}
def pe_dzip{a b:Expr}{t:TA}{p2 n:Pos}(hu:X.A.units+64<cLine)(a6:Gl X "dict")(a7:X.mg "dict"=none)(a8:Gl X "zip")(a9:X.mg "zip"=none)(hc:X.calm=true)(Y:PA X [a,b] t)
  (a4:starEach [.Call (.Name "zip" p2) [a,b] [] n] X.env=[(false,eval (.Call (.Name "zip" p2) [a,b] [] n) X.env)]:=by rfl)
  (l:starEach (a:: [b]) X.env=(false,eval a X.env)::starEach [b] X.env:=by rfl) (d:(backTo n (starEach [b] X.env)).any (·.1)=false:=by rfl):
  PE X (.Call (.Name "dict" p1) [.Call (.Name "zip" p2) [a,b] [] n] [] a0) (tDZip X.K t):=by
 intro B s Z H Q I h;refine Call_ (lR I a6 a7 jXu (cI (spliced_more ?_ (by rw[a4];rfl)) a4 rfl));refine Call_ (lR I a8 a9 Uq (cI (thF (Y n B s Z H _ I h) λus O m S j f q1=>?_) l d));obtain⟨P,l2,ks,qs,T,F,J,hr,lq,ly,hk,nd,q⟩:=q1;subst F;cases f with
 |cons ra f=>
 cases f with
 |cons rb f=>
 cases f;cases ra;cases rb;obtain⟨G,rv,pl,a5⟩:=j.list J;obtain⟨r,y,z,b9⟩:=j.list hr;have e1:=rv.length;have C:=y.length;rw[aA]at e1;refine call_zip_2 pl.isList z.isList λg M b0 b3 h1 h2 b4 kp=>spliced_none ?_;have kq:∀i q,qs[i]?=some q->G[i]?=some (Value.ref q):=λi q e=>by
  obtain⟨u,hu,k⟩:=rv.get (i:=i) (x:=V.ref q) (by rw[aX,e];rfl);cases k;exact hu
 have lp:(ks.zip (qs.zip r)).length=ks.length:=by rw[List.length_zip,List.length_zip];lia
 refine dz_call (knd:=kB X.prog X.w) (h0:=O.heap) (s:={ O with heap:=g }) (l1:=P) (l2:=l2) (xs:=G.toArray) (ys:=r.toArray) (ps:=ks.zip (qs.zip r)) b4 #[b0,h1,h2,.inl #[M,_,_,b3]] kp pl.isList z.isList (λi p hp=>?_) (by rw[bM,lp];lia) ?_ (by rw[aA]at a5;lia) (j.ok.hd hc) (by show X.A.units+1+1<cLine;lia) λU tk v hd=>?_
 .obtain⟨a1,a2,a3⟩:=Ms hp;exact#[by simpa using kq i _ a2,by simpa using a3,Mj j.hok (hk i _ _ a2 a1)]
 .rw[List.map_fst_zip (by rw[List.length_zip];lia)];exact nd
 .obtain⟨o,es,ep,D,b5,b7,b8,c1,R⟩:=hd;refine#[.ref _,_,j.laid (t':=tk) (o:=.dT (ks.zip T)) v (dF _ 5) #[by rw[List.length_zip];rw[aA]at a5;lia,?_,_,(kt_zip lq y ly hk).keeps λc N e=>?_,o,es,ep,D,b5,b7,b8,R],rfl,q _ (j.hok.fresh (dF _ 5))]
  .have:=j.big;exact beq_false_of_ne (Nat.ne_of_gt (bQ this (dF _ 5)))
  .rw[bY (dE e (j.hok.fresh (dF _ 5)))];exact e
end
def jX8:typeLookup (.type "zip") "__len__"=pure none:=by rw[typeLookup_type,builtinLookup_eq_fast];kernel_rfl
def jJU:typeLookup (.type "zip") "__length_hint__"=pure none:=by rw[typeLookup_type,builtinLookup_eq_fast];kernel_rfl
def LZ(N:Nat)(xs ys:Array Value)(i:Nat)(n:List Nat)(h:Heap):Prop:=
 n.length=i/\n.Pairwise (·<·)/\∀(j T:Nat),n[j]?=some T->N+6<=T/\∃x y,xs[j]?=some x/\ys[j]?=some y/\IsPair h T x y
section
variable{prog:Program}{w:World}{A:Around}{E:Value->Shared->Prop}{R:Result->Shared->Prop}{s:Shared}{h0:Heap}{l1 l2:Nat}{xs ys:Array Value}
def lz_loop(I:h0.IsList l1 xs)(J:h0.IsList l2 ys)(r:xs.size=ys.size)(hz:xs.size<=sizeLine)(t:A.in1.handled=none)
  (z:∀U n c,(∀b o,h0.get? b=some o->U.get? b=some o)->U.get? (h0.objs.size+5)=some { cls:=.type "list",dict:=none,data:=.seq (n.map Value.ref).toArray c,slots:=(List.toArray []) }->LZ h0.objs.size xs ys xs.size n U->R (.ok (.ret .none)) { s with heap:=U }):
  ∀(k i:Nat)(h:Heap)(n:List Nat)(d:Array Value)(c:Nat),xs.size-i=k->i<=xs.size->ZS h0.objs.size l1 l2 i h->(∀b o,h0.get? b=some o->h.get? b=some o)->h.get? (h0.objs.size+5)=some { cls:=.type "list",dict:=none,data:=.seq d c,slots:=(List.toArray []) }->d=(n.map Value.ref).toArray->LZ h0.objs.size xs ys i n h->
   codeAny (model prog w) A (Code.builtin "list.extend.loop" #[[Value.ref (h0.objs.size+5),.ref (h0.objs.size+4),.none],[]]) R { s with heap:=h }:=by
 have N:l1<h0.objs.size:=by obtain⟨o,e,_⟩:=I;exact aW e
 have Q:l2<h0.objs.size:=by obtain⟨o,e,_⟩:=J;exact aW e
 intro k
 induction k with
 |zero=>
  intro i h n d c hk hi Z kp hd Y L;subst Y;have e:i=xs.size:=#[];subst e;refine codeAny_builtin F.entry_extend_loop ?_;rw[Around.under_plainId F.plain_extend_loop _];show wpAny _ A.in1 (pyNext (Value.ref (h0.objs.size+4))>>=_) _ _ _;refine aC (Z.stop (s:={ s with heap:=h }) t N Q (I.at λo e=>kp _ o e) (J.at λo e=>kp _ o e) (by rw[Array.getElem?_eq_none #[]]) λU v=>?_);exact aU (z U n c (λb o e=>v b o (.inl (aW e)) (kp b o e)) (v _ _ (.inr (aM _)) hd) #[L.1,L.2.1,λj T e=>#[(L.2.2 j T e).1,let⟨x,y,a,b,p⟩:=(L.2.2 j T e).2;#[x,y,a,b,v _ _ (.inr (Nat.le_of_succ_le (L.2.2 j T e).1)) p]]])
 |succ k ih=>
  intro i h n d c hk hi Z kp hd Y L;have g:d.size=i:=by rw[Y];simp [L.1]
  have f:i<xs.size:=#[];have u:xs[i]?=some xs[i]:=Array.getElem?_eq_getElem f;have X:ys[i]?=some ys[i]:=Array.getElem?_eq_getElem (r▸f);refine codeAny_builtin F.entry_extend_loop ?_;rw[Around.under_plainId F.plain_extend_loop _];show wpAny _ A.in1 (pyNext (Value.ref (h0.objs.size+4))>>=_) _ _ _;have hs:h0.objs.size+5<h.objs.size:=aW hd;refine aC (Z.item (s:={ s with heap:=h }) N Q hs (I.at λo e=>kp _ o e) (J.at λo e=>kp _ o e) u X λU O B v=>?_);have G:=v _ _ (.inr (aM _)) hd;show wpAny _ A.in1 (updateSeq (h0.objs.size+5) (·.push (.ref h.objs.size))>>=_) _ _ _;have l:∀(b:Nat) o,b≠h0.objs.size+5->U.get? b=some o->(U.update (h0.objs.size+5) (Obj.mapSeq (·.push (Value.ref h.objs.size)))).get? b=some o:=λb o hb e=>(dL _ _ (Ne.symm hb)).trans e;refine aC (wpAny_updateSeq G rfl (aU #[plainId_quiet F.plain_extend_loop _,?_]) (by rw[g];lia) (by show(d.push _).size<=sizeLine+1;rw[Array.size_push,g];lia));refine ih (i+1) _ (n++ [h.objs.size]) (d.push (.ref h.objs.size)) _ #[] f (O.keep λc o hc e=>l c o hc e) (λb o e=>l b o (bJ (bQ (aW e) (dF _ _))) (v b o (.inl (aW e)) (kp b o e))) (Heap.get?_update_self _ G rfl) (by rw[Y];simp) #[by rw[bC,L.1];rfl,List.pairwise_append.mpr #[L.2.1,List.pairwise_singleton _ _,λa ha b hb=>?_],λj T e=>?_]
  .obtain⟨m,hm⟩:=cJ ha;obtain⟨x,y,_,_,p⟩:=(L.2.2 m a hm).2;rw[bZ.mp hb];exact aW p
  .by_cases P:j<n.length
   .rw[bV P]at e;obtain⟨a,x,y,b1,b2,p⟩:=L.2.2 j T e;exact#[a,x,y,b1,b2,l _ _ #[] (v _ _ (.inr (Nat.le_of_succ_le a)) p)]
   .have q:j=i:=by
     have:=(aK.mp e).1;rw[bC,List.length_singleton]at this;have:=L.1;lia
    subst q;rw[bO #[],L.1,gH]at e;cases e;exact#[hs,_,_,u,X,l _ _ #[] B]
def lz_call{Q:Value->Shared->Prop}(hs:s.heap.objs.size=h0.objs.size+5)(Z:ZS h0.objs.size l1 l2 0 s.heap)(kp:∀b o,h0.get? b=some o->s.heap.get? b=some o)(I:h0.IsList l1 xs)(J:h0.IsList l2 ys)(p:xs.size=ys.size)(hz:xs.size<=sizeLine)(t:A.handled=none)
  (h:∀U n c,(∀b o,h0.get? b=some o->U.get? b=some o)->U.get? (h0.objs.size+5)=some { cls:=.type "list",dict:=none,data:=.seq (n.map Value.ref).toArray c,slots:=(List.toArray []) }->LZ h0.objs.size xs ys xs.size n U->Q (.ref (h0.objs.size+5)) { s with heap:=U }):
  wpAny (model prog w) A (call (.type "list") [.ref (h0.objs.size+4)]) Q E s:=by
 refine callType_codes (Q₁:=λobj N=>obj=.ref s.heap.objs.size/\N={ s with heap:=s.heap.push { cls:=.type "list",data:=.seq (List.toArray []) } }) F.called_list (F.typeCall_list_1 _) F.entry_list_init (code_list_new _ #[rfl,rfl]) ?_;rintro obj N ⟨rfl,rfl⟩;have P:(s.heap.push { cls:=.type "list",data:=.seq (List.toArray []) }).get? s.heap.objs.size=some { cls:=.type "list",data:=.seq (List.toArray []) }:=bL _ rfl;refine#[#[_,P,rfl],F.args_list_init_2 _ _,?_];rw[hs]at P⊢;have d:s.heap.get? (h0.objs.size+4)=some { cls:=.type "zip",dict:=none,data:=.fields (List.toArray [.none,.bool false,.bool false,.ref (h0.objs.size+2),.ref (h0.objs.size+3)]),slots:=(List.toArray []) }:=by
  rcases Z.z with⟨z,_⟩|⟨T,b,o,_,e,le⟩
  .exact z
  .have:T<s.heap.objs.size:=aW e;lia
 show wpAny _ _ (Builtin.List.listItems (.ref (h0.objs.size+5))>>=_) _ _ _;refine aC ?_;unfold Builtin.List.listItems;refine aC (wpAny_seqItems P rfl (aU ?_));show wpAny _ _ (updateSeq (h0.objs.size+5) (λ_=>(List.toArray []))>>=λ_=>letGo ((List.toArray []):Array Value).toList.reverse>>=λ_=>Builtin.List.listExtendWith (.ref (h0.objs.size+5)) (.ref (h0.objs.size+4)) .none) _ _ _;refine aC (wpAny_updateSeq P rfl (aC (wpAny_letGo ?_)));have S2:=Heap.get?_update_self (Obj.mapSeq (λ_=>((List.toArray []):Array Value))) P rfl;have l:∀(b:Nat) o,b≠h0.objs.size+5->s.heap.get? b=some o->((s.heap.push { cls:=.type "list",data:=.seq (List.toArray []) }).update (h0.objs.size+5) (Obj.mapSeq (λ_=>((List.toArray []):Array Value)))).get? b=some o:=λb o hb e=>(dL _ _ (Ne.symm hb)).trans (aS _ e);generalize (s.heap.push { cls:=.type "list",data:=.seq (List.toArray []) }).update (h0.objs.size+5) (Obj.mapSeq (λ_=>((List.toArray []):Array Value)))=g at S2 l⊢;have S:IsZip g (h0.objs.size+4) (h0.objs.size+2) (h0.objs.size+3) .none:=l _ _ #[] d;have k:Shared.TypeIs { s with heap:=g } (.ref (h0.objs.size+4)) "zip":=#[_,S,rfl];unfold Builtin.List.listExtendWith;refine aC (wpAny_typeOf k ?_);have e1:Builtin.List.listSameRef (.ref (h0.objs.size+5)) (.ref (h0.objs.size+4))=false:=by simp [Builtin.List.listSameRef]
 have C:(Value.type "zip"==Value.type "list")=false:=by decide
 have O:(Value.type "zip"==Value.type "tuple")=false:=by decide
 simp only[e1,C,O,Bool.or_false,Bool.false_eq_true,if_false];refine aC (wpAny_pyIter_zip S (aC (wpAny_holding ?_)));unfold Builtin.List.listLengthHint;refine aC (wpAny_specialOf k jX8 ?_);show wpAny _ _ (specialOf (Value.ref (h0.objs.size+4)) (Str.ofString "__length_hint__")>>=_) _ _ _;refine aC (wpAny_specialOf k jJU (aU ?_));show wpAny _ _ (rule "list.extend.makes-room">>=λ_=>Builtin.List.listTouch (.ref (h0.objs.size+5))>>=λ_=>again (.builtin "list.extend.loop" #[[.ref (h0.objs.size+5),.ref (h0.objs.size+4),.none],[]])) _ _ _;refine aC (wpAny_rule (aC ?_));show wpAny _ _ (updateSeq (h0.objs.size+5) (·.push .none)>>=λ_=>updateSeq (h0.objs.size+5) (·.pop)) _ _ _;refine aC (wpAny_updateSeq S2 rfl ?_);have a:=Heap.get?_update_self (Obj.mapSeq (·.push Value.none)) S2 rfl;refine wpAny_updateSeq (hz:=by seq_fits) a rfl ?_;have m:=Heap.get?_update_self (Obj.mapSeq (·.pop)) a rfl;have u:∀(b:Nat) o,b≠h0.objs.size+5->s.heap.get? b=some o->((g.update (h0.objs.size+5) (Obj.mapSeq (·.push Value.none))).update (h0.objs.size+5) (Obj.mapSeq (·.pop))).get? b=some o:=λb o hb e=>(dL _ _ (Ne.symm hb)).trans ((dL _ _ (Ne.symm hb)).trans (l b o hb e));refine aU #[plainId_quiet F.plain_extend_loop _,lz_loop (A:=A.in1) (s:=s) I J p hz t (λU n c y f i=>#[rfl,h U n c y f i]) _ 0 _ [] _ _ rfl (dN _) (Z.keep λc o hc e=>u c o hc e) (λb o e=>u b o (bJ (bQ (aW e) (dF _ _))) (kp b o e)) m rfl #[rfl,.nil,λj T e=>by simp at e]]
end
section
variable{X:Cx}{pins:List (Addr×Obj)}{σ:List (Option V)}{s:Shared}
def Xr{N:Nat}(S:X.s₀.heap.objs.size<=N)(A:X.env.locals<N)(i:∀x c,X.env.cells.lookup x=some c->c<N)(j:∀p∈X.pn++pins,p.1<N):∀(L:List (Addr×V×V))(H:Hp),Inv X pins σ H s->
  (∀p∈L,N<=p.1/\H p.1=none/\∃u v,fD p.2.1 u/\fD p.2.2 v/\IsPair s.heap p.1 u v)->(L.map (·.1)).Nodup->∃d,Inv X pins σ d s/\(∀c,d c=H c∨H c=none/\∃p∈L,p.1=c)/\∀p∈L,d p.1=some (.tup [p.2.1,p.2.2])
 | [],H,I,_,_=>#[H,I,λ_=>.inl rfl,λ_ h=>nomatch h]
 |p::L,H,I,a,nd=>by
  obtain⟨Q,U,u,v,k,D,hp⟩:=a p bT;obtain⟨nn,b⟩:=List.nodup_cons.mp nd;have ne:∀q∈L,q.1≠p.1:=λq J e=>nn (dD.mpr #[q,J,e]);obtain⟨d,g,y,f⟩:=Xr S A i j L _ (I.adopt (o:=.tup [p.2.1,p.2.2]) U (cK S Q) (Nat.ne_of_gt (bQ A Q)) (λx c e=>bJ (bQ (i x c e) Q)) (λq J=>bJ (bQ (j q J) Q)) #[by show 2<=sizeLine;decide,[u,v],.cons k (.cons D .nil),#[_,hp,rfl,_,rfl]]) (λq J=>#[(a q (.tail _ J)).1,by rw[bY (ne q J)];exact(a q (.tail _ J)).2.1,(a q (.tail _ J)).2.2]) b;have M:d p.1=some (.tup [p.2.1,p.2.2]):=by
   rcases y p.1 with e |⟨_,q,J,e⟩
   .rw[e];exact aI
   .exact absurd e (ne q J)
  refine#[d,g,λc=>?_,λq J=>?_]
  .by_cases hc:c=p.1
   .exact .inr #[hc▸U,p,bT,hc.symm]
   .rcases y c with e |⟨e,q,J,C⟩
    .exact .inl (by rw[e,bY hc])
    .exact .inr #[by rwa [bY hc]at e,q,.tail _ J,C]
  .rcases eA.mp J with rfl |J
   .exact M
   .exact f q J
end
def Wt(K:aR)(t:TA):TE:=λZ H Q=>t Z H λvs S=>∃(a b:Addr)(xs ys:List V),vs=[.ref a,.ref b]/\SqL K S a xs/\SqL K S b ys/\xs.length=ys.length/\
 ∀(p:Addr)(qs:List Addr)(M:Hp),S p=none->M p=some (.lst (qs.map V.ref))->(∀c o,S c=some o->M c=some o)->qs.length=xs.length->(∀(i:Nat) q x y,qs[i]?=some q->xs[i]?=some x->ys[i]?=some y->M q=some (.tup [x,y]))->Q (.ref p) M
section
variable{X:Cx}
def jZ6{a b:Expr}{t:TA}{p2 n:Pos}(a4:Gl X "list")(a5:X.mg "list"=none)(a6:Gl X "zip")(a7:X.mg "zip"=none)(hc:X.calm=true)(Y:PA X [a,b] t)
  (a2:starEach [.Call (.Name "zip" p2) [a,b] [] n] X.env=[(false,eval (.Call (.Name "zip" p2) [a,b] [] n) X.env)]:=by rfl)
  (l:starEach (a:: [b]) X.env=(false,eval a X.env)::starEach [b] X.env:=by rfl) (a8:(backTo n (starEach [b] X.env)).any (·.1)=false:=by rfl):
  PE X (.Call (.Name "list" p1) [.Call (.Name "zip" p2) [a,b] [] n] [] a0) (Wt X.K t):=by
 intro B s Z H Q I h;refine Call_ (lR I a4 a5 nB (cI (spliced_more ?_ (by rw[a2];rfl)) a2 rfl));refine Call_ (lR I a6 a7 Uq (cI (thF (Y n B s Z H _ I h) λR O vs S j f q1=>?_) l a8));obtain⟨P,l2,F,ys,e0,J,hr,b5,q⟩:=q1;subst e0;rcases f with _ |⟨ra,_ |⟨rb,f⟩⟩;cases f;cases ra;cases rb;obtain⟨G,rv,pl,b7⟩:=j.list J;obtain⟨a3,sv,pm,b8⟩:=j.list hr;have e1:=rv.length;have C:=sv.length;refine call_zip_2 pl.isList pm.isList λg M a9 b0 h1 h2 w kp=>spliced_none ?_;refine lz_call (h0:=O.heap) (s:={ O with heap:=g }) (l1:=P) (l2:=l2) (xs:=G.toArray) (ys:=a3.toArray) w #[a9,h1,h2,.inl #[M,_,_,b0]] kp pl.isList pm.isList (by simp;lia) (by simp;lia) (j.ok.hd hc) λU ts c b3 hd L=>?_;have lt:ts.length=F.length:=by rw[L.1];simp;lia
 have AA:∀p∈ts.zip (F.zip ys),O.heap.objs.size<=p.1/\S p.1=none/\∃u v,fD p.2.1 u/\fD p.2.2 v/\IsPair U p.1 u v:=λp hp=>by
  obtain⟨m,hm⟩:=cJ hp;obtain⟨r,f2,f3⟩:=Ms hm;obtain⟨a1,x,y,b1,b2,pr⟩:=L.2.2 m p.1 r;obtain⟨u,hu,k⟩:=rv.get f2;obtain⟨v,hv,b4⟩:=sv.get f3;have c1:x=u:=by
   have:G[m]?=some x:=by simpa using b1
   rw[hu]at this;cases this;rfl
  have c2:y=v:=by
   have:a3[m]?=some y:=by simpa using b2
   rw[hv]at this;cases this;rfl
  subst c1 c2;have le:O.heap.objs.size<=p.1:=cK (dF _ 6) a1;exact#[le,j.hok.fresh le,x,y,k,b4,pr]
 obtain⟨d,I',k1,k2⟩:=Xr (s:={ O with heap:=U,toks:=O.toks }) (N:=O.heap.objs.size) j.sz j.lt (λx c e=>(j.cell x c e).elim λv z=>z.lt) (λp hp=>aW (j.pin p hp).1) (ts.zip (F.zip ys)) S (j.kept (t':=O.toks) b3) AA (by
  rw[List.map_fst_zip (by rw[List.length_zip];lia)];exact L.2.1.imp λh=>bJ h)
 have n5:d (O.heap.objs.size+5)=none:=by
  rcases k1 (O.heap.objs.size+5)with e |⟨e,p,hp,C⟩
  .rw[e];exact j.hok.fresh (dF _ 5)
  .obtain⟨m,hm⟩:=cJ hp;have:=(L.2.2 m p.1 (Ms hm).1).1;rw[C]at this;exact absurd this (Nat.not_succ_le_self _)
 refine#[.ref _,_,I'.adopt (D:=O.heap.objs.size+5) (o:=.lst (ts.map V.ref)) n5 (cK j.sz (dF _ 5)) (Nat.ne_of_gt (bQ j.lt (dF _ 5))) (λx c e=>bJ (bQ ((j.cell x c e).elim λv z=>z.lt) (dF _ 5))) (λp hp=>bJ (bQ (aW (j.pin p hp).1) (dF _ 5))) #[by rw[aA];lia,ts.map Value.ref,c,?_,hd],rfl,q _ ts _ (j.hok.fresh (dF _ 5)) (aI) (λc o e=>?_) lt λi a x y r f2 f3=>?_]
 .exact sH (by simp) λi x u r f2=>by
   rw[aX]at r f2;cases hi:ts[i]? with
   |none=>rw[hi]at r;cases r
   |some T=>rw[hi]at r f2;cases r;cases f2;rfl
 .rw[bY (dE e (j.hok.fresh (dF _ 5)))];rcases k1 c with A |⟨A,_⟩
  .rw[A];exact e
  .rw[e]at A;cases A
 .have hm:(ts.zip (F.zip ys))[i]?=some (a,x,y):=by rw[List.getElem?_zip_eq_some,List.getElem?_zip_eq_some];exact#[r,f2,f3]
  have A:=k2 _ (aL hm);rw[bY (dE A n5)];exact A
end
section
variable{prog:Program}{w:World}{A:Around}{E:Value->Shared->Prop}{s:Shared}
def Sk{g:Array DictEntry}{Q:Value->Shared->Prop}(hd:(d==sysModules)=false)(B:s.TypeIs (.ref d) "dict")(D:s.heap.get? d=some M)(c:M.data=.dict g j)
  (p:Q (.ref s.heap.objs.size) { s with heap:=s.heap.push { cls:=.type "dict_keyiterator",data:=.fields (List.toArray [.ref d,.int 0 0,.int g.size 0,.int j 0]) } }):wpAny (model prog w) A (pyIter (.ref d)) Q E s:=by
 refine wpAny_pyIter_slot B F.slot_dict_iter (wpAny_call_entry F.slot_dict_iter B F.entry_dict_iter ?_ (F.args_dict_iter_1 _));unfold Builtin.«dict.__iter__»;refine aC ?_;unfold Builtin.Dict.dictSlotNone;refine aC (wpAny_notOrdered_dict B ?_);show wpAny _ _ (pure (Value.ref d)) _ _ s;refine aU ?_;show wpAny _ _ (Builtin.Dict.showsAll d>>=_) _ _ s;unfold Builtin.Dict.showsAll;rw[hd,aF (by simp)];refine aC (aU (aC (wpAny_dictEntries D c (aC (wpAny_dictEpoch D c ?_)))));refine aC (wpAny_newObj_type (aU #[_,rfl,"dict_keyiterator",_,#[_,bL _ rfl,rfl],F.slot_dict_keyiterator_next.lookup,?_]));simpa [rawInt]using p
def Sj{S:Addr}{g:Array DictEntry}(t:s.heap.IsKeyIter S d i g.size j)(c:s.heap.get? d=some M)(C:M.data=.dict g j)(f:i<g.size)
  (p:∀U,U.IsKeyIter S d (i+1) g.size j->Heap.SameBut S s.heap U->Q (some g[i].key) { s with heap:=U }):wpAny (model prog w) A (pyNext (.ref S)) Q E s:=by
 obtain⟨o,D,hc,hd⟩:=id t;unfold pyNext;refine aC (wpAny_attempt (wpAny_callSpecial?_slot (name:=Str.ofString "__next__") t.typeIs F.slot_dict_keyiterator_next (wpAny_call_entry F.slot_dict_keyiterator_next t.typeIs F.entry_dict_keyiterator_next ?_ (F.args_dict_keyiterator_next_1 _))));refine aC (aU ?_);refine aC ?_;refine aC ?_;refine aC (wpAny_typeNameOfWhole_keyiter t.typeIs (aU ?_));refine aC (wpAny_fieldsOf D hd ?_);simp only[show Builtin.Dict_items.ownsTuple "dict_keyiterator"=false by decide,Bool.false_eq_true,if_false];show wpAny _ _ (if(Value.ref d==Value.none)=true then _ else _) _ _ s;rw[aF (λz=>by cases z)];refine aC (aU (aC (wpAny_dictEntries c C ?_)));rw[aF (by simp)];refine aC (aU (aC (wpAny_dictEpoch c C ?_)));rw[aF (by simp)];refine aU ?_;simp only[show ¬((i:Int)<0) by lia,if_false,dA,Array.getElem?_eq_getElem f];refine aC ?_;refine aC (wpAny_typeNameOfWhole_keyiter t.typeIs (aU (aC (wpAny_isOneOf_keyiter t.typeIs ?_))));show wpAny _ _ (setField (.ref S) 1 (rawInt ((i:Int)+1))>>=_) _ _ s;refine aC (wpAny_setField D hd (by simp) ?_);have l:(s.heap.update S (Obj.mapFields (·.setIfInBounds 1 (rawInt ((i:Int)+1))))).IsKeyIter S d (i+1) g.size j:=#[_,Heap.get?_update_self _ D (Obj.isFreed_of_fields (Obj.data_mapFields hd _)),(Obj.cls_mapFields ..).trans hc,by rw[Obj.data_mapFields hd];simp [rawInt]];refine aC (wpAny_holding ?_);refine aC (wpAny_isOneOf_keyiter (s:={ s with heap:=s.heap.update S (Obj.mapFields (·.setIfInBounds 1 (rawInt ((i:Int)+1)))) }) l.typeIs ?_);show wpAny _ _ (pure g[i].key) _ _ _;exact aU (aU #[_,rfl,aU (p _ l (Heap.SameBut.update ..))])
def Si{S:Addr}{g:Array DictEntry}(f:A.handled=none)(t:s.heap.IsKeyIter S d i g.size j)(c:s.heap.get? d=some M)(C:M.data=.dict g j)(e:g.size<=i)
  (p:∀U,Heap.ExtBut S s.heap U->Q none { s with heap:=U }):wpAny (model prog w) A (pyNext (.ref S)) Q E s:=by
 obtain⟨o,D,hc,hd⟩:=id t;unfold pyNext;refine aC (wpAny_attempt (wpAny_callSpecial?_slot (name:=Str.ofString "__next__") t.typeIs F.slot_dict_keyiterator_next (wpAny_call_entry F.slot_dict_keyiterator_next t.typeIs F.entry_dict_keyiterator_next ?_ (F.args_dict_keyiterator_next_1 _))));refine aC (aU ?_);refine aC ?_;refine aC ?_;refine aC (wpAny_typeNameOfWhole_keyiter t.typeIs (aU ?_));refine aC (wpAny_fieldsOf D hd ?_);simp only[show Builtin.Dict_items.ownsTuple "dict_keyiterator"=false by decide,Bool.false_eq_true,if_false];show wpAny _ _ (if(Value.ref d==Value.none)=true then _ else _) _ _ s;rw[aF (λz=>by cases z)];refine aC (aU (aC (wpAny_dictEntries c C ?_)));rw[aF (by simp)];refine aC (aU (aC (wpAny_dictEpoch c C ?_)));rw[aF (by simp)];refine aU ?_;simp only[show ¬((i:Int)<0) by lia,if_false,dA,Array.getElem?_eq_none e];refine aC ?_;refine aC (wpAny_typeNameOfWhole_keyiter t.typeIs (aU ?_));show wpAny _ _ (setField (.ref S) 0 .none>>=_) _ _ s;refine aC (wpAny_setField D hd (by simp) ?_);show wpAny _ _ (newExc (.type "StopIteration") []>>=_) _ _ _;refine aC ?_;simp only[newExc,newTuple];refine aC (wpAny_newObj_type ?_ (by size_fits));refine aC (m:=firstArgMember _ _) (wpAny_of_eq (a:=Value.none) (by first |rfl |(simp only[firstArgMember];rfl)) (wpAny_newObj_type ?_ (by size_fits)))
 simp only[raiseNew];refine aC (wpAny_handled ?_);rw[show A.in1.handled=none from f];refine aC (aU (wpAny_throw ?_));refine aC (wpAny_isInstance (T:="StopIteration") (b:=true) #[_,bL _ rfl,rfl] isSubtype_stop ?_);exact aU (p _ (((Heap.SameBut.update ..).extBut.push _).push _))
end
def jJb{w:World}(t:A.handled=none)(I d:Addr)(O:d≠I){g:Array DictEntry}(c:M.data=.dict g j):
  Walks prog w A I [I,d] [I] g.size (λi v=>∃e,g[i]?=some e/\e.key=v) (λi h=>h.IsKeyIter I d i g.size j/\h.get? d=some M) where
 sub:=λb hb=>by simp at hb;simp [hb]
 frame:=λ_ _ _ st hk=>#[st.1.at λo e=>hk I (by simp) o e,hk d (by simp) M st.2]
 item:=λi s Q E hi st p=>Sj st.1 st.2 c hi λU l z=>p _ U s.toks #[_,Array.getElem?_eq_getElem hi,rfl] #[l,z.extBut d M O st.2] λb o hb e=>z.extBut b o (λh=>hb (by simp [h])) e
 done:=λs Q E st p=>Si t st.1 st.2 c (aM _) λU a=>p U s.toks λb o hb e=>a b o (λh=>hb (by simp [h])) e
 self:=λ_ _ _ _ st p=>wpAny_pyIter_keyiter st.1 p
def jWU{w:World}{g:Array DictEntry}(hd:(d==sysModules)=false)(B:M.cls=.type "dict")(c:M.data=.dict g j):
  PySem.W.KdlSrc prog w "dict" d d g.size (λi v=>∃e,g[i]?=some e/\e.key=v) (λh=>h.get? d=some M) where
 type:=λ_ hm=>#[M,hm,B]
 there:=λ_ hm=>#[aW hm,aW hm]
 keep:=λ_ _ hm hk=>hk d (.inr rfl) M hm
 notList:=by decide
 notTuple:=by decide
 hint:=λ_ _ _ _ hm J=>PySem.W.kdl_hint_dict #[M,hm,B] J
 iter:=λ_ _ t hm=>#[_,_,(λ_ _ J=>Sk hd #[M,hm,B] hm c J),jJb t _ d (bJ (aW hm)) c,#[#[_,bL _ rfl,rfl,rfl],aS _ hm]]
def Lm{P:Program}{w:World}(hok:HOk P w H h)(e:Rd H a (.dT kvs)):
  ∃ob g j,h.get? a=some ob/\ob.cls=.type "dict"/\ob.data=.dict g j/\g.size=kvs.length/\kvs.length<=sizeLine/\(a==sysModules)=false/\∀(i:Nat) e B,g[i]?=some e->kvs[i]?=some B->∃q,e.key=.ref q/\H q=some (.tup (B.1.map kV)):=by
 have X:jF P w H h a (.dT kvs):=by
  rcases e with e |⟨o,e⟩
  .exact hok a _ e
  .exact(hok a _ e).2
 obtain⟨M,ns,F,d,ob,g,j,m,hc,c,b,_⟩:=X;refine#[ob,g,j,m,hc.1,c,by rw[show kvs.length=F.length from Paired.length d,←Array.length_toList,b,aA],M,ns,λi e B l hk=>?_];obtain⟨q,J,_,h2,_⟩:=KT.at d i B hk;have C:g.toList[i]?=some e:=by rw[Array.getElem?_toList];exact l
 rw[b,aX,J]at C;cases C;exact#[q.2.1,rfl,h2]
def tKeys(r:TE):TE:=λZ H Q=>r Z H λx S=>∃a kvs,x=.ref a/\Rd S a (.dT kvs)/\∀p(qs:List Addr),S p=none->qs.length=kvs.length->(∀(i:Nat) q kv,qs[i]?=some q->kvs[i]?=some kv->S q=some (.tup (kv.1.map kV)))->Q (.ref p) (upd S p (.lst (qs.map V.ref)))
section
variable{X:Cx}
def pe_keys{o:Expr}{td:TE}{b:Pos}(z:Gl X "list")(J:X.mg "list"=none)(hc:X.calm=true)(D:PE X o td)(G:starEach [o] X.env=[(false,eval o X.env)]:=by rfl):PE X (.Call (.Name "list" p1) [o] [] b) (tKeys td):=by
 intro B s Z H Q I h;refine Call_ (lR I z J nB (cI (spliced_more ?_ (by rw[G];rfl)) G rfl));refine thE (D B s Z H _ I h) λv O x S j r1 w=>?_;obtain⟨a,n,F,hd,q1⟩:=w;subst F;cases r1;obtain⟨ob,g,ep,m,A,c,w,M,ns,key⟩:=Lm j.hok hd;refine spliced_none (PySem.W.kdl_call (jWU ns A c) (j.ok.hd hc) m (by rw[w];exact M) λh2 tk d k hk P N=>?_);have K:∀(l:List Value),(∀(i:Nat) u,l[i]?=some u->∃e,g[i]?=some e/\e.key=u)->l.length=n.length->∃qs:List Addr,l=qs.map Value.ref/\∀(i:Nat) q p,qs[i]?=some q->n[i]?=some p->S q=some (.tup (p.1.map kV)):=λl Y R=>by
  refine#[l.map λu=>match u with | .ref q=>q |_=>0,?_,λi q p h1 h2=>?_]
  .refine List.ext_getElem? λi=>?_;rw[aX,aX];cases hi:l[i]? with
   |none=>rfl
   |some u=>
    obtain⟨e,e1,C⟩:=Y i u hi;have U:i<n.length:=by have:=(aK.mp hi).1;lia
    obtain⟨q,e3,_⟩:=key i e _ e1 (aD U);rw[←C,e3];rfl
  .rw[aX]at h1;cases hi:l[i]? with
   |none=>rw[hi]at h1;cases h1
   |some u=>
    obtain⟨e,e1,C⟩:=Y i u hi;obtain⟨q',e3,t⟩:=key i e p e1 h2;rw[hi,←C,e3]at h1;cases h1;exact t
 obtain⟨qs,e1,C⟩:=K d.toList (λi u h=>N.2 i u (by simpa using h)) (by rw[Array.length_toList,N.1,w]);have lq:qs.length=n.length:=by rw[←aA (f:=Value.ref),←e1,Array.length_toList,N.1,w]
 refine#[.ref _,_,j.laid (t':=tk) (o:=.lst (qs.map V.ref)) hk (aM _) #[by rw[aA,lq];exact M,d.toList,k,?_,by simpa using P],rfl,q1 _ qs (j.hok.fresh (aM _)) lq C];rw[e1];exact sH (by rw[aA,aA]) λi x u r y=>by
  rw[aX]at r y;cases hi:qs[i]? with
  |none=>rw[hi]at r;cases r
  |some T=>rw[hi]at r y;cases r;cases y;rfl
end
def Itk(d:Addr)(ob:Obj)(kvs:List (List Key×V)):It:=
 #[λi H=>i<kvs.length/\H d=some (.frz ob (.dT kvs)),λi H v H'=>∃C B,v=.ref C/\kvs[i]?=some B/\H C=some (.tup (B.1.map kV))/\H'=H,λi H=>kvs.length<=i/\H d=some (.frz ob (.dT kvs))]
def Re{P:Program}{w:World}{x:Str}{T:Pos}{S:Addr}{n:Array DictEntry}(m:ob.data=.dict n j):
  Ua P w K (.Name x T) (Itk d ob kvs) [S] S (λi h=>h.IsKeyIter S d i n.size j) where
 mem:=by simp
 obj:=λi h#[o,e,_,C] c hc=>by
  have q:c=S:=by simpa using hc
  subst q;exact#[o,e,λv z=>by rw[C]at z;cases z]
 keep:=λi h U st kp=>st.at λo e=>kp S (by simp) o e
 item:=by
  intro X N hw Q hc i B s Z H E I hf st ⟨hlt,hd⟩;subst N hw Q;obtain⟨k,f,l,h1,_,h3,A,_,_,key⟩:=Lm I.hok (.inr #[ob,hd]);have F:=(I.hok d _ hd).1;rw[F]at h1;cases h1;rw[m]at h3;cases h3;have a:kvs[i]?=some kvs[i]:=aD hlt;have b:i<n.size:=#[];obtain⟨q,O,p⟩:=key i _ _ (Array.getElem?_eq_getElem b) a;refine Sj st F m b λg t sb=>#[_,rfl,?_];rw[O];refine letGo_keyiter t ?_;refine#[.ref q,H,I.turnedL (t':=s.toks) (ch:=[S]) (λc o hb z=>(sb.2 c (by simpa using hb)).trans z) hf,rfl,#[q,_,rfl,a,p,rfl],t,λc hb=>(hf c hb).1]
 done:=by
  intro X N hw Q hc i B s Z H E I hf st ⟨hge,hd⟩;subst N hw Q;obtain⟨k,f,l,h1,_,h3,A,_,_,_⟩:=Lm I.hok (.inr #[ob,hd]);have F:=(I.hok d _ hd).1;rw[F]at h1;cases h1;rw[m]at h3;cases h3;exact Si (I.ok.hd hc) st F m #[] λg r=>#[rfl,I.turnedL (t':=s.toks) (ch:=[S]) (λc o hb z=>r c o (by simpa using hb) z) hf]
 self:=λ_ _ _ _ _ st h=>wpAny_pyIter_keyiter st h
def Ly(K:aR)(r:TE):TI:=λZ H R=>r Z H λx S=>∃a,x=.ref a/\((∃xs,SqL K S a xs)/\R (Itl K a) S∨∃kvs,S a=some (.dT kvs)/\(∀ob,R (Itk a ob kvs) (upd S a (.frz ob (.dT kvs))))∨∃ob,S a=some (.frz ob (.dT kvs))/\R (Itk a ob kvs) S)
section
variable{X:Cx}
def Me{l:Expr}{w:TE}{x:Str}{T:Pos}(Y:PE X l w):PI X (.Name x T) l (Ly X.K w):=by
 intro B s Z H R I h;refine thE (Y B s Z H _ I h) λv O x S j f q1=>?_;obtain⟨a,e,q⟩:=q1;subst e;cases f;rcases q with⟨⟨F,J⟩,q⟩|⟨n,q⟩
 .obtain⟨G,D,p,M⟩:=j.list J;refine wpAny_pyIter_list p.isList #[O.heap.objs.size,[O.heap.objs.size],_,_,S,rfl,j.kept (t':=O.toks) λb o e=>aS _ e,Rc a _,#[_,bL _ rfl,rfl,rfl],λb hb=>?_,q];have e:b=O.heap.objs.size:=by simpa using hb
  subst e;exact j.fpOk (aM _) (j.hok.fresh (aM _))
 .obtain⟨ob,g,y,h1,h2,h3,A,i,r,_⟩:=Lm j.hok (a:=a) (kvs:=n) (q.elim (λz=>.inl z.1) fun⟨ob,z⟩=>.inr #[ob,z.1]);refine Sk r #[ob,h1,h2] h1 h3 ?_;have m:Inv X B Z S { O with heap:=O.heap.push { cls:=.type "dict_keyiterator",data:=.fields (List.toArray [.ref a,.int 0 0,.int g.size 0,.int y 0]) },toks:=O.toks }:=j.kept λb o e=>aS _ e;have u:=j.hok.fresh (aM O.heap.objs.size);rcases q with⟨z,q⟩|⟨k,z,q⟩
  .obtain⟨k,d,C⟩:=m.freeze z;have t:k=ob:=aV (d.symm.trans (aS _ h1));subst t;refine#[O.heap.objs.size,[O.heap.objs.size],_,_,_,rfl,C,Re h3,#[_,bL _ rfl,rfl,rfl],λc hc=>?_,q k];have z:c=O.heap.objs.size:=by simpa using hc
   subst z;exact j.fpOk (aM _) (by rw[bY (Nat.ne_of_gt (aW h1))];exact u)
  .have t:k=ob:=aV ((j.hok a _ z).1.symm.trans h1);subst t;refine#[O.heap.objs.size,[O.heap.objs.size],_,_,_,rfl,m,Re h3,#[_,bL _ rfl,rfl,rfl],λc hc=>?_,q];have z:c=O.heap.objs.size:=by simpa using hc
   subst z;exact j.fpOk (aM _) u
end
noncomputable def mayE(n:Addr->Prop)(D:rW):rW where
 nx:=λZ H=>D.nx Z H∨(jZn n D).nx Z H
 rt:=λv H=>D.rt v H∨(jZn n D).rt v H
 bk:=λZ H=>D.bk Z H∨(jZn n D).bk Z H
 ct:=λZ H=>D.ct Z H∨(jZn n D).ct Z H
def Lw(t:TS):TS:=λD Z H=>∀n:Addr->Prop,(∀a,(∀o u,H a≠some (.frz o u))->n a)->t (mayE n D) Z H
def Md{st:Stmt}{t:TS}(h:PS X st t):PS X st (Lw t):=by
 intro B s Z H D I y;have q:=h B s Z H _ I (y (λa=>∀o u,X.H₀ a≠some (.frz o u)) λa b o u z=>b o u (I.base.frzs a o u z));refine thn q λf U r=>?_;cases f with
 |next=>exact let⟨σ',H',I',d⟩:=r;d.elim (λd=>#[σ',H',I',d]) fun⟨_,_,_,G,e,d⟩=>#[σ',_,I'.thaw e G,d]
 |brk=>exact let⟨σ',H',I',d⟩:=r;d.elim (λd=>#[σ',H',I',d]) fun⟨_,_,_,G,e,d⟩=>#[σ',_,I'.thaw e G,d]
 |cont=>exact let⟨σ',H',I',d⟩:=r;d.elim (λd=>#[σ',H',I',d]) fun⟨_,_,_,G,e,d⟩=>#[σ',_,I'.thaw e G,d]
 |ret v=>exact let⟨x,σ',H',I',rv,d⟩:=r;d.elim (λd=>#[x,σ',H',I',rv,d]) fun⟨_,_,_,G,e,d⟩=>#[x,σ',_,I'.thaw e G,rv,d]
def Xz{g:TG}{D:rW}{Z:St}(h:Nat->St->Hp->Prop)(h0:h 0 Z H)(Y:∀i Z H,i<=kvs.length->h i Z H->H a=some (.frz ob (.dT kvs)))
  (hs:∀i B C Z H,kvs[i]?=some B->h i Z H->H C=some (.tup (B.1.map kV))->g (.ref C) Z H λj M=>tb { D with nx:=h (i+1),ct:=h (i+1),bk:=D.nx } j M) (hd:∀Z H,h kvs.length Z H->D.nx Z H):
  ∃W:Nat->Nat->St->Hp->Prop,(∃m,W 0 m Z H)/\∀i m Z H,W i m Z H->
   ((Itk a ob kvs).stop i H/\D.nx Z H)∨((Itk a ob kvs).go i H/\∃N:St->Hp->Prop,(∀P d,N P d->∃Q,Q<m/\W (i+1) Q P d)/\∀x d,(Itk a ob kvs).yld i H x d->g x Z d λj M=>tb { D with nx:=N,ct:=N,bk:=D.nx } j M):=by
 refine#[λi m Z H=>m=kvs.length-i/\i<=kvs.length/\h i Z H,#[kvs.length,by simp,dN _,h0],?_];rintro i m Z H ⟨rfl,hi,p⟩;have q:=Y i Z H hi p;by_cases f:i<kvs.length
 .refine .inr #[#[f,q],h (i+1),λP d k=>#[kvs.length-(i+1),#[],rfl,f,k],λx d y=>?_];obtain⟨C,B,e1,O,t,S⟩:=y;subst e1 S;exact hs i B C Z _ O p t
 .have e:i=kvs.length:=#[];subst e;exact .inl #[#[aM _,q],hd Z H p]
def jZg{Z:St}{S:Hp}{fin:List V->Hp->Prop}(W:Nat->List V->Hp->Prop)(hz:kvs.length<=sizeLine)(h0:W 0 [] S)(Y:∀i T H,i<=kvs.length->W i T H->H a=some (.frz ob (.dT kvs)))
  (hs:∀i B C T H,kvs[i]?=some B->T.length<=i->W i T H->H C=some (.tup (B.1.map kV))->m (some (.ref C)::cN Z caps) H λb w=>if b=true then c (some (.ref C)::cN Z caps) w λy I=>W (i+1) (T++ [y]) I else W (i+1) T w)
  (hd:∀T H,W kvs.length T H->fin T H):oQ (Itk a ob kvs) Z caps m c S fin:=by
 refine#[kvs.length,W,hz,h0,λi T M hi d hw=>?_];have q:=Y i T M hi hw;by_cases f:i<kvs.length
 .refine .inr #[f,#[f,q],λx U y=>?_];obtain⟨C,B,e1,O,t,g⟩:=y;subst e1 g;exact hs i B C T _ O d hw t
 .have e:i=kvs.length:=#[];subst e;exact .inl #[#[aM _,q],hd T M hw]
def Su{Z:St}{S:Hp}{fin:List V->Hp->Prop}(W:Nat->List V->Hp->Prop)(hz:kvs.length<=sizeLine)(h0:W 0 [] S)(Y:∀i T H,i<=kvs.length->W i T H->H a=some (.frz ob (.dT kvs)))
  (hs:∀i B C T H,kvs[i]?=some B->T.length=i->W i T H->H C=some (.tup (B.1.map kV))->c (some (.ref C)::cN Z caps) H λy I=>W (i+1) (T++ [y]) I)
  (hd:∀T H,W kvs.length T H->fin T H):vS (Itk a ob kvs) Z caps c S fin:=by
 refine#[kvs.length,W,hz,h0,λi T M hi d hw=>?_];have q:=Y i T M hi hw;by_cases f:i<kvs.length
 .refine .inr #[f,#[f,q],λx U y=>?_];obtain⟨C,B,e1,O,t,b⟩:=y;subst e1 b;exact hs i B C T _ O d hw t
 .have e:i=kvs.length:=#[];subst e;exact .inl #[#[aM _,q],hd T M hw]
noncomputable def cLenA(K:aR):List V->Hp->VK->Prop:=λxs H Q=>Qy xs H Q∨jE K xs H Q
def jY8:pU X (.builtin "len") (cLenA X.K):=λB s Z H F R Q I v h=>h.elim (Ir B s Z H F R Q I v) (cX B s Z H F R Q I v)
section
variable{X:Cx}
noncomputable def cIsD:List V->Hp->VK->Prop:=λxs H Q=>∃p kvs,xs=[.ref p,.ty "dict"]/\H p=some (.dT kvs)/\Q (.bl true) H
def kit_dd(K:aR):PySem.W.kitOne K (.type "dict") (.type "dict")=some true:=by rfl
def jVf:pU X (.builtin "isinstance") cIsD:=by
 rintro B s Z H F R Q I r ⟨p,n,rfl,hp,q⟩;obtain⟨u,c,rfl,k,a⟩:=Qv r;obtain rfl:c=Value.type "dict":=a;exact qH I k (.dT hp) (kit_dd _) λtk=>#[.bl true,H,I.tok _,rfl,q]
end
noncomputable def tX(st:Stmt):List Str:=(oP st).args.map (·.arg)
noncomputable def xT(N:List Str)(caps:List Nat):List Str:=caps.filterMap λi=>N[i]?
structure Rm(X:Cx)(k:Nat)(N:List Str)(st:Stmt):Prop where
 r:mQ k X.A
 nd:N.Nodup
 sc:X.env.scope=eV st
 nn:X.N=N
 calm:X.calm=true
structure Ok(P:Program)(w:World)(K:aR)(mg:Str->Option Value)(base:Heap)(CX:CXT)(k:Nat)(x:Str)(sp:Sp):Prop where
 ex:∃f fd ps,Bw P w K mg base CX k f fd ps sp/\mg x=some (.ref f)/\PySem.W.keepIn K (.ref f)=true/\sE K fd ps []
structure OkM(P:Program)(w:World)(K:aR)(mg:Str->Option Value)(base:Heap)(CX:CXT)(k:Nat)(C:Addr)(m:Str)(sp:Sp):Prop where
 ex:∃f fd ps,Bw P w K mg base CX k f fd ps sp/\Meth K C m f/\sE K fd ps []
structure Df(K:aR)(mg:Str->Option Value)(x:Str)(st:Stmt):Prop where
 ex:∃df f fd,Bv K x x st df f fd/\sE K fd (tX st) []/\mg x=some (.ref f)
structure Mf(K:aR)(c m q:Str)(st:Stmt):Prop where
 ex:∃f fd,Bv K m q st .none f fd/\sE K fd (tX st) []/\Meth K (eI K c) m f
section
variable{P:Program}{w:World}{K:aR}{mg:Str->Option Value}{base:Heap}{x qual:Str}{st:Stmt}{df:Value}{f:Addr}{fd:FuncData}{N ps:List Str}{k:Nat}{sp:Sp}
def Bv.ok0(F:Bv K x qual st df f fd)(S:Bc N ps (eV st))(len:∀vs H Q E,sp vs H Q E->vs.length=ps.length)
  (m:∀(cdv:Value)(A:Around)(outer:List Env)(s:Shared)(H:Hp)(vs:List V)(Q:VK)(E:XK),mQ k (A.deeper (envOfC qual (eV st) s.heap.objs.size f cdv))->sp vs H Q E->
   ∃t,PSs (Wo CX0 P w K mg base N qual (eV st) f cdv A outer s H E).nox (nA st) t/\t { nx:=λ_ d=>Q .non d,rt:=Q } (start N vs) H):Bw P w K mg base CX0 (k+1) f fd ps sp:=by
 obtain⟨X,M,kV,i,z,C,cdv,ct,G,rfl,Z,p⟩:=F.ex;refine fn_of Z p S len λA outer s H vs Q E hr B=>?_;obtain⟨t,h,q⟩:=m cdv A outer s H vs Q E hr B;exact#[t,h.nox,q]
noncomputable abbrev Bd0(P:Program)(w:World)(K:aR)(mg:Str->Option Value)(base:Heap)(N:List Str)(qual:Str)(st:Stmt)(k:Nat)(sp:Sp):Prop:=
 ∀{f:Addr}{cdv:Value}{A:Around}{outer:List Env}{s:Shared}{H:Hp}{vs:List V}{Q:VK}{E:XK},Rm (Wo CX0 P w K mg base N qual (eV st) f cdv A outer s H E).nox k N st->sp vs H Q E->
  ∃t:TS,t { nx:=λ_ H'=>Q .non H',rt:=Q } (start N vs) H/\PSs (Wo CX0 P w K mg base N qual (eV st) f cdv A outer s H E).nox (nA st) t
def Df.ok(D:Df K mg x st)(b:Bd0 P w K mg base N x st k sp)(len:∀{m H Q E},sp m H Q E->m.length=(tX st).length:=by intro _ _ _ _ h;repeat(first |(obtain⟨rfl,_⟩:=h;rfl)|obtain⟨_,h⟩:=h))
  (S:Bc N (tX st) (eV st):=by exact#[rfl,rfl,rfl,by decide+kernel,rfl,by decide+kernel,by decide+kernel]):Ok P w K mg base CX0 (k+1) x sp:=
 let⟨_,f,fd,F,hb,hm⟩:=D.ex
 #[f,fd,_,F.ok0 S (λ_ _ _ _ h=>len h) λa A outer s H m Q E hr h=>let⟨t,q,p⟩:=b (f:=f) (cdv:=a) (outer:=outer) #[hr,S.nd,rfl,rfl,rfl] h;#[t,p,q],hm,F.kp,hb]
def Bv.fn(F:Bv K x x st df f fd)(b:Bd0 P w K mg base N x st k sp)(len:∀{m H Q E},sp m H Q E->m.length=(tX st).length:=by intro _ _ _ _ h;repeat(first |(obtain⟨rfl,_⟩:=h;rfl)|obtain⟨_,h⟩:=h))
  (S:Bc N (tX st) (eV st):=by exact#[rfl,rfl,rfl,by decide+kernel,rfl,by decide+kernel,by decide+kernel]):Bw P w K mg base CX0 (k+1) f fd (tX st) sp:=
 F.ok0 S (λ_ _ _ _ h=>len h) λa A outer s H m Q E hr h=>let⟨t,q,p⟩:=b (f:=f) (cdv:=a) (outer:=outer) #[hr,S.nd,rfl,rfl,rfl] h;#[t,p,q]
def Mf.ok{c m:Str}(D:Mf K c m qual st)(b:Bd0 P w K mg base N qual st k sp)(len:∀{d H Q E},sp d H Q E->d.length=(tX st).length:=by intro _ _ _ _ h;repeat(first |(obtain⟨rfl,_⟩:=h;rfl)|obtain⟨_,h⟩:=h))
  (S:Bc N (tX st) (eV st):=by exact#[rfl,rfl,rfl,by decide+kernel,rfl,by decide+kernel,by decide+kernel]):OkM P w K mg base CX0 (k+1) (eI K c) m sp:=
 let⟨f,fd,F,hb,hm⟩:=D.ex
 #[f,fd,_,F.ok0 S (λ_ _ _ _ h=>len h) λa A outer s H d Q E hr h=>let⟨t,q,p⟩:=b (f:=f) (cdv:=a) (outer:=outer) #[hr,S.nd,rfl,rfl,rfl] h;#[t,p,q],hm,hb]
end
section
variable{X:Cx}{k j:Nat}{C:Addr}{sp:Sp}{E:XK}{x m c:Str}{p pos apos:Pos}{e o:Expr}{es:List Expr}{ta:TE}{t:TA}
def c0(F:Ok X.prog X.w X.K X.mg X.base CX0 k x sp)(hr:mQ j X.A)(ha:PA X (e::es) t)(hk:k<=j:=by decide)(hg:Gl X x:=by rfl)(a:(x==("__debug__":Str))=false:=by decide)(l:starEach (e::es) X.env=(false,eval e X.env)::starEach es X.env:=by rfl)(d:(backTo pos (starEach es X.env)).any (·.1)=false:=by rfl):
  PE X (.Call (.Name x p) (e::es) [] pos) (cD sp [] E0 t):=
 let⟨_,_,_,F,hm,hp,hb⟩:=F.ex
 pe_call F (hr.mono hk) hg hm hp hb .nil jZp ha a l d
def m1{pl:Sem Bool}(l:PE X o ta)(c:Cls X.K C)(F:OkM X.prog X.w X.K X.mg X.base CX0 k C m sp)(hr:mQ j X.A)(ha:PA X (e::es) t)(hk:k<=j:=by decide)
  (T:starEach (e::es) X.env=(false,eval e X.env)::starEach es X.env:=by rfl) (d:(backTo pos (starEach es X.env)).any (·.1)=false:=by rfl)
  (y:eval (.Call (.Attribute o m apos) (e::es) [] pos) X.env=(do
   let J ←eval o X.env
   standAt apos.atName
   let(f,first) ←holding [J] (getMethod J m pl)
   callWith pos f first (backTo pos (starEach (e::es) X.env)) (backToKw pos (keywordEach [] X.env))):=by rfl):
  PE X (.Call (.Attribute o m apos) (e::es) [] pos) (eZ C m sp [] E0 ta t):=
 let⟨_,_,_,F,hm,hb⟩:=F.ex
 pe_meth l c hm F (hr.mono hk) hb .nil jZp ha T d y
def m0{pl:Sem Bool}(l:PE X o ta)(c:Cls X.K C)(F:OkM X.prog X.w X.K X.mg X.base CX0 k C m sp)(hr:mQ j X.A)(hk:k<=j:=by decide)
  (y:eval (.Call (.Attribute o m apos) [] [] pos) X.env=(do
   let J ←eval o X.env
   standAt apos.atName
   let(f,first) ←holding [J] (getMethod J m pl)
   callWith pos f first (backTo pos (starEach [] X.env)) (backToKw pos (keywordEach [] X.env))):=by rfl):
  PE X (.Call (.Attribute o m apos) [] [] pos) (eZ C m sp [] E0 ta bE):=
 let⟨_,_,_,F,hm,hb⟩:=F.ex
 jWo l c hm F (hr.mono hk) hb .nil jZp y
def mk0(M:PySem.W.makesIn X.K C=true/\PySem.W.keepIn X.K (.ref C)=true)(F:OkM X.prog X.w X.K X.mg X.base CX0 k C "__init__" sp)(hr:mQ j X.A)(hm:X.mg x=some (.ref C))(ha:PA X (e::es) t)(hk:k+1<=j:=by decide)(hg:Gl X x:=by rfl)(a:(x==("__debug__":Str))=false:=by decide)
  (l:starEach (e::es) X.env=(false,eval e X.env)::starEach es X.env:=by rfl) (d:(backTo pos (starEach es X.env)).any (·.1)=false:=by rfl):PE X (.Call (.Name x p) (e::es) [] pos) (Ca C sp [] E0 t):=
 let⟨_,_,_,F,hi,hb⟩:=F.ex
 pe_make #[M.1,hi.at_,hi.fn,M.2] F (hr.mono hk) hg hm hb .nil jZp ha a l d
end
section
variable{X:Cx}{k:Nat}{N:List Str}{st:Stmt}{i j:Nat}{x y:Str}{px py pos tp:Pos}{iter e elt tst:Expr}{body:List Stmt}{scope:Scope}{caps:List Nat}{te:TE}{tt:TT}{wi:TI}{tb:TS}
def sA(R:Rm X k N st)(l:PE X e te)(hi:N[i]?=some x:=by rfl)(hx:Loc (eV st) x:=by first |exact .inl rfl |exact .inr rfl)(hs:swapsWith e (some (.Name x px)) pos.line X.env=pure false:=by rfl)(hf:X.fn x=true∨X.env.scope.names.lookup x=some .local:=by first |exact .inl rfl |exact .inr rfl):
  PS X (.Assign [.Name x px] e pos) (cT te (aZ i)):=ps_set (by rw[R.nn];exact R.nd) (by rw[R.nn];exact hi) (by rw[R.sc];exact hx) l hs hf
def gN(R:Rm X k N st)(hi:N[i]?=some x:=by rfl)(hx:Loc (eV st) x:=by first |exact .inl rfl |exact .inr rfl)(hf:X.fn x=true∨X.env.scope.names.lookup x=some .local:=by first |exact .inl rfl |exact .inr rfl):PG X (.Name x px) (aZ i):=
 jZ5 (by rw[R.nn];exact R.nd) (by rw[R.nn];exact hi) (by rw[R.sc];exact hx) hf
def gN2{n:Nat}(R:Rm X k N st)(hi:N[i]?=some x:=by rfl)(hx:Loc (eV st) x:=by first |exact .inl rfl |exact .inr rfl)(hf:X.fn x=true∨X.env.scope.names.lookup x=some .local:=by first |exact .inl rfl |exact .inr rfl)
  (P:N[j]?=some y:=by rfl) (d:Loc (eV st) y:=by first |exact .inl rfl |exact .inr rfl) (hg:X.fn y=true∨X.env.scope.names.lookup y=some .local:=by first |exact .inl rfl |exact .inr rfl)
  (T:(assignEach [.Name x px,.Name y py] X.env).findIdx? (·.1)=none:=by rfl):PG X (.Tuple [.Name x px,.Name y py] n tp) (jN X.K 2 (eK (aZ i) (eK (aZ j) jO))):=
 Ha (n:=2) R.calm (jA (gN R hi hx hf) (jA (gN R P d hg) Ax)) rfl T
def fA{m:Expr}{g:TG}(R:Rm X k N st)(hi:PI X m iter wi)(hg:PG X m g)(hb:PSs X body tb)(hp:PassesOwn (model X.prog X.w) X.A X.env X.xe:=by first |exact PassesOwn.never |exact PassesOwn.leaving)(hs:∀x,foldedSetIterable iter X.env x=pure x:=by intro _;rfl):
  PS X (.For m iter body [] pos) (gI wi g tb):=ps_for hp R.calm hi hg hb hs
def wA{c:Expr}{g:TT}(hc:PT X c g)(hb:PSs X body tb)(hp:PassesOwn (model X.prog X.w) X.A X.env X.xe:=by first |exact PassesOwn.never |exact PassesOwn.leaving):PS X (.While c body [] pos) (yL g tb):=jWm hp hc hb
def kA(R:Rm X k N st)(hi:PI X (.Name x px) iter wi)(l:∀s H ex pn,PE (fG X scope (x::xT N caps) s H ex pn) elt te)(hs:∀v,foldedSetIterable iter X.env v=pure v:=by intro _;rfl)
  (S:sS (eV st) scope N x (xT N caps) caps:=by exact#[by decide+kernel,rfl,by decide+kernel,rfl,by decide+kernel,rfl,by decide+kernel,rfl,by decide+kernel]):PE X (.ListComp elt [#[.Name x px,iter,[],0]] scope pos) (dQ wi caps te):=
 pe_comp S R.sc R.nn R.calm hi l hs
def sK(R:Rm X k N st)(hi:PI X (.Name x px) iter wi)(l:∀s H ex pn,PE (fG X scope (x::xT N caps) s H ex pn) elt te)(hs:∀v,foldedSetIterable iter X.env v=pure v:=by intro _;rfl)
  (S:sS (eV st) scope N x (xT N caps) caps:=by exact#[by decide+kernel,rfl,by decide+kernel,rfl,by decide+kernel,rfl,by decide+kernel,rfl,by decide+kernel]) (P:N[j]?=some y:=by rfl) (d:Loc (eV st) y:=by first |exact .inl rfl |exact .inr rfl)
  (c:swapsWith (.ListComp elt [#[.Name x px,iter,[],0]] scope pos) (some (.Name y py)) tp.line X.env=pure true:=by rfl) (hf:X.fn y=true∨X.env.scope.names.lookup y=some .local:=by first |exact .inl rfl |exact .inr rfl):
  PS X (.Assign [.Name y py] (.ListComp elt [#[.Name x px,iter,[],0]] scope pos) tp) (cT (dQ wi caps te) (aZ j)):=
 jJx S R.sc R.nn R.calm (by rw[R.nn];exact R.nd) (by rw[R.nn];exact P) (by rw[R.sc];exact d) hi l c hs hf
def kI(R:Rm X k N st)(hi:PI X (.Name x px) iter wi)(B:∀s H ex pn,PT (fG X scope (x::xT N caps) s H ex pn) tst tt)(l:∀s H ex pn,PE (fG X scope (x::xT N caps) s H ex pn) elt te)(hs:∀v,foldedSetIterable iter X.env v=pure v:=by intro _;rfl)
  (S:sS (eV st) scope N x (xT N caps) caps:=by exact#[by decide+kernel,rfl,by decide+kernel,rfl,by decide+kernel,rfl,by decide+kernel,rfl,by decide+kernel]):PE X (.ListComp elt [#[.Name x px,iter,[tst],0]] scope pos) (jX wi caps tt te):=
 jWq S R.sc R.nn R.calm hi B l hs
def sKI(R:Rm X k N st)(hi:PI X (.Name x px) iter wi)(B:∀s H ex pn,PT (fG X scope (x::xT N caps) s H ex pn) tst tt)(l:∀s H ex pn,PE (fG X scope (x::xT N caps) s H ex pn) elt te)(hs:∀v,foldedSetIterable iter X.env v=pure v:=by intro _;rfl)
  (S:sS (eV st) scope N x (xT N caps) caps:=by exact#[by decide+kernel,rfl,by decide+kernel,rfl,by decide+kernel,rfl,by decide+kernel,rfl,by decide+kernel]) (P:N[j]?=some y:=by rfl) (d:Loc (eV st) y:=by first |exact .inl rfl |exact .inr rfl)
  (c:swapsWith (.ListComp elt [#[.Name x px,iter,[tst],0]] scope pos) (some (.Name y py)) tp.line X.env=pure true:=by rfl) (hf:X.fn y=true∨X.env.scope.names.lookup y=some .local:=by first |exact .inl rfl |exact .inr rfl):
  PS X (.Assign [.Name y py] (.ListComp elt [#[.Name x px,iter,[tst],0]] scope pos) tp) (cT (jX wi caps tt te) (aZ j)):=
 Yx S R.sc R.nn R.calm (by rw[R.nn];exact R.nd) (by rw[R.nn];exact P) (by rw[R.sc];exact d) hi B l c hs hf
def g2{pn:List (Addr×Obj)}{ys:List Str}{n:Nat}(hc:X.calm=true)(nd:(x::y::ys).Nodup)(hx:scope.names.lookup x=some .local)(d:scope.names.lookup y=some .local)(T:(assignEach [.Name x px,.Name y py] (fG X scope (x::y::ys) s H ex pn).env).findIdx? (·.1)=none):
  PG (fG X scope ([x,y]++ys) s H ex pn) (.Tuple [.Name x px,.Name y py] n tp) (jN X.K 2 (eK (aZ 0) (eK (aZ 1) jO))):=
 Ha (n:=2) hc (jA (oX nd rfl hx) (jA (oX nd rfl d) Ax)) rfl T
def kG{n:Nat}(R:Rm X k N st)(hi:PI X (.Tuple [.Name x px,.Name y py] n tp) iter wi)(l:∀s H ex pn,PE (fG X scope ([x,y]++xT N caps) s H ex pn) elt te)(hs:∀v,foldedSetIterable iter X.env v=pure v:=by intro _;rfl)
  (S:jQ (eV st) scope N [x,y] (xT N caps) caps:=by exact#[by decide+kernel,rfl,by decide+kernel,by decide+kernel,rfl,by decide+kernel,rfl]) (nd:(x::y::xT N caps).Nodup:=by decide+kernel) (hx:scope.names.lookup x=some .local:=by rfl) (d:scope.names.lookup y=some .local:=by rfl)
  (T:∀s H ex pn,(assignEach [.Name x px,.Name y py] (fG X scope (x::y::xT N caps) s H ex pn).env).findIdx? (·.1)=none:=by intro _ _ _ _;rfl):PE X (.ListComp elt [#[.Tuple [.Name x px,.Name y py] n tp,iter,[],0]] scope pos) (gY wi 2 caps (jN X.K 2 (eK (aZ 0) (eK (aZ 1) jO))) te):=
 jWr S R.sc R.nn R.calm hi (λs H ex pn=>g2 R.calm nd hx d (T s H ex pn)) l hs
def sG{n:Nat}{z:Str}{B ap:Pos}(R:Rm X k N st)(hi:PI X (.Tuple [.Name x px,.Name y py] n tp) iter wi)(l:∀s H ex pn,PE (fG X scope ([x,y]++xT N caps) s H ex pn) elt te)(hs:∀v,foldedSetIterable iter X.env v=pure v:=by intro _;rfl)
  (S:jQ (eV st) scope N [x,y] (xT N caps) caps:=by exact#[by decide+kernel,rfl,by decide+kernel,by decide+kernel,rfl,by decide+kernel,rfl]) (nd:(x::y::xT N caps).Nodup:=by decide+kernel) (hx:scope.names.lookup x=some .local:=by rfl) (d:scope.names.lookup y=some .local:=by rfl)
  (T:∀s H ex pn,(assignEach [.Name x px,.Name y py] (fG X scope (x::y::xT N caps) s H ex pn).env).findIdx? (·.1)=none:=by intro _ _ _ _;rfl) (P:N[j]?=some z:=by rfl) (hz:Loc (eV st) z:=by first |exact .inl rfl |exact .inr rfl)
  (c:swapsWith (.ListComp elt [#[.Tuple [.Name x px,.Name y py] n tp,iter,[],0]] scope pos) (some (.Name z B)) ap.line X.env=pure true:=by rfl) (hf:X.fn z=true∨X.env.scope.names.lookup z=some .local:=by first |exact .inl rfl |exact .inr rfl):
  PS X (.Assign [.Name z B] (.ListComp elt [#[.Tuple [.Name x px,.Name y py] n tp,iter,[],0]] scope pos) ap) (cT (gY wi 2 caps (jN X.K 2 (eK (aZ 0) (eK (aZ 1) jO))) te) (aZ j)):=
 Yy S R.sc R.nn R.calm (by rw[R.nn];exact R.nd) (by rw[R.nn];exact P) (by rw[R.sc];exact hz) hi (λs H ex pn=>g2 R.calm nd hx d (T s H ex pn)) l c hs hf
end
section
variable{K:aR}{h:Heap}{mg:Str->Option Value}{x m q c:Str}{st:Stmt}{f C:Addr}{oc kV dc pm cd ct:Value}{od an:Option Addr}{sl:Array (Option Value)}
def ar1{P:List Value->Prop}(h:∀a,P [a]):∀R:List Value,R.length=1->P R
 | [],e=>nomatch e
 | [a],_=>h a
 |_::_::_,e=>nomatch e
def ar2{P:List Value->Prop}(h:∀a b,P [a,b]):∀R:List Value,R.length=2->P R
 | [],e=>nomatch e
 |a::R,e=>ar1 (P:=λl=>P (a::l)) (h a) R (Nat.succ.inj e)
def ar3{P:List Value->Prop}(h:∀a b c,P [a,b,c]):∀R:List Value,R.length=3->P R
 | [],e=>nomatch e
 |a::R,e=>ar2 (P:=λl=>P (a::l)) (h a) R (Nat.succ.inj e)
def ar4{P:List Value->Prop}(h:∀a b c d,P [a,b,c,d]):∀R:List Value,R.length=4->P R
 | [],e=>nomatch e
 |a::R,e=>ar3 (P:=λl=>P (a::l)) (h a) R (Nat.succ.inj e)
def ar5{P:List Value->Prop}(h:∀a b c d e,P [a,b,c,d,e]):∀R:List Value,R.length=5->P R
 | [],e=>nomatch e
 |a::R,e=>ar4 (P:=λl=>P (a::l)) (h a) R (Nat.succ.inj e)
noncomputable abbrev Bnd(x q:Str)(st:Stmt):Prop:=∀(kV i pm:Value)(an:Option Addr)(cdv ct:Value)(us:List Value),us.length=(tX st).length->bindArgs (PySem.W.fnOf x q (oP st) (nA st) (eV st) .none kV i pm an cdv ct) #[us,[]]=pure ((tX st).zip us)
def Df.mk'(X:K.In h)(G:h.Ns mainGlobals mg)(a:PySem.W.nsIn K mainGlobals x=some (some (.ref f)))(l:K.lookup f=some #[oc,od,.func (PySem.W.fnOf x x (oP st) (nA st) (eV st) .none kV dc pm an cd ct),sl])(c:PySem.W.codeIn K cd x=true)(k:PySem.W.keepIn K (.ref f)=true)
  (b:Bnd x x st:=by first |exact λ_ _ _ _ _ _=>L2.ar1 λ_=>rfl |exact λ_ _ _ _ _ _=>L2.ar2 λ_ _=>rfl |exact λ_ _ _ _ _ _=>L2.ar3 λ_ _ _=>rfl |exact λ_ _ _ _ _ _=>L2.ar4 λ_ _ _ _=>rfl |exact λ_ _ _ _ _ _=>L2.ar5 λ_ _ _ _ _=>rfl):Df K mg x st:=
 have F:Bv K x x st .none f _:=#[#[oc,od,kV,dc,pm,an,cd,ct,sl,rfl,l,c],k]
 #[_,f,_,F,F.binds b,PySem.W.mg_of X G a]
def Mf.mk'(y:PySem.W.nsIn K mainGlobals c=some (some (.ref C)))(a:PySem.W.findIn K (.ref C) m=some (some (.ref f)))(i:PySem.W.isFn K (.ref f)=true)(l:K.lookup f=some #[oc,od,.func (PySem.W.fnOf m q (oP st) (nA st) (eV st) .none kV dc pm an cd ct),sl])(d:PySem.W.codeIn K cd q=true)(k:PySem.W.keepIn K (.ref f)=true)
  (b:Bnd m q st:=by first |exact λ_ _ _ _ _ _=>L2.ar1 λ_=>rfl |exact λ_ _ _ _ _ _=>L2.ar2 λ_ _=>rfl |exact λ_ _ _ _ _ _=>L2.ar3 λ_ _ _=>rfl |exact λ_ _ _ _ _ _=>L2.ar4 λ_ _ _ _=>rfl |exact λ_ _ _ _ _ _=>L2.ar5 λ_ _ _ _ _=>rfl):Mf K c m q st:=
 have F:Bv K m q st .none f _:=#[#[oc,od,kV,dc,pm,an,cd,ct,sl,rfl,l,d],k]
 #[f,_,F,F.binds b,by rw[mZ y];exact#[a,i,k]]
def law_mk(X:K.In h)(G:h.Ns mainGlobals mg)(a:PySem.W.nsIn K mainGlobals x=some (some (.ref f)))(l:K.lookup f=some #[oc,od,.func (PySem.W.fnOf x x (oP st) (nA st) (eV st) .none kV dc pm an cd ct),sl])(c:PySem.W.codeIn K cd x=true)(k:PySem.W.keepIn K (.ref f)=true):∃f fd,Bv K x x st .none f fd/\mg x=some (.ref f):=
 #[f,_,#[#[oc,od,kV,dc,pm,an,cd,ct,sl,rfl,l,c],k],PySem.W.mg_of X G a]
def Df.mkD{T:Addr}{items:Array Value}{n:Nat}(X:K.In h)(G:h.Ns mainGlobals mg)(a:PySem.W.nsIn K mainGlobals x=some (some (.ref f)))(l:K.lookup f=some #[oc,od,.func (PySem.W.fnOf x x (oP st) (nA st) (eV st) (.ref T) kV dc pm an cd ct),sl])(c:PySem.W.codeIn K cd x=true)(k:PySem.W.keepIn K (.ref f)=true)(d:K.lookup T=some o)(hd:o.data=.seq items n)
  (b:∀(kV i pm:Value)(an:Option Addr)(cdv ct:Value)(us:List Value),us.length=(tX st).length->∃k,bindArgs (PySem.W.fnOf x x (oP st) (nA st) (eV st) (.ref T) kV i pm an cdv ct) #[us,[]]=seqItems? (.ref T)>>=k/\k (some items)=pure ((tX st).zip us)):Df K mg x st:=
 have F:Bv K x x st (.ref T) f _:=#[#[oc,od,kV,dc,pm,an,cd,ct,sl,rfl,l,c],k]
 #[_,f,_,F,F.bindsD d hd b,PySem.W.mg_of X G a]
def gi_mk{i:Int}{t:Tok}(X:K.In h)(G:h.Ns mainGlobals mg)(z:PySem.W.nsIn K mainGlobals x=some (some (.int i t))):∃t,mg x=some (.int i t):=#[_,PySem.W.mg_of X G z]
def cls_mk(X:K.In h)(G:h.Ns mainGlobals mg)(y:PySem.W.nsIn K mainGlobals c=some (some (.ref C))):mg c=some (.ref (eI K c)):=by rw[mZ y];exact PySem.W.mg_of X G y
def mkc_mk(y:PySem.W.nsIn K mainGlobals c=some (some (.ref C)))(a:PySem.W.makesIn K C=true)(b:PySem.W.keepIn K (.ref C)=true):PySem.W.makesIn K (eI K c)=true/\PySem.W.keepIn K (.ref (eI K c))=true:=by rw[mZ y];exact#[a,b]
end
section
variable{X:Cx}{x:Str}{pos:Pos}{a b:Expr}{ta tb:TE}{i:Nat}
def pV(K:X.N[i]?=some x:=by rfl)(hv:Vis X.env.scope x:=by first |exact Or.inl rfl |exact Or.inr (Or.inl rfl)|exact Or.inr (Or.inr rfl))(hd:(x==("__debug__":Str))=false:=by decide)(p:(x==("__classdict__":Str))=false:=by decide):PE X (.Name x pos) (aE i):=pe_var K hv hd p
def iL(ha:PE X a ta)(hb:PE X b tb)(hs:Vr b:=by exact λ_ _=>rfl):PE X (.Subscript a b pos) (tOp (fX X.K) ta tb):=pe_ix ix_list ha hb hs
def iT(ha:PE X a ta)(hb:PE X b tb)(hs:Vr b:=by exact λ_ _=>rfl):PE X (.Subscript a b pos) (tOp (dU X.K) ta tb):=pe_ix ix_tup ha hb hs
end
end L2
namespace L2
open PySem PySem.Spec PySem.Calls PyProof.Rows PySem.W PySem.W.X in
def walk_x{q:Program}{loose:List Str}{XP:(Str->Option Value)->Heap->Prop}{K:Params->aR}{as:List Addr}{n t:Nat}{r:PySem.W.RowW}{d:DefRec}{kwd:List (Str×Expr)}{run:Value->List Value->Sem Value}
  (e:∀P,as=(K P).map (·.1)) (W:PySem.W.WalkO q loose XP (λw h=>(K w.params).In h) r d kwd run):WalkX q loose XP (obsZ as) (valZ K n t) r d kwd run:=
 λw s₀ s₁ mg mb G y a o pm cd doc dV kV h1 h2 h3 h4 h5 h6 args vals as' L h7 h8 h9 h10 h11=>
  W w s₀ s₁ mg mb G (InK.keeps w _ _ (z_facts e y).2.1 L.keeps) a o pm cd doc dV kV h1 h2 h3 h4 h5 h6 args vals as' h7 h8 h9 h10 h11
end L2
set_option Elab.async false
set_option maxRecDepth 100000
set_option maxHeartbeats 4000000
set_option linter.all false
namespace My
open PySem L2
open List (map range length_map map_append getElem?_eq_getElem mem_of_getElem? getD_eq_getElem?_getD getElem_mem getElem?_map mem_append mem_singleton getElem?_eq_none mem_cons_of_mem mem_map length_append mem_cons_self take_length getElem?_of_mem length_take getElem?_set length_set map_congr_left mem_or_eq_of_mem_set mem_of_mem_take getElem?_append_left getElem?_append_right map_eq_nil_iff map_take take_of_length_le)
noncomputable abbrev NS:=Nat->St->Hp->Prop
open V (ref int)
open HO (lst tup)
variable{A:List Nat->List V}{C a af:Addr}{G H H':Hp}{J o3:Option V}{K:aR}{Q:VK}{U s:Nat->Nat}{X:List (List Int)}{Y:List Nat->Rat}{c h i j k m p:Nat}{cs qs:fW}{d:Type}{f:Int×Int}{kvs:List (List Key×V)}{ns q:List Nat}{o:HO}{ps:List Addr}{u z:Int}{xs ys:List V}
noncomputable abbrev eQ(Q:VK):rW:={ nx:=λ_ H'=>Q .non H',rt:=Q }
noncomputable abbrev RdS(K:aR)(sp:aR->Sp)(t:aR->TS)(N:List Str):Prop:=∀{vs H Q E},sp K vs H Q E->t K (eQ Q) (start N vs) H
def sz0:0<=sizeLine:=by decide
def sz1:1<=sizeLine:=by decide
def sz2:2<=sizeLine:=by decide
def sz3:3<=sizeLine:=by decide
def Lq0{a:d}{l:List d}:(a::l)[0]?=some a:=rfl
def Lq1{a:d}{l:List d}:(a::l)[i+1]?=l[i]?:=rfl
def Ls0{a b:d}{l:List d}:(a::l).set 0 b=b::l:=rfl
def Ls1{a b:d}{l:List d}:(a::l).set (i+1) b=a::l.set i b:=rfl
def Lca{a:d}{l k:List d}:a::l++k=a::(l++k):=rfl
def Lna{k:List d}:[]++k=k:=rfl
abbrev sM':=sL' `L2 "cC cT aZ aE tC tOp tUn rI0 rI rU iF kZ eT kR Ja gR tV iK kH Zl tT Ty rEq rNe gT cQ fS cV tB vJ eJ cD aH bE iA kQ tCB Dh jE Kt tSl lX iC xS fX dU rY Zk Ek tOr yB Qh jL jN eK jO fJ fK fH"++sL' `My "Lq0 Lq1 Ls0 Ls1 Lca Lna"
local macro_rules|`(tactic|dsimp![$xs,*])=>let l:=sL' `L2 "fJ fK fH"++sL' `My "Lq0 Lq1 Ls0 Ls1";let m:=sL' `L2 "V.int.injEq V.ref.injEq V.bl.injEq hE jZ iQ"++sL' .anonymous "Option.some.injEq exists_eq_left' List.cons.injEq and_true true_and exists_and_left exists_eq_left and_assoc";`(tactic|(try dsimp only[$xs,*,$[$l:ident],*];try simp only[$xs,*,$[$l:ident],*,$[$m:ident],*]))
local macro_rules|`(tactic|dsimp?[$xs,*])=>let l:=sM';`(tactic|(try dsimp only[$xs,*,$[$l:ident],*];try simp_arith[$xs,*]))
local macro_rules|`(tactic|simp_arith[$xs,*])=>let l:=sM'++sL' `L2 "V.int.injEq V.ref.injEq V.bl.injEq V.ty.injEq cA cP hE jZ iQ"++sL' .anonymous "Option.some.injEq exists_eq_left' exists_eq_left List.cons.injEq and_true true_and exists_and_left and_assoc";`(tactic|simp only[$xs,*,$[$l:ident],*])
def jJX(i:Int):(if i<0 then -i else i)=(i.natAbs:Int):=by split<;>lia
def Vp{ns:List Int}{k:Int}(h0:0<=k)(h:k<(ns.length:Int)):atI (map int ns) k=some (.int (ns.getD k.toNat 0)):=by
 have hk:k.toNat<ns.length:=#[];have e:=gU (xs:=map int ns) (j:=k.toNat) (v:=int (ns.getD k.toNat 0)) (by
  rw[aX,aD hk,aP,aD hk];rfl)
 rwa [Int.toNat_of_nonneg h0]at e
def iR{a:d}{l:List d}:atI (a::l) 0=some a:=gU (j:=0) rfl
def iB{a b:d}{l:List d}:atI (a::b::l) 1=some b:=gU (j:=1) rfl
def atI2{a b c:d}{l:List d}:atI (a::b::c::l) 2=some c:=gU (j:=2) rfl
structure Lo(t b x y:Int):Prop where
 pos:0<y
 cop:Int.gcd x y=1
 eq:x*b=t*y
 bx:x.natAbs<=t.natAbs
 by_:y.natAbs<=b.natAbs
def lo_of{t b g q r:Int}(hb:b≠0)(hg:g≠0)(y:t=g*q)(a:b=g*r)(hr:0<r)(hc:Int.gcd q r=1):Lo t b (t.fdiv g) (b.fdiv g):=by
 have e1:t.fdiv g=q:=by rw[y,Int.mul_fdiv_cancel_left _ hg]
 have C:b.fdiv g=r:=by rw[a,Int.mul_fdiv_cancel_left _ hg]
 rw[e1,C];have z:1<=g.natAbs:=#[];refine#[hr,hc,by rw[y,a];rw[Int.mul_left_comm,fV],?_,?_]
 .rw[y,cH];exact Nat.le_mul_of_pos_left _ z
 .rw[a,cH];exact Nat.le_mul_of_pos_left _ z
def Ik{t b:Int}(hb:b≠0):∃q r:Int,t=(Int.gcd t b:Nat)*q/\b=(Int.gcd t b:Nat)*r/\Int.gcd q r=1/\0<Int.gcd t b:=by
 have hp:0<Int.gcd t b:=Int.gcd_pos_of_ne_zero_right _ hb;obtain⟨q,J⟩:=Int.gcd_dvd_left (a:=t) (b:=b);obtain⟨r,hr⟩:=Int.gcd_dvd_right (a:=t) (b:=b);refine#[q,r,J,hr,?_,hp];have e:Int.gcd t b=Int.gcd ((Int.gcd t b:Nat)*q) ((Int.gcd t b:Nat)*r):=by rw[←J,←hr]
 rw[Int.gcd_mul_left,Int.natAbs_natCast]at e;exact Nat.eq_of_mul_eq_mul_left hp (by rw[Nat.mul_one];exact e.symm)
def Uo{t b:Int}(hb:0<b):Lo t b (t.fdiv (Int.gcd t b:Nat)) (b.fdiv (Int.gcd t b:Nat)):=by
 obtain⟨q,r,h1,h2,h3,A⟩:=Ik (t:=t) (b:=b) #[];refine lo_of (q:=q) (r:=r) #[] #[] h1 h2 ?_ h3;rcases Int.lt_trichotomy r 0 with h |h |h
 .have:(Int.gcd t b:Int)*r<0:=Int.mul_neg_of_pos_of_neg #[] h;lia
 .rw[h,dJ]at h2;lia
 .exact h
def lo_neg{t b:Int}(hb:b<0):Lo t b (t.fdiv (-(Int.gcd t b:Nat))) (b.fdiv (-(Int.gcd t b:Nat))):=by
 obtain⟨q,r,h1,h2,h3,A⟩:=Ik (t:=t) (b:=b) #[];refine lo_of (q:=-q) (r:=-r) #[] #[] (by rw[Int.neg_mul_neg];exact h1) (by rw[Int.neg_mul_neg];exact h2) ?_ (by rw[Int.gcd,Int.natAbs_neg,Int.natAbs_neg];exact h3);rcases Int.lt_trichotomy r 0 with h |h |h
 .omega
 .rw[h,dJ]at h2;lia
 .have:(Int.gcd t b:Int)*r>0:=bF #[] h;lia
noncomputable def intO:Option V->Int
 |some (.int i)=>i
 |_=>0
noncomputable def eG(K:aR)(H:Hp):List Addr->gB->Prop
 | [],[]=>True
 |p::ps,f::fs=>SqT K H p [.int f.1,.int f.2]/\eG K H ps fs
 |_,_=>False
def eG.same(s:aQ H H'):∀{ps:List Addr}{fs:gB},eG K H ps fs->eG K H' ps fs
 | [],[],_=>trivial
 |_::_,_::_,h=>#[s.tup h.1,h.2.same s]
 | [],_::_,h=>h.elim
 |_::_,[],h=>h.elim
def eG.length:∀{ps:List Addr}{fs:gB},eG K H ps fs->ps.length=fs.length
 | [],[],_=>rfl
 |_::_,_::_,h=>by rw[dB,dB,h.2.length]
 | [],_::_,h=>h.elim
 |_::_,[],h=>h.elim
def eG.get{K:aR}{H:Hp}:∀{ps:List Addr}{fs:gB}{i:Nat}{p:Addr},eG K H ps fs->ps[i]?=some p->∃f,fs[i]?=some f/\SqT K H p [.int f.1,.int f.2]
 | [],[],_,_,_,e=>by simp at e
 |_::_,f::_,0,_,h,e=>by simp at e;subst e;exact#[f,rfl,h.1]
 |_::_,_::_,i+1,_,h,e=>by
  obtain⟨f,e1,C⟩:=h.2.get (i:=i) (by simpa using e);exact#[f,by simpa using e1,C]
 | [],_::_,_,_,h,_=>h.elim
 |_::_,[],_,_,h,_=>h.elim
def eG.set{q:Addr}{g:Int×Int}(J:SqT K H q [.int g.1,.int g.2]):∀{ps:List Addr}{fs:gB}(i:Nat),eG K H ps fs->eG K H (ps.set i q) (fs.set i g)
 | [],[],_,_=>trivial
 |_::_,_::_,0,h=>#[J,h.2]
 |_::_,_::_,i+1,h=>#[h.1,eG.set J i h.2]
 | [],_::_,_,h=>h.elim
 |_::_,[],_,h=>h.elim
def eG.append{qs:List Addr}{l:gB}(J:eG K H qs l):∀{ps:List Addr}{fs:gB},eG K H ps fs->eG K H (ps++qs) (fs++l)
 | [],[],_=>J
 |_::_,_::_,h=>#[h.1,eG.append J h.2]
 | [],_::_,h=>h.elim
 |_::_,[],h=>h.elim
def eG.off{r:Addr}{zs:List V}(hr:H r=some (.lst ys)):∀{ps:List Addr}{fs:gB},eG K H ps fs->eG K (upd H r (.lst zs)) ps fs
 | [],[],_=>trivial
 |_::_,_::_,h=>#[h.1.off hr,h.2.off hr]
 | [],_::_,h=>h.elim
 |_::_,[],h=>h.elim
def eU{x:V}(h:(map ref ps)[i]?=some x):∃p,x=.ref p/\ps[i]?=some p:=by
 rw[aX]at h;cases e:ps[i]? with
 |none=>rw[e]at h;cases h
 |some z=>rw[e]at h;exact#[z,(aV h).symm,rfl]
def fZ{ns:List Int}{x:V}(h:(map int ns)[i]?=some x):∃c,x=.int c/\ns[i]?=some c:=by
 rw[aX]at h;cases e:ns[i]? with
 |none=>rw[e]at h;cases h
 |some z=>rw[e]at h;exact#[z,(aV h).symm,rfl]
def dI{l:List d}{x:d}(h:l[i]?=some x):l.take (i+1)=l.take i++[x]:=by
 rw[List.take_succ,h];rfl
noncomputable def WEq(H:Hp)(P:Nat->List V->Prop):Nat->List V->Hp->Prop:=λi zs I=>I=H/\P i zs
def SEq(H:Hp)(P:Nat->St->Prop):NS:=λi Z I=>I=H/\P i Z
def glf(g n:Int):Int:=((Int.gcd g n:Nat):Int)
def gl(ns:List Int):Int:=ns.foldl glf 0
def gl_snoc{ns:List Int}{c:Int}(h:ns[i]?=some c):gl (ns.take (i+1))=glf (gl (ns.take i)) c:=by
 unfold gl;rw[dI h,List.foldl_append];rfl
def jXg:∀l:List Int,l.foldl glf 1=1
 | []=>rfl
 |a::r=>by
  have e:glf 1 a=1:=by unfold glf;rw[Int.gcd];simp
  rw[List.foldl_cons,e];exact jXg r
def gl_one{ns:List Int}(h:gl (ns.take i)=1):gl ns=1:=by
 unfold gl at h⊢;rw[←List.take_append_drop i ns,List.foldl_append,h];exact jXg _
def Ov:∀(l:List Int)(g:Int),0<=g->0<=l.foldl glf g
 | [],_,h=>h
 |a::r,g,_=>by rw[List.foldl_cons];exact Ov r _ (by unfold glf;lia)
def Sn(ns:List Int):0<=gl ns:=Ov ns 0 (by decide)
def jXh:∀(l:List Int)(g:Int),l.foldl glf g∣g/\∀n∈l,l.foldl glf g∣n
 | [],g=>#[Int.dvd_refl _,λ_ h=>nomatch h]
 |a::r,g=>by
  rw[List.foldl_cons];obtain⟨h1,h2⟩:=jXh r (glf g a);have c:glf g a∣g:=Int.gcd_dvd_left (a:=g) (b:=a);have i:glf g a∣a:=Int.gcd_dvd_right (a:=g) (b:=a);refine#[fN h1 c,λn R=>?_];rcases eA.mp R with rfl |R
  .exact fN h1 i
  .exact h2 n R
def gl_dvd{ns:List Int}{n:Int}(h:n∈ns):gl ns∣n:=(jXh ns 0).2 n h
def Xy:∀(l:List Int),(∀n∈l,n=0)->l.foldl glf 0=0
 | [],_=>rfl
 |a::r,h=>by
  rw[List.foldl_cons,h a bT];exact Xy r λn R=>h n (bK _ R)
def gl_bb{ns:List Int}(h:∀n∈ns,BB m n):BB m (gl ns):=by
 by_cases M:∃n∈ns,n≠0
 .obtain⟨n,R,N⟩:=M;refine(h n R).of_le (Nat.le_of_dvd #[] (Int.natAbs_dvd_natAbs.mpr (gl_dvd R)))
 .have:gl ns=0:=Xy ns λn R=>Classical.byContradiction λc=>M #[n,R,c];rw[this];unfold BB;exact dH _
noncomputable def vO(ns:List Int):List Int:=if gl ns<2 then ns else ns.map λn=>n.fdiv (gl ns)
def Cp(ns:List Int):(vO ns).length=ns.length:=by
 unfold vO;split
 .rfl
 .rw[aA]
def Om{ns:List Int}{n:Int}(h:ns[i]?=some n):∃t,(vO ns)[i]?=some t/\t*(if 1>gl ns then 1 else gl ns)=n:=by
 have B:=Sn ns;have hm:n∈ns:=aL h;unfold vO;by_cases h2:gl ns<2
 .rw[aJ h2];refine#[n,h,?_];have:(if 1>gl ns then(1:Int)else gl ns)=1:=by split<;>lia
  rw[this,dR]
 .rw[aF h2,aF #[]];refine#[n.fdiv (gl ns),by rw[aX,h];rfl,?_];obtain⟨z,M⟩:=gl_dvd hm;have e:n.fdiv (gl ns)=z:=by
   conv=>lhs;rw[M]
   exact Int.mul_fdiv_cancel_left _ #[]
  rw[e,fM];exact M.symm
def jYi{ns:List Int}(h:∀n∈ns,BB m n):∀n∈vO ns,BB m n:=by
 intro t y;obtain⟨i,hi⟩:=cJ y;have f:i<ns.length:=by rw[←Cp];exact(aK.mp hi).1
 obtain⟨O,e1,C⟩:=Om (aD f);rw[hi]at e1;obtain rfl:t=O:=aV e1;refine(h _ (cO f)).of_le ?_;rw[←C,cH];have B:=Sn ns;refine Nat.le_mul_of_pos_right _ ?_;split<;>lia
def Eu{n:Nat}{k:Int}(h0:0<=k)(h:k<n):ixN n k=some k.toNat:=by
 unfold ixN;rw[aJ h0,aJ h]
def lcf(n:Int)(f:Int×Int):Int:=n*(f.2.fdiv ((Int.gcd n f.2:Nat):Int))
def lc(fs:gB):Int:=fs.foldl lcf 1
noncomputable def clr(fs:gB):List Int:=fs.map λf=>f.1*((lc fs).fdiv f.2)
def lc_snoc{fs:gB}(h:fs[i]?=some f):lc (fs.take (i+1))=lcf (lc (fs.take i)) f:=by
 unfold lc;rw[dI h,List.foldl_append];rfl
def lcf_ok{n:Int}(R:0<n)(hb:0<f.2):0<lcf n f/\n∣lcf n f/\f.2∣lcf n f/\(∀M,n∣M->f.2∣M->lcf n f∣M)/\(f.2.fdiv ((Int.gcd n f.2:Nat):Int)).natAbs<=f.2.natAbs:=by
 obtain⟨q,r,h1,h2,h3,A⟩:=Ik (t:=n) (b:=f.2) #[];have e:f.2.fdiv ((Int.gcd n f.2:Nat):Int)=r:=by
  conv=>lhs;lhs;rw[h2]
  exact Int.mul_fdiv_cancel_left _ #[]
 unfold lcf;rw[e];generalize Int.gcd n f.2=g at h1 h2 A;have k:0<r:=by
  rcases Int.lt_trichotomy r 0 with h |h |h
  .have:(g:Int)*r<0:=Int.mul_neg_of_pos_of_neg #[] h;lia
  .rw[h,dJ]at h2;lia
  .exact h
 refine#[bF R k,#[r,rfl],#[q,?_],λM c i=>?_,?_]
 .rw[h1,h2];ac_rfl
 .obtain⟨x,hx⟩:=c;obtain⟨y,d⟩:=i;have C:q*x=r*y:=by
   apply Int.eq_of_mul_eq_mul_left (show(g:Int)≠0 by lia);rw[←fV,←fV,←h1,←h2,←hx,←d]
  have a:r∣x:=Int.natAbs_dvd_natAbs.mp (Nat.Coprime.dvd_of_dvd_mul_left (m:=q.natAbs) (Nat.Coprime.symm h3) (by rw[←cH];exact Int.natAbs_dvd_natAbs.mpr #[y,C]));obtain⟨z,j⟩:=a;exact#[z,by rw[hx,j,fV]]
 .rw[h2,cH];exact Nat.le_mul_of_pos_left _ #[]
def yR:∀(fs:gB)(n:Int),0<n->(∀f∈fs,0<f.2)->0<fs.foldl lcf n/\n∣fs.foldl lcf n/\(∀f∈fs,f.2∣fs.foldl lcf n)/\∀M,n∣M->(∀f∈fs,f.2∣M)->fs.foldl lcf n∣M
 | [],n,hn,_=>#[hn,Int.dvd_refl _,(λ_ h=>nomatch h),λ_ h _=>h]
 |a::r,n,hn,h=>by
  rw[List.foldl_cons];obtain⟨Q,U,l,b,_⟩:=lcf_ok hn (h a bT);obtain⟨b1,b2,R,C⟩:=yR r (lcf n a) Q λf hf=>h f (bK _ hf);refine#[b1,fN U b2,λf hf=>?_,λM c i=>C M (b M c (i a bT)) λf hf=>i f (bK _ hf)];rcases eA.mp hf with rfl |hf
  .exact fN l b2
  .exact R f hf
def Mi{fs:gB}(h:∀f∈fs,0<f.2):0<lc fs:=(yR fs 1 (by decide) h).1
def jJZ{fs:gB}(h:∀f∈fs,0<f.2)(hf:f∈fs):f.1*((lc fs).fdiv f.2)*f.2=f.1*lc fs:=by
 obtain⟨k,hk⟩:=(yR fs 1 (by decide) h).2.2.1 f hf;have hk:lc fs=f.2*k:=hk;have e:(lc fs).fdiv f.2=k:=by rw[hk];exact Int.mul_fdiv_cancel_left _ (by have:=h f hf;lia)
 rw[e,hk];ac_rfl
def jXr{fs:gB}(h:fs[i]?=some f):(clr fs)[i]?=some (f.1*((lc fs).fdiv f.2)):=by
 unfold clr;rw[aX,h];rfl
noncomputable def eL(H:Hp):List Addr->List (List Int)->Prop
 | [],[]=>True
 |p::ps,r::rs=>H p=some (.lst (map int r))/\eL H ps rs
 |_,_=>False
def eL.same(s:aQ H H'):∀{ps:List Addr}{X:List (List Int)},eL H ps X->eL H' ps X
 | [],[],_=>trivial
 |_::_,_::_,h=>#[s _ _ h.1,h.2.same s]
 | [],_::_,h=>h.elim
 |_::_,[],h=>h.elim
def eL.length:∀{ps:List Addr}{X:List (List Int)},eL H ps X->ps.length=X.length
 | [],[],_=>rfl
 |_::_,_::_,h=>by rw[dB,dB,h.2.length]
 | [],_::_,h=>h.elim
 |_::_,[],h=>h.elim
def eL.get{H:Hp}:∀{ps:List Addr}{X:List (List Int)}{i:Nat}{p:Addr},eL H ps X->ps[i]?=some p->∃r,X[i]?=some r/\H p=some (.lst (map int r))
 | [],[],_,_,_,e=>by simp at e
 |_::_,r::_,0,_,h,e=>by simp at e;subst e;exact#[r,rfl,h.1]
 |_::_,_::_,i+1,_,h,e=>by
  obtain⟨f,e1,C⟩:=h.2.get (i:=i) (by simpa using e);exact#[f,by simpa using e1,C]
 | [],_::_,_,_,h,_=>h.elim
 |_::_,[],_,_,h,_=>h.elim
def eL.has(h:eL H ps X){p:Addr}(hp:p∈ps):∃r,r∈X/\H p=some (.lst (map int r)):=by
 obtain⟨i,hi⟩:=cJ hp;obtain⟨r,e1,C⟩:=h.get hi;exact#[r,aL e1,C]
def eL.append{qs:List Addr}{l:List (List Int)}(J:eL H qs l):∀{ps:List Addr}{X:List (List Int)},eL H ps X->eL H (ps++qs) (X++l)
 | [],[],_=>J
 |_::_,_::_,h=>#[h.1,eL.append J h.2]
 | [],_::_,h=>h.elim
 |_::_,[],h=>h.elim
def eL.snoc{q:Addr}{g:List Int}(h:eL H ps X)(J:H q=some (.lst (map int g))):eL H (ps++[q]) (X++[g]):=eL.append (show eL H [q] [g]from#[J,trivial]) h
def eL.put{q:Addr}:∀{ps:List Addr}{X:List (List Int)},q∉ps->eL H ps X->eL (upd H q o) ps X
 | [],[],_,_=>trivial
 |p::_,_::_,hn,h=>#[by rw[bY (λe:p=q=>hn (by rw[e];exact bT))];exact h.1,eL.put (λz=>hn (bK _ z)) h.2]
 | [],_::_,_,h=>h.elim
 |_::_,[],_,h=>h.elim
def eL.setr{q:Addr}{g:List Int}(J:H q=some (.lst (map int g))):∀{ps:List Addr}{X:List (List Int)}(i:Nat),eL H ps X->eL H (ps.set i q) (X.set i g)
 | [],[],_,_=>trivial
 |_::_,_::_,0,h=>#[J,h.2]
 |_::_,_::_,i+1,h=>#[h.1,eL.setr J i h.2]
 | [],_::_,_,h=>h.elim
 |_::_,[],_,h=>h.elim
def lZ{l:List Int}(h:i<l.length):l.getD i 0∈l:=by
 rw[aP,aD h];exact cO h
def kN{l:List Int}(h:i<l.length):atI (map int l) (i:Int)=some (.int (l.getD i 0)):=by
 have:=Vp (ns:=l) (k:=(i:Int)) #[] #[];rwa [dA]at this
def Fg{l:List Int}(h:i<l.length):l[i]?=some (l.getD i 0):=by
 rw[aP,aD h];rfl
def qR{xs:List d}{x:d}(h:xs[xs.length-1]?=some x):atI xs (-1)=some x:=by
 have Y:xs.length-1<xs.length:=(aK.mp h).1;unfold atI ixN;rw[aF #[],aJ #[]];show xs[(-1+(xs.length:Int)).toNat]?=some x;rw[show(-1+(xs.length:Int)).toNat=xs.length-1 by lia];exact h
noncomputable def lx(a b:List Int)(c:Nat):List Nat->Option Bool
 | []=>none
 |p::r=>if a.getD p 0*b.getD c 0=b.getD p 0*a.getD c 0 then lx a b c r else some (decide (a.getD p 0*b.getD c 0<b.getD p 0*a.getD c 0))
def jXd{a b:List Int}{c:Nat}:∀(l:List Nat),lx b a c l=(lx a b c l).map (!·)
 | []=>rfl
 |p::r=>by
  unfold lx;by_cases h:a.getD p 0*b.getD c 0=b.getD p 0*a.getD c 0
  .rw[aJ h,aJ h.symm];exact jXd r
  .rw[aF h,aF (λe=>h e.symm)];show some _=some _
   congr 1
   by_cases h2:a.getD p 0*b.getD c 0<b.getD p 0*a.getD c 0
   .rw[decide_eq_true h2,decide_eq_false #[]];rfl
   .rw[decide_eq_false h2,decide_eq_true #[]];rfl
def Xs{a b k:List Int}{c:Nat}(ha:0<a.getD c 0)(hb:0<b.getD c 0)(hk:0<k.getD c 0):∀(l:List Nat),lx a b c l=some true->lx b k c l≠some false->lx a k c l=some true
 | [],h,_=>by cases h
 |p::r,h1,h2=>by
  have m:=Xs ha hb hk r;unfold lx at h1 h2⊢;generalize a.getD c 0=d at*;generalize b.getD c 0=bc at*;generalize k.getD c 0=kc at*;generalize a.getD p 0=ap at*;generalize b.getD p 0=e at*;generalize k.getD p 0=kp at*;have m1:ap*bc*kc=ap*kc*bc:=by ac_rfl
  have m2:e*d*kc=e*kc*d:=by ac_rfl
  have g:kp*bc*d=kp*d*bc:=by ac_rfl
  have fin:ap*kc*bc<kp*d*bc->(if ap*kc=kp*d then lx a k c r else some (decide (ap*kc<kp*d)))=some true:=λh=>by
   have:ap*kc<kp*d:=Int.lt_of_mul_lt_mul_right h #[];rw[aF #[],decide_eq_true this]
  by_cases e1:ap*bc=e*d
  .rw[aJ e1]at h1;have f:ap*bc*kc=e*d*kc:=by rw[e1]
   by_cases C:e*kc=kp*bc
   .rw[aJ C]at h2;have v:e*kc*d=kp*bc*d:=by rw[C]
    have:ap*kc=kp*d:=eX (show bc≠0 by lia) #[];rw[aJ this];exact m h1 h2
   .rw[aF C]at h2;have h3:e*kc<kp*bc:=Classical.byContradiction λz=>h2 (by rw[decide_eq_false z]);have v:e*kc*d<kp*bc*d:=Int.mul_lt_mul_of_pos_right h3 ha;exact fin #[]
  .rw[aF e1]at h1;have h3:ap*bc<e*d:=by simpa using h1
   have f:ap*bc*kc<e*d*kc:=Int.mul_lt_mul_of_pos_right h3 hk;by_cases C:e*kc=kp*bc
   .have v:e*kc*d=kp*bc*d:=by rw[C]
    exact fin #[]
   .rw[aF C]at h2;have h3:e*kc<kp*bc:=Classical.byContradiction λz=>h2 (by rw[decide_eq_false z]);have v:e*kc*d<kp*bc*d:=Int.mul_lt_mul_of_pos_right h3 ha;exact fin #[]
noncomputable def Lv(X:List (List Int))(c:Nat)(l:List Nat)(i:Nat):Option Nat->Prop
 |none=>∀k row,k<i->X[k]?=some row->¬0<row.getD c 0
 |some f=>f<i/\∃fr,X[f]?=some fr/\0<fr.getD c 0/\∀k row,k<i->X[k]?=some row->0<row.getD c 0->lx fr row c l≠some false/\(lx fr row c l=none->f<=k)
def Lv.skip{l:List Nat}{o:Option Nat}{row:List Int}(h:Lv X c l i o)(hr:X[i]?=some row)(R:¬0<row.getD c 0):Lv X c l (i+1) o:=by
 cases o with
 |none=>
  intro k d hk e;by_cases g:k<i
  .exact h k d g e
  .have:k=i:=#[];subst this;rw[hr]at e;obtain rfl:=aV e;exact R
 |some f=>
  obtain⟨h1,fr,h2,h3,A⟩:=h;refine#[#[],fr,h2,h3,λk d hk e hp=>?_];by_cases g:k<i
  .exact A k d g e hp
  .have:k=i:=#[];subst this;rw[hr]at e;obtain rfl:=aV e;exact absurd hp R
def Vk{a:List Int}{c:Nat}:∀l:List Nat,lx a a c l=none
 | []=>rfl
 |p::r=>by unfold lx;rw[aJ rfl];exact Vk r
def Lv.first{l:List Nat}{row:List Int}(h:Lv X c l i none)(hr:X[i]?=some row)(hp:0<row.getD c 0):Lv X c l (i+1) (some i):=by
 refine#[#[],row,hr,hp,λk d hk e M=>?_];by_cases g:k<i
 .exact absurd M (h k d g e)
 .have:k=i:=#[];subst this;rw[hr]at e;obtain rfl:=aV e;rw[Vk];exact#[by simp,λ_=>aM _]
def Lv.keep{l:List Nat}{f:Nat}{row fr:List Int}(h:Lv X c l i (some f))(hf:X[f]?=some fr)(hr:X[i]?=some row)(hp:0<row.getD c 0)(ha:lx row fr c l≠some true):Lv X c l (i+1) (some f):=by
 obtain⟨h1,B,h2,h3,A⟩:=h;rw[hf]at h2;obtain rfl:=aV h2;refine#[#[],fr,hf,h3,λk d hk e M=>?_];by_cases g:k<i
 .exact A k d g e M
 .have:k=i:=#[];subst this;rw[hr]at e;obtain rfl:=aV e;refine#[λz=>ha ?_,λ_=>by lia];rw[jXd (a:=fr) (b:=row),z];rfl
def Lv.take{l:List Nat}{f:Nat}{row fr:List Int}(h:Lv X c l i (some f))(hf:X[f]?=some fr)(hr:X[i]?=some row)(hp:0<row.getD c 0)(ha:lx row fr c l=some true):Lv X c l (i+1) (some i):=by
 obtain⟨h1,B,h2,h3,A⟩:=h;rw[hf]at h2;obtain rfl:=aV h2;refine#[#[],row,hr,hp,λk d hk e M=>?_];by_cases g:k<i
 .have:=Xs hp h3 M l ha (A k d g e M).1;rw[this];exact#[by simp,λz=>by cases z]
 .have:k=i:=#[];subst this;rw[hr]at e;obtain rfl:=aV e;rw[Vk];exact#[by simp,λ_=>aM _]
noncomputable def sm:Nat->(Nat->Int)->Int
 |0,_=>0
 |n+1,f=>sm n f+f n
def iS:∀{n:Nat}{f g:Nat->Int},(∀k,k<n->f k=g k)->sm n f=sm n g
 |0,_,_,_=>rfl
 |n+1,f,g,h=>by
  show sm n f+f n=sm n g+g n;rw[iS (n:=n) λk hk=>h k #[],h n #[]]
def kL:∀{n:Nat}{f:Nat->Int},(∀k,k<n->f k=0)->sm n f=0
 |0,_,_=>rfl
 |n+1,f,h=>by
  show sm n f+f n=0;rw[kL (n:=n) λk hk=>h k #[],h n #[]];rfl
def yM(a b:Int):∀(n:Nat)(f g:Nat->Int),sm n (λk=>a*f k+b*g k)=a*sm n f+b*sm n g
 |0,_,_=>by show(0:Int)=a*0+b*0;simp
 |n+1,f,g=>by
  show sm n (λk=>a*f k+b*g k)+(a*f n+b*g n)=a*(sm n f+f n)+b*(sm n g+g n);rw[yM a b n f g,Int.mul_add,Int.mul_add];lia
def oM{p:Nat}:∀{n:Nat}{f:Nat->Int},p<n->(∀k,k<n->k≠p->f k=0)->sm n f=f p
 |0,_,h,_=>absurd h (eO _)
 |n+1,f,hp,h=>by
  show sm n f+f n=f p;by_cases e:p=n
  .rw[kL (n:=n) λk hk=>h k #[] #[],e];lia
  .rw[oM (n:=n) #[] λk hk O=>h k #[] O,h n #[] #[]];lia
def Ug{p q:Nat}:∀{n:Nat}{f:Nat->Int},p<q->q<n->(∀k,k<n->k≠p->k≠q->f k=0)->sm n f=f p+f q
 |0,_,_,h,_=>absurd h (eO _)
 |n+1,f,hpq,hq,h=>by
  show sm n f+f n=f p+f q;by_cases e:q=n
  .rw[oM (p:=p) (n:=n) #[] λk hk O=>h k #[] O #[],e]
  .rw[Ug (n:=n) hpq #[] λk hk h1 h2=>h k #[] h1 h2,h n #[] #[] #[]];lia
def sg(k:Nat):Int:=if k%2=0 then 1 else -1
def sg_succ(k:Nat):sg (k+1)=-sg k:=by
 unfold sg;split<;>split<;>lia
def sg_abs(k:Nat):(sg k).natAbs=1:=by unfold sg;split<;>rfl
def skp(k i:Nat):Nat:=if i<k then i else i+1
def skp_ne(k i:Nat):skp k i≠k:=by unfold skp;split<;>lia
def skp_lt{n:Nat}(h:i<n):skp k i<n+1:=by unfold skp;split<;>lia
def skp_inj(h:skp k i=skp k j):i=j:=by unfold skp at h;split at h<;>split at h<;>lia
def jWQ{n:Nat}(hk:k<n+1)(P:j<n+1)(O:j≠k):∃i,i<n/\skp k i=j:=by
 unfold skp;by_cases h:j<k
 .exact#[j,#[],by rw[aJ h]]
 .exact#[j-1,#[],by rw[aF #[]];lia]
noncomputable abbrev Mx:=Nat->Nat->Int
def mnr(M:Mx)(k:Nat):Mx:=λi r=>M (skp k i) (r+1)
noncomputable def det:Nat->Mx->Int
 |0,_=>1
 |n+1,M=>sm (n+1) λk=>sg k*M k 0*det n (mnr M k)
def Bl:∀{n:Nat}{M L:Mx},(∀i,i<n->∀r,r<n->M i r=L i r)->det n M=det n L
 |0,_,_,_=>rfl
 |n+1,M,L,h=>by
  refine iS λk hk=>?_;rw[h k hk 0 #[],Bl (n:=n) (M:=mnr M k) (L:=mnr L k) λi hi r hr=>h _ (skp_lt hi) _ #[]]
def pt(M:Mx)(j:Nat)(v:Nat->Int):Mx:=λi=>if i=j then v else M i
def tW(M:Mx)(j:Nat)(v:Nat->Int):pt M j v j=v:=by unfold pt;rw[aJ rfl]
def mI(M:Mx)(v:Nat->Int)(h:i≠j):pt M j v i=M i:=by unfold pt;rw[aF h]
def Er(M:Mx)(j:Nat):pt M j (M j)=M:=by
 funext i;unfold pt;split
 .rename_i e;rw[e]
 .rfl
def pt_pt(M:Mx)(j:Nat)(u v:Nat->Int):pt (pt M j u) j v=pt M j v:=by
 funext i;unfold pt;split<;>rfl
def Aw(M:Mx)(h:i≠j)(u v:Nat->Int):pt (pt M i u) j v=pt (pt M j v) i u:=by
 funext k;unfold pt
 by_cases h1:k=j
 .rw[aJ h1,aF #[],aJ h1]
 .rw[aF h1];by_cases h2:k=i
  .rw[aJ h2,aJ h2]
  .rw[aF h2,aF h2,aF h1]
def zZ(M:Mx)(k:Nat)(v:Nat->Int):mnr (pt M k v) k=mnr M k:=by
 funext i r
 show pt M k v (skp k i) (r+1)=M (skp k i) (r+1);rw[mI _ _ (skp_ne k i)]
def Zy(M:Mx)(v:Nat->Int):mnr (pt M (skp k c) v) k=pt (mnr M k) c (λr=>v (r+1)):=by
 funext i r
 show pt M (skp k c) v (skp k i) (r+1)=_;unfold pt;by_cases h:i=c
 .rw[aJ h,aJ (by rw[h])]
 .rw[aF h,aF (λe=>h (skp_inj e))];rfl
def Vn(a b:Int):∀{n:Nat}(M:Mx){j:Nat}(u v:Nat->Int),j<n->det n (pt M j (λr=>a*u r+b*v r))=a*det n (pt M j u)+b*det n (pt M j v)
 |0,_,_,_,_,h=>absurd h (eO _)
 |n+1,M,j,u,v,hj=>by
  show sm (n+1) _=a*sm (n+1) _+b*sm (n+1) _;rw[←yM];refine iS λk hk=>?_;by_cases e:k=j
  .subst e;rw[tW,tW,tW,zZ,zZ,zZ];grind
  .obtain⟨c,T,f⟩:=jWQ hk hj (λz=>e z.symm);rw[mI _ _ e,mI _ _ e,mI _ _ e,←f,Zy,Zy,Zy,Vn a b (mnr M k) (λr=>u (r+1)) (λr=>v (r+1)) T];grind
def Ls:∀{n:Nat}{M:Mx}{p:Nat},p+1<n->M p=M (p+1)->det n M=0
 |0,_,_,h,_=>absurd h (eO _)
 |n+1,M,p,hp,e=>by
  show sm (n+1) _=0;rw[Ug (p:=p) (q:=p+1) #[] hp]
  .have j:mnr M p=mnr M (p+1):=by
    funext i r
    show M (skp p i) (r+1)=M (skp (p+1) i) (r+1);unfold skp;by_cases h1:i<p
    .rw[aJ h1,aJ #[]]
    .rw[aF h1];by_cases h2:i=p
     .rw[aJ #[],h2,e]
     .rw[aF #[]]
   rw[j,e,sg_succ];grind
  .intro k hk h1 h2;have:det n (mnr M k)=0:=by
    by_cases h:k<p
    .refine Ls (p:=p-1) #[] ?_
     funext r
     show M (skp k (p-1)) (r+1)=M (skp k (p-1+1)) (r+1);unfold skp;rw[aF #[],aF #[],show p-1+1=p by lia,e]
    .refine Ls (p:=p) #[] ?_
     funext r
     show M (skp k p) (r+1)=M (skp k (p+1)) (r+1);unfold skp;rw[aJ #[],aJ #[],e]
   rw[this,dJ]
def Lu{n:Nat}(M:Mx)(u v:Nat->Int)(h:j<n):det n (pt M j (λr=>u r+v r))=det n (pt M j u)+det n (pt M j v):=by
 have:=Vn 1 1 M u v h;simp only[fB]at this;exact this
def Ip{n:Nat}(M:Mx)(a:Int)(u:Nat->Int)(h:j<n):det n (pt M j (λr=>a*u r))=a*det n (pt M j u):=by
 have:=Vn a 0 M u u h;simp only[dY,Int.add_zero]at this;exact this
def jZ0{n q:Nat}(hp:p<n)(J:q<n)(O:p≠q)(z:∀M:Mx,M p=M q->det n M=0)(M:Mx)(u v:Nat->Int):det n (pt (pt M p u) q v)=-det n (pt (pt M p v) q u):=by
 have c:=z (pt (pt M p (λr=>u r+v r)) q (λr=>u r+v r)) (by rw[tW,mI _ _ O,tW]);have a:=z (pt (pt M p u) q u) (by rw[tW,mI _ _ O,tW]);have b:=z (pt (pt M p v) q v) (by rw[tW,mI _ _ O,tW]);rw[Lu _ _ _ J,Aw M O,Aw M O,Lu _ _ _ hp,Lu _ _ _ hp,Aw M (Ne.symm O),Aw M (Ne.symm O),Aw M (Ne.symm O),Aw M (Ne.symm O)]at c;lia
def Vo{n:Nat}:∀(d:Nat){M:Mx}{p q:Nat},q=p+1+d->q<n->M p=M q->det n M=0
 |0,M,p,q,e,hq,h=>Ls (p:=p) #[] (by rw[h,e])
 |d+1,M,p,q,e,hq,h=>by
  have a:=jZ0 (n:=n) (p:=q-1) (q:=q-1+1) #[] #[] #[] (λL C=>Ls #[] C) M (M (q-1)) (M q);rw[show q-1+1=q by lia]at a;rw[Er,Er]at a;rw[a,Vo d (p:=p) (q:=q-1) #[] #[]]
  .rfl
  .rw[mI _ _ (show p≠q by lia),mI _ _ (show p≠q-1 by lia),mI _ _ (show q-1≠q by lia),tW,h]
def Oa{n:Nat}{M:Mx}{q:Nat}(hp:p<n)(J:q<n)(O:p≠q)(h:M p=M q):det n M=0:=by
 by_cases f:p<q
 .exact Vo (q-p-1) (p:=p) (q:=q) #[] J h
 .exact Vo (p-q-1) (p:=q) (q:=p) #[] hp h.symm
def jVb{n q:Nat}(hp:p<n)(J:q<n)(O:p≠q)(M:Mx)(u v:Nat->Int):det n (pt (pt M p u) q v)=-det n (pt (pt M p v) q u):=jZ0 hp J O (λ_ h=>Oa hp J O h) M u v
noncomputable def e1(i:Nat):Nat->Int:=λr=>if r=i then 1 else 0
def Im:Mx:=e1
def Lr:∀n:Nat,det n Im=1
 |0=>rfl
 |n+1=>by
  show sm (n+1) _=1;rw[oM (p:=0) #[]]
  .have:det n (mnr Im 0)=det n Im:=Bl λi _ r _=>by
    show e1 (skp 0 i) (r+1)=e1 i r;unfold e1 skp;rw[aF (eO i)];by_cases h:r=i
    .rw[aJ h,aJ #[]]
    .rw[aF h,aF #[]]
   rw[this,Lr n];rfl
  .intro k _ hk;have:Im k 0=0:=by show e1 k 0=0;unfold e1;rw[aF (λz=>hk z.symm)]
   rw[this];grind
def Nz{n:Nat}(M:Mx){j:Nat}(P:j<n)(c:Nat->Int)(w:Nat->Nat->Int):∀m:Nat,det n (pt M j (λr=>sm m λk=>c k*w k r))=sm m λk=>c k*det n (pt M j (w k))
 |0=>by
  have:=Ip M 0 (λ_=>0) P;simp only[dY]at this;exact this
 |m+1=>by
  show det n (pt M j (λr=>sm m (λk=>c k*w k r)+c m*w m r))=sm m _+c m*_;rw[Lu _ _ _ P,Nz M P c w m,Ip _ _ _ P]
def Xi(v:Nat->Int):∀(n r:Nat),r<n->(sm n λk=>v k*e1 k r)=v r:=λn r hr=>by
 rw[oM (p:=r) hr]
 .unfold e1;rw[aJ rfl,dR]
 .intro k _ hk;unfold e1;rw[aF (λz=>hk z.symm),dJ]
def det_sum{n:Nat}(M:Mx)(P:j<n)(v:Nat->Int):det n (pt M j v)=sm n λk=>v k*det n (pt M j (e1 k)):=by
 rw[←Nz M P v e1 n];refine Bl λi hi r hr=>?_;unfold pt;split
 .exact(Xi v n r hr).symm
 .rfl
section
variable{N:Nat}
def Tt(N:Nat)(B:Mx)(i:Nat)(y:Nat->Int):Int:=det N (pt B i y)
def Cr(N:Nat)(B:Mx):Prop:=∀(y:Nat->Int)(r:Nat),r<N->(sm N λi=>Tt N B i y*B i r)=det N B*y r
def jJY(B:Mx)(i:Nat):Tt N B i (B i)=det N B:=by unfold Tt;rw[Er]
def Oe{B:Mx}(hi:i<N)(P:j<N)(h:i≠j):Tt N B i (B j)=0:=
 Oa hi P h (by rw[tW,mI _ _ (Ne.symm h)])
def Tt_lin{B:Mx}(hi:i<N)(y:Nat->Int):Tt N B i y=sm N λk=>y k*Tt N B i (e1 k):=det_sum B hi y
def Tt_one(hi:i<N)(y:Nat->Int):Tt N Im i y=y i:=by
 rw[Tt_lin hi,oM (p:=i) hi]
 .rw[show Tt N Im i (e1 i)=det N Im from jJY Im i,Lr,dR]
 .intro k hk O;rw[show Tt N Im i (e1 k)=0 from Oe hi hk (Ne.symm O),dJ]
def Cr_one:Cr N Im:=by
 intro y r hr;rw[Lr,fB,←Xi y N r hr];exact iS λi hi=>by rw[Tt_one hi];rfl
def exchT{B:Mx}(t:Cr N B){r:Nat}(hr:r<N)(hi:i<N)(O:i≠r)(x y:Nat->Int):det N B*Tt N (pt B r x) i y=Tt N B i y*Tt N B r x-Tt N B r y*Tt N B i x:=by
 have h1:det N B*Tt N (pt B r x) i y=det N (pt (pt B r x) i (λs=>det N B*y s)):=(Ip _ _ _ hi).symm;have h2:det N (pt (pt B r x) i (λs=>det N B*y s))=det N (pt (pt B r x) i (λs=>sm N λk=>Tt N B k y*B k s)):=Bl λj _ s hs=>by
  unfold pt;by_cases e:j=i
  .rw[aJ e,aJ e,t y s hs]
  .rw[aF e,aF e]
 rw[h1,h2,Nz _ hi];have b:det N (pt (pt B r x) i (B i))=Tt N B r x:=by
  have:pt (pt B r x) i (B i)=pt B r x:=by
   have:=Er (pt B r x) i;rwa [mI _ _ O]at this
  rw[this];rfl
 have a:det N (pt (pt B r x) i (B r))=-Tt N B i x:=by
  rw[jVb hr hi (Ne.symm O),Er];rfl
 have key:∀k,k<N->k≠i->k≠r->Tt N B k y*det N (pt (pt B r x) i (B k))=0:=λk hk h1 h2=>by
  rw[Oa hi hk (Ne.symm h1) (by rw[tW,mI _ _ h1,mI _ _ h2]),dJ]
 by_cases f:i<r
 .rw[Ug f hr (λk hk h1 h2=>key k hk h1 h2),b,a,Int.mul_neg];rfl
 .rw[Ug (p:=r) (q:=i) #[] hi (λk hk h1 h2=>key k hk h2 h1),b,a,Int.mul_neg];lia
def jXx(B:Mx)(r:Nat)(x y:Nat->Int):Tt N (pt B r x) r y=Tt N B r y:=by unfold Tt;rw[pt_pt]
def det_pt(B:Mx)(r:Nat)(x:Nat->Int):det N (pt B r x)=Tt N B r x:=rfl
def Cr.turn{B:Mx}(t:Cr N B)(K:det N B≠0){r:Nat}(hr:r<N)(x:Nat->Int):Cr N (pt B r x):=by
 intro y s hs;apply Int.eq_of_mul_eq_mul_left K;have e:∀i,i<N->det N B*(Tt N (pt B r x) i y*(pt B r x) i s)=Tt N B r x*(Tt N B i y*B i s)+(-Tt N B r y)*(Tt N B i x*B i s)+(if i=r then det N B*Tt N B r y*x s else 0):=λi hi=>by
  by_cases h:i=r
  .subst h;rw[aJ rfl,jXx,tW];grind
  .rw[aF h,mI _ _ h,←fV,exchT t hr hi h];grind
 have O:det N B*sm N (λi=>Tt N (pt B r x) i y*(pt B r x) i s)=sm N λi=>det N B*(Tt N (pt B r x) i y*(pt B r x) i s):=by
  have:=yM (det N B) 0 N (λi=>Tt N (pt B r x) i y*(pt B r x) i s) (λ_=>0);simp only[dY,Int.add_zero]at this;exact this.symm
 rw[O,iS e];have F:=yM 1 1 N (λi=>Tt N B r x*(Tt N B i y*B i s)+(-Tt N B r y)*(Tt N B i x*B i s)) (λi=>if i=r then det N B*Tt N B r y*x s else 0);simp only[fB]at F;rw[F,yM,t y s hs,t x s hs,oM (p:=r) hr (λk _ hk=>aF hk),aJ rfl,det_pt];grind
end
noncomputable def lp(u:Nat->Int):List Nat->Prop
 | []=>False
 |p::r=>0<u p∨(u p=0/\lp u r)
noncomputable def lpn(u:Nat->Int):List Nat->Prop
 | []=>True
 |p::r=>0<u p∨(u p=0/\lpn u r)
def lp.weak{u:Nat->Int}:∀{l:List Nat},lp u l->lpn u l
 | [],h=>h.elim
 |_::_,.inl h=>.inl h
 |_::_,.inr h=>.inr #[h.1,h.2.weak]
def qQ{u v:Nat->Int}:∀{l:List Nat},(∀p∈l,u p=v p)->lp u l->lp v l
 | [],_,h=>h
 |p::r,e,h=>by
  have j:=e p bT;rcases h with h |h
  .exact .inl (j▸h)
  .exact .inr #[j▸h.1,qQ (λq J=>e q (bK _ J)) h.2]
def Nw{u:Nat->Int}{a:Int}(ha:0<a):∀{l:List Nat},lp u l->lp (λp=>a*u p) l
 | [],h=>h
 |p::r,h=>by
  rcases h with h |h
  .exact .inl (bF ha h)
  .exact .inr #[by show a*u p=0;rw[h.1,dJ],Nw ha h.2]
def wD{u:Nat->Int}{a:Int}(ha:0<a):∀{l:List Nat},lp (λp=>a*u p) l->lp u l
 | [],h=>h
 |p::r,h=>by
  rcases h with h |h
  .left
   have h:0<a*u p:=h;rcases Int.lt_trichotomy (u p) 0 with z |z |z
   .have:=Int.mul_neg_of_pos_of_neg ha z;lia
   .rw[z,dJ]at h;lia
   .exact z
  .right
   have h1:a*u p=0:=h.1;refine#[?_,wD ha h.2];rcases Int.mul_eq_zero.mp h1 with z |z
   .omega
   .exact z
def lp_add{u v:Nat->Int}{a b:Int}(ha:0<a)(hb:0<=b){l:List Nat}(h:lp u l)(k:lpn v l):lp (λp=>a*u p+b*v p) l:=by
 by_cases M:b=0
 .subst M;refine qQ (λp _=>?_) (Nw ha h);lia
 .have hb:0<b:=#[];clear M
  induction l with
  |nil=>exact h.elim
  |cons p r ih=>
   rcases h with h |h
   .left
    have h1:=bF ha h;have h2:0<=b*v p:=by
     rcases k with k |k
     .exact eF #[] #[]
     .rw[k.1,dJ];exact Int.le_refl _
    show 0<a*u p+b*v p;lia
   .rcases k with k |k
    .left
     have h1:=bF hb k;show 0<a*u p+b*v p;rw[h.1,dJ];lia
    .exact .inr #[by show a*u p+b*v p=0;rw[h.1,k.1,dJ,dJ];rfl,ih h.2 k.2]
def Se{u:Nat->Int}:∀{l:List Nat},(∀p∈l,u p=0)->¬lp u l
 | [],_,h=>h
 |p::r,e,h=>by
  have j:=e p bT;rcases h with h |h
  .omega
  .exact Se (λq J=>e q (bK _ J)) h.2
def lp_or{u:Nat->Int}:∀(l:List Nat),lp u l∨(∀p∈l,u p=0)∨lp (λp=>-u p) l
 | []=>.inr (.inl (λ_ h=>nomatch h))
 |p::r=>by
  rcases Int.lt_trichotomy (u p) 0 with z |z |z
  .exact .inr (.inr (.inl (by show 0< -u p;lia)))
  .rcases lp_or (u:=u) r with h |h |h
   .exact .inl (.inr #[z,h])
   .refine .inr (.inl λq J=>?_);rcases eA.mp J with rfl |J
    .exact z
    .exact h q J
   .exact .inr (.inr (.inr #[by show-u p=0;lia,h]))
  .exact .inl (.inl z)
structure Lpd where
 m:Nat
 n:Nat
 a:Nat->Nat->Int
 be:Nat->Int
 fl:Bool
namespace Lpd
variable(L:Lpd)
noncomputable def cv(j:Nat):Nat->Int:=if j<L.n then L.a j else e1 (j-L.n)
def B(s:Nat->Nat):Mx:=λi=>if i<L.m then L.cv (s i)else e1 i
def sg:Int:=if L.fl=true then -1 else 1
def sg2:L.sg*L.sg=1:=by unfold sg;split<;>rfl
def sg_abs(x:Int):(L.sg*x).natAbs=x.natAbs:=by unfold sg;split<;>lia
def D(s:Nat->Nat):Int:=L.sg*det (L.m+1) (L.B s)
def T(s:Nat->Nat)(i:Nat)(y:Nat->Int):Int:=L.sg*Tt (L.m+1) (L.B s) i y
noncomputable def li(p:Nat):Nat->Int:=if p=0 then L.be else e1 (p-1)
noncomputable def ls:List Nat:=range (L.m+1)
noncomputable def sput(s:Nat->Nat)(r c:Nat):Nat->Nat:=λi=>if i=r then c else s i
def B_put{r:Nat}(hr:r<L.m):L.B (sput s r c)=pt (L.B s) r (L.cv c):=by
 funext i
 unfold B sput pt;by_cases h:i=r
 .rw[aJ #[],aJ h,aJ h]
 .rw[aF h,aF h]
structure Okn(s:Nat->Nat):Prop where
 ne:L.D s≠0
 cr:Cr (L.m+1) (L.B s)
structure Ok(s:Nat->Nat):Prop where
 pos:0<L.D s
 cr:Cr (L.m+1) (L.B s)
 bn:∀i,i<L.m->0<=L.T s i L.be
structure Okx(s:Nat->Nat):Prop where
 pos:0<L.D s
 cr:Cr (L.m+1) (L.B s)
 lex:∀i,i<L.m->lp (λp=>L.T s i (L.li p)) L.ls
def own(hi:i<L.m):L.T s i (L.cv (s i))=L.D s:=by
 have:=jJY (N:=L.m+1) (L.B s) i;have e:L.B s i=L.cv (s i):=by unfold B;rw[aJ hi]
 rw[e]at this;unfold T D;rw[this]
def last_own(s:Nat->Nat):L.T s L.m (e1 L.m)=L.D s:=by
 have:=jJY (N:=L.m+1) (L.B s) L.m;have e:L.B s L.m=e1 L.m:=by unfold B;rw[aF (eW _)]
 rw[e]at this;unfold T D;rw[this]
def not_last(hi:i<L.m):L.T s i (e1 L.m)=0:=by
 have:=Oe (N:=L.m+1) (B:=L.B s) (i:=i) (j:=L.m) #[] #[] #[];have e:L.B s L.m=e1 L.m:=by unfold B;rw[aF (eW _)]
 rw[e]at this;unfold T;rw[this,dJ]
def other(hi:i<L.m+1)(P:j<L.m)(h:i≠j):L.T s i (L.cv (s j))=0:=by
 have:=Oe (N:=L.m+1) (B:=L.B s) (i:=i) (j:=j) hi #[] h;have e:L.B s j=L.cv (s j):=by unfold B;rw[aJ P]
 rw[e]at this;unfold T;rw[this,dJ]
def sm_by(c:Int)(n:Nat)(f:Nat->Int):sm n (λk=>c*f k)=c*sm n f:=by
 have:=yM c 0 n f f;simp only[dY,Int.add_zero]at this;exact this
def T_lin(hi:i<L.m+1)(y:Nat->Int):L.T s i y=sm (L.m+1) λk=>y k*L.T s i (e1 k):=by
 unfold T;rw[Tt_lin hi,←sm_by];exact iS λk _=>by rw[Int.mul_left_comm]
def cr_T(h:Cr (L.m+1) (L.B s))(y:Nat->Int){r:Nat}(hr:r<L.m+1):(sm (L.m+1) λi=>L.T s i y*L.B s i r)=L.D s*y r:=by
 unfold T D;rw[fV,←h y r hr,←sm_by];exact iS λk _=>by rw[fV]
section
variable{L}
def Ok.n(o:L.Ok s):L.Okn s:=#[Int.ne_of_gt o.pos,o.cr]
def Okx.n(o:L.Okx s):L.Okn s:=#[Int.ne_of_gt o.pos,o.cr]
def Okx.bound_nonneg(o:L.Okx s)(hi:i<L.m):0<=L.T s i L.be:=by
 have h:=o.lex i hi;unfold ls at h;rw[List.range_succ_eq_map]at h;have e:L.li 0=L.be:=by unfold li;rw[aJ rfl]
 rcases h with h |h
 .have h:0<L.T s i (L.li 0):=h;rw[e]at h;lia
 .have h:=h.1;simp only[e]at h;lia
def Okx.w(o:L.Okx s):L.Ok s:=#[o.pos,o.cr,λ_ hi=>o.bound_nonneg hi]
def Okn.exch(o:L.Okn s){r:Nat}(hr:r<L.m)(hi:i<L.m+1)(O:i≠r)(y:Nat->Int):L.D s*L.T (sput s r c) i y=L.T s i y*L.T s r (L.cv c)-L.T s r y*L.T s i (L.cv c):=by
 have h:=exchT o.cr (show r<L.m+1 by lia) hi O (L.cv c) y;unfold T D;rw[L.B_put hr];generalize Tt (L.m+1) (pt (L.B s) r (L.cv c)) i y=u at h⊢;have e1:L.sg*det (L.m+1) (L.B s)*(L.sg*u)=(L.sg*L.sg)*(det (L.m+1) (L.B s)*u):=by ac_rfl
 have C:∀x y:Int,L.sg*x*(L.sg*y)=(L.sg*L.sg)*(x*y):=λx y=>by ac_rfl
 rw[e1,C,C,L.sg2,h,fB,fB,fB]
def Okx.exch(o:L.Okx s){r:Nat}(hr:r<L.m)(hi:i<L.m+1)(O:i≠r)(y:Nat->Int):L.D s*L.T (sput s r c) i y=L.T s i y*L.T s r (L.cv c)-L.T s r y*L.T s i (L.cv c):=o.n.exch hr hi O y
def Ok.same{r:Nat}(hr:r<L.m)(y:Nat->Int):L.T (sput s r c) r y=L.T s r y:=by
 unfold T;rw[L.B_put hr,jXx]
def Ok.newD{r:Nat}(hr:r<L.m):L.D (sput s r c)=L.T s r (L.cv c):=by
 unfold D T;rw[L.B_put hr];rfl
def det_ne(h:L.D s≠0):det (L.m+1) (L.B s)≠0:=λz=>h (by unfold D;rw[z,dJ])
def Okn.step(o:L.Okn s){r:Nat}(hr:r<L.m)(hp:L.T s r (L.cv c)≠0):L.Okn (sput s r c):=by
 refine#[by rw[Ok.newD hr];exact hp,?_];rw[L.B_put hr];exact o.cr.turn (det_ne o.ne) #[] _
def Okx.step(o:L.Okx s){r:Nat}(hr:r<L.m)(hp:0<L.T s r (L.cv c))
  (A:∀i,i<L.m->0<L.T s i (L.cv c)->¬lp (λp=>-(L.T s i (L.li p)*L.T s r (L.cv c)-L.T s r (L.li p)*L.T s i (L.cv c))) L.ls):L.Okx (sput s r c):=by
 have K:=o.pos;have d:0<L.D (sput s r c):=by rw[Ok.newD hr];exact hp
 have f:Cr (L.m+1) (L.B (sput s r c)):=by
  rw[L.B_put hr];exact o.cr.turn (det_ne #[]) #[] _
 refine#[d,f,λi hi=>?_];by_cases a:i=r
 .subst a;exact qQ (λp _=>(Ok.same hi _).symm) (o.lex i hi)
 .have ex:=λy=>o.exch (c:=c) hr (show i<L.m+1 by lia) a y;by_cases R:L.T s i (L.cv c)<=0
  .refine wD K (qQ (λp _=>?_) (lp_add hp (b:=-L.T s i (L.cv c)) #[] (o.lex i hi) (o.lex r hr).weak));rw[ex];grind
  .have g:0<L.T s i (L.cv c):=#[];rcases lp_or (u:=λp=>L.T s i (L.li p)*L.T s r (L.cv c)-L.T s r (L.li p)*L.T s i (L.cv c)) L.ls with h |h |h
   .exact wD K (qQ (λp _=>(ex _).symm) h)
   .exfalso;have z:∀k,k<L.m+1->L.T (sput s r c) i (e1 k)=0:=λk hk=>by
     by_cases j:k=L.m
     .rw[j];exact L.not_last hi
     .have h1:=h (k+1) (by unfold ls;exact fE.mpr #[]);have e:L.li (k+1)=e1 k:=by unfold li;rw[aF #[]];rfl
      simp only[e]at h1;have h2:=ex (e1 k);rw[h1]at h2;rcases Int.mul_eq_zero.mp h2 with q |q
      .omega
      .exact q
    have hw:L.T (sput s r c) i (L.cv (sput s r c i))=0:=by
     rw[L.T_lin #[]];exact kL λk hk=>by rw[z k hk,dJ]
    rw[L.own hi]at hw;lia
   .exact absurd h (A i hi g)
def Fur(L:Lpd)(s t:Nat->Nat):Prop:=lp (λp=>L.T t L.m (L.li p)*L.D s-L.T s L.m (L.li p)*L.D t) L.ls
def Okx.further(o:L.Okx s){r:Nat}(hr:r<L.m)(l:L.T s L.m (L.cv c)<0):L.Fur s (sput s r c):=by
 refine qQ (λp _=>?_) (Nw (a:=-L.T s L.m (L.cv c)) #[] (o.lex r hr));have:=o.exch (c:=c) (i:=L.m) hr #[] #[] (L.li p);rw[Ok.newD hr,fM _ (L.D s),this];grind
def Fur.trans{t w:Nat->Nat}(hs:0<L.D s)(y:0<L.D t)(hw:0<L.D w)(h1:L.Fur s t)(h2:L.Fur t w):L.Fur s w:=by
 refine wD y (qQ (λp _=>?_) (lp_add hs (bX hw) h2 h1.weak));grind
def Fur.irrefl:¬L.Fur s s:=Se λp _=>by lia
end
end Lpd
def So{d:Type}{p q:d->Bool}:∀{l:List d},(∀x∈l,p x=true->q x=true)->(∃x∈l,q x=true/\p x=false)->(l.filter p).length<(l.filter q).length
 | [],_,h=>by obtain⟨x,hx,_⟩:=h;cases hx
 |a::r,h1,h2=>by
  have hr:(r.filter p).length<=(r.filter q).length:=by
   have key:∀l:List d,(∀x∈l,p x=true->q x=true)->(l.filter p).length<=(l.filter q).length:=λl=>by
    induction l with
    |nil=>intro _;exact aM _
    |cons b t ih=>
     intro h;have S:=ih λx hx=>h x (bK _ hx);have hb:=h b bT;rw[List.filter_cons,List.filter_cons];cases hp:p b with
     |true=>rw[hb hp];simp only[if_true,dB];lia
     |false=>
      cases q b with
      |true=>simp only[Bool.false_eq_true,if_false,if_true,dB];lia
      |false=>simpa using S
   exact key r λx hx=>h1 x (bK _ hx)
  have ha:=h1 a bT;rw[List.filter_cons,List.filter_cons];obtain⟨x,hx,c,T⟩:=h2;rcases eA.mp hx with rfl |hx
  .rw[c,T];simp only[Bool.false_eq_true,if_false,if_true,dB];lia
  .have S:=So (l:=r) (p:=p) (q:=q) (λx hx=>h1 x (bK _ hx)) #[x,hx,c,T];cases hp:p a with
   |true=>rw[ha hp];simp only[if_true,dB];lia
   |false=>
    cases q a with
    |true=>simp only[Bool.false_eq_true,if_false,if_true,dB];lia
    |false=>simpa using S
noncomputable def allL(k:Nat):Nat->fW
 |0=>[[]]
 |m+1=>(allL k m).flatMap λl=>(range k).map λc=>c::l
def Xq{k:Nat}:∀{m:Nat}{l:List Nat},l.length=m->(∀c∈l,c<k)->l∈allL k m
 |0,l,h,_=>by
  have:l=[]:=List.eq_nil_of_length_eq_zero h;subst this;simp [allL]
 |m+1,[],h,_=>by simp at h
 |m+1,c::l,h,hc=>by
  simp only[allL,iD,dD,fE];exact#[l,Xq (by simpa using h) λx hx=>hc x (bK _ hx),c,hc c bT,rfl]
namespace Lpd
variable{L:Lpd}
noncomputable def sf(l:List Nat):Nat->Nat:=λi=>l.getD i 0
def mu(L:Lpd)(s:Nat->Nat):Nat:=open Classical in ((allL (L.n+L.m) L.m).filter λt=>decide (0<L.D (sf t)/\L.Fur s (sf t))).length
def mu_lt{t:List Nat}(hs:0<L.D s)(y:0<L.D (sf t))(Y:t.length=L.m)(hc:∀c∈t,c<L.n+L.m)(h:L.Fur s (sf t)):L.mu (sf t)<L.mu s:=by
 classical
 unfold mu;refine So (λx _ hx=>?_) #[t,Xq Y hc,?_,?_]
 .have hx:=of_decide_eq_true hx;exact decide_eq_true #[hx.1,Fur.trans hs y hx.1 h hx.2]
 .exact decide_eq_true #[y,h]
 .exact decide_eq_false λz=>Fur.irrefl z.2
def Uh(n:Nat)(f g:Nat->Int):sm n (λk=>f k+g k)=sm n f+sm n g:=by
 have:=yM 1 1 n f g;simp only[fB]at this;exact this
def sm_mul(c:Int)(n:Nat)(f:Nat->Int):sm n (λk=>c*f k)=c*sm n f:=by
 have:=yM c 0 n f f;simp only[dY,Int.add_zero]at this;exact this
def jZ1(g:Nat->Nat->Int)(m:Nat):∀n:Nat,sm n (λj=>sm m λi=>g i j)=sm m λi=>sm n λj=>g i j
 |0=>(kL λ_ _=>rfl).symm
 |n+1=>by
  show sm n (λj=>sm m λi=>g i j)+sm m (λi=>g i n)=sm m λi=>sm n (λj=>g i j)+g i n;rw[jZ1 g m n,Uh]
def sm_le:∀{n:Nat}{f g:Nat->Int},(∀k,k<n->f k<=g k)->sm n f<=sm n g
 |0,_,_,_=>Int.le_refl _
 |n+1,f,g,h=>Int.add_le_add (sm_le λk hk=>h k #[]) (h n #[])
def Ie{n:Nat}{f:Nat->Int}(h:∀k,k<n->0<=f k):0<=sm n f:=by
 have:=sm_le (n:=n) (f:=λ_=>0) (g:=f) h;rwa [kL λ_ _=>rfl]at this
def spr(m:Nat)(s:Nat->Nat)(t:Nat->Int)(j:Nat):Int:=sm m λi=>if s i=j then t i else 0
def spr_sum(m n:Nat)(s:Nat->Nat)(t:Nat->Int)(w:Nat->Int):(sm n λj=>spr m s t j*w j)=sm m λi=>if s i<n then t i*w (s i)else 0:=by
 have e:(sm n λj=>spr m s t j*w j)=sm n λj=>sm m λi=>if s i=j then t i*w j else 0:=iS λj _=>by
  unfold spr;rw[fM,←sm_mul];exact iS λi _=>by split<;>simp [fM]
 rw[e,jZ1 (λi j=>if s i=j then t i*w j else 0)];refine iS λi _=>?_;by_cases h:s i<n
 .rw[aJ h,oM (p:=s i) h]
  .rw[aJ rfl]
  .intro k _ hk;rw[aF (λz=>hk z.symm)]
 .rw[aF h];exact kL λj P=>aF #[]
def Ok.by_cols(o:L.Ok s)(hs:∀i,i<L.m->s i<L.n+L.m)(y:Nat->Int){r:Nat}(hr:r<L.m+1):
  (sm L.n λj=>spr L.m s (λi=>L.T s i y) j*L.a j r)+(sm L.m λi=>if s i<L.n then 0 else L.T s i y*e1 (s i-L.n) r)+(if r=L.m then L.T s L.m y else 0)=L.D s*y r:=by
 have h:=L.cr_T o.cr y hr;have h:(sm L.m λi=>L.T s i y*L.B s i r)+L.T s L.m y*L.B s L.m r=L.D s*y r:=h;rw[spr_sum,←h,←Uh];have e:(sm L.m λi=>(if s i<L.n then L.T s i y*L.a (s i) r else 0)+(if s i<L.n then 0 else L.T s i y*e1 (s i-L.n) r))=sm L.m λi=>L.T s i y*L.B s i r:=iS λi hi=>by
  have O:L.B s i=L.cv (s i):=by unfold B;rw[aJ hi]
  rw[O];unfold cv;by_cases q:s i<L.n
  .rw[aJ q,aJ q,aJ q,Int.add_zero]
  .rw[aF q,aF q,aF q,eP]
 rw[e];have O:L.B s L.m=e1 L.m:=by unfold B;rw[aF (eW _)]
 rw[O];unfold e1;by_cases q:r=L.m
 .rw[aJ q,aJ q,dR]
 .rw[aF q,aF q,dJ]
def Ok.bound_nonneg(o:L.Ok s)(hi:i<L.m):0<=L.T s i L.be:=o.bn i hi
def spr_nonneg{t:Nat->Int}(h:∀i,i<m->0<=t i)(j:Nat):0<=spr m s t j:=Ie λi hi=>by
 split
 .exact h i hi
 .exact Int.le_refl _
def Ok.allowed(o:L.Ok s)(hs:∀i,i<L.m->s i<L.n+L.m){r:Nat}(hr:r<L.m):(sm L.n λj=>spr L.m s (λi=>L.T s i L.be) j*L.a j r)<=L.D s*L.be r:=by
 have h:=o.by_cols hs L.be (r:=r) #[];rw[aF #[]]at h;have:0<=sm L.m λi=>if s i<L.n then 0 else L.T s i L.be*e1 (s i-L.n) r:=Ie λi hi=>by
  split
  .exact Int.le_refl _
  .refine eF (o.bound_nonneg hi) ?_;unfold e1;split<;>decide
 lia
def Ok.no_spare(hs:∀i,i<L.m->s i<L.n+L.m)(y:Nat->Int):(sm L.m λi=>if s i<L.n then 0 else L.T s i y*e1 (s i-L.n) L.m)=0:=kL λi hi=>by
 split
 .rfl
 .have:=hs i hi;unfold e1;rw[aF #[],dJ]
def Ok.earned(o:L.Ok s)(hs:∀i,i<L.m->s i<L.n+L.m)(hb:L.be L.m=0):(sm L.n λj=>spr L.m s (λi=>L.T s i L.be) j*L.a j L.m)=-L.T s L.m L.be:=by
 have h:=o.by_cols hs L.be (r:=L.m) #[];rw[aJ rfl,Ok.no_spare hs,hb,dJ]at h;lia
def goal_of(y:Nat->Int):L.T s L.m y=(sm L.m λk=>y k*L.T s L.m (e1 k))+y L.m*L.D s:=by
 rw[L.T_lin #[] y];show sm L.m _+y L.m*L.T s L.m (e1 L.m)=_;rw[L.last_own]
def Ok.ways_row(o:L.Ok s)(hs:∀i,i<L.m->s i<L.n+L.m){r:Nat}(l:∀i,i<L.m->L.T s i (L.cv c)<=0)(hr:r<L.m):(sm L.n λj=>(spr L.m s (λi=>-L.T s i (L.cv c)) j+if j=c then L.D s else 0)*L.a j r)<=0:=by
 have h:=o.by_cols hs (L.cv c) (r:=r) #[];rw[aF #[]]at h;have B:(sm L.m λi=>if s i<L.n then 0 else L.T s i (L.cv c)*e1 (s i-L.n) r)<=0:=by
  have:=Ie (n:=L.m) (f:=λi=>-(if s i<L.n then 0 else L.T s i (L.cv c)*e1 (s i-L.n) r)) λi hi=>by
   split
   .decide
   .have h1:=l i hi;unfold e1;split<;>lia
  have e:(sm L.m λi=>-(if s i<L.n then 0 else L.T s i (L.cv c)*e1 (s i-L.n) r))=-sm L.m λi=>if s i<L.n then 0 else L.T s i (L.cv c)*e1 (s i-L.n) r:=by
   have:=sm_mul (-1) L.m (λi=>if s i<L.n then 0 else L.T s i (L.cv c)*e1 (s i-L.n) r);rw[←Int.neg_one_mul,←this];exact iS λi _=>by rw[Int.neg_one_mul]
  lia
 have G:(sm L.n λj=>(spr L.m s (λi=>-L.T s i (L.cv c)) j+if j=c then L.D s else 0)*L.a j r)=-(sm L.n λj=>spr L.m s (λi=>L.T s i (L.cv c)) j*L.a j r)+(if c<L.n then L.D s*L.a c r else 0):=by
  have C:(sm L.n λj=>(spr L.m s (λi=>-L.T s i (L.cv c)) j+if j=c then L.D s else 0)*L.a j r)=sm L.n λj=>(-1)*(spr L.m s (λi=>L.T s i (L.cv c)) j*L.a j r)+(if j=c then L.D s*L.a j r else 0):=iS λj _=>by
   have:spr L.m s (λi=>-L.T s i (L.cv c)) j=-spr L.m s (λi=>L.T s i (L.cv c)) j:=by
    unfold spr;rw[←Int.neg_one_mul,←sm_mul];exact iS λi _=>by
     by_cases z:s i=j
     .rw[aJ z,aJ z];exact(Int.neg_one_mul _).symm
     .rw[aF z,aF z];rfl
   rw[this];split<;>grind
  rw[C,Uh,sm_mul];by_cases q:c<L.n
  .rw[aJ q,oM (p:=c) q (λk _ hk=>aF hk),aJ rfl];lia
  .rw[aF q,kL (λk hk=>aF #[])];lia
 rw[G];unfold cv at h;by_cases q:c<L.n
 .rw[aJ q];simp only[aJ q]at h;unfold cv at B⊢;simp only[aJ q]at B⊢;lia
 .rw[aF q];simp only[aF q]at h;unfold cv at B⊢;simp only[aF q]at B⊢;have:0<=L.D s*e1 (c-L.n) r:=by
   refine eF (bX o.pos) ?_;unfold e1;split<;>decide
  lia
def Ok.ways_goal(o:L.Ok s)(hs:∀i,i<L.m->s i<L.n+L.m)(hc:c<L.n+L.m):(sm L.n λj=>(spr L.m s (λi=>-L.T s i (L.cv c)) j+if j=c then L.D s else 0)*L.a j L.m)=L.T s L.m (L.cv c):=by
 have h:=o.by_cols hs (L.cv c) (r:=L.m) #[];rw[aJ rfl,Ok.no_spare hs]at h;have C:(sm L.n λj=>(spr L.m s (λi=>-L.T s i (L.cv c)) j+if j=c then L.D s else 0)*L.a j L.m)=sm L.n λj=>(-1)*(spr L.m s (λi=>L.T s i (L.cv c)) j*L.a j L.m)+(if j=c then L.D s*L.a j L.m else 0):=iS λj _=>by
  have:spr L.m s (λi=>-L.T s i (L.cv c)) j=-spr L.m s (λi=>L.T s i (L.cv c)) j:=by
   unfold spr;rw[←Int.neg_one_mul,←sm_mul];exact iS λi _=>by
    by_cases z:s i=j
    .rw[aJ z,aJ z];exact(Int.neg_one_mul _).symm
    .rw[aF z,aF z];rfl
  rw[this];split<;>grind
 rw[C,Uh,sm_mul];by_cases q:c<L.n
 .rw[oM (p:=c) q (λk _ hk=>aF hk),aJ rfl];have e:L.cv c L.m=L.a c L.m:=by unfold cv;rw[aJ q]
  rw[e]at h;lia
 .rw[kL (λk hk=>aF #[])];have e:L.cv c L.m=0:=by unfold cv;rw[aF q];unfold e1;rw[aF #[]]
  rw[e,dJ]at h;lia
noncomputable def ins0(L:Lpd):Nat->Nat:=λi=>L.n+i
def B_start:∀i,L.B L.ins0 i=Im i:=λi=>by
 unfold B ins0 cv;by_cases h:i<L.m
 .rw[aJ h,aF #[]];show e1 (L.n+i-L.n)=e1 i;rw[show L.n+i-L.n=i by lia]
 .rw[aF h];rfl
def Fj:L.B L.ins0=Im:=funext B_start
def jX6(h:L.fl=false):L.D L.ins0=1:=by unfold D;rw[Fj,Lr];unfold sg;rw[h];rfl
def T_start(h:L.fl=false)(hi:i<L.m+1)(y:Nat->Int):L.T L.ins0 i y=y i:=by
 unfold T;rw[Fj,Tt_one hi];unfold sg;rw[h];exact fB _
def Okn.start(h:L.fl=false):L.Okn L.ins0:=#[by rw[jX6 h];decide,by rw[Fj];exact Cr_one]
def Okx.start(hf:L.fl=false)(hb:∀i,i<L.m->0<=L.be i):L.Okx L.ins0:=by
 refine#[?_,?_,λi hi=>?_]
 .rw[jX6 hf];decide
 .rw[Fj];exact Cr_one
 .have e:∀y,L.T L.ins0 i y=y i:=λy=>T_start hf #[] y;have one:∀l:List Nat,i+1∈l->(∀p∈l,p=0->0<=L.be i)->lp (λp=>L.T L.ins0 i (L.li p)) l:=λl=>by
   induction l with
   |nil=>intro h;cases h
   |cons p r ih=>
    intro h1 h2;show 0<L.T L.ins0 i (L.li p)∨(L.T L.ins0 i (L.li p)=0/\_);rw[e];by_cases hp:p=0
    .have O:L.li p=L.be:=by unfold li;rw[aJ hp]
     rw[O];have a:=hb i hi;by_cases M:L.be i=0
     .exact .inr #[M,ih (by rcases eA.mp h1 with q |q;lia;exact q) λp hp=>h2 p (bK _ hp)]
     .left;lia
    .have O:L.li p=e1 (p-1):=by unfold li;rw[aF hp]
     rw[O];unfold e1;by_cases q:i=p-1
     .rw[aJ q];left;decide
     .rw[aF q];exact .inr #[rfl,ih (by rcases eA.mp h1 with q' |q';lia;exact q') λp hp=>h2 p (bK _ hp)]
  unfold ls;exact one _ (fE.mpr #[]) λ_ _ _=>hb i hi
def flip(L:Lpd):Lpd:={ L with fl:=!L.fl }
def jXj:L.flip.sg=-L.sg:=by
 unfold sg flip;cases L.fl<;>rfl
def Ml{y:Nat->Int}:L.flip.T s i y=-L.T s i y:=by
 show L.flip.sg*_=_;rw[jXj,Int.neg_mul];rfl
def flip_D:L.flip.D s=-L.D s:=by
 show L.flip.sg*_=_;rw[jXj,Int.neg_mul];rfl
def jVV(o:L.Okn s):L.flip.Okn s:=#[by rw[flip_D];have:=o.ne;lia,o.cr]
end Lpd
noncomputable def ofF{d:Type}(n:Nat)(f:Nat->d):List d:=(range n).map f
def bI(n:Nat)(f:Nat->d):(ofF n f).length=n:=by unfold ofF;rw[aA,gX]
def fO{n:Nat}(f:Nat->d)(h:k<n):(ofF n f)[k]?=some (f k):=by unfold ofF;rw[aX,List.getElem?_range h];rfl
def gA{n:Nat}{f:Nat->d}{x:d}(h:(ofF n f)[k]?=some x):k<n/\x=f k:=by
 have hk:k<n:=by have:=(aK.mp h).1;rwa [bI]at this
 rw[fO f hk]at h;exact#[hk,(aV h).symm]
def fP(n:Nat)(f:Nat->d):ofF (n+1) f=ofF n f++[f n]:=by unfold ofF;rw[gW,aY];rfl
def kT{n:Nat}{f:Nat->d}{x:d}(h:x∈ofF n f):∃k,k<n/\x=f k:=by
 obtain⟨k,hk,e⟩:=dD.mp h;exact#[k,fE.mp hk,e.symm]
def jC{n:Nat}{f g:Nat->d}(h:∀k,k<n->f k=g k):ofF n f=ofF n g:=hU λk hk=>h k (fE.mp hk)
def jXV(n:Nat)(f:Nat->Int):(ofF n f).sum=sm n f:=by
 induction n with
 |zero=>rfl
 |succ n ih=>rw[fP,List.sum_append,ih];show sm n f+(f n+0)=sm n f+f n;rw[Int.add_zero]
def ofF_set{n:Nat}{f:Nat->Int}{v:Int}:(ofF n f).set i v=ofF n λk=>if k=i then v else f k:=by
 apply List.ext_getElem?;intro k;rw[getElem?_set];by_cases hk:k<n
 .rw[fO (λk=>if k=i then v else f k) hk];by_cases e:i=k
  .rw[aJ e,aJ (by rw[bI];lia),aJ e.symm]
  .rw[aF e,aF (Ne.symm e),fO _ hk]
 .rw[cL (l:=ofF n λk=>if k=i then v else f k) (by rw[bI];lia)];by_cases e:i=k
  .rw[aJ e,aF (by rw[bI];lia)]
  .rw[aF e,cL (by rw[bI];lia)]
def iM{l:List Int}{x:Int}(h:l[i]?=some x):l.getD i 0=x:=by rw[aP,h];rfl
def Zv:∀{l:List Int}{p:Nat},(∀x∈l,BB p x)->BB (p+l.length) l.sum
 | [],p,_=>by show(0:Int).natAbs<_;exact dH _
 |a::r,p,h=>by
  have i:=Zv (l:=r) (p:=p) λx hx=>h x (bK _ hx);have ha:=(h a bT).mono (show p<=p+r.length by lia);rw[List.sum_cons,dB];exact(ha.add i).mono #[]
namespace Lpd
noncomputable def colL(L:Lpd)(j:Nat):List Int:=ofF (L.m+1) (L.a j)
noncomputable def keptL(L:Lpd)(s:Nat->Nat)(i:Nat):List Int:=ofF (L.m+1) (λk=>L.T s i (e1 k))++[L.T s i L.be]
noncomputable def numL(L:Lpd)(s:Nat->Nat)(c:Nat):List Int:=ofF (L.m+1) λi=>L.T s i (L.cv c)
noncomputable def insL(L:Lpd)(s:Nat->Nat):List Int:=ofF L.m λi=>(s i:Int)
structure Lim(L:Lpd):Prop where
 m1:L.m<=100
 n1:L.n<=100
 ba:∀j k,j<L.n->k<=L.m->BB 20000 (L.a j k)
 bc:∀s i c,L.Okn s->i<=L.m->BB 20000 (L.T s i (L.cv c))
 bk:∀s i k,L.Okn s->i<=L.m->k<=L.m->BB 20000 (L.T s i (e1 k))
 bb:∀s i,L.Okn s->i<=L.m->BB 20000 (L.T s i L.be)
 bD:∀s,L.Okn s->BB 9000 (L.D s)
def keptL_length(L:Lpd)(s:Nat->Nat)(i:Nat):(L.keptL s i).length=L.m+2:=by unfold keptL;rw[bC,bI];rfl
def keptL_get(L:Lpd)(s:Nat->Nat)(i:Nat)(h:k<=L.m):(L.keptL s i)[k]?=some (L.T s i (e1 k)):=by
 unfold keptL;rw[bV (by rw[bI];lia),fO _ #[]]
def keptL_last(L:Lpd)(s:Nat->Nat)(i:Nat):(L.keptL s i)[L.m+1]?=some (L.T s i L.be):=by
 unfold keptL;rw[bO (by rw[bI];lia),bI,gH];rfl
def Lim.kept{L:Lpd}(h:L.Lim)(o:L.Okn s)(hi:i<=L.m):∀x∈L.keptL s i,BB 20000 x:=λx hx=>by
 unfold keptL at hx;rcases cW.mp hx with hx |hx
 .obtain⟨k,hk,rfl⟩:=kT hx;exact h.bk s i k o hi #[]
 .rw[bZ.mp hx];exact h.bb s i o hi
def T_prod(L:Lpd)(s:Nat->Nat)(hi:i<=L.m)(P:j<L.n):(sm (L.m+1) λk=>L.a j k*L.T s i (e1 k))=L.T s i (L.cv j):=by
 have e:L.cv j=L.a j:=by unfold cv;rw[aJ P]
 rw[e];exact(L.T_lin #[] _).symm
def cv_spare(L:Lpd)(k:Nat):L.cv (L.n+k)=e1 k:=by
 unfold cv;rw[aF #[],show L.n+k-L.n=k by lia]
def Okn.inj{L:Lpd}{s:Nat->Nat}(o:L.Okn s){i j:Nat}(hi:i<L.m)(P:j<L.m)(h:i≠j):s i≠s j:=λe=>by
 have h1:=L.own (s:=s) hi;have h2:L.T s i (L.cv (s j))=0:=L.other #[] P h;rw[←e,h1]at h2;exact o.ne h2
def Ok.inj{L:Lpd}{s:Nat->Nat}(o:L.Ok s){i j:Nat}(hi:i<L.m)(P:j<L.m)(h:i≠j):s i≠s j:=o.n.inj hi P h
def lx_lp{L:Lpd}{r:Nat}{x y:List Int}(hx:∀k,k<=L.m->x.getD k 0=L.T s r (e1 k))(b:x.getD (L.m+1) 0=L.T s r L.be)(f:x.getD (L.m+2) 0=L.T s r (L.cv c))
  (d:∀k,k<=L.m->y.getD k 0=L.T s i (e1 k)) (g:y.getD (L.m+1) 0=L.T s i L.be) (n:y.getD (L.m+2) 0=L.T s i (L.cv c))
  (h:lx x y (L.m+2) ((L.m+1)::range L.m)≠some false):¬lp (λp=>-(L.T s i (L.li p)*L.T s r (L.cv c)-L.T s r (L.li p)*L.T s i (L.cv c))) L.ls:=by
 have key:∀l:List Nat,(∀p∈l,p<=L.m)->∀w:List Nat,w=l.map (λp=>if p=0 then L.m+1 else p-1)->lp (λp=>-(L.T s i (L.li p)*L.T s r (L.cv c)-L.T s r (L.li p)*L.T s i (L.cv c))) l->lx x y (L.m+2) w=some false:=by
  intro l
  induction l with
  |nil=>intro _ w _ h;exact h.elim
  |cons p t ih=>
   rintro Y w rfl hp;have S:=ih (λq J=>Y q (bK _ J)) _ rfl;have a:=Y p bT;have ex:x.getD (if p=0 then L.m+1 else p-1) 0=L.T s r (L.li p):=by
    unfold li;by_cases e:p=0
    .rw[aJ e,aJ e,b]
    .rw[aF e,aF e,hx _ #[]]
   have o:y.getD (if p=0 then L.m+1 else p-1) 0=L.T s i (L.li p):=by
    unfold li;by_cases e:p=0
    .rw[aJ e,aJ e,g]
    .rw[aF e,aF e,d _ #[]]
   rw[bR];unfold lx;rw[ex,o,f,n];rcases hp with hp |⟨hp,j⟩
   .have hp:0< -(L.T s i (L.li p)*L.T s r (L.cv c)-L.T s r (L.li p)*L.T s i (L.cv c)):=hp;rw[aF #[],decide_eq_false #[]]
   .have hp:-(L.T s i (L.li p)*L.T s r (L.cv c)-L.T s r (L.li p)*L.T s i (L.cv c))=0:=hp;rw[aJ #[]];exact S j
 intro z;refine h (key L.ls (λp hp=>?_) _ ?_ z)
 .have:=fE.mp hp;lia
 .unfold ls;rw[List.range_succ_eq_map,bR,List.map_map];show _=(L.m+1)::_
  congr 1
  conv=>lhs;rw[←List.map_id (range L.m)]
  exact hU λk _=>by show k=if Nat.succ k=0 then L.m+1 else Nat.succ k-1;rw[aF #[]];rfl
end Lpd
def Ro(row:List Int)(w:Nat):Prop:=row.length=w/\∀m∈row,BB 20000 m
def mn(t i:Addr)(H:Hp):Hp:=λx=>if x=t∨x=i then none else H x
def lL{t i:Addr}:aQ (mn t i H) H:=λb o e=>by
 unfold mn at e;split at e
 .cases e
 .exact e
def iW{t i:Addr}(s:aQ H H'):aQ (mn t i H) (mn t i H'):=λb o e=>by
 unfold mn at e⊢;split at e
 .cases e
 .rename_i h;rw[aF h];exact s b o e
def yD{t i x:Addr}(h:H x=some o)(h1:x≠t)(h2:x≠i):mn t i H x=some o:=by
 unfold mn;rw[aF (λz=>z.elim h1 h2)];exact h
def nV{t i x:Addr}(h:x=t∨x=i):mn t i (upd H x o)=mn t i H:=by
 funext b
 unfold mn;by_cases hb:b=t∨b=i
 .rw[aJ hb,aJ hb]
 .rw[aF hb,aF hb,bY (λe=>hb (by rw[e];exact h))]
def eL.mn{t i:Addr}:∀{ps:List Addr}{X:List (List Int)},t∉ps->i∉ps->eL H ps X->eL (mn t i H) ps X
 | [],[],_,_,_=>trivial
 |p::ps,r::X,h1,h2,h=>#[yD h.1 (λe=>h1 (by rw[e];exact bT)) (λe=>h2 (by rw[e];exact bT)),eL.mn (λz=>h1 (bK _ z)) (λz=>h2 (bK _ z)) h.2]
 | [],_::_,_,_,h=>h.elim
 |_::_,[],_,_,h=>h.elim
noncomputable def cfl(b sp k i:Addr):List (Str×V):=hJ "inside" (.ref i) (hJ "kept" (.ref k) (hJ "spans" (.ref sp) (hJ "begun" (.ref b) [])))
def mP(b sp k i:Addr):(cfl b sp k i).lookup ("begun":Str)=some (.ref b):=rfl
def Bm(b sp k i:Addr):(cfl b sp k i).lookup ("spans":Str)=some (.ref sp):=rfl
def jS(b sp k i:Addr):(cfl b sp k i).lookup ("kept":Str)=some (.ref k):=rfl
def nZ(b sp k i:Addr):(cfl b sp k i).lookup ("inside":Str)=some (.ref i):=rfl
def jXt(b sp k i d:Addr):hJ "kept" (.ref d) (cfl b sp k i)=cfl b sp d i:=rfl
structure nS(K:aR)(H:Hp)(t ins:Addr)(L:Lpd)(s:Nat->Nat)(dx b sp k:Addr)(bs:List Addr)(ss:List Int)(ks:List Addr):Prop where
 ob:H t=some (.ins (eI K "Corner") dx (cfl b sp k ins))
 hb:mn t ins H b=some (.lst (map ref bs))
 hbs:eL (mn t ins H) bs (ofF L.n L.colL)
 hs:mn t ins H sp=some (.lst (map int ss))
 sl:ss.length=L.n+L.m
 sb:∀x∈ss,BB 30000 x
 hk:mn t ins H k=some (.lst (map ref ks))
 hks:eL (mn t ins H) ks (ofF (L.m+1) (L.keptL s))
 hi:H ins=some (.lst (map int (L.insL s)))
def iX(K:aR)(H:Hp)(t ins:Addr)(L:Lpd)(s:Nat->Nat):Prop:=∃f b sp k bs a ks,nS K H t ins L s f b sp k bs a ks
section
variable{K:aR}{H H':Hp}{t ins:Addr}{L:Lpd}{s:Nat->Nat}{dx b sp k:Addr}{bs:List Addr}{ss:List Int}{ks:List Addr}
def nS.same(h:nS K H t ins L s dx b sp k bs ss ks)(e:aQ H H'):nS K H' t ins L s dx b sp k bs ss ks:=
 #[e _ _ h.ob,iW e _ _ h.hb,h.hbs.same (iW e),iW e _ _ h.hs,h.sl,h.sb,iW e _ _ h.hk,h.hks.same (iW e),e _ _ h.hi]
def iX.same(h:iX K H t ins L s)(e:aQ H H'):iX K H' t ins L s:=let⟨dx,b,sp,k,bs,ss,ks,c⟩:=h;#[dx,b,sp,k,bs,ss,ks,c.same e]
def nS.B(h:nS K H t ins L s dx b sp k bs ss ks):H b=some (.lst (map ref bs)):=lL _ _ h.hb
def nS.Bs(h:nS K H t ins L s dx b sp k bs ss ks):eL H bs (ofF L.n L.colL):=h.hbs.same lL
def nS.S(h:nS K H t ins L s dx b sp k bs ss ks):H sp=some (.lst (map int ss)):=lL _ _ h.hs
def nS.Kp(h:nS K H t ins L s dx b sp k bs ss ks):H k=some (.lst (map ref ks)):=lL _ _ h.hk
def nS.Ks(h:nS K H t ins L s dx b sp k bs ss ks):eL H ks (ofF (L.m+1) (L.keptL s)):=h.hks.same lL
def nS.bl(h:nS K H t ins L s dx b sp k bs ss ks):bs.length=L.n:=by rw[h.hbs.length,bI]
def nS.kl(h:nS K H t ins L s dx b sp k bs ss ks):ks.length=L.m+1:=by rw[h.hks.length,bI]
def nS.row(h:nS K H t ins L s dx b sp k bs ss ks)(hi:i<=L.m):∃p,ks[i]?=some p/\atI (map ref ks) (i:Int)=some (.ref p)/\H p=some (.lst (map int (L.keptL s i))):=by
 have Y:=h.kl;obtain⟨p,hp⟩:∃p,ks[i]?=some p:=#[_,aD #[]];obtain⟨r,e1,C⟩:=h.Ks.get hp;obtain⟨_,rfl⟩:=gA e1;exact#[p,hp,gU (by rw[aX,hp];rfl),C]
def nS.last(h:nS K H t ins L s dx b sp k bs ss ks):∃p,ks[L.m]?=some p/\atI (map ref ks) (-1)=some (.ref p)/\H p=some (.lst (map int (L.keptL s L.m))):=by
 have Y:=h.kl;obtain⟨p,hp,_,e⟩:=h.row (aM L.m);exact#[p,hp,qR (by rw[aA,Y,aX,show L.m+1-1=L.m by lia,hp];rfl),e]
def nS.col(h:nS K H t ins L s dx b sp k bs ss ks)(P:j<L.n):∃p,bs[j]?=some p/\atI (map ref bs) (j:Int)=some (.ref p)/\H p=some (.lst (map int (L.colL j))):=by
 have Y:=h.bl;obtain⟨p,hp⟩:∃p,bs[j]?=some p:=#[_,aD #[]];obtain⟨r,e1,C⟩:=h.Bs.get hp;obtain⟨_,rfl⟩:=gA e1;exact#[p,hp,gU (by rw[aX,hp];rfl),C]
end
def El(K:aR)(H:Hp)(t ins:Addr)(L:Lpd)(s:Nat->Nat)(f:Addr):Prop:=∃a b sp k bs c ks,nS K H t ins L s a b sp k bs c ks/\f≠b/\f≠sp/\f≠k/\f∉bs/\f∉ks
section
variable{K:aR}{H H':Hp}{t ins f:Addr}{L:Lpd}{s:Nat->Nat}{dx b sp k:Addr}{bs:List Addr}{ss:List Int}{ks:List Addr}
def El.at(h:El K H t ins L s f):iX K H t ins L s:=let⟨dx,b,sp,k,bs,ss,ks,c,_⟩:=h;#[dx,b,sp,k,bs,ss,ks,c]
def El.same(h:El K H t ins L s f)(e:aQ H H'):El K H' t ins L s f:=let⟨dx,b,sp,k,bs,ss,ks,c,r⟩:=h;#[dx,b,sp,k,bs,ss,ks,c.same e,r]
def Kb{xs ys:List Addr}(h:map ref xs=map ref ys):xs=ys:=(List.map_inj_right (λa b h=>by injection h)).mp h
def El.of(h:El K H t ins L s f)(P:nS K H t ins L s dx b sp k bs ss ks):f≠b/\f≠sp/\f≠k/\f∉bs/\f∉ks:=by
 obtain⟨l,i,a,d,g,m,j,c,r⟩:=h;have e:=aV (c.ob.symm.trans P.ob);injection e with _ _ e;have e1:i=b:=by have:=congrArg (List.lookup ("begun":Str)) e;rw[mP,mP]at this;injection this with this;injection this
 have C:a=sp:=by have:=congrArg (List.lookup ("spans":Str)) e;rw[Bm,Bm]at this;injection this with this;injection this
 have O:d=k:=by have:=congrArg (List.lookup ("kept":Str)) e;rw[jS,jS]at this;injection this with this;injection this
 subst e1 C O;have n:g=bs:=by have:=aV (c.hb.symm.trans P.hb);injection this with this;exact Kb this
 have S:j=ks:=by have:=aV (c.hk.symm.trans P.hk);injection this with this;exact Kb this
 subst n S;exact r
def iX.fresh(h:iX K H t ins L s)(hf:H f=none):El K H t ins L s f:=by
 obtain⟨dx,b,sp,k,bs,ss,ks,P⟩:=h;have n:∀{a:Addr}{o:HO},H a=some o->f≠a:=λe z=>by rw[←z,hf]at e;cases e
 refine#[dx,b,sp,k,bs,ss,ks,P,n P.B,n P.S,n P.Kp,λhm=>?_,λhm=>?_]
 .obtain⟨_,_,e⟩:=P.Bs.has hm;rw[hf]at e;cases e
 .obtain⟨_,_,e⟩:=P.Ks.has hm;rw[hf]at e;cases e
def Ba{x:Addr}(h1:x≠t)(h2:x≠ins):mn t ins (upd H x o)=upd (mn t ins H) x o:=by
 funext y
 unfold mn;by_cases e:y=x
 .rw[e,aF (λz=>z.elim h1 h2),aI,aI]
 .rw[bY e,bY e]
def El.upd(h:El K H t ins L s f)(h1:f≠t)(h2:f≠ins):El K (L2.upd H f o) t ins L s f:=by
 obtain⟨dx,b,sp,k,bs,ss,ks,P,n1,n2,p,a,c⟩:=h;refine#[dx,b,sp,k,bs,ss,ks,#[?_,?_,?_,?_,P.sl,P.sb,?_,?_,?_],n1,n2,p,a,c]
 .rw[bY h1.symm];exact P.ob
 .rw[Ba h1 h2,bY n1.symm];exact P.hb
 .rw[Ba h1 h2];exact P.hbs.put a
 .rw[Ba h1 h2,bY n2.symm];exact P.hs
 .rw[Ba h1 h2,bY p.symm];exact P.hk
 .rw[Ba h1 h2];exact P.hks.put c
 .rw[bY h2.symm];exact P.hi
end
noncomputable def lo2(t b:Int):Int×Int:=(t.fdiv (Int.gcd t b:Nat),b.fdiv (Int.gcd t b:Nat))
def dZ{t b:Int}(hb:0<b):Lo t b (lo2 t b).1 (lo2 t b).2:=Uo hb
def Lo.uniq{t b x y B o:Int}(hb:0<b)(h:Lo t b x y)(h':Lo t b B o):x=B/\y=o:=by
 have e:x*o=B*y:=by
  apply Int.eq_of_mul_eq_mul_left (show b≠0 by lia);have h1:=h.eq;have h2:=h'.eq;have:b*(x*o)=(x*b)*o:=by ac_rfl
  rw[this,h1];have:b*(B*y)=(B*b)*y:=by ac_rfl
  rw[this,h2];ac_rfl
 have c:y∣o:=by
  have:y∣x*o:=#[B,by rw[e,fM]];exact Int.natAbs_dvd_natAbs.mp (Nat.Coprime.dvd_of_dvd_mul_left (m:=x.natAbs) (Nat.Coprime.symm h.cop) (by rw[←cH];exact Int.natAbs_dvd_natAbs.mpr this))
 have i:o∣y:=by
  have:o∣B*y:=#[x,by rw[←e,fM]];exact Int.natAbs_dvd_natAbs.mp (Nat.Coprime.dvd_of_dvd_mul_left (m:=B.natAbs) (Nat.Coprime.symm h'.cop) (by rw[←cH];exact Int.natAbs_dvd_natAbs.mpr this))
 have P:=Int.le_of_dvd h'.pos c;have Z:=Int.le_of_dvd h.pos i;have S:y=o:=#[];subst S;exact#[eX (Int.ne_of_gt h.pos) e,rfl]
def Lo.is{t b x y:Int}(hb:0<b)(h:Lo t b x y):(x,y)=lo2 t b:=by
 obtain⟨e1,C⟩:=h.uniq hb (dZ hb);rw[e1,C]
def Lo.bb{t b x y:Int}{n:Nat}(h:Lo t b x y)(a:BB m t)(hb:BB n b):BB m x/\BB n y:=#[a.of_le h.bx,hb.of_le h.by_]
def mx1(g:Int):Int:=if 1>g then 1 else g
def Az(g:Int):0<mx1 g:=by unfold mx1;split<;>lia
noncomputable def whF(fs:gB):Int×Int:=lo2 (lc fs) (mx1 (gl (clr fs)))
noncomputable def whL(fs:gB):List Int:=vO (clr fs)
def kC(fs:gB):(whL fs).length=fs.length:=by unfold whL clr;rw[Cp,aA]
def iV{fs:gB}(h:∀f∈fs,0<f.2):0<(whF fs).1/\0<(whF fs).2:=by
 have l:=dZ (t:=lc fs) (Az (gl (clr fs)));refine#[?_,l.pos];have e:=l.eq;have h1:=Mi h;have h2:0<lc fs*(lo2 (lc fs) (mx1 (gl (clr fs)))).2:=bF h1 l.pos;rw[←e]at h2;exact Classical.byContradiction λz=>by
  have:=Int.mul_nonpos_of_nonpos_of_nonneg (a:=(lo2 (lc fs) (mx1 (gl (clr fs)))).1) (b:=mx1 (gl (clr fs))) (by unfold whF at z;lia) (bX (Az _));lia
def Uf{fs:gB}(h:∀f∈fs,0<f.2)(hf:fs[i]?=some f):(whL fs).getD i 0*(f.2*(whF fs).2)=f.1*(whF fs).1:=by
 obtain⟨t,e1,C⟩:=Om (jXr hf);have O:(whL fs).getD i 0=t:=iM e1;rw[O];have C:t*mx1 (gl (clr fs))=f.1*((lc fs).fdiv f.2):=C;have l:=(dZ (t:=lc fs) (Az (gl (clr fs)))).eq;have c:=jJZ h (aL hf);have B:=Az (gl (clr fs));show t*(f.2*(lo2 (lc fs) (mx1 (gl (clr fs)))).2)=f.1*(lo2 (lc fs) (mx1 (gl (clr fs)))).1;generalize (lo2 (lc fs) (mx1 (gl (clr fs)))).1=X at*;generalize (lo2 (lc fs) (mx1 (gl (clr fs)))).2=Y at*;generalize mx1 (gl (clr fs))=g at*;generalize (lc fs).fdiv f.2=q at*;apply Int.eq_of_mul_eq_mul_left (show g≠0 by lia);have Q:g*(t*(f.2*Y))=(t*g)*f.2*Y:=by ac_rfl
 have U:g*(f.1*X)=f.1*(X*g):=by ac_rfl
 rw[Q,C,c,U,l];ac_rfl
def G9(f:Int×Int):Prop:=0<f.2/\BB 20000 f.1/\BB 9000 f.2
def Sb(t:Addr)(H H':Hp):Prop:=∀b o,H b=some o->b≠t->H' b=some o
def IsI(H:Hp)(t:Addr):Prop:=∃C f fs,H t=some (.ins C f fs)
def Sb.of{t:Addr}(s:aQ H H'):Sb t H H':=λb o e _=>s b o e
def Sb.trans{t:Addr}{d:Hp}(a:Sb t H H')(b:Sb t H' d):Sb t H d:=λc o e hc=>b c o (a c o e hc) hc
def Sb.at{t:Addr}:Sb t H (upd H t o):=λb u e hb=>by rw[bY hb];exact e
def Sb.lst{t a:Addr}{H H':Hp}{xs:List V}(s:Sb t H H')(i:IsI H t)(h:H a=some (.lst xs)):H' a=some (.lst xs):=by
 obtain⟨C,f,fs,e⟩:=i;exact s a _ h (kS h e (by intro z;cases z))
def Sb.rws{t:Addr}(s:Sb t H H')(i:IsI H t):∀{ps:List Addr}{X:List (List Int)},eL H ps X->eL H' ps X
 | [],[],_=>trivial
 |_::_,_::_,h=>#[s.lst i h.1,s.rws i h.2]
 | [],_::_,h=>h.elim
 |_::_,[],h=>h.elim
def Sb.free{t d:Addr}(s:Sb t H H')(h:H' d=none)(n:d≠t):H d=none:=by
 cases e:H d with
 |none=>rfl
 |some o=>have:=s d o e n;rw[h]at this;cases this
def eL.notI{t:Addr}(h:eL H ps X)(i:IsI H t):t∉ps:=λhm=>by
 obtain⟨C,f,fs,e⟩:=i;obtain⟨_,_,a⟩:=h.has hm;rw[e]at a;cases a
def eL.notN{t:Addr}(h:eL H ps X)(i:H t=none):t∉ps:=λhm=>by
 obtain⟨_,_,C⟩:=h.has hm;rw[i]at C;cases C
noncomputable def xV(K:aR)(H:Hp):List Addr->jD->Prop
 | [],[]=>True
 |p::ps,r::rs=>(∃qs,H p=some (.lst (map ref qs))/\eG K H qs r)/\xV K H ps rs
 |_,_=>False
def xV.same(s:aQ H H'):∀{ps:List Addr}{X:jD},xV K H ps X->xV K H' ps X
 | [],[],_=>trivial
 |_::_,_::_,h=>#[let⟨qs,a,b⟩:=h.1;#[qs,s _ _ a,b.same s],h.2.same s]
 | [],_::_,h=>h.elim
 |_::_,[],h=>h.elim
def xV.length:∀{ps:List Addr}{X:jD},xV K H ps X->ps.length=X.length
 | [],[],_=>rfl
 |_::_,_::_,h=>by rw[dB,dB,h.2.length]
 | [],_::_,h=>h.elim
 |_::_,[],h=>h.elim
def xV.get{K:aR}{H:Hp}:∀{ps:List Addr}{X:jD}{i:Nat}{p:Addr},xV K H ps X->ps[i]?=some p->∃r qs,X[i]?=some r/\H p=some (.lst (map ref qs))/\eG K H qs r
 | [],[],_,_,_,e=>by simp at e
 |_::_,r::_,0,_,h,e=>by simp at e;subst e;obtain⟨qs,a,b⟩:=h.1;exact#[r,qs,rfl,a,b]
 |_::_,_::_,i+1,_,h,e=>by
  obtain⟨f,qs,e1,C⟩:=h.2.get (i:=i) (by simpa using e);exact#[f,qs,by simpa using e1,C]
 | [],_::_,_,_,h,_=>h.elim
 |_::_,[],_,_,h,_=>h.elim
def xV.append{qs:List Addr}{l:jD}(J:xV K H qs l):∀{ps:List Addr}{X:jD},xV K H ps X->xV K H (ps++qs) (X++l)
 | [],[],_=>J
 |_::_,_::_,h=>#[h.1,xV.append J h.2]
 | [],_::_,h=>h.elim
 |_::_,[],h=>h.elim
noncomputable def xY(H:Hp):List Addr->jD->Prop
 | [],[]=>True
 |p::ps,r::rs=>(∃f l,H p=some (.tup [.ref f,.ref l])/\H f=some (.tup [.int (whF r).1,.int (whF r).2])/\H l=some (.lst (map int (whL r))))/\xY H ps rs
 |_,_=>False
def xY.same(s:aQ H H'):∀{ps:List Addr}{X:jD},xY H ps X->xY H' ps X
 | [],[],_=>trivial
 |_::_,_::_,h=>#[let⟨f,l,a,b,c⟩:=h.1;#[f,l,s _ _ a,s _ _ b,s _ _ c],h.2.same s]
 | [],_::_,h=>h.elim
 |_::_,[],h=>h.elim
def xY.length:∀{ps:List Addr}{X:jD},xY H ps X->ps.length=X.length
 | [],[],_=>rfl
 |_::_,_::_,h=>by rw[dB,dB,h.2.length]
 | [],_::_,h=>h.elim
 |_::_,[],h=>h.elim
def xY.get{H:Hp}:∀{ps:List Addr}{X:jD}{i:Nat}{p:Addr},xY H ps X->ps[i]?=some p->∃r f l,X[i]?=some r/\H p=some (.tup [.ref f,.ref l])/\H f=some (.tup [.int (whF r).1,.int (whF r).2])/\H l=some (.lst (map int (whL r)))
 | [],[],_,_,_,e=>by simp at e
 |_::_,r::_,0,_,h,e=>by simp at e;subst e;obtain⟨f,l,a,b,c⟩:=h.1;exact#[r,f,l,rfl,a,b,c]
 |_::_,_::_,i+1,_,h,e=>by
  obtain⟨r,f,l,e1,C⟩:=h.2.get (i:=i) (by simpa using e);exact#[r,f,l,by simpa using e1,C]
 | [],_::_,_,_,h,_=>h.elim
 |_::_,[],_,_,h,_=>h.elim
def xY.append{qs:List Addr}{l:jD}(J:xY H qs l):∀{ps:List Addr}{X:jD},xY H ps X->xY H (ps++qs) (X++l)
 | [],[],_=>J
 |_::_,_::_,h=>#[h.1,xY.append J h.2]
 | [],_::_,h=>h.elim
 |_::_,[],h=>h.elim
noncomputable def fov(f g:Int×Int):Int×Int:=lo2 (f.1*g.2) (f.2*g.1)
noncomputable def ftm(f g:Int×Int):Int×Int:=lo2 (f.1*g.1) (f.2*g.2)
def bnF(frs:jD)(fb:gB):gB:=List.zipWith (λb r=>ftm b (whF r)) fb frs
noncomputable def bP(e:Bool)(frs:jD)(fb fg:gB):Lpd where
 m:=frs.length
 n:=fg.length
 a:=λj i=>if i<frs.length then(whL (frs.getD i [])).getD j 0 else-(whL fg).getD j 0
 be:=λi=>(whL (bnF frs fb)).getD i 0
 fl:=e
structure Fit(m n q:Nat):Prop where
 q1:1<=q
 m1:m<=100
 n1:n<=100
 le:min m n*q+q+(m+1)+(m+1)*(m+1)+1<=9000
structure BeO(frs:jD)(fb fg:gB):Prop where
 lr:∀r∈frs,r.length=fg.length
 lb:fb.length=frs.length
 gr:∀r∈frs,∀f∈r,G9 f
 gb:∀f∈fb,G9 f
 gg:∀f∈fg,G9 f
 cr:∀r∈frs,∀x∈clr r,BB 9000 x
 cg:∀x∈clr fg,BB 9000 x
 cb:∀x∈clr (bnF frs fb),BB 9000 x
 wr:∀r∈frs,BB 20000 (whF r).1/\BB 20000 (whF r).2
 wb:BB 20000 (whF (bnF frs fb)).1/\BB 20000 (whF (bnF frs fb)).2
 wg:BB 20000 (whF fg).1/\BB 20000 (whF fg).2
 tb:∀b∈fb,∀r∈frs,BB 9000 (b.2*(whF r).2)/\BB 20000 (b.1*(whF r).1)
 lim:∀e,(bP e frs fb fg).Lim
 ox:∀e s,(bP e frs fb fg).Okn s->BB 9000 ((bP e frs fb fg).D s*(whF (bnF frs fb)).1)
 oy:∀e s,(bP e frs fb fg).Okn s->∀r∈frs,BB 9000 ((bP e frs fb fg).D s*(whF r).2*(whF fg).1)/\∀k,k<frs.length->BB 20000 ((bP e frs fb fg).T s frs.length (e1 k)*(whF r).1)
 fit:∃q q',Fit frs.length fg.length q'/\q<=9000/\(∀k,40*2^k<q->40*2^k<=q')/\(∀j k,BB q ((bP false frs fb fg).a j k))/\∀k,BB q ((bP false frs fb fg).be k)
def jM{frs:jD}{fb:gB}(h:fb.length=frs.length):(bnF frs fb).length=frs.length:=by unfold bnF;rw[List.length_zipWith];lia
def qC{frs:jD}{fb:gB}{b:Int×Int}{r:gB}(h1:fb[i]?=some b)(h2:frs[i]?=some r):(bnF frs fb)[i]?=some (ftm b (whF r)):=by
 unfold bnF;rw[List.getElem?_zipWith,h1,h2]
def Lpd.out{L:Lpd}(h:L.T s L.m (L.cv c)<0)(hi:i<L.m):s i≠c:=λe=>by
 have:=L.other (s:=s) (i:=L.m) (j:=i) #[] hi #[];rw[e]at this;lia
def spr_bb{L:Lpd}(ok:L.Ok s){f:Nat->Int}{n:Nat}(hf:∀i,i<L.m->BB n (f i))(j:Nat):BB n (Lpd.spr L.m s f j):=by
 by_cases h:∃i,i<L.m/\s i=j
 .obtain⟨i,hi,e⟩:=h;have:Lpd.spr L.m s f j=f i:=by
   unfold Lpd.spr;rw[oM (p:=i) hi λk hk O=>aF λz=>ok.inj hk hi O (z.trans e.symm),aJ e]
  rw[this];exact hf i hi
 .have:Lpd.spr L.m s f j=0:=kL λi hi=>aF λz=>h #[i,hi,z];rw[this];show(0:Int).natAbs<_;exact dH _
def oT{x a:Int}(ha:0<a)(h:0<=x*a):0<=x:=Classical.byContradiction λz=>by
 have:=Int.mul_neg_of_neg_of_pos (show x<0 by lia) ha;lia
def Os{t b:Int}(hb:0<b)(y:0<=t):0<=(lo2 t b).1:=by
 have l:=dZ (t:=t) hb;refine oT hb ?_;rw[l.eq];exact eF y (bX l.pos)
def jJa{fs:gB}(h:∀f∈fs,0<f.2)(h0:∀f∈fs,0<=f.1)(i:Nat):0<=(whL fs).getD i 0:=by
 by_cases hi:i<fs.length
 .have e:=aD hi;have q:=Uf h e;have hm:=cO hi;have w:=iV h;refine oT (bF (h _ hm) w.2) ?_;rw[q];exact eF (h0 _ hm) (bX w.1)
 .rw[aP,cL (by rw[kC];lia)];exact Int.le_refl _
def jZl{frs:jD}{fb fg:gB}(B:BeO frs fb fg)(h0:∀f∈fb,0<=f.1):∀f∈bnF frs fb,0<=f.1:=λf hf=>by
 obtain⟨i,hi⟩:=cJ hf;have j:i<frs.length:=by have:=(aK.mp hi).1;rwa [jM B.lb]at this
 have b:i<fb.length:=by rw[B.lb];exact j
 have e1:=aD j;have C:=aD b;rw[qC C e1]at hi;obtain rfl:=aV hi;have h:=iV λf hf=>(B.gr _ (cO j) f hf).1;exact Os (bF (B.gb _ (cO b)).1 h.2) (eF (h0 _ (cO b)) (bX h.1))
def Bo{n:Nat}{x y:Int}(h:BB n (y*z))(hx:0<=x)(a:x<=y)(hz:0<=z):BB n (x*z):=h.of_le (by
 rw[cH,cH];exact gO #[] (aM _))
def lo2_le{t b:Int}(hb:0<b):(lo2 t b).2<=b:=by
 have l:=dZ (t:=t) hb;have h1:=l.by_;have h2:=l.pos;lia
def Tw(K:aR)(H:Hp)(p q:Addr)(a b c d:Int):Prop:=SqT K H p [.int a,.int b]/\SqT K H q [.int c,.int d]/\BB 20000 a/\BB 20000 b/\BB 20000 c/\BB 20000 d
def eG.snoc{q:Addr}{g:Int×Int}{fs:gB}(h:eG K H ps fs)(J:SqT K H q [.int g.1,.int g.2]):eG K H (ps++[q]) (fs++[g]):=eG.append (show eG K H [q] [g]from#[J,trivial]) h
noncomputable def nsm:Nat->(Nat->Nat)->Nat
 |0,_=>0
 |n+1,c=>nsm n c+c n
def uE:∀{n:Nat}{c d:Nat->Nat},(∀i,i<n->c i=d i)->nsm n c=nsm n d
 |0,_,_,_=>rfl
 |n+1,c,d,h=>by
  show nsm n c+c n=nsm n d+d n;rw[uE (n:=n) λi hi=>h i #[],h n #[]]
def jXQ(c:Nat->Nat):∀{n k:Nat},k<=n->nsm n (λi=>c (skp k i))+c k=nsm (n+1) c
 |0,k,h=>by
  have:k=0:=#[];subst this;show 0+c 0=0+c 0;rfl
 |n+1,k,h=>by
  show nsm n (λi=>c (skp k i))+c (skp k n)+c k=nsm (n+1) c+c (n+1);by_cases e:k=n+1
  .subst e;have e1:nsm n (λi=>c (skp (n+1) i))=nsm n c:=uE λi hi=>by unfold skp;rw[aJ #[]]
   have C:skp (n+1) n=n:=by unfold skp;rw[aJ #[]]
   rw[e1,C];rfl
  .have m:=jXQ c (n:=n) (k:=k) #[];have C:skp k n=n+1:=by unfold skp;rw[aF #[]]
   rw[C];lia
def Mr{n:Nat}{x y:Int}(h:BB n x)(e:y.natAbs=x.natAbs):BB n y:=by unfold BB at*;lia
def Mm:∀{N:Nat}{M:Mx}{c:Nat->Nat},(∀i,i<N->∀r,r<N->BB (c i) (M i r))->BB (nsm N c+N*N+1) (det N M)
 |0,_,_,_=>by show(1:Int).natAbs<2^1;decide
 |n+1,M,c,h=>by
  have e:det (n+1) M=(ofF (n+1) λk=>sg k*M k 0*det n (mnr M k)).sum:=(jXV _ _).symm;rw[e];have:=Zv (l:=ofF (n+1) λk=>sg k*M k 0*det n (mnr M k)) (p:=nsm (n+1) c+n*n+1) λx hx=>by
   obtain⟨k,hk,rfl⟩:=kT hx;have m:=Mm (N:=n) (M:=mnr M k) (c:=λi=>c (skp k i)) λi hi r hr=>h _ (skp_lt hi) _ #[];have a:=h k hk 0 #[];have hs:=jXQ c (n:=n) (k:=k) #[];refine Mr ((a.mul m).mono #[]) ?_;rw[cH,cH,sg_abs,Nat.one_mul,cH]
  rw[bI]at this;refine this.mono ?_;have:(n+1)*(n+1)=n*n+n+n+1:=by rw[Nat.add_mul,Nat.mul_add];lia
  lia
def yG{q:Nat}(h:1<=q)(k r:Nat):BB q (e1 k r):=by
 unfold e1;have h2:1<2^q:=Nat.one_lt_two_pow #[];split
 .show(1:Int).natAbs<_;exact h2
 .show(0:Int).natAbs<_;exact dH _
def Ig(q:Nat):∀n,nsm n (λ_=>q)=n*q
 |0=>by rw[Nat.zero_mul];rfl
 |n+1=>by show nsm n (λ_=>q)+q=_;rw[Ig q n,Nat.add_mul,Nat.one_mul]
def Zx(c:Nat->Nat)(i q:Nat):∀n,nsm n (λk=>if k=i then q else c k)<=nsm n c+q
 |0=>dN _
 |n+1=>by
  show nsm n (λk=>if k=i then q else c k)+(if n=i then q else c n)<=nsm n c+c n+q;by_cases e:n=i
  .rw[aJ e];have:nsm n (λk=>if k=i then q else c k)=nsm n c:=uE λk hk=>aF #[];lia
  .rw[aF e];have:=Zx c i q n;lia
def T_bb{L:Lpd}{q t:Nat}(h1:1<=q)(ha:∀j k,j<L.n->k<=L.m->BB q (L.a j k))(s:Nat->Nat)(i:Nat){y:Nat->Int}(d:∀k,k<=L.m->BB t (y k)):BB ((L.m+1)*q+t+(L.m+1)*(L.m+1)+1) (L.T s i y):=by
 have hb:∀j,j<L.m+1->∀r,r<L.m+1->BB q (L.B s j r):=λj P r hr=>by
  unfold Lpd.B;split
  .unfold Lpd.cv;split
   .exact ha _ _ (by assumption) #[]
   .exact yG h1 _ _
  .exact yG h1 _ _
 have:=Mm (N:=L.m+1) (M:=pt (L.B s) i y) (c:=λk=>if k=i then t else q) λj P r hr=>by
  unfold pt;by_cases e:j=i
  .rw[aJ e,aJ e];exact d r #[]
  .rw[aF e,aF e];exact hb j P r hr
 refine BB.mono (Mr this (L.sg_abs _)) ?_;have h2:=Zx (λ_=>q) i t (L.m+1);rw[Ig]at h2;lia
def D_bb{L:Lpd}{q:Nat}(h1:1<=q)(ha:∀j k,j<L.n->k<=L.m->BB q (L.a j k))(s:Nat->Nat):BB ((L.m+1)*q+(L.m+1)*(L.m+1)+1) (L.D s):=by
 have hb:∀j,j<L.m+1->∀r,r<L.m+1->BB q (L.B s j r):=λj P r hr=>by
  unfold Lpd.B;split
  .unfold Lpd.cv;split
   .exact ha _ _ (by assumption) #[]
   .exact yG h1 _ _
  .exact yG h1 _ _
 have:=Mm (N:=L.m+1) (M:=L.B s) (c:=λ_=>q) hb;rw[Ig]at this;exact Mr this (L.sg_abs _)
def jXb(c d:Nat->Nat):∀n,nsm n (λi=>c i+d i)=nsm n c+nsm n d
 |0=>rfl
 |n+1=>by show nsm n (λi=>c i+d i)+(c n+d n)=nsm n c+c n+(nsm n d+d n);rw[jXb c d n];lia
def Nr{c:Nat->Nat}:∀{n:Nat},(∀i,i<n->c i=0)->nsm n c=0
 |0,_=>rfl
 |n+1,h=>by show nsm n c+c n=0;rw[Nr (n:=n) λi hi=>h i #[],h n #[]]
def jXq{s:Nat->Nat}{c:Nat}:∀{m:Nat},(∀i j,i<m->j<m->i≠j->s i≠s j)->nsm m (λi=>if s i=c then 1 else 0)<=1
 |0,_=>dN _
 |m+1,h=>by
  show nsm m (λi=>if s i=c then 1 else 0)+(if s m=c then 1 else 0)<=1;by_cases e:s m=c
  .rw[aJ e,Nr λi hi=>aF λz=>h i m #[] #[] #[] (z.trans e.symm)];exact aM _
  .rw[aF e];exact jXq λi j hi P=>h i j #[] #[]
def cnt_le{s:Nat->Nat}{m:Nat}(h:∀i j,i<m->j<m->i≠j->s i≠s j):∀n,nsm m (λi=>if s i<n then 1 else 0)<=n
 |0=>by rw[Nr λi _=>aF #[]];exact aM _
 |n+1=>by
  have h1:=cnt_le h n;have h2:=jXq (c:=n) h;have e:nsm m (λi=>if s i<n+1 then 1 else 0)=nsm m (λi=>(if s i<n then 1 else 0)+(if s i=n then 1 else 0)):=uE λi _=>by
   by_cases a:s i<n
   .rw[aJ a,aJ #[],aF #[]]
   .by_cases c:s i=n
    .rw[aF a,aJ c,aJ #[]]
    .rw[aF a,aF c,aF #[]]
  rw[e,jXb];lia
def cnt_m{s:Nat->Nat}(n:Nat):∀m,nsm m (λi=>if s i<n then 1 else 0)<=m
 |0=>aM _
 |m+1=>by
  show nsm m (λi=>if s i<n then 1 else 0)+(if s m<n then 1 else 0)<=m+1;have:=cnt_m (s:=s) n m;split<;>lia
def jXa{s:Nat->Nat}(n q:Nat):∀m,nsm m (λi=>if s i<n then q else 1)<=nsm m (λi=>if s i<n then 1 else 0)*q+m
 |0=>dN _
 |m+1=>by
  show nsm m (λi=>if s i<n then q else 1)+(if s m<n then q else 1)<=(nsm m (λi=>if s i<n then 1 else 0)+(if s m<n then 1 else 0))*q+(m+1);have:=jXa (s:=s) n q m;rw[Nat.add_mul];split<;>lia
def nsm_in{n q:Nat}(h:∀i j,i<m->j<m->i≠j->s i≠s j):nsm (m+1) (λi=>if i<m/\s i<n then q else 1)<=min m n*q+(m+1):=by
 show nsm m (λi=>if i<m/\s i<n then q else 1)+(if m<m/\s m<n then q else 1)<=_;rw[aF #[]];have e:nsm m (λi=>if i<m/\s i<n then q else 1)=nsm m (λi=>if s i<n then q else 1):=uE λi hi=>by
  by_cases a:s i<n
  .rw[aJ a,aJ #[hi,a]]
  .rw[aF a,aF λz=>a z.2]
 rw[e];have h1:=jXa (s:=s) n q m;have h2:=cnt_le h n;have h3:=cnt_m (s:=s) n m;have A:nsm m (λi=>if s i<n then 1 else 0)*q<=min m n*q:=Nat.mul_le_mul_right _ #[];lia
def B_bb{L:Lpd}{q:Nat}(ha:∀j k,j<L.n->k<=L.m->BB q (L.a j k))(s:Nat->Nat){r:Nat}(hr:r<L.m+1):BB (if j<L.m/\s j<L.n then q else 1) (L.B s j r):=by
 unfold Lpd.B;by_cases h1:j<L.m
 .rw[aJ h1];unfold Lpd.cv;by_cases h2:s j<L.n
  .rw[aJ h2,aJ #[h1,h2]];exact ha _ _ h2 #[]
  .rw[aF h2,aF λz=>h2 z.2];exact yG (aM _) _ _
 .rw[aF h1,aF λz=>h1 z.1];exact yG (aM _) _ _
def T_bbk{L:Lpd}{q t:Nat}(ha:∀j k,j<L.n->k<=L.m->BB q (L.a j k))(o:L.Okn s)(i:Nat){y:Nat->Int}(d:∀k,k<=L.m->BB t (y k)):BB (min L.m L.n*q+t+(L.m+1)+(L.m+1)*(L.m+1)+1) (L.T s i y):=by
 have:=Mm (N:=L.m+1) (M:=pt (L.B s) i y) (c:=λk=>if k=i then t else if k<L.m/\s k<L.n then q else 1) λj P r hr=>by
  unfold pt;by_cases e:j=i
  .rw[aJ e,aJ e];exact d r #[]
  .rw[aF e,aF e];exact B_bb ha s hr
 refine BB.mono (Mr this (L.sg_abs _)) ?_;have h2:=Zx (λk=>if k<L.m/\s k<L.n then q else 1) i t (L.m+1);have h3:=nsm_in (n:=L.n) (q:=q) (s:=s) (m:=L.m) λi j hi P h=>o.inj hi P h;lia
def D_bbk{L:Lpd}{q:Nat}(ha:∀j k,j<L.n->k<=L.m->BB q (L.a j k))(o:L.Okn s):BB (min L.m L.n*q+(L.m+1)+(L.m+1)*(L.m+1)+1) (L.D s):=by
 have:=Mm (N:=L.m+1) (M:=L.B s) (c:=λk=>if k<L.m/\s k<L.n then q else 1) λj _ r hr=>B_bb ha s hr;refine BB.mono (Mr this (L.sg_abs _)) ?_;have h3:=nsm_in (n:=L.n) (q:=q) (s:=s) (m:=L.m) λi j hi P h=>o.inj hi P h;lia
theorem Fit.lim{L:Lpd}{q:Nat}(F:Fit L.m L.n q)(ha:∀j k,j<L.n->k<=L.m->BB q (L.a j k))(hb:∀k,k<=L.m->BB q (L.be k)):L.Lim:=by
 obtain⟨q1,m1,n1,le⟩:=F;have B:∀s i(y:Nat->Int),L.Okn s->(∀k,k<=L.m->BB q (y k))->BB 20000 (L.T s i y):=λs i y o d=>(T_bbk ha o i d).mono #[];refine#[m1,n1,λj k P hk=>(ha j k P hk).mono #[],λs i c o _=>B s i _ o λk hk=>?_,λs i k o _ _=>B s i _ o λr _=>yG q1 _ _,λs i o _=>B s i _ o hb,λs o=>(D_bbk ha o).mono #[]];unfold Lpd.cv;split
 .exact ha _ _ (by assumption) hk
 .exact yG q1 _ _
def Gp(p r:Nat)(f:Int×Int):Prop:=0<f.2/\BB p f.1/\BB r f.2
def Ew{fs:gB}{r q:Nat}(h:∀f∈fs,Gp p r f)(J:BB q (lc fs)):∀x∈clr fs,BB (p+q) x:=λx hx=>by
 obtain⟨f,hf,rfl⟩:=dD.mp hx;have g:=h f hf;obtain⟨k,hk⟩:=(yR fs 1 (by decide) λf hf=>(h f hf).1).2.2.1 f hf;have hk:lc fs=f.2*k:=hk;have z:(lc fs).fdiv f.2=k:=by rw[hk];exact Int.mul_fdiv_cancel_left _ (Int.ne_of_gt g.1)
 refine g.2.1.mul (J.of_le ?_);rw[z,hk,cH];exact Nat.le_mul_of_pos_left _ (by have:=g.1;lia)
def mx1_bb{q:Nat}{g:Int}(h1:1<=q)(h:BB q g):BB q (mx1 g):=by
 unfold mx1;split
 .show(1:Int).natAbs<_;exact Nat.one_lt_two_pow #[]
 .exact h
def Mb{fs:gB}{r q:Nat}(h:∀f∈fs,Gp p r f)(J:BB q (lc fs))(h1:1<=p+q):BB q (whF fs).1/\BB (p+q) (whF fs).2:=(dZ (Az _)).bb J (mx1_bb h1 (gl_bb (Ew h J)))
def Zo{fs:gB}{r q:Nat}(h:∀f∈fs,Gp p r f)(J:BB q (lc fs))(i:Nat):BB (p+q) ((whL fs).getD i 0):=by
 by_cases hi:i<(whL fs).length
 .exact jYi (Ew h J) _ (lZ hi)
 .rw[aP,cL #[]];show(0:Int).natAbs<_;exact dH _
def bnF_gp{frs:jD}{fb:gB}(p r G v Z:Nat)(hb:fb.length=frs.length)(gr:∀row∈frs,∀f∈row,Gp p r f)(gb:∀f∈fb,Gp G v f)(Y:∀row∈frs,BB Z (lc row))(O:1<=p):∀f∈bnF frs fb,Gp (G+Z) (v+(p+Z)) f:=by
 intro f hf;obtain⟨i,hi⟩:=cJ hf;have j:i<frs.length:=by have:=(aK.mp hi).1;rwa [jM hb]at this
 have b:i<fb.length:=by rw[hb];exact j
 rw[qC (aD b) (aD j)]at hi;obtain rfl:=aV hi;have w:=iV λf hf=>(gr _ (cO j) f hf).1;have wb:=Mb (gr _ (cO j)) (Y _ (cO j)) #[];have g:=gb _ (cO b);have F:=dZ (t:=fb[i].1*(whF frs[i]).1) (bF g.1 w.2);have lb:=F.bb (g.2.1.mul wb.1) (g.2.2.mul wb.2);exact#[F.pos,lb.1,lb.2]
def beo_of{frs:jD}{fb fg:gB}(p r G v Z o:Nat)(hr:∀row∈frs,row.length=fg.length)(hb:fb.length=frs.length)(gr:∀row∈frs,∀f∈row,Gp p r f)(gg:∀f∈fg,Gp p r f)(gb:∀f∈fb,Gp G v f)
  (Y:∀row∈frs,BB Z (lc row)) (u:BB Z (lc fg)) (l:BB o (lc (bnF frs fb))) (O:1<=p) (m1:frs.length<=100) (n1:fg.length<=100) (C:p+Z<=9000) (F:G+Z+o<=9000) (H:v+(p+Z)<=9000) (I:r<=9000) (J:v<=9000)
  (N:(frs.length+1)*(p+Z)+(frs.length+1)*(frs.length+1)+1+(p+Z)+Z+o<=9000)
  (w:(frs.length+1)*(p+G+Z+o)+(p+G+Z+o)+(frs.length+1)+(frs.length+1)*(frs.length+1)+1<=9000):BeO frs fb fg:=by
 have n:=bnF_gp p r G v Z hb gr gb Y O;have wr:∀row∈frs,BB Z (whF row).1/\BB (p+Z) (whF row).2:=λrow h=>Mb (gr row h) (Y row h) #[];have wg:BB Z (whF fg).1/\BB (p+Z) (whF fg).2:=Mb gg u #[];have wb:BB o (whF (bnF frs fb)).1/\BB (G+Z+o) (whF (bnF frs fb)).2:=by
  by_cases S:1<=G+Z+o
  .exact Mb n l S
  .exfalso;have:o=0:=#[];subst this;have h1:(lc (bnF frs fb)).natAbs<1:=l;have h2:=Mi (fs:=bnF frs fb) λf hf=>(n f hf).1;lia
 have ha:∀e j k,BB (p+Z) ((bP e frs fb fg).a j k):=λe j k=>by
  show BB (p+Z) (if k<frs.length then(whL (frs.getD k [])).getD j 0 else-(whL fg).getD j 0);by_cases h:k<frs.length
  .rw[aJ h];have hm:frs.getD k []∈frs:=by rw[aP,aD h];exact cO h
   exact Zo (gr _ hm) (Y _ hm) j
  .rw[aF h];exact(Zo gg u j).neg
 have m:∀e k,BB (G+Z+o) ((bP e frs fb fg).be k):=λe k=>Zo n l k;have K:∀e s,BB ((frs.length+1)*(p+Z)+(frs.length+1)*(frs.length+1)+1) ((bP e frs fb fg).D s):=λe s=>D_bb (L:=bP e frs fb fg) (q:=p+Z) #[] (λj k _ _=>ha e j k) s;have B:∀e s i t(y:Nat->Int),(∀k,BB t (y k))->BB ((frs.length+1)*(p+Z)+t+(frs.length+1)*(frs.length+1)+1) ((bP e frs fb fg).T s i y):=λe s i t y d=>T_bb (L:=bP e frs fb fg) (q:=p+Z) #[] (λj k _ _=>ha e j k) s i λk _=>d k;have fit:∃q R,Fit frs.length fg.length R/\q<=9000/\(∀k,40*2^k<q->40*2^k<=R)/\(∀j k,BB q ((bP false frs fb fg).a j k))/\∀k,BB q ((bP false frs fb fg).be k):=#[p+G+Z+o,p+G+Z+o,#[#[],m1,n1,by have:=Nat.mul_le_mul_right (p+G+Z+o) (show min frs.length fg.length<=frs.length+1 by lia);lia],#[],λ_ h=>jT h,λj k=>(ha _ j k).mono #[],λk=>(m _ k).mono #[]];clear w;generalize X:(frs.length+1)*(p+Z)=M at*;generalize z:(frs.length+1)*(frs.length+1)=Q at*;refine#[hr,hb,λrow h f hf=>?_,λf hf=>?_,λf hf=>?_,λrow h x hx=>?_,λx hx=>?_,λx hx=>?_,λrow h=>?_,?_,?_,λb A row h=>?_,λe=>#[m1,n1,λj k P hk=>(ha e j k).mono #[],λs i c _ _=>?_,λs i k _ _ _=>?_,λs i _ _=>?_,λs _=>(K e s).mono #[]],λe s _=>?_,λe s _ row h=>#[?_,λk hk=>?_],fit]
 .have g:=gr row h f hf;exact#[g.1,g.2.1.mono #[],g.2.2.mono #[]]
 .have g:=gb f hf;exact#[g.1,g.2.1.mono #[],g.2.2.mono #[]]
 .have g:=gg f hf;exact#[g.1,g.2.1.mono #[],g.2.2.mono #[]]
 .exact(Ew (gr row h) (Y row h) x hx).mono #[]
 .exact(Ew gg u x hx).mono #[]
 .exact(Ew n l x hx).mono #[]
 .exact#[(wr row h).1.mono #[],(wr row h).2.mono #[]]
 .exact#[wb.1.mono #[],wb.2.mono #[]]
 .exact#[wg.1.mono #[],wg.2.mono #[]]
 .exact#[((gb b A).2.2.mul (wr row h).2).mono #[],((gb b A).2.1.mul (wr row h).1).mono #[]]
 .refine(B e s i (p+Z) _ λk=>?_).mono #[];unfold Lpd.cv;split
  .exact ha e _ _
  .exact yG #[] _ _
 .exact(B e s i 1 _ λr=>yG (aM _) _ _).mono #[]
 .exact(B e s i _ _ (m e)).mono #[]
 .exact((K e s).mul wb.1).mono #[]
 .exact(((K e s).mul (wr row h).2).mul wg.1).mono #[]
 .exact((B e s frs.length 1 _ λr=>yG (aM _) _ _).mul (wr row h).1).mono #[]
def jY(L:Lpd)(s:Nat->Nat):Prop:=∀i,i<L.m->s i<L.n+L.m
noncomputable def UnO(L:Lpd)(s:Nat->Nat):Option Nat->Prop
 |none=>∀c,c<L.n+L.m->0<=L.T s L.m (L.cv c)
 |some c=>c<L.n+L.m/\L.T s L.m (L.cv c)<0/\∀i,i<L.m->L.T s i (L.cv c)<=0
noncomputable def xR(L:Lpd)(s:Nat->Nat)(f:Nat->Int)(i j:Nat):Int×Int:=lo2 (Lpd.spr i s f j) (L.D s)
noncomputable def mH(L:Lpd)(s:Nat->Nat)(c j:Nat):Int×Int:=lo2 (Lpd.spr L.m s (λi=>-L.T s i (L.cv c)) j+if j=c then L.D s else 0) (L.D s)
noncomputable def jV:Nat->(Nat->Int×Int)->(Nat->Int×Int)->Int×Int
 |0,_,_=>(0,1)
 |n+1,f,g=>((jV n f g).1*(f n).2*(g n).2+(f n).1*(g n).1*(jV n f g).2,(jV n f g).2*(f n).2*(g n).2)
def jR{f g:Nat->Int×Int}:∀{n:Nat},(∀k,k<n->0<(f k).2)->(∀k,k<n->0<(g k).2)->0<(jV n f g).2
 |0,_,_=>by show(0:Int)<1;decide
 |n+1,h1,h2=>bF (bF (jR (λk hk=>h1 k #[]) λk hk=>h2 k #[]) (h1 n #[])) (h2 n #[])
def vV{f g:Nat->Int×Int}{W:Int}{v:Nat->Int}:∀{n:Nat},(∀k,k<n->(f k).1*(g k).1*W=v k*((f k).2*(g k).2))->(jV n f g).1*W=sm n v*(jV n f g).2
 |0,_=>by show(0:Int)*W=0*1;simp
 |n+1,h=>by
  have m:=vV (n:=n) λk hk=>h k #[];have R:=h n #[];show((jV n f g).1*(f n).2*(g n).2+(f n).1*(g n).1*(jV n f g).2)*W=(sm n v+v n)*((jV n f g).2*(f n).2*(g n).2);generalize (jV n f g).1=t at*;generalize (jV n f g).2=b at*;grind
def jZ4{P:Int×Int}{W S:Int}{c:Int×Int}(b:0<W)(N:0<P.2)(e:P.1*W=S*P.2)(h:S*c.2<=c.1*W):P.1*c.2<=c.1*P.2:=by
 have h1:S*c.2*P.2<=c.1*W*P.2:=Int.mul_le_mul_of_nonneg_right h (bX N);refine Int.le_of_mul_le_mul_right (a:=W) ?_ b;have e1:P.1*c.2*W=S*c.2*P.2:=by grind
 have C:c.1*P.2*W=c.1*W*P.2:=by grind
 rw[e1,C];exact h1
def prdF_ge{P:Int×Int}{W S:Int}{c:Int×Int}(b:0<W)(N:0<P.2)(e:P.1*W=S*P.2)(h:c.1*W<=S*c.2):c.1*P.2<=P.1*c.2:=by
 have h1:c.1*W*P.2<=S*c.2*P.2:=Int.mul_le_mul_of_nonneg_right h (bX N);refine Int.le_of_mul_le_mul_right (a:=W) ?_ b;have e1:P.1*c.2*W=S*c.2*P.2:=by grind
 have C:c.1*P.2*W=c.1*W*P.2:=by grind
 rw[e1,C];exact h1
def Vi{f g:Nat->Int×Int}{q:Nat}:∀{n:Nat},(∀k,k<n->BB q (f k).1/\BB q (f k).2/\BB q (g k).1/\BB q (g k).2)->BB ((q+q+1)*n+1) (jV n f g).1/\BB ((q+q+1)*n+1) (jV n f g).2
 |0,_=>#[by show(0:Int).natAbs<2^(0+1);decide,by show(1:Int).natAbs<2^(0+1);decide]
 |n+1,h=>by
  obtain⟨O,C⟩:=Vi (n:=n) λk hk=>h k #[];obtain⟨r,y,N,g2⟩:=h n #[];have e:(q+q+1)*(n+1)+1=(q+q+1)*n+1+q+q+1:=by rw[Nat.mul_add];lia
  rw[e];refine#[BB.add ((O.mul y).mul g2) (((r.mul N).mul C).mono #[]),((C.mul y).mul g2).mono #[]]
def jXi{S D:Int}{W:Int×Int}(K:0<D)(b:0<W.1):(fov (lo2 S D) W).1*(D*W.1)=S*W.2*(fov (lo2 S D) W).2/\0<(fov (lo2 S D) W).2/\Int.gcd (fov (lo2 S D) W).1 (fov (lo2 S D) W).2=1:=by
 have P:=dZ (t:=S) K;have z:=bF P.pos b;have Z:=dZ (t:=(lo2 S D).1*W.2) z;refine#[?_,Z.pos,Z.cop];have h1:=P.eq;have h2:=Z.eq;have T:=P.pos;show(lo2 ((lo2 S D).1*W.2) ((lo2 S D).2*W.1)).1*(D*W.1)=S*W.2*(lo2 ((lo2 S D).1*W.2) ((lo2 S D).2*W.1)).2;generalize (lo2 ((lo2 S D).1*W.2) ((lo2 S D).2*W.1)).1=X at*;generalize (lo2 ((lo2 S D).1*W.2) ((lo2 S D).2*W.1)).2=Y at*;generalize (lo2 S D).1=s at*;generalize (lo2 S D).2=d at*;apply Int.eq_of_mul_eq_mul_left (show d≠0 by lia);grind
def jZd{S D:Int}{W:Int×Int}(K:0<D)(b:0<W.1)(a:0<W.2)(P:0<=S):0<=(fov (lo2 S D) W).1:=by
 obtain⟨e,p,_⟩:=jXi (S:=S) K b;refine oT (bF K b) ?_;rw[e];exact eF (eF P (bX a)) (bX p)
def fty_val{U D:Int}{w G:Int×Int}(K:0<D)(hw:0<w.2)(o:0<G.1):(fov (ftm (lo2 U D) w) G).1*(D*w.2*G.1)=U*w.1*G.2*(fov (ftm (lo2 U D) w) G).2/\0<(fov (ftm (lo2 U D) w) G).2/\Int.gcd (fov (ftm (lo2 U D) w) G).1 (fov (ftm (lo2 U D) w) G).2=1:=by
 have P:=dZ (t:=U) K;have I:=bF P.pos hw;have Z:=dZ (t:=(lo2 U D).1*w.1) I;have S:=bF Z.pos o;have y:=dZ (t:=(lo2 ((lo2 U D).1*w.1) ((lo2 U D).2*w.2)).1*G.2) S;refine#[?_,y.pos,y.cop];have h1:=P.eq;have h2:=Z.eq;have h3:=y.eq;have T:=P.pos;have l:=Z.pos;show(lo2 ((lo2 ((lo2 U D).1*w.1) ((lo2 U D).2*w.2)).1*G.2) ((lo2 ((lo2 U D).1*w.1) ((lo2 U D).2*w.2)).2*G.1)).1*(D*w.2*G.1)=U*w.1*G.2*(lo2 ((lo2 ((lo2 U D).1*w.1) ((lo2 U D).2*w.2)).1*G.2) ((lo2 ((lo2 U D).1*w.1) ((lo2 U D).2*w.2)).2*G.1)).2;generalize (lo2 ((lo2 ((lo2 U D).1*w.1) ((lo2 U D).2*w.2)).1*G.2) ((lo2 ((lo2 U D).1*w.1) ((lo2 U D).2*w.2)).2*G.1)).1=X at*;generalize (lo2 ((lo2 ((lo2 U D).1*w.1) ((lo2 U D).2*w.2)).1*G.2) ((lo2 ((lo2 U D).1*w.1) ((lo2 U D).2*w.2)).2*G.1)).2=Y at*;generalize (lo2 ((lo2 U D).1*w.1) ((lo2 U D).2*w.2)).1=u at*;generalize (lo2 ((lo2 U D).1*w.1) ((lo2 U D).2*w.2)).2=i at*;generalize (lo2 U D).1=s at*;generalize (lo2 U D).2=d at*;apply Int.eq_of_mul_eq_mul_left (show d*i≠0 from Int.ne_of_gt (bF T l));grind
section
variable{fl:Bool}{frs:jD}{fb fg:gB}{s:Nat->Nat}
noncomputable def rwF(frs:jD)(i j:Nat):Int×Int:=(frs.getD i []).getD j (0,1)
def Vf(B:BeO frs fb fg)(hi:i<frs.length)(P:j<fg.length):(bP fl frs fb fg).a j i*((rwF frs i j).2*(whF (frs.getD i [])).2)=(rwF frs i j).1*(whF (frs.getD i [])).1:=by
 have hm:frs.getD i []∈frs:=by rw[aP,aD hi];exact cO hi
 have Y:=B.lr _ hm;have e:(bP fl frs fb fg).a j i=(whL (frs.getD i [])).getD j 0:=by show(if i<frs.length then _ else _)=_;rw[aJ hi]
 rw[e];refine Uf (λf hf=>(B.gr _ hm f hf).1) ?_;unfold rwF;generalize frs.getD i []=l at*;rw[aP,aD #[]];rfl
def Ny(B:BeO frs fb fg)(P:j<fg.length):-(bP fl frs fb fg).a j frs.length*((fg.getD j (0,1)).2*(whF fg).2)=(fg.getD j (0,1)).1*(whF fg).1:=by
 have e:(bP fl frs fb fg).a j frs.length=-(whL fg).getD j 0:=by show(if frs.length<frs.length then _ else _)=_;rw[aF (eW _)]
 rw[e,Int.neg_neg];refine Uf (λf hf=>(B.gg f hf).1) ?_;rw[aP,aD P];rfl
def jXv(B:BeO frs fb fg)(hi:i<frs.length):(bP fl frs fb fg).be i*(whF (bnF frs fb)).2*((fb.getD i (0,1)).2*(whF (frs.getD i [])).2)=(fb.getD i (0,1)).1*(whF (frs.getD i [])).1*(whF (bnF frs fb)).1:=by
 have b:i<fb.length:=by rw[B.lb];exact hi
 have e1:fb[i]?=some (fb.getD i (0,1)):=by rw[aP,aD b];rfl
 have C:frs[i]?=some (frs.getD i []):=by rw[aP,aD hi];rfl
 have hm:=aL C;have A:=aL e1;have w:=iV λf hf=>(B.gr _ hm f hf).1;have z:=bF (B.gb _ A).1 w.2;have l:=dZ (t:=(fb.getD i (0,1)).1*(whF (frs.getD i [])).1) z;have n:∀f∈bnF frs fb,0<f.2:=λf hf=>by
  obtain⟨k,hk⟩:=cJ hf;have c:k<frs.length:=by have:=(aK.mp hk).1;rwa [jM B.lb]at this
  have a:k<fb.length:=by rw[B.lb];exact c
  rw[qC (aD a) (aD c)]at hk;obtain rfl:=aV hk;have w:=iV λf hf=>(B.gr _ (cO c) f hf).1;exact(dZ (bF (B.gb _ (cO a)).1 w.2)).pos
 have q:=Uf n (qC e1 C);have O:(bP fl frs fb fg).be i=(whL (bnF frs fb)).getD i 0:=rfl;rw[O];have h1:=l.eq;have T:=l.pos;have q:(whL (bnF frs fb)).getD i 0*((lo2 ((fb.getD i (0,1)).1*(whF (frs.getD i [])).1) ((fb.getD i (0,1)).2*(whF (frs.getD i [])).2)).2*(whF (bnF frs fb)).2)=(lo2 ((fb.getD i (0,1)).1*(whF (frs.getD i [])).1) ((fb.getD i (0,1)).2*(whF (frs.getD i [])).2)).1*(whF (bnF frs fb)).1:=q;generalize (lo2 ((fb.getD i (0,1)).1*(whF (frs.getD i [])).1) ((fb.getD i (0,1)).2*(whF (frs.getD i [])).2)).1=X at*;generalize (lo2 ((fb.getD i (0,1)).1*(whF (frs.getD i [])).1) ((fb.getD i (0,1)).2*(whF (frs.getD i [])).2)).2=Y at*;generalize (fb.getD i (0,1)).1=b1 at*;generalize (fb.getD i (0,1)).2=b2 at*;generalize (whF (frs.getD i [])).1=o at*;generalize (whF (frs.getD i [])).2=e at*;generalize (whF (bnF frs fb)).1=h at*;generalize (whF (bnF frs fb)).2=d at*;generalize (whL (bnF frs fb)).getD i 0=be at*;apply Int.eq_of_mul_eq_mul_left (show Y≠0 by lia);grind
noncomputable def xF(fl:Bool)(frs:jD)(fb fg:gB)(s:Nat->Nat)(j:Nat):Int×Int:=fov (xR (bP fl frs fb fg) s (λi=>(bP fl frs fb fg).T s i (bP fl frs fb fg).be) frs.length j) (whF (bnF frs fb))
noncomputable def yF(fl:Bool)(frs:jD)(fb fg:gB)(s:Nat->Nat)(k:Nat):Int×Int:=fov (ftm (lo2 ((bP fl frs fb fg).T s frs.length (e1 k)) ((bP fl frs fb fg).D s)) (whF (frs.getD k []))) (whF fg)
def Ur(B:BeO frs fb fg):0<(whF (bnF frs fb)).1/\0<(whF (bnF frs fb)).2:=iV λf hf=>by
 obtain⟨k,hk⟩:=cJ hf;have c:k<frs.length:=by have:=(aK.mp hk).1;rwa [jM B.lb]at this
 have a:k<fb.length:=by rw[B.lb];exact c
 rw[qC (aD a) (aD c)]at hk;obtain rfl:=aV hk;have w:=iV λf hf=>(B.gr _ (cO c) f hf).1;exact(dZ (bF (B.gb _ (cO a)).1 w.2)).pos
def Gz(B:BeO frs fb fg)(hi:i<frs.length):0<(whF (frs.getD i [])).1/\0<(whF (frs.getD i [])).2:=iV λf hf=>(B.gr _ (by rw[aP,aD hi];exact cO hi) f hf).1
def Ep(B:BeO frs fb fg)(hi:i<frs.length)(P:j<fg.length):0<(rwF frs i j).2:=by
 have hm:frs.getD i []∈frs:=by rw[aP,aD hi];exact cO hi
 have Y:=B.lr _ hm;have g:=B.gr _ hm;unfold rwF;generalize frs.getD i []=l at*;have:l.getD j (0,1)∈l:=by rw[aP,aD #[]];exact cO _
 exact(g _ this).1
def Iz(B:BeO frs fb fg)(ok:(bP fl frs fb fg).Ok s)(j:Nat):0<(xF fl frs fb fg s j).2/\Int.gcd (xF fl frs fb fg s j).1 (xF fl frs fb fg s j).2=1/\0<=(xF fl frs fb fg s j).1/\(xF fl frs fb fg s j).1*((bP fl frs fb fg).D s*(whF (bnF frs fb)).1)=Lpd.spr frs.length s (λi=>(bP fl frs fb fg).T s i (bP fl frs fb fg).be) j*(whF (bnF frs fb)).2*(xF fl frs fb fg s j).2:=by
 have w:=Ur B;obtain⟨e,p,c⟩:=jXi (S:=Lpd.spr frs.length s (λi=>(bP fl frs fb fg).T s i (bP fl frs fb fg).be) j) ok.pos w.1;exact#[p,c,jZd ok.pos w.1 w.2 (Lpd.spr_nonneg (λi hi=>ok.bound_nonneg hi) j),e]
def jJQ(B:BeO frs fb fg)(ok:(bP fl frs fb fg).Ok s)(io:jY (bP fl frs fb fg) s)(hi:i<frs.length):(jV fg.length (rwF frs i) (xF fl frs fb fg s)).1*(fb.getD i (0,1)).2<=(fb.getD i (0,1)).1*(jV fg.length (rwF frs i) (xF fl frs fb fg s)).2:=by
 have w:=Ur B;have r:=Gz B hi;have A:=ok.pos;have U:=ok.allowed io (r:=i) hi;have c:=jXv (fl:=fl) B hi;have b:i<fb.length:=by rw[B.lb];exact hi
 have t:0<(fb.getD i (0,1)).2:=(B.gb _ (by rw[aP,aD b];exact cO b)).1;have e:=vV (n:=fg.length) (f:=rwF frs i) (g:=xF fl frs fb fg s) (W:=(whF (frs.getD i [])).1*(bP fl frs fb fg).D s*(whF (bnF frs fb)).1) (v:=λj=>((whF (frs.getD i [])).2*(whF (bnF frs fb)).2)*(Lpd.spr frs.length s (λi=>(bP fl frs fb fg).T s i (bP fl frs fb fg).be) j*(bP fl frs fb fg).a j i)) λj P=>by
  have h1:=Vf (fl:=fl) B hi P;have h2:=(Iz B ok j).2.2.2;generalize (xF fl frs fb fg s j).1=u at*;generalize (xF fl frs fb fg s j).2=I at*;generalize (rwF frs i j).1=k at*;generalize (rwF frs i j).2=y at*;generalize (whF (frs.getD i [])).1=o at*;generalize (whF (frs.getD i [])).2=l at*;generalize (whF (bnF frs fb)).1=h at*;generalize (whF (bnF frs fb)).2=d at*;generalize (bP fl frs fb fg).a j i=a at*;generalize Lpd.spr frs.length s (λi=>(bP fl frs fb fg).T s i (bP fl frs fb fg).be) j=S at*;generalize (bP fl frs fb fg).D s=D at*;grind
 rw[Lpd.sm_mul]at e;refine jZ4 (bF (bF r.1 A) w.1) (jR (λj P=>Ep B hi P) λj _=>(Iz B ok j).1) e ?_;have U:sm fg.length (λj=>Lpd.spr frs.length s (λi=>(bP fl frs fb fg).T s i (bP fl frs fb fg).be) j*(bP fl frs fb fg).a j i)<=(bP fl frs fb fg).D s*(bP fl frs fb fg).be i:=U;generalize sm fg.length (λj=>Lpd.spr frs.length s (λi=>(bP fl frs fb fg).T s i (bP fl frs fb fg).be) j*(bP fl frs fb fg).a j i)=N at*;have m:=Int.mul_le_mul_of_nonneg_left U (bX (bF (bF r.2 w.2) t));generalize (whF (frs.getD i [])).1=o at*;generalize (whF (frs.getD i [])).2=l at*;generalize (whF (bnF frs fb)).1=h at*;generalize (whF (bnF frs fb)).2=d at*;generalize (bP fl frs fb fg).D s=D at*;generalize (bP fl frs fb fg).be i=be at*;generalize (fb.getD i (0,1)).1=b1 at*;generalize (fb.getD i (0,1)).2=b2 at*;have e1:l*d*N*b2=l*d*b2*N:=by grind
 have C:b1*(o*D*h)=l*d*b2*(D*be):=by grind
 rw[e1,C];exact m
def jVj(un:UnO (bP fl frs fb fg) s none)(hk:k<frs.length):0<=(bP fl frs fb fg).T s frs.length (e1 k):=by
 have:=un ((bP fl frs fb fg).n+k) (Nat.add_lt_add_left hk _);rwa [Lpd.cv_spare]at this
def Wp(B:BeO frs fb fg)(ok:(bP fl frs fb fg).Ok s)(un:UnO (bP fl frs fb fg) s none)(hk:k<frs.length):0<(yF fl frs fb fg s k).2/\Int.gcd (yF fl frs fb fg s k).1 (yF fl frs fb fg s k).2=1/\0<=(yF fl frs fb fg s k).1/\(yF fl frs fb fg s k).1*((bP fl frs fb fg).D s*(whF (frs.getD k [])).2*(whF fg).1)=(bP fl frs fb fg).T s frs.length (e1 k)*(whF (frs.getD k [])).1*(whF fg).2*(yF fl frs fb fg s k).2:=by
 have r:=Gz B hk;have g:=iV λf hf=>(B.gg f hf).1;obtain⟨e,p,c⟩:=fty_val (U:=(bP fl frs fb fg).T s frs.length (e1 k)) (w:=whF (frs.getD k [])) (G:=whF fg) ok.pos r.2 g.1;refine#[p,c,oT (bF (bF ok.pos r.2) g.1) ?_,e];have:0<=(bP fl frs fb fg).T s frs.length (e1 k)*(whF (frs.getD k [])).1*(whF fg).2*(fov (ftm (lo2 ((bP fl frs fb fg).T s frs.length (e1 k)) ((bP fl frs fb fg).D s)) (whF (frs.getD k []))) (whF fg)).2:=eF (eF (eF (jVj un hk) (bX r.1)) (bX g.2)) (bX p);rw[←e]at this;exact this
def ys_pay(B:BeO frs fb fg)(ok:(bP fl frs fb fg).Ok s)(un:UnO (bP fl frs fb fg) s none)(P:j<fg.length):(fg.getD j (0,1)).1*(jV frs.length (yF fl frs fb fg s) (λi=>rwF frs i j)).2<=(jV frs.length (yF fl frs fb fg s) (λi=>rwF frs i j)).1*(fg.getD j (0,1)).2:=by
 have g:=iV λf hf=>(B.gg f hf).1;have A:=ok.pos;have d:=Ny (fl:=fl) B P;have c:0<(fg.getD j (0,1)).2:=(B.gg _ (by rw[aP,aD P];exact cO P)).1;have e:=vV (n:=frs.length) (f:=yF fl frs fb fg s) (g:=λi=>rwF frs i j) (W:=(bP fl frs fb fg).D s*(whF fg).1) (v:=λi=>(whF fg).2*((bP fl frs fb fg).a j i*(bP fl frs fb fg).T s frs.length (e1 i))) λi hi=>by
  have h1:=Vf (fl:=fl) B hi P;have h2:=(Wp B ok un hi).2.2.2;have r:=Gz B hi;show(yF fl frs fb fg s i).1*(rwF frs i j).1*_=_*((yF fl frs fb fg s i).2*(rwF frs i j).2);generalize (yF fl frs fb fg s i).1=u at*;generalize (yF fl frs fb fg s i).2=I at*;generalize (rwF frs i j).1=p at*;generalize (rwF frs i j).2=y at*;generalize (whF (frs.getD i [])).1=o at*;generalize (whF (frs.getD i [])).2=l at*;generalize (whF fg).1=t at*;generalize (whF fg).2=b at*;generalize (bP fl frs fb fg).a j i=a at*;generalize (bP fl frs fb fg).T s frs.length (e1 i)=U at*;generalize (bP fl frs fb fg).D s=D at*;apply Int.eq_of_mul_eq_mul_left (show l≠0 by lia);grind
 rw[Lpd.sm_mul]at e;refine prdF_ge (bF A g.1) (jR (λi hi=>(Wp B ok un hi).1) λi hi=>Ep B hi P) e ?_;have go:=Lpd.goal_of (L:=bP fl frs fb fg) (s:=s) ((bP fl frs fb fg).cv j);have hc:=un j (show j<fg.length+frs.length by lia);have h:(bP fl frs fb fg).cv j=(bP fl frs fb fg).a j:=by unfold Lpd.cv;rw[aJ (show j<(bP fl frs fb fg).n from P)]
 rw[go,h]at hc;have hc:0<=(sm frs.length λk=>(bP fl frs fb fg).a j k*(bP fl frs fb fg).T s frs.length (e1 k))+(bP fl frs fb fg).a j frs.length*(bP fl frs fb fg).D s:=hc;generalize (sm frs.length λk=>(bP fl frs fb fg).a j k*(bP fl frs fb fg).T s frs.length (e1 k))=N at*;generalize (bP fl frs fb fg).a j frs.length=z at*;generalize (bP fl frs fb fg).D s=D at*;generalize (whF fg).1=t at*;generalize (whF fg).2=b at*;generalize (fg.getD j (0,1)).1=h1 at*;generalize (fg.getD j (0,1)).2=h2 at*;have m:=Int.mul_le_mul_of_nonneg_left (show-z*D<=N by have:-z*D=-(z*D):=Int.neg_mul _ _;lia) (bX (bF g.2 c));have e1:h1*(D*t)=b*h2*(-z*D):=by grind
 have C:b*N*h2=b*h2*N:=by grind
 rw[e1,C];exact m
def jWJ(B:BeO frs fb fg)(ok:(bP fl frs fb fg).Ok s)(io:jY (bP fl frs fb fg) s)(un:UnO (bP fl frs fb fg) s none):
  (jV fg.length (λj=>fg.getD j (0,1)) (xF fl frs fb fg s)).1*(jV frs.length (λi=>fb.getD i (0,1)) (yF fl frs fb fg s)).2=(jV frs.length (λi=>fb.getD i (0,1)) (yF fl frs fb fg s)).1*(jV fg.length (λj=>fg.getD j (0,1)) (xF fl frs fb fg s)).2:=by
 have g:=iV λf hf=>(B.gg f hf).1;have w:=Ur B;have A:=ok.pos;have q1:=vV (n:=fg.length) (f:=λj=>fg.getD j (0,1)) (g:=xF fl frs fb fg s) (W:=(whF fg).1*(bP fl frs fb fg).D s*(whF (bnF frs fb)).1) (v:=λj=>(-((whF fg).2*(whF (bnF frs fb)).2))*(Lpd.spr frs.length s (λi=>(bP fl frs fb fg).T s i (bP fl frs fb fg).be) j*(bP fl frs fb fg).a j frs.length)) λj P=>by
  have h1:=Ny (fl:=fl) B P;have h2:=(Iz B ok j).2.2.2;show(fg.getD j (0,1)).1*(xF fl frs fb fg s j).1*_=_*((fg.getD j (0,1)).2*(xF fl frs fb fg s j).2);generalize (xF fl frs fb fg s j).1=u at*;generalize (xF fl frs fb fg s j).2=I at*;generalize (fg.getD j (0,1)).1=p at*;generalize (fg.getD j (0,1)).2=y at*;generalize (whF fg).1=t at*;generalize (whF fg).2=b at*;generalize (whF (bnF frs fb)).1=h at*;generalize (whF (bnF frs fb)).2=d at*;generalize (bP fl frs fb fg).a j frs.length=a at*;generalize Lpd.spr frs.length s (λi=>(bP fl frs fb fg).T s i (bP fl frs fb fg).be) j=S at*;generalize (bP fl frs fb fg).D s=D at*;grind
 have G:=vV (n:=frs.length) (f:=λi=>fb.getD i (0,1)) (g:=yF fl frs fb fg s) (W:=(whF fg).1*(bP fl frs fb fg).D s*(whF (bnF frs fb)).1) (v:=λi=>((whF fg).2*(whF (bnF frs fb)).2)*((bP fl frs fb fg).be i*(bP fl frs fb fg).T s frs.length (e1 i))) λi hi=>by
  have h1:=jXv (fl:=fl) B hi;have h2:=(Wp B ok un hi).2.2.2;have r:=Gz B hi;show(fb.getD i (0,1)).1*(yF fl frs fb fg s i).1*_=_*((fb.getD i (0,1)).2*(yF fl frs fb fg s i).2);generalize (yF fl frs fb fg s i).1=u at*;generalize (yF fl frs fb fg s i).2=I at*;generalize (fb.getD i (0,1)).1=b1 at*;generalize (fb.getD i (0,1)).2=b2 at*;generalize (whF (frs.getD i [])).1=o at*;generalize (whF (frs.getD i [])).2=l at*;generalize (whF fg).1=t at*;generalize (whF fg).2=b at*;generalize (whF (bnF frs fb)).1=h at*;generalize (whF (bnF frs fb)).2=d at*;generalize (bP fl frs fb fg).be i=be at*;generalize (bP fl frs fb fg).T s frs.length (e1 i)=U at*;generalize (bP fl frs fb fg).D s=D at*;apply Int.eq_of_mul_eq_mul_left (show o*l≠0 from Int.ne_of_gt (bF r.1 r.2));grind
 rw[Lpd.sm_mul]at q1 G;have c:(bP fl frs fb fg).be frs.length=0:=by
  show(whL (bnF frs fb)).getD frs.length 0=0;rw[aP,cL (by rw[kC,jM B.lb];exact aM _)];rfl
 have Y:(sm fg.length λj=>Lpd.spr frs.length s (λi=>(bP fl frs fb fg).T s i (bP fl frs fb fg).be) j*(bP fl frs fb fg).a j frs.length)=-(bP fl frs fb fg).T s frs.length (bP fl frs fb fg).be:=ok.earned io c;have go:=Lpd.goal_of (L:=bP fl frs fb fg) (s:=s) (bP fl frs fb fg).be;have go:(bP fl frs fb fg).T s frs.length (bP fl frs fb fg).be=(sm frs.length λk=>(bP fl frs fb fg).be k*(bP fl frs fb fg).T s frs.length (e1 k))+(bP fl frs fb fg).be frs.length*(bP fl frs fb fg).D s:=go;rw[c,dY,Int.add_zero]at go;rw[Y]at q1;rw[←go]at G;have z:=bF (bF g.1 A) w.1;generalize (jV fg.length (λj=>fg.getD j (0,1)) (xF fl frs fb fg s)).1=C at*;generalize (jV fg.length (λj=>fg.getD j (0,1)) (xF fl frs fb fg s)).2=e at*;generalize (jV frs.length (λi=>fb.getD i (0,1)) (yF fl frs fb fg s)).1=m at*;generalize (jV frs.length (λi=>fb.getD i (0,1)) (yF fl frs fb fg s)).2=R2 at*;generalize (whF fg).1*(bP fl frs fb fg).D s*(whF (bnF frs fb)).1=Z at*;generalize (bP fl frs fb fg).T s frs.length (bP fl frs fb fg).be=tb at*;apply Int.eq_of_mul_eq_mul_left (show Z≠0 by lia);grind
def Wq(ok:(bP fl frs fb fg).Ok s)(un:UnO (bP fl frs fb fg) s (some c))(j:Nat):0<(mH (bP fl frs fb fg) s c j).2/\Int.gcd (mH (bP fl frs fb fg) s c j).1 (mH (bP fl frs fb fg) s c j).2=1/\0<=(mH (bP fl frs fb fg) s c j).1/\(mH (bP fl frs fb fg) s c j).1*(bP fl frs fb fg).D s=(Lpd.spr frs.length s (λi=>-(bP fl frs fb fg).T s i ((bP fl frs fb fg).cv c)) j+if j=c then(bP fl frs fb fg).D s else 0)*(mH (bP fl frs fb fg) s c j).2:=by
 have A:=ok.pos;have l:=dZ (t:=Lpd.spr frs.length s (λi=>-(bP fl frs fb fg).T s i ((bP fl frs fb fg).cv c)) j+if j=c then(bP fl frs fb fg).D s else 0) A;refine#[l.pos,l.cop,Os A (Int.add_nonneg (Lpd.spr_nonneg (λi hi=>?_) j) ?_),l.eq]
 .have:=un.2.2 i hi;lia
 .split
  .omega
  .exact Int.le_refl _
def Vs(B:BeO frs fb fg)(ok:(bP fl frs fb fg).Ok s)(io:jY (bP fl frs fb fg) s)(un:UnO (bP fl frs fb fg) s (some c))(hi:i<frs.length):(jV fg.length (rwF frs i) (mH (bP fl frs fb fg) s c)).1<=0:=by
 have r:=Gz B hi;have A:=ok.pos;have U:=ok.ways_row io (c:=c) (r:=i) un.2.2 hi;have U:(sm fg.length λj=>(Lpd.spr frs.length s (λi=>-(bP fl frs fb fg).T s i ((bP fl frs fb fg).cv c)) j+if j=c then(bP fl frs fb fg).D s else 0)*(bP fl frs fb fg).a j i)<=0:=U;have e:=vV (n:=fg.length) (f:=rwF frs i) (g:=mH (bP fl frs fb fg) s c) (W:=(whF (frs.getD i [])).1*(bP fl frs fb fg).D s) (v:=λj=>(whF (frs.getD i [])).2*((Lpd.spr frs.length s (λi=>-(bP fl frs fb fg).T s i ((bP fl frs fb fg).cv c)) j+if j=c then(bP fl frs fb fg).D s else 0)*(bP fl frs fb fg).a j i)) λj P=>by
  have h1:=Vf (fl:=fl) B hi P;have h2:=(Wq ok un j).2.2.2;generalize (Lpd.spr frs.length s (λi=>-(bP fl frs fb fg).T s i ((bP fl frs fb fg).cv c)) j+if j=c then(bP fl frs fb fg).D s else 0)=S at*;generalize (mH (bP fl frs fb fg) s c j).1=u at*;generalize (mH (bP fl frs fb fg) s c j).2=I at*;generalize (rwF frs i j).1=b at*;generalize (rwF frs i j).2=y at*;generalize (whF (frs.getD i [])).1=o at*;generalize (whF (frs.getD i [])).2=l at*;generalize (bP fl frs fb fg).a j i=a at*;generalize (bP fl frs fb fg).D s=D at*;grind
 rw[Lpd.sm_mul]at e;have p:=jR (n:=fg.length) (f:=rwF frs i) (g:=mH (bP fl frs fb fg) s c) (λj P=>Ep B hi P) λj _=>(Wq ok un j).1;have:=jZ4 (c:=(0,1)) (bF r.1 A) p e (by
  show _*1<=0*_;rw[dR,dY];exact Int.mul_nonpos_of_nonneg_of_nonpos (bX r.2) U)
 simpa using this
def Qk(B:BeO frs fb fg)(ok:(bP fl frs fb fg).Ok s)(io:jY (bP fl frs fb fg) s)(un:UnO (bP fl frs fb fg) s (some c)):0<(jV fg.length (λj=>fg.getD j (0,1)) (mH (bP fl frs fb fg) s c)).1:=by
 have g:=iV λf hf=>(B.gg f hf).1;have A:=ok.pos;have U:=ok.ways_goal io (c:=c) un.1;have U:(sm fg.length λj=>(Lpd.spr frs.length s (λi=>-(bP fl frs fb fg).T s i ((bP fl frs fb fg).cv c)) j+if j=c then(bP fl frs fb fg).D s else 0)*(bP fl frs fb fg).a j frs.length)=(bP fl frs fb fg).T s frs.length ((bP fl frs fb fg).cv c):=U;have e:=vV (n:=fg.length) (f:=λj=>fg.getD j (0,1)) (g:=mH (bP fl frs fb fg) s c) (W:=(whF fg).1*(bP fl frs fb fg).D s) (v:=λj=>(-(whF fg).2)*((Lpd.spr frs.length s (λi=>-(bP fl frs fb fg).T s i ((bP fl frs fb fg).cv c)) j+if j=c then(bP fl frs fb fg).D s else 0)*(bP fl frs fb fg).a j frs.length)) λj P=>by
  have h1:=Ny (fl:=fl) B P;have h2:=(Wq ok un j).2.2.2;show(fg.getD j (0,1)).1*(mH (bP fl frs fb fg) s c j).1*_=_*((fg.getD j (0,1)).2*(mH (bP fl frs fb fg) s c j).2);generalize (Lpd.spr frs.length s (λi=>-(bP fl frs fb fg).T s i ((bP fl frs fb fg).cv c)) j+if j=c then(bP fl frs fb fg).D s else 0)=S at*;generalize (mH (bP fl frs fb fg) s c j).1=u at*;generalize (mH (bP fl frs fb fg) s c j).2=I at*;generalize (fg.getD j (0,1)).1=r at*;generalize (fg.getD j (0,1)).2=y at*;generalize (whF fg).1=t at*;generalize (whF fg).2=b at*;generalize (bP fl frs fb fg).a j frs.length=a at*;generalize (bP fl frs fb fg).D s=D at*;grind
 rw[Lpd.sm_mul,U]at e;have p:=jR (n:=fg.length) (f:=λj=>fg.getD j (0,1)) (g:=mH (bP fl frs fb fg) s c) (λj P=>(B.gg _ (by rw[aP,aD P];exact cO P)).1) λj _=>(Wq ok un j).1;have R:=un.2.1;have R:(bP fl frs fb fg).T s frs.length ((bP fl frs fb fg).cv c)<0:=R;have z:0<(-(whF fg).2)*(bP fl frs fb fg).T s frs.length ((bP fl frs fb fg).cv c)*(jV fg.length (λj=>fg.getD j (0,1)) (mH (bP fl frs fb fg) s c)).2:=bF (Int.mul_pos_of_neg_of_neg #[] R) p;rw[←e]at z;have q:=bF g.1 A;refine Classical.byContradiction λM=>?_;have:=Int.mul_nonpos_of_nonpos_of_nonneg (a:=(jV fg.length (λj=>fg.getD j (0,1)) (mH (bP fl frs fb fg) s c)).1) #[] (bX q);lia
end
def G4(f:Int×Int):Prop:=BB 40000 f.1/\BB 40000 f.2
namespace Lpd
noncomputable def rowL(L:Lpd)(i:Nat):List Int:=ofF L.n (λj=>L.a j i)++[L.be i]
def rowL_length(L:Lpd)(i:Nat):(L.rowL i).length=L.n+1:=by unfold rowL;rw[bC,bI];rfl
def rowL_get(L:Lpd)(i:Nat)(h:j<L.n):(L.rowL i)[j]?=some (L.a j i):=by
 unfold rowL;rw[bV (by rw[bI];exact h),fO _ h]
def rowL_last(L:Lpd)(i:Nat):(L.rowL i)[L.n]?=some (L.be i):=by
 unfold rowL;rw[bO (by rw[bI];exact aM _),bI,gH];rfl
def rowL_mem{L:Lpd}{x:Int}(h:x∈L.rowL i):(∃j,j<L.n/\x=L.a j i)∨x=L.be i:=by
 unfold rowL at h;rcases cW.mp h with h |h
 .exact .inl (kT h)
 .exact .inr (bZ.mp h)
def jY3(L:Lpd):L.flip.flip=L:=by
 unfold flip;cases L with
 |mk m n a be fl=>cases fl<;>rfl
def flip_kept(L:Lpd)(s:Nat->Nat)(i:Nat):L.flip.keptL s i=(L.keptL s i).map λx=>-x:=by
 unfold keptL;rw[aY];have e1:(ofF (L.m+1) λk=>L.T s i (e1 k)).map (λx=>-x)=ofF (L.m+1) λk=>-L.T s i (e1 k):=by
  unfold ofF;rw[List.map_map];rfl
 rw[e1];show ofF (L.m+1) (λk=>L.flip.T s i (My.e1 k))++[L.flip.T s i L.be]=_;rw[Ml,jC λk _=>Ml];rfl
def Bk{L:Lpd}(o:L.flip.Okn s):L.Okn s:=by
 have:=jVV o;rwa [jY3]at this
theorem Lim.flip{L:Lpd}(h:L.Lim):L.flip.Lim:=
 #[h.m1,h.n1,h.ba,λs i c o hi=>by rw[Ml];exact(h.bc s i c (Bk o) hi).neg,λs i k o hi hk=>by rw[Ml];exact(h.bk s i k (Bk o) hi hk).neg,λs i o hi=>by rw[Ml];exact(h.bb s i (Bk o) hi).neg,λs o=>by rw[flip_D];exact(h.bD s (Bk o)).neg]
end Lpd
def ib(n:Int):Nat:=Builtin.Int.intBits n
def Qx{n:Int}{q:Nat}(h:BB q n):ib n<=q:=oZ h
def jZw(n:Int):BB (ib n) n:=by
 unfold ib BB Builtin.Int.intBits;by_cases h:n.natAbs=0
 .rw[h];exact dH _
 .rw[aF (by simpa using h)];exact Nat.lt_log2_self
def ib_neg(n:Int):ib (-n)=ib n:=by
 have h1:=Qx (n:=-n) (q:=ib n) (jZw n).neg;have h2:=Qx (n:=n) (q:=ib (-n)) (by have:=(jZw (-n)).neg;rwa [Int.neg_neg]at this);lia
structure Ub(n b r:Int):Prop where
 zz:n=0->r=0
 nn:0<=n->0<=r
 bb:∀q:Nat,(ib n:Int)+b<=q->BB q r
def str_up{n b:Int}(hb:0<=b)(R:0<=n):Ub n b (n*2^b.toNat):=by
 refine#[λz=>by rw[z,dY],λ_=>eF R (bX (Int.pow_pos (by decide))),λq J=>?_];refine BB.mono (m:=ib n+b.toNat) ?_ #[];show(n*2^b.toNat).natAbs<2^(ib n+b.toNat);rw[cH,Nat.pow_add,Int.natAbs_pow];exact Nat.mul_lt_mul_of_pos_right (jZw n) (dH _)
def Xg{n b:Int}(hb:0<=b)(R:0<=n):Ub n (-b) (n.fdiv (2^b.toNat)):=by
 obtain⟨m,rfl⟩:∃m:Nat,n=(m:Int):=#[n.toNat,#[]];have e:((m:Int)).fdiv (2^b.toNat)=((m/2^b.toNat:Nat):Int):=by
  rw[Int.fdiv_eq_ediv_of_nonneg _ (bX (Int.pow_pos (by decide)))]
  push_cast;rfl
 rw[e];refine#[λz=>by rw[show m=0 by lia,Nat.zero_div];rfl,λ_=>Int.natCast_nonneg _,λq J=>?_];show((m/2^b.toNat:Nat):Int).natAbs<2^q;rw[Int.natAbs_natCast];have h:m<2^ib m:=jZw (m:Int);refine(Nat.div_lt_iff_lt_mul (dH _)).mpr (bQ h ?_);rw[←Nat.pow_add];exact fY (by decide) #[]
def str_neg{n b r:Int}(h:Ub (-n) b r)(R:n<0):Ub n b (-r):=#[λz=>by lia,λz=>by lia,λq J=>(h.bb q (by rw[ib_neg];exact J)).neg]
def LpR(f:List (List Int))(m n:Nat):Lpd:=#[m,n,λj i=>(f.getD i []).getD j 0,λi=>(f.getD i []).getD n 0,false]
def jVk{f:List (List Int)}{n:Nat}(h1:f.length=m+1)(h2:∀r∈f,r.length=n+1):ofF (m+1) (LpR f m n).rowL=f:=by
 refine List.ext_getElem? λi=>?_;by_cases hi:i<m+1
 .have e:f[i]?=some f[i]:=aD #[];rw[fO _ hi,e]
  congr 1
  have Y:=h2 _ (aL e);have a:f.getD i []=f[i]:=by rw[aP,e];rfl
  refine List.ext_getElem? λj=>?_;by_cases P:j<n
  .rw[Lpd.rowL_get _ _ (show j<(LpR f m n).n from P)];show some ((f.getD i []).getD j 0)=_;rw[a,Fg #[]]
  .by_cases b:j=n
   .subst b;have:=(LpR f m j).rowL_last i;rw[show(LpR f m j).n=j from rfl]at this;rw[this];show some ((f.getD i []).getD j 0)=_;rw[a,Fg #[]]
   .rw[cL (by rw[Lpd.rowL_length];show n+1<=j;lia),cL #[]]
 .rw[cL (by rw[bI];lia),cL #[]]
def Fi:qK xs none (some (-1))=xs.take (xs.length-1):=by
 unfold qK;rw[HT.sIx_none,List.drop_zero,Nat.sub_zero]
 congr 1
 unfold HT.sIx;simp;lia
def cut_row(L:Lpd)(i:Nat):qK (map int (L.rowL i)) none (some (-1))=map int (ofF L.n λj=>L.a j i):=by
 rw[Fi,aA,Lpd.rowL_length,Nat.add_sub_cancel,←map_take]
 congr 1
 unfold Lpd.rowL;rw[List.take_append_of_le_length (by rw[bI];exact aM _),take_of_length_le (by rw[bI];exact aM _)]
structure xU(H:Hp)(a:Addr)(rps:List Addr)(L:Lpd):Prop where
 ha:H a=some (.lst (map ref rps))
 hr:eL H rps (ofF (L.m+1) L.rowL)
def xU.same{g:List Addr}{L:Lpd}(h:xU H a g L)(s:aQ H H'):xU H' a g L:=#[s _ _ h.ha,h.hr.same s]
def xU.len{g:List Addr}{L:Lpd}(h:xU H a g L):g.length=L.m+1:=by rw[h.hr.length,bI]
def xU.row{g:List Addr}{L:Lpd}(h:xU H a g L)(hi:i<=L.m):∃p,g[i]?=some p/\H p=some (.lst (map int (L.rowL i))):=by
 have Y:=h.len;obtain⟨p,hp⟩:∃p,g[i]?=some p:=#[_,aD #[]];obtain⟨r,e1,C⟩:=h.hr.get hp;obtain⟨_,rfl⟩:=gA e1;exact#[p,hp,C]
def xU.inv{g:List Addr}{L:Lpd}(h:xU H a g L){p:Addr}(hp:g[i]?=some p):i<=L.m/\H p=some (.lst (map int (L.rowL i))):=by
 obtain⟨r,e1,C⟩:=h.hr.get hp;obtain⟨h1,rfl⟩:=gA e1;exact#[#[],C]
def yU{l:List d}{x y:d}(e:(l++[x])[h]?=some y):(l[h]?=some y/\h<l.length)∨(h=l.length/\y=x):=by
 by_cases f:h<l.length
 .rw[bV f]at e;exact .inl #[e,f]
 .have t:h=l.length:=by have:=(aK.mp e).1;rw[bC]at this;simp at this;lia
  rw[bO #[],t,gH]at e;cases e;exact .inr #[t,rfl]
def va(f:Int×Int):Rat:=(f.1:Rat)/(f.2:Rat)
def mV(h:0<z):(0:Rat)<z:=by exact_mod_cast h
def lQ(h:0<f.2):va f*f.2=f.1:=by
 unfold va;have:=mV h;exact Rat.div_mul_cancel (by grind)
def nX{a b c:Rat}(hc:0<c)(h:a*c=b):a=b/c:=by
 have:c≠0:=by grind
 rw[←h,Rat.div_def,Rat.mul_assoc,Rat.mul_inv_cancel _ this,Rat.mul_one]
def Ea{a b c:Rat}(hc:0<c)(h:a*c=b*c):a=b:=by
 have h1:=nX hc h;have h2:=nX (a:=b) hc rfl;rw[h1,←h2]
def va_of{t b:Int}(hf:0<f.2)(hb:0<b)(e:f.1*b=t*f.2):va f=(t:Rat)/b:=by
 have h1:=lQ hf;have h2:=mV hf;have h3:=mV hb;have A:(f.1:Rat)*b=t*f.2:=by exact_mod_cast congrArg (λz:Int=>(z:Rat)) e
 refine nX h3 (Ea h2 ?_);rw[←A,←h1];grind
def Ws{t b x y:Int}(hb:0<b)(l:Lo t b x y):va (x,y)=(t:Rat)/b:=va_of l.pos hb l.eq
def qL{g:Int×Int}(hf:0<f.2)(hg:0<g.2):va f<=va g↔f.1*g.2<=g.1*f.2:=by
 have h1:=lQ hf;have h2:=lQ hg;have T:=mV hf;have l:=mV hg;have u:=Rat.mul_pos T l;have e1:va f*((f.2:Rat)*g.2)=((f.1*g.2:Int):Rat):=by rw[eY,←h1];grind
 have C:va g*((f.2:Rat)*g.2)=((g.1*f.2:Int):Rat):=by rw[eY,←h2];grind
 constructor
 .intro h;have:=Rat.mul_le_mul_of_nonneg_right h (c:=(f.2:Rat)*g.2) (by grind);rw[e1,C]at this;exact Rat.intCast_le_intCast.mp this
 .intro h;refine gJ (c:=(f.2:Rat)*g.2) ?_ u;rw[e1,C];exact Rat.intCast_le_intCast.mpr h
def vM:va (1,1)=1:=by unfold va;decide+kernel
def vT:va (0,1)=0:=by unfold va;decide+kernel
def qF(hf:0<f.2)(h:0<=f.1):0<=va f:=by
 have:=(qL (f:=(0,1)) (g:=f) (by decide) hf).mpr (by simpa using h);rwa [vT]at this
noncomputable def rsm:Nat->(Nat->Rat)->Rat
 |0,_=>0
 |n+1,f=>rsm n f+f n
def fC{f g:Nat->Rat}:∀{n:Nat},(∀k,k<n->f k=g k)->rsm n f=rsm n g
 |0,_=>rfl
 |n+1,h=>by
  show rsm n f+f n=rsm n g+g n;rw[fC (n:=n) λk hk=>h k #[],h n #[]]
def oN{f:Nat->Rat}{c:Rat}:∀{n:Nat},rsm n (λk=>f k*c)=rsm n f*c
 |0=>by show(0:Rat)=0*c;grind
 |n+1=>by
  show rsm n (λk=>f k*c)+f n*c=(rsm n f+f n)*c;rw[oN];grind
def vU{f g:Nat->Rat}:∀{n:Nat},rsm n (λk=>f k+g k)=rsm n f+rsm n g
 |0=>by show(0:Rat)=0+0;grind
 |n+1=>by
  show rsm n (λk=>f k+g k)+(f n+g n)=rsm n f+f n+(rsm n g+g n);rw[vU];grind
def rsm_le{f g:Nat->Rat}:∀{n:Nat},(∀k,k<n->f k<=g k)->rsm n f<=rsm n g
 |0,_=>by show(0:Rat)<=0;grind
 |n+1,h=>by
  show rsm n f+f n<=rsm n g+g n;have h1:=rsm_le (n:=n) λk hk=>h k #[];have h2:=h n #[];grind
def qT{f:Nat->Rat}:∀{n:Nat},(∀k,k<n->0<=f k)->0<=rsm n f
 |0,_=>by show(0:Rat)<=0;grind
 |n+1,h=>by
  show 0<=rsm n f+f n;have h1:=qT (n:=n) λk hk=>h k #[];have h2:=h n #[];grind
def Nk{f:Nat->Rat}:∀{n:Nat},(∀k,k<n->0<=f k)->rsm n f=0->∀k,k<n->f k=0
 |0,_,_,_,hk=>absurd hk (eO _)
 |n+1,h,e,k,hk=>by
  have e:rsm n f+f n=0:=e;have h1:=qT (n:=n) λk hk=>h k #[];have h2:=h n #[];by_cases R:k=n
  .subst R;grind
  .exact Nk (n:=n) (λk hk=>h k #[]) (by grind) k #[]
def nE{f:Nat->Rat}:∀{n:Nat},(∀k,k<n->f k=0)->rsm n f=0
 |0,_=>rfl
 |n+1,h=>by
  show rsm n f+f n=0;rw[nE (n:=n) λk hk=>h k #[],h n #[]];grind
def yI{f g:Nat->Int×Int}:∀{n:Nat},(∀k,k<n->0<(f k).2)->(∀k,k<n->0<(g k).2)->va (jV n f g)=rsm n λk=>va (f k)*va (g k)
 |0,_,_=>vT
 |n+1,hf,hg=>by
  have m:=yI (n:=n) (λk hk=>hf k #[]) (λk hk=>hg k #[]);have p:=jR (n:=n) (λk hk=>hf k #[]) (λk hk=>hg k #[]);have y:=hf n #[];have g2:=hg n #[];show va (jV (n+1) f g)=rsm n (λk=>va (f k)*va (g k))+va (f n)*va (g n);rw[←m];have Q:=lQ p;have U:=lQ y;have l:=lQ g2;have q:0<(jV (n+1) f g).2:=bF (bF p y) g2;refine Ea (mV q) ?_;rw[lQ q];show(((jV n f g).1*(f n).2*(g n).2+(f n).1*(g n).1*(jV n f g).2:Int):Rat)=(va (jV n f g)+va (f n)*va (g n))*(((jV n f g).2*(f n).2*(g n).2:Int):Rat);simp only[Rat.intCast_add,eY];rw[←Q,←U,←l];grind
def vP(a b:Rat):a/b=a*b⁻¹:=Rat.div_def a b
section
variable{fl:Bool}{frs:jD}{fb fg:gB}{s:Nat->Nat}
def va_eqv{g:Int×Int}(hf:0<f.2)(hg:0<g.2)(e:f.1*g.2=g.1*f.2):va f=va g:=by
 have h1:=(qL hf hg).mpr #[];have h2:=(qL hg hf).mpr #[];grind
end
def Lq{x y M:Int}(h:x*M=z*y)(g:Int.gcd x y=1):y∣M:=by
 have h1:y∣x*M:=#[z,by rw[h,fM]];have h2:=Int.natAbs_dvd_natAbs.mpr h1;rw[cH]at h2;have c:Nat.Coprime y.natAbs x.natAbs:=by show Nat.gcd _ _=1;rw[Nat.gcd_comm];exact g
 exact Int.natAbs_dvd_natAbs.mp (c.dvd_of_dvd_mul_left h2)
def va_le1(hf:0<f.2)(h:va f<=1):f.1<=f.2:=by
 rw[←vM]at h;have:=(qL hf (by decide)).mp h;simpa using this
def Dj{n:Nat}{x M:Int}(h:BB n M)(X:0<M)(d:x∣M):BB n x:=h.of_le (Nat.le_of_dvd #[] (Int.natAbs_dvd_natAbs.mpr d))
def va_add{g:Int×Int}(hf:0<f.2)(hg:0<g.2):va (lo2 (f.1*g.2+g.1*f.2) (f.2*g.2))=va f+va g:=by
 have z:=bF hf hg;rw[show va (lo2 (f.1*g.2+g.1*f.2) (f.2*g.2))=((f.1*g.2+g.1*f.2:Int):Rat)/((f.2*g.2:Int):Rat)from Ws z (dZ z)];symm;refine nX (mV z) ?_;have h1:=lQ hf;have h2:=lQ hg;simp only[Rat.intCast_add,eY];rw[←h1,←h2];grind
def va_sub{g:Int×Int}(hf:0<f.2)(hg:0<g.2):va (lo2 (f.1*g.2-g.1*f.2) (f.2*g.2))=va f-va g:=by
 have z:=bF hf hg;rw[show va (lo2 (f.1*g.2-g.1*f.2) (f.2*g.2))=((f.1*g.2-g.1*f.2:Int):Rat)/((f.2*g.2:Int):Rat)from Ws z (dZ z)];symm;refine nX (mV z) ?_;have h1:=lQ hf;have h2:=lQ hg;simp only[Rat.intCast_sub,eY];rw[←h1,←h2];grind
def va_pos{g:Int×Int}(hg:0<g.2)(z:0<g.1):0<va g:=by
 have h2:=lQ hg;have a:=mV z;have:=qF hg (bX z);by_cases e:va g=0
 .rw[e]at h2;grind
 .grind
noncomputable def lft(z:Int)(f:Int×Int):Int×Int:=lo2 (f.1*1+(1-z)*f.2) (f.2*1)
structure Mnf(frs:jD)(z:Int):Prop where
 at_:∃r∈frs,∃f∈r,z=f.1.fdiv f.2
 le:∀r∈frs,∀f∈r,z<=f.1.fdiv f.2
def va_lft(hf:0<f.2):va (lft z f)=va f+(1-z:Int):=by
 have:=va_add (g:=(1-z,1)) hf (by decide:(0:Int)<1);unfold lft;rw[this]
 congr 1
 unfold va;show((1-z:Int):Rat)/((1:Int):Rat)=_;rw[show((1:Int):Rat)=1 from rfl,Rat.div_def];grind
def fdiv_le(hf:0<f.2):((f.1.fdiv f.2:Int):Rat)<=va f:=by
 refine gJ (c:=(f.2:Rat)) ?_ (mV hf);rw[lQ hf,←eY];refine Rat.intCast_le_intCast.mpr ?_;have:=Int.mul_fdiv_add_fmod f.1 f.2;have h2:=Int.fmod_nonneg_of_pos f.1 hf;rw[fM];lia
def lft_ge(hf:0<f.2)(h:z<=f.1.fdiv f.2):1<=va (lft z f):=by
 rw[va_lft hf];have h1:=fdiv_le hf;have h2:(z:Rat)<=(f.1.fdiv f.2:Int):=Rat.intCast_le_intCast.mpr h;have h3:((1-z:Int):Rat)=1-z:=by rw[Rat.intCast_sub];rfl
 rw[h3];grind
def jVU{a b:Int}(h:0<b):(a.fdiv b).natAbs<=a.natAbs:=by
 have e:=Int.mul_fdiv_add_fmod a b;have h1:=Int.fmod_nonneg_of_pos a h;have h2:=Int.fmod_lt_of_pos a h;generalize a.fdiv b=q at e⊢;generalize a.fmod b=r at e h1 h2;by_cases J:0<=q
 .have:q<=b*q:=by have:=Int.mul_le_mul_of_nonneg_right (show(1:Int)<=b by lia) J;lia
  lia
 .have:b*(q+1)<=q+1:=by have:=Int.mul_le_mul_of_nonpos_right (show(1:Int)<=b by lia) (show q+1<=0 by lia);lia
  have C:b*(q+1)=b*q+b:=by rw[Int.mul_add,dR]
  lia
def Mnf.bb{frs:jD}{n:Nat}(h:Mnf frs z)(hg:∀r∈frs,∀f∈r,0<f.2/\BB n f.1/\BB n f.2):BB (n+1) (1-z):=by
 obtain⟨r,hr,f,hf,rfl⟩:=h.at_;obtain⟨y,b1,_⟩:=hg r hr f hf;have h1:BB n (f.1.fdiv f.2):=b1.of_le (jVU y);have:(f.1.fdiv f.2).natAbs<2^n:=h1;show(1-f.1.fdiv f.2).natAbs<2^(n+1);rw[iH];have:=dH n;lia
def jZ3{f:Nat->Int}:∀{n:Nat},((sm n f:Int):Rat)=rsm n λk=>((f k:Int):Rat)
 |0=>rfl
 |n+1=>by
  show((sm n f+f n:Int):Rat)=rsm n (λk=>((f k:Int):Rat))+((f n:Int):Rat);rw[Rat.intCast_add,jZ3]
structure WoR(frs:jD)(n:Nat):Prop where
 m1:1<=frs.length
 m2:frs.length<=100
 n1:1<=n
 n2:n<=100
 hr:∀r∈frs,r.length=n
 hg:∀r∈frs,∀f∈r,0<f.2/\BB 4000 f.1/\BB 4000 f.2
def Ll{S:Int}(j:0<S):(lo2 u S).2∣S:=Lq (dZ (t:=u) j).eq (dZ j).cop
structure Ent(S N:Int)(f:Int×Int):Prop where
 p:0<f.2
 c:Int.gcd f.1 f.2=1
 d:f.2∣S
 e:f.1*S=N*f.2
def ent_lft{S:Int}(j:0<S):Ent S (u+(1-z)*S) (lft z (lo2 u S)):=by
 have l:=dZ (t:=u) j;have I:0<(lo2 u S).2*1:=by have:=l.pos;lia
 have Z:=dZ (t:=(lo2 u S).1*1+(1-z)*(lo2 u S).2) I;have d0:(lo2 u S).2∣S:=Ll j;have e1:=l.eq;have C:=Z.eq;have T:=l.pos;refine#[Z.pos,Z.cop,?_,?_]
 .exact fN (Lq C Z.cop) (by rw[dR];exact d0)
 .show(lo2 ((lo2 u S).1*1+(1-z)*(lo2 u S).2) ((lo2 u S).2*1)).1*S=(u+(1-z)*S)*(lo2 ((lo2 u S).1*1+(1-z)*(lo2 u S).2) ((lo2 u S).2*1)).2;generalize (lo2 ((lo2 u S).1*1+(1-z)*(lo2 u S).2) ((lo2 u S).2*1)).1=X at C⊢;generalize (lo2 ((lo2 u S).1*1+(1-z)*(lo2 u S).2) ((lo2 u S).2*1)).2=Y at C⊢;generalize (lo2 u S).1=A at e1 C;generalize (lo2 u S).2=B at e1 C T;refine eX (show B≠0 by lia) ?_;have:X*S*B=X*(B*1)*S:=by grind
  rw[this,C];have:(A*1+(1-z)*B)*Y*S=(A*S+(1-z)*B*S)*Y:=by grind
  rw[this,e1];grind
def tR{x S N d:Int}(j:0<S)(d0:0<=d)(a:d<=S)(e:x*S=N*d):x.natAbs<=N.natAbs:=by
 have h:x.natAbs*S.natAbs=N.natAbs*d.natAbs:=by rw[←cH,e,cH]
 have h2:N.natAbs*d.natAbs<=N.natAbs*S.natAbs:=Nat.mul_le_mul_left _ #[];exact Nat.le_of_mul_le_mul_right (show x.natAbs*S.natAbs<=N.natAbs*S.natAbs by lia) #[]
def ent_bb{S N:Int}{q:Nat}(h:Ent S N f)(j:0<S)(K:BB q N):BB q f.1:=K.of_le (tR j (bX h.p) (Int.le_of_dvd j h.d) h.e)
structure RwE(S:Int)(q:Nat)(row:gB):Prop where
 h:∀f∈row,∃N,Ent S N f/\BB q N
def RwE.lcd{S:Int}{q:Nat}{row:gB}(R:RwE S q row):lc row∣S:=(yR row 1 (by decide) λf hf=>let⟨_,e,_⟩:=R.h f hf;e.p).2.2.2 S (Int.one_dvd _) λf hf=>let⟨_,e,_⟩:=R.h f hf;e.d
def RwE.clr{S:Int}{q:Nat}{row:gB}(R:RwE S q row)(j:0<S):∀x∈clr row,BB q x:=λx hx=>by
 obtain⟨f,hf,rfl⟩:=dD.mp hx;obtain⟨N,e,c⟩:=R.h f hf;have hp:∀f∈row,0<f.2:=λf hf=>let⟨_,e,_⟩:=R.h f hf;e.p;have w:=jJZ hp hf;have lp:0<lc row:=Mi hp;have le:=e.e;have D:=e.p;refine c.of_le (tR j (bX lp) (Int.le_of_dvd j R.lcd) ?_);refine eX (show f.2≠0 by lia) ?_;have:f.1*(lc row).fdiv f.2*S*f.2=f.1*(lc row).fdiv f.2*f.2*S:=by grind
 rw[this,w];have:f.1*lc row*S=f.1*S*lc row:=by grind
 rw[this,le];grind
def RwE.lc_bb{S:Int}{q:Nat}{row:gB}(R:RwE S q row)(j:0<S)(e:BB k S):BB k (lc row):=Dj e j R.lcd
def floor_b{S:Int}(j:0<S):(lo2 u S).1.fdiv (lo2 u S).2*S<=u/\u<((lo2 u S).1.fdiv (lo2 u S).2+1)*S:=by
 have l:=dZ (t:=u) j;have e:=l.eq;have p:=l.pos;have h:=Int.mul_fdiv_add_fmod (lo2 u S).1 (lo2 u S).2;have h1:=Int.fmod_nonneg_of_pos (lo2 u S).1 p;have h2:=Int.fmod_lt_of_pos (lo2 u S).1 p;generalize (lo2 u S).1.fdiv (lo2 u S).2=z at h⊢;generalize (lo2 u S).1.fmod (lo2 u S).2=r at h h1 h2;generalize (lo2 u S).1=A at e h;generalize (lo2 u S).2=B at e h p h2;have y:u*B=z*S*B+r*S:=by rw[←e,←h];grind
 have f:0<=r*S:=eF h1 (bX j);have i:r*S<B*S:=Int.mul_lt_mul_of_pos_right h2 j;constructor
 .exact Int.le_of_mul_le_mul_right (show z*S*B<=u*B by lia) p
 .refine Int.lt_of_mul_lt_mul_right (a:=B) ?_ (bX p);have:(z+1)*S*B=z*S*B+B*S:=by grind
  lia
noncomputable def tv(q:List Nat):List V:=q.map λn:Nat=>int (n:Int)
noncomputable def tk(q:List Nat):List Key:=q.map λn:Nat=>(Sum.inl (n:Int):Key)
def tU(q:List Nat):(tk q).map kV=tv q:=by
 unfold tk tv;rw[List.map_map];exact hU λn _=>rfl
def tv_app(a b:List Nat):tv (a++b)=tv a++tv b:=aY
def mU(q:List Nat):(tv q).length=q.length:=aA _
def Gy{x:V}(h:(tv q)[i]?=some x):∃n,q[i]?=some n/\x=.int (n:Nat):=by
 unfold tv at h;rw[aX]at h;cases e:q[i]? with
 |none=>rw[e]at h;cases h
 |some n=>rw[e]at h;exact#[n,rfl,(aV h).symm]
def tv_at{n:Nat}(h:q[i]?=some n):(tv q)[i]?=some (.int (n:Nat)):=by
 unfold tv;rw[aX,h];rfl
def yJ:∀{a b:List Nat},tk a=tk b->a=b
 | [],[],_=>rfl
 | [],_::_,h=>by simp [tk]at h
 |_::_,[],h=>by simp [tk]at h
 |x::a,y::b,h=>by
  simp only[tk,bR,List.cons.injEq,Sum.inl.injEq]at h;have h1:x=y:=by have:=h.1;lia
  rw[h1,yJ (a:=a) (b:=b) h.2]
noncomputable def dM:List Nat->fW
 | []=>[[]]
 |s::rs=>(dM rs).flatMap λb=>(range s).map λc=>b++[c]
noncomputable def digs:List Nat->Nat->List Nat
 | [],_=>[]
 |s::rs,n=>digs rs (n/s)++[n%s]
noncomputable def Cc:List Nat->Nat
 | []=>1
 |s::rs=>Cc rs*s
def Ru(s:Nat):∀m:Nat,range (m*s)=(range m).flatMap λi=>(range s).map λc=>i*s+c
 |0=>by simp
 |m+1=>by
  rw[Nat.succ_mul,List.range_add,gW,List.flatMap_append,Ru s m];simp
def jZ8:∀X:List Nat,(∀s∈X,1<=s)->dM X=(range (Cc X)).map (digs X)
 | [],_=>by simp [dM,Cc,digs]
 |s::X,h=>by
  have hs:1<=s:=h s (bT ..);have hr:=jZ8 X λt y=>h t (bK _ y);show(dM X).flatMap _=(range (Cc X*s)).map (digs (s::X));rw[hr,Ru,List.map_flatMap,List.flatMap_map]
  congr 1
  funext i
  rw[List.map_map];refine hU λc hc=>?_;have F:c<s:=fE.mp hc;show digs X i++[c]=digs X ((i*s+c)/s)++[(i*s+c)%s];rw[Nat.mul_comm i s,Nat.mul_add_div #[],Nat.div_eq_of_lt F,Nat.mul_add_mod,Nat.mod_eq_of_lt F,Nat.add_zero]
def Jy(X:List Nat)(h:∀s∈X,1<=s):(dM X).length=Cc X:=by rw[jZ8 X h,aA,gX]
def Fc:∀X:List Nat,(∀s∈X,s<=6)->Cc X<=6^X.length
 | [],_=>aM _
 |s::X,h=>by
  show Cc X*s<=6^(X.length+1);rw[iH];exact gO (Fc X λt y=>h t (bK _ y)) (h s (bT ..))
def iE:∀(X:List Nat)(q:List Nat),q∈dM X->q.length=X.length
 | [],q,h=>by simp [dM]at h;subst h;rfl
 |s::X,q,h=>by
  simp only[dM,iD,dD]at h;obtain⟨b,hb,c,_,rfl⟩:=h;simp [iE X b hb]
def mJ:∀X:List Nat,(dM X).Nodup
 | []=>by simp [dM]
 |s::X=>by
  show List.Nodup ((dM X).flatMap _);unfold List.Nodup;rw[List.pairwise_flatMap];refine#[λb _=>?_,(mJ X).imp λ{a b} f x hx y g e=>?_]
  .rw[List.pairwise_map];exact List.nodup_range.imp λ{c d} p e=>p (by simpa using e)
  .obtain⟨c,_,rfl⟩:=dD.mp hx;obtain⟨d,_,rfl⟩:=dD.mp g;have:=(List.append_inj' e rfl).1;exact f this
structure Sz(ns:List Nat):Prop where
 len:ns.length<=3
 ge:∀n∈ns,1<=n
 le:∀n∈ns,n<=6
def Sz.rev(h:Sz ns):Sz ns.reverse:=#[by rw[cU];exact h.len,λn R=>h.ge n (List.mem_reverse.mp R),λn R=>h.le n (List.mem_reverse.mp R)]
def Sz.take(h:Sz ns)(i:Nat):Sz (ns.take i):=#[by have:=h.len;rw[dO];lia,λn R=>h.ge n (mem_of_mem_take R),λn R=>h.le n (mem_of_mem_take R)]
def Sz.many(h:Sz ns):Cc ns<=216:=cK (Fc ns h.le) (cK (fY (by decide) h.len) (by decide))
def Sz.ord(h:Sz ns):(dM ns).length<=216:=by rw[Jy ns h.ge];exact h.many
noncomputable def wo{d:Type}(h:Nat)(q:List d):List d:=q.take h++q.drop (h+1)
def wo_tv(h:Nat)(q:List Nat):wo h (tv q)=tv (wo h q):=by
 unfold wo tv;rw[aY,map_take,List.map_drop]
def jZy{q:List d}(Y:h<q.length)(x:d):(wo h q).take h++x::(wo h q).drop h=q.set h x:=by
 have h1:(q.take h).length=h:=by rw[dO];lia
 unfold wo;rw[List.take_append,List.drop_append,h1,gH,List.take_zero,List.drop_zero,cA,List.drop_eq_nil_of_le #[],Lna,take_of_length_le #[],List.set_eq_take_append_cons_drop,aJ Y]
def Ps(H:Hp)(xs:List V)(qs:fW):Prop:=xs.length=qs.length/\∀(i:Nat)(q:List Nat),qs[i]?=some q->∃a:Addr,xs[i]?=some (ref a)/\H a=some (.tup (tv q))
def Cf(H H':Hp):Prop:=∀a xs,H a=some (.tup xs)->H' a=some (.tup xs)
def eN(s:aQ H H'):Cf H H':=λa F h=>s a _ h
def Sl{l:Addr}(h:H l=some (.lst xs)):Cf H (upd H l o):=λa T e=>by
 rw[bY (kS e h (by intro z;cases z))];exact e
def Ps.keep(p:Ps H xs qs)(k:Cf H H'):Ps H' xs qs:=#[p.1,λi q e=>let⟨a,h1,h2⟩:=p.2 i q e;#[a,h1,k a _ h2]]
def Ps.same(p:Ps H xs qs)(s:aQ H H'):Ps H' xs qs:=p.keep (eN s)
def Ps.nil:Ps H [] []:=#[rfl,λi q e=>by simp at e]
def Ps.app{X:fW}(p:Ps H xs qs)(r:Ps H ys X):Ps H (xs++ys) (qs++X):=by
 refine#[by rw[bC,bC,p.1,r.1],λi q e=>?_];by_cases hi:i<qs.length
 .rw[bV hi]at e;rw[bV (by rw[p.1];exact hi)];exact p.2 i q e
 .rw[bO #[]]at e;rw[bO (by rw[p.1];lia),p.1];exact r.2 _ q e
def Ps.one(h:H a=some (.tup (tv q))):Ps H [.ref a] [q]:=by
 refine#[rfl,λi f e=>?_];cases i with
 |zero=>simp at e;subst e;exact#[a,rfl,h]
 |succ i=>simp at e
def Ps.get{H:Hp}{xs:List V}{qs:fW}{i:Nat}{x:V}(p:Ps H xs qs)(h:xs[i]?=some x):∃q a,qs[i]?=some q/\x=.ref a/\H a=some (.tup (tv q)):=by
 have Y:i<qs.length:=by rw[←p.1];exact(aK.mp h).1
 obtain⟨a,e1,C⟩:=p.2 i qs[i] (aD Y);rw[h]at e1;exact#[qs[i],a,aD Y,aV e1,C]
def Ps.at(p:Ps H xs qs)(h:i<qs.length):∃q a,qs[i]?=some q/\xs[i]?=some (.ref a)/\H a=some (.tup (tv q)):=by
 obtain⟨a,e1,C⟩:=p.2 i qs[i] (aD h);exact#[qs[i],a,aD h,e1,C]
def pS{n:Nat}(h:n<=216):n<=sizeLine:=by rw[sizeLine_eq];lia
def small'{n:Nat}(h:n<=216):n<sizeLine:=by rw[sizeLine_eq];lia
def jJJ:qK xs none (some (h:Int))=xs.take h:=by
 unfold qK;rw[HT.sIx_none,HT.sIx_nat,List.drop_zero,Nat.sub_zero];by_cases e:h<=xs.length
 .rw[Nat.min_eq_left e]
 .rw[Nat.min_eq_right #[],cB,take_of_length_le #[]]
def Ob:qK xs (some (h:Int)) none=xs.drop h:=by
 unfold qK;rw[HT.sIx_none,HT.sIx_nat];by_cases e:h<=xs.length
 .rw[Nat.min_eq_left e,take_of_length_le (by rw[List.length_drop];lia)]
 .rw[Nat.min_eq_right #[],List.drop_eq_nil_of_le (aM _),List.drop_eq_nil_of_le #[]];simp
def Bb(xs:List V)(lo hi:Option Int):(qK xs lo hi).length<=xs.length:=Ad xs lo hi
def Ec{l:List d}{x:d}(h:l.Nodup)(e:l[i]?=some x):x∉l.take i:=by
 intro hm;have h2:(l.take (i+1)).Nodup:=(List.take_sublist (i+1) l).nodup h;have a:l.take (i+1)=l.take i++[x]:=by rw[List.take_add_one,e];rfl
 rw[a,List.nodup_append]at h2;exact h2.2.2 x hm x (List.mem_singleton_self x) rfl
def sD(H:Hp)(kvs:List (List Key×V))(A:List Nat->List V)(q:List Nat):Prop:=∃l,kY kvs (tk q)=some (.ref l)/\H l=some (.lst (A q))
def sD.same(c:sD H kvs A q)(s:aQ H H'):sD H' kvs A q:=let⟨l,h1,h2⟩:=c;#[l,h1,s _ _ h2]
def Mu{k:List Key}{v:V}(h:kY kvs k=some v):∃p∈kvs,p.1=k/\p.2=v:=by
 unfold kY at h;obtain⟨p,hp,e⟩:=Option.map_eq_some_iff.mp h;exact#[p,List.mem_of_find?_eq_some hp,by have:=List.find?_some hp;simpa using this,e]
def Vj:∀(X q:List Nat),q∈dM X->∀(i n c:Nat),X.reverse[i]?=some n->q[i]?=some c->c<n
 | [],q,h=>by intro i n c e;simp at e
 |s::X,q,h=>by
  simp only[dM,iD,dD,fE]at h;obtain⟨b,hb,x,hx,rfl⟩:=h;intro i n c e1 C;have Y:=iE X b hb;rw[List.reverse_cons]at e1;by_cases hi:i<X.length
  .rw[bV (by rw[cU];exact hi)]at e1;rw[bV (by rw[Y];exact hi)]at C;exact Vj X b hb i n c e1 C
  .rw[bO (by rw[cU];lia),cU]at e1;rw[bO (by rw[Y];lia),Y]at C;cases e3:i-X.length with
   |zero=>rw[e3]at e1 C;simp at e1 C;lia
   |succ k=>rw[e3]at e1;simp at e1
def Kc(H:Hp)(kvs:List (List Key×V))(A:List Nat->List V)(qs:fW):Prop:=kvs.length=qs.length/\∀(i:Nat)(q:List Nat),qs[i]?=some q->∃l,kvs[i]?=some (tk q,ref l)/\H l=some (.lst (A q))
def Uu:∀{kvs:List (List Key×V)},(kvs.map (·.1)).Nodup->∀(i:Nat){k:List Key}{v:V},kvs[i]?=some (k,v)->kY kvs k=some v
 | [],_,i,k,v,h=>by simp at h
 |p::kvs,nd,i,k,v,h=>by
  rw[bR,List.nodup_cons]at nd;cases i with
  |zero=>
   simp at h;subst h;exact kJ rfl
  |succ i=>
   simp at h;have hm:k∈kvs.map (·.1):=dD.mpr #[_,aL h,rfl];rw[kK (λe=>nd.1 (by rw[e];exact hm))];exact Uu nd.2 i h
def Kc.keys(h:Kc H kvs A qs):kvs.map (·.1)=qs.map tk:=by
 refine List.ext_getElem? λi=>?_;rw[aX,aX];cases e:qs[i]? with
 |none=>
  have:kvs[i]?=none:=by
   rw[List.getElem?_eq_none_iff]at e⊢;rw[h.1];exact e
  rw[this];rfl
 |some q=>
  obtain⟨l,e1,_⟩:=h.2 i q e;rw[e1];rfl
def Kc.cells(h:Kc H kvs A qs)(nd:qs.Nodup):∀q∈qs,sD H kvs A q:=by
 intro q J;obtain⟨i,hi,e⟩:=List.getElem_of_mem J;obtain⟨l,e1,C⟩:=h.2 i q (by rw[aD hi,e]);refine#[l,Uu ?_ i e1,C];rw[h.keys];unfold List.Nodup;rw[List.pairwise_map];exact nd.imp λf e=>f (yJ e)
def Kc.same(h:Kc H kvs A qs)(s:aQ H H'):Kc H' kvs A qs:=#[h.1,λi q e=>let⟨l,e1,e2⟩:=h.2 i q e;#[l,e1,s _ _ e2]]
def Kc.snoc{b:List Nat}{l:Addr}(h:Kc H kvs A (qs.take i))(hb:qs[i]?=some b)(Y:H l=some (.lst (A b))):Kc H (kvs++[(tk b,.ref l)]) A (qs.take (i+1)):=by
 rw[dI hb];refine#[by rw[bC,bC,h.1];rfl,λj q e=>?_];by_cases P:j<(qs.take i).length
 .rw[bV P]at e;rw[bV (by rw[h.1];exact P)];exact h.2 j q e
 .rw[bO #[]]at e;rw[bO (by rw[h.1];lia),h.1];cases z:j-(qs.take i).length with
  |zero=>rw[z]at e;simp at e;subst e;exact#[l,rfl,Y]
  |succ n=>rw[z]at e;simp at e
def Kc.new{b:List Nat}(h:Kc H kvs A (qs.take i))(nd:qs.Nodup)(hb:qs[i]?=some b):kY kvs (tk b)=none:=by
 cases e:kY kvs (tk b)with
 |none=>rfl
 |some v=>
  obtain⟨p,hp,e1,_⟩:=Mu e;have hm:tk b∈kvs.map (·.1):=dD.mpr #[p,hp,e1];rw[h.keys]at hm;obtain⟨q,J,eq⟩:=dD.mp hm;rw[yJ eq]at J;exact absurd J (Ec nd hb)
def Kc.off(h:Kc H kvs A qs)(k:∀b F,H b=some (.lst F)->H' b=some (.lst F)):Kc H' kvs A qs:=#[h.1,λi q e=>let⟨l,e1,e2⟩:=h.2 i q e;#[l,e1,k _ _ e2]]
def Kc.cong{a:List Nat->List V}(h:Kc H kvs A qs)(k:∀q∈qs,a q=A q):Kc H kvs a qs:=#[h.1,λi q e=>let⟨l,e1,e2⟩:=h.2 i q e;#[l,e1,by rw[k q (aL e)];exact e2]]
def Nt:∀(X q:List Nat),q.length=X.length->(∀(i n c:Nat),X.reverse[i]?=some n->q[i]?=some c->c<n)->q∈dM X
 | [],q,hl,_=>by
  have:q=[]:=List.eq_nil_of_length_eq_zero hl;subst this;simp [dM]
 |s::X,q,hl,h=>by
  rw[dB]at hl;have f:X.length<q.length:=#[];have J:q[X.length]?=some q[X.length]:=aD f;have e:q=q.take X.length++[q[X.length]]:=by
   have:=dI J;rw[take_of_length_le #[]]at this;exact this
  have hb:q.take X.length∈dM X:=by
   refine Nt X _ (by rw[dO];lia) λi n c e1 C=>?_;have hi:i<X.length:=by have:=(aK.mp e1).1;rwa [cU]at this
   refine h i n c ?_ ?_
   .rw[List.reverse_cons,bV (by rw[cU];exact hi)];exact e1
   .rw[List.getElem?_take_of_lt hi]at C;exact C
  have hc:q[X.length]<s:=by
   refine h X.length s _ ?_ J;rw[List.reverse_cons,bO (by rw[cU];lia),cU,gH];rfl
  simp only[dM,iD,dD,fE];exact#[_,hb,_,hc,e.symm]
def Np{n:Nat}(J:q∈dM ns.reverse)(R:ns[i]?=some n)(hc:c<n):q.set i c∈dM ns.reverse:=by
 refine Nt _ _ (by rw[length_set];exact iE _ q J) λj g k e1 C=>?_;rw[List.reverse_reverse]at e1;by_cases P:j=i
 .subst P;rw[R]at e1;obtain rfl:=aV e1;have Y:j<q.length:=by
   have:=(aK.mp C).1;rwa [length_set]at this
  rw[List.getElem?_set_self Y]at C;obtain rfl:=aV C;exact hc
 .rw[List.getElem?_set_ne #[]]at C;exact Vj _ q J j g k (by rw[List.reverse_reverse];exact e1) C
noncomputable def Bq:fW->fW
 | []=>[[]]
 |c::rs=>(Bq rs).flatMap λb=>c.map λx=>b++[x]
def Xj:∀X:List Nat,dM X=Bq (X.map range)
 | []=>rfl
 |s::X=>by show(dM X).flatMap _=(Bq (X.map range)).flatMap _;rw[Xj X]
def Jx:∀u:fW,(Bq u).length=Cc (u.map List.length)
 | []=>rfl
 |c::rs=>by
  show((Bq rs).flatMap _).length=Cc (rs.map List.length)*c.length;rw[←Jx rs];generalize Bq rs=l
  induction l with
  |nil=>simp
  |cons b l ih=>rw[List.flatMap_cons,bC,aA,ih,dB,Nat.succ_mul];lia
def Rv:∀(cs:fW)(q:List Nat),q∈Bq cs->q.length=cs.length
 | [],q,h=>by simp [Bq]at h;subst h;rfl
 |c::rs,q,h=>by
  simp only[Bq,iD,dD]at h;obtain⟨b,hb,x,_,rfl⟩:=h;simp [Rv rs b hb]
structure Ch(cs:fW):Prop where
 len:cs.length<=3
 le:∀c∈cs,c.length<=6
def Ch.rev(h:Ch cs):Ch cs.reverse:=#[by rw[cU];exact h.len,λn R=>h.le n (List.mem_reverse.mp R)]
def Ch.many(h:Ch cs):(Bq cs).length<=6^cs.length:=by
 rw[Jx];have:=Fc (cs.map List.length) λs hs=>by obtain⟨c,hc,rfl⟩:=dD.mp hs;exact h.le c hc
 rwa [aA]at this
def Lg(H:Hp)(xs:List V)(cs:fW):Prop:=xs.length=cs.length/\∀(i:Nat) c,cs[i]?=some c->∃a:Addr,xs[i]?=some (.ref a)/\H a=some (.lst (tv c))
def Lg.same(h:Lg H xs cs)(s:aQ H H'):Lg H' xs cs:=#[h.1,λi n e=>let⟨c,e1,e2⟩:=h.2 i n e;#[c,e1,s _ _ e2]]
def Lg.nil:Lg H [] []:=#[rfl,λi q e=>by simp at e]
def Lg.app{X:fW}(p:Lg H xs qs)(r:Lg H ys X):Lg H (xs++ys) (qs++X):=by
 refine#[by rw[bC,bC,p.1,r.1],λi q e=>?_];by_cases hi:i<qs.length
 .rw[bV hi]at e;rw[bV (by rw[p.1];exact hi)];exact p.2 i q e
 .rw[bO #[]]at e;rw[bO (by rw[p.1];lia),p.1];exact r.2 _ q e
def Lg.one(h:H a=some (.lst (tv q))):Lg H [.ref a] [q]:=by
 refine#[rfl,λi f e=>?_];cases i with
 |zero=>simp at e;subst e;exact#[a,rfl,h]
 |succ i=>simp at e
def Lg.snoc{c:List Nat}(h:Lg H xs cs)(hc:H a=some (.lst (tv c))):Lg H (xs++[.ref a]) (cs++[c]):=h.app (.one hc)
def Lg.get{H:Hp}{xs:List V}{cs:fW}{i:Nat}{x:V}(h:Lg H xs cs)(e:xs[i]?=some x):∃c a,cs[i]?=some c/\x=.ref a/\H a=some (.lst (tv c)):=by
 have Y:i<cs.length:=by rw[←h.1];exact(aK.mp e).1
 obtain⟨c,e1,C⟩:=h.2 i cs[i] (aD Y);rw[e]at e1;exact#[cs[i],c,aD Y,aV e1,C]
def wE(h:qs.Nodup):(qs.map tk).Nodup:=by
 unfold List.Nodup;rw[List.pairwise_map];exact h.imp λ{a b} f e=>f (yJ e)
noncomputable def Dg(m d:Addr):List (Str×V):=hJ "cells" (.ref d) (hJ "many" (.ref m) [])
structure xJ(K:aR)(H:Hp)(t:Addr)(ns:List Nat)(cont:List Nat->List V):Prop where
 ob:∃dx m d kv,H t=some (.ins (eI K "Table") dx (Dg m d))/\H m=some (.lst (tv ns))/\H d=some (.dT kv)/\∀q∈dM ns.reverse,sD H kv cont q
def cm:¬("many":Str)="cells":=by decide+kernel
def Il(m d:Addr):(Dg m d).lookup ("many":Str)=some (.ref m):=by
 unfold Dg;rw[lD,aF cm,lD,aJ rfl]
def Ox(m d:Addr):(Dg m d).lookup ("cells":Str)=some (.ref d):=by
 unfold Dg;rw[lD,aJ rfl]
def Lp(m d:Addr){x:Str}(h1:¬x="cells")(h2:¬x="many"):(Dg m d).lookup x=none:=by
 unfold Dg;rw[lD,aF h1,lD,aF h2]
 all_goals rfl
def xJ.same{t:Addr}(h:xJ K H t ns A)(s:aQ H H'):xJ K H' t ns A:=let⟨dx,m,d,kv,h1,h2,h3,h4⟩:=h.ob;#[dx,m,d,kv,s _ _ h1,s _ _ h2,s _ _ h3,λq J=>(h4 q J).same s]
def xJ.ins{K:aR}{H:Hp}{t:Addr}{ns:List Nat}{A:List Nat->List V}(h:xJ K H t ns A):∃f m d,H t=some (.ins (eI K "Table") f (Dg m d)):=let⟨f,m,d,_,h1,_⟩:=h.ob;#[f,m,d,h1]
def lo_mk{T B x y:Int}(t:0<B)(d:0<y)(hc:Int.gcd x y=1)(e:x*B=T*y):Lo T B x y:=by
 have cop:Nat.Coprime x.natAbs y.natAbs:=hc;have en:x.natAbs*B.natAbs=T.natAbs*y.natAbs:=by rw[←cH,←cH,e]
 refine#[d,hc,e,?_,?_]
 .by_cases h:T=0
  .rw[h,dY]at e;rcases Int.mul_eq_zero.mp e with z |z
   .rw[z];exact dN _
   .omega
  .exact Nat.le_of_dvd #[] (cop.dvd_of_dvd_mul_right #[_,en.symm])
 .exact Nat.le_of_dvd #[] (cop.symm.dvd_of_dvd_mul_left #[T.natAbs,by rw[en,Nat.mul_comm]])
noncomputable def ins(h c:Nat)(b:List Nat):List Nat:=b.take h++c::b.drop h
def jZs{X Y B T x y:Int}(h:Lo X Y x y)(Z:0<Y)(t:0<B)(e:X*B=T*Y):Lo T B x y:=by
 refine lo_mk t h.pos h.cop ?_;have C:=h.eq;refine eX (a:=Y) #[] ?_
 calc x*B*Y=x*Y*B:=by ac_rfl
  _=X*B*y:=by rw[C];ac_rfl
  _=T*y*Y:=by rw[e];ac_rfl
def lo_plus{a b c d B S T x y:Int}(h1:a*B=S*b)(h2:c*B=T*d)(hb:0<b)(hd:0<d)(t:0<B)(h:Lo (a*d+c*b) (b*d) x y):Lo (S+T) B x y:=by
 refine jZs h (bF hb hd) t ?_
 calc (a*d+c*b)*B=a*B*d+c*B*b:=by rw[Int.add_mul];congr 1<;>ac_rfl
  _=(S+T)*(b*d):=by rw[h1,h2,Int.add_mul];congr 1<;>ac_rfl
def lo_less{a b c d B S T x y:Int}(h1:a*B=S*b)(h2:c*B=T*d)(hb:0<b)(hd:0<d)(t:0<B)(h:Lo (a*d-c*b) (b*d) x y):Lo (S-T) B x y:=by
 refine jZs h (bF hb hd) t ?_
 calc (a*d-c*b)*B=a*B*d-c*B*b:=by rw[Int.sub_mul];congr 1<;>ac_rfl
  _=(S-T)*(b*d):=by rw[h1,h2,Int.sub_mul];congr 1<;>ac_rfl
def lo_prod{a b c d A B S T x y:Int}(h1:a*A=S*b)(h2:c*B=T*d)(hb:0<b)(hd:0<d)(v:0<A)(t:0<B)(h:Lo (a*c) (b*d) x y):Lo (S*T) (B*A) x y:=by
 refine jZs h (bF hb hd) (bF t v) ?_
 calc a*c*(B*A)=(a*A)*(c*B):=by ac_rfl
  _=S*T*(b*d):=by rw[h1,h2];ac_rfl
def SS_ex:∃S:Int,0<S/\∀y:Int,0<y->y<=1000037->y∣S:=by
 have k:∀n:Nat,∃S:Int,0<S/\∀y:Int,0<y->y<=n->y∣S:=by
  intro n
  induction n with
  |zero=>exact#[1,by decide,λy h1 h2=>by lia]
  |succ n ih=>
   obtain⟨S,p,h⟩:=ih;refine#[S*(n+1),bF p #[],λy h1 h2=>?_];by_cases e:y=n+1
   .exact#[S,by rw[e,fM]]
   .exact fN (h y h1 #[]) #[_,rfl]
 exact k 1000037
def SS:Int:=Classical.choose SS_ex
def vR:0<SS:=(Classical.choose_spec SS_ex).1
def SS_dvd{y:Int}(h:0<y)(h2:y<=1000037):y∣SS:=(Classical.choose_spec SS_ex).2 y h h2
def EnV(m:Nat)(H:Hp)(v:V):Prop:=∃a x y,v=.ref a/\H a=some (.tup [.int x,.int y])/\0<y/\y<=1000037/\BB m x
def enU(H:Hp)(v:V):Int:=match v with
 | .ref a=>match H a with
  |some (.tup [.int x,.int y])=>x*(SS/y)
  |_=>0
 |_=>0
def En(H:Hp)(v:V)(u:Int):Prop:=∃a x y,v=.ref a/\H a=some (.tup [.int x,.int y])/\0<y/\y<=1000037/\x*SS=u*y/\BB 40 x
def EnV.keep{v:V}(h:EnV m H v)(k:Cf H H'):EnV m H' v:=let⟨a,x,y,e,h1,r⟩:=h;#[a,x,y,e,k _ _ h1,r]
def En.keep{v:V}(h:En H v u)(k:Cf H H'):En H' v u:=let⟨a,x,y,e,h1,r⟩:=h;#[a,x,y,e,k _ _ h1,r]
def EnV.mono{n:Nat}{v:V}(h:EnV m H v)(k:m<=n):EnV n H v:=let⟨a,x,y,e,h1,h2,h3,b⟩:=h;#[a,x,y,e,h1,h2,h3,b.mono k]
def EnV.at{v:V}(h:EnV m H v):∃a x y,v=.ref a/\H a=some (.tup [.int x,.int y])/\0<y/\y<=1000037/\x*SS=enU H v*y/\BB m x:=by
 obtain⟨a,x,y,rfl,h1,y0,j,b⟩:=h;refine#[a,x,y,rfl,h1,y0,j,?_,b];have:enU H (.ref a)=x*(SS/y):=by unfold enU;simp only[h1]
 rw[this,fV,Int.ediv_mul_cancel (SS_dvd y0 j)]
def EnV.en{v:V}(h:EnV 40 H v):En H v (enU H v):=h.at
def vL(h n c:Nat):fW:=((range n).filter λo=>decide (o≠c)).map λo=>[h,c,o]
def Qj(h n:Nat):fW:=(range n).flatMap (vL h n)
def fQ(ns:List Nat)(i:Nat):fW:=(range i).flatMap λh=>Qj h (ns.getD h 0)
def Nm(h:Int):Prop:=0<=h/\BB 210 h
def jW8{zs:List Int}(h:i<zs.length):atI (map int zs) (i:Int)=some (.int (zs.getD i 0)):=by
 refine gU ?_;rw[aX,aP,aD h];rfl
def Nl{f:Nat->Nat->Rat}{m:Nat}:∀{n:Nat},rsm n (λi=>rsm m λj=>f i j)=rsm m λj=>rsm n λi=>f i j
 |0=>(nE λ_ _=>rfl).symm
 |n+1=>by
  show rsm n _+rsm m _=_;rw[Nl,←vU];exact fC λ_ _=>rfl
def wS(n:Nat)(p f:Nat->Rat):Rat:=rsm n λi=>p i*f i
def uA{n:Nat}{p f g:Nat->Rat}(h:∀i,i<n->f i=g i):wS n p f=wS n p g:=fC λi hi=>by rw[h i hi]
def wS_add{n:Nat}{p f g:Nat->Rat}:wS n p (λi=>f i+g i)=wS n p f+wS n p g:=by
 unfold wS;rw[←vU];exact fC λi _=>by grind
def wS_le{n:Nat}{p f g:Nat->Rat}(p0:∀i,0<=p i)(h:∀i,i<n->f i<=g i):wS n p f<=wS n p g:=rsm_le λi hi=>fR (h i hi) (p0 i)
def Zj{n:Nat}{p:Nat->Rat}{c:Rat}:wS n p (λ_=>c)=rsm n p*c:=oN
def Ut{n:Nat}{p q:Nat->Rat}{f:Nat->Nat->Rat}:wS n p (λi=>wS m q λj=>f i j)=wS m q λj=>wS n p λi=>f i j:=by
 have e:∀(n m:Nat)(p q:Nat->Rat)(f:Nat->Nat->Rat),wS n p (λi=>wS m q λj=>f i j)=rsm n λi=>rsm m λj=>p i*q j*f i j:=λn m p q f=>fC λi _=>by
  show p i*rsm m _=_;rw[Rat.mul_comm,←oN];exact fC λj _=>by grind
 rw[e,e,Nl];exact fC λj _=>fC λi _=>by grind
def Wn:∀(n:Nat)(y:Nat->Nat->Rat),(∀i j,0<=y i j)->∃p:Nat->Rat,(∀i,0<=p i)/\0<rsm (n+1) p/\∀j,j<n+1->rsm (n+1) (λi=>p i*y i j)=p j*rsm (n+1) λi=>y j i
 |0,y,_=>#[λ_=>1,λ_=>(by decide+kernel:(0:Rat)<=1),by show(0:Rat)<0+1;decide+kernel,λj P=>by
   have e:j=0:=#[];subst e;show(0:Rat)+1*y 0 0=1*(0+y 0 0);grind]
 |n+1,y,y0=>by
  have k:0<=rsm (n+1) λi=>y (n+1) i:=qT λi _=>y0 _ i;by_cases hr:(rsm (n+1) λi=>y (n+1) i)=0
  .have z:=Nk (λi _=>y0 (n+1) i) hr;have a:∀f:Nat->Rat,rsm (n+1) (λi=>(if i=n+1 then(1:Rat)else 0)*f i)=0:=λf=>nE λi hi=>by rw[aF #[]];grind
   refine#[λi=>if i=n+1 then 1 else 0,λi=>by dsimp only;split<;>decide+kernel,?_,λj P=>?_]
   .show 0<rsm (n+1) _+(if n+1=n+1 then(1:Rat)else 0);rw[aJ rfl,nE λi hi=>aF #[]];decide+kernel
   .show rsm (n+1) _+(if n+1=n+1 then(1:Rat)else 0)*y (n+1) j=(if j=n+1 then(1:Rat)else 0)*(rsm (n+1) _+y j (n+1));rw[a,aJ rfl];by_cases e:j=n+1
    .subst e;rw[aJ rfl,hr];grind
    .rw[aF e,z j #[]];grind
  .have c:0<rsm (n+1) λi=>y (n+1) i:=by grind
   generalize T:(rsm (n+1) λi=>y (n+1) i)=r at*;have d:r*r⁻¹=1:=Rat.mul_inv_cancel r (by grind);have Y:0<=r⁻¹:=Rat.le_of_lt (Rat.inv_pos.mpr c);obtain⟨p,p0,J,l⟩:=Wn n (λi j=>y i j+y i (n+1)*y (n+1) j*r⁻¹) λi j=>Rat.add_nonneg (y0 i j) (gM (gM (y0 _ _) (y0 _ _)) Y);have b:0<=rsm (n+1) λi=>p i*y i (n+1):=qT λi _=>gM (p0 i) (y0 _ _);generalize B:(rsm (n+1) λi=>p i*y i (n+1))=t at*;have F:∀f:Nat->Rat,rsm (n+1) (λi=>(if i=n+1 then t*r⁻¹ else p i)*f i)=rsm (n+1) λi=>p i*f i:=λf=>fC λi hi=>by rw[aF #[]]
   refine#[λi=>if i=n+1 then t*r⁻¹ else p i,λi=>by dsimp only;split;exact gM b Y;exact p0 i,?_,λj P=>?_]
   .show 0<rsm (n+1) _+(if n+1=n+1 then t*r⁻¹ else p (n+1));rw[aJ rfl,fC (g:=p) λi hi=>aF #[]];have:=gM b Y;grind
   .show rsm (n+1) _+(if n+1=n+1 then t*r⁻¹ else p (n+1))*y (n+1) j=(if j=n+1 then t*r⁻¹ else p j)*(rsm (n+1) _+y j (n+1));rw[F λi=>y i j,aJ rfl];by_cases e:j=n+1
    .subst e;rw[aJ rfl,B,T];grind
    .rw[aF e];have h:=l j #[];have Q:rsm (n+1) (λi=>p i*(y i j+y i (n+1)*y (n+1) j*r⁻¹))=rsm (n+1) (λi=>p i*y i j)+t*(y (n+1) j*r⁻¹):=by
      rw[←B,←oN,←vU];exact fC λi _=>by grind
     have U:rsm (n+1) (λi=>y j i+y j (n+1)*y (n+1) i*r⁻¹)=rsm (n+1) (λi=>y j i)+r*(y j (n+1)*r⁻¹):=by
      rw[←T,←oN,←vU];exact fC λi _=>by grind
     rw[Q,U]at h;grind
def Hx{n:Nat}{y:Nat->Nat->Rat}{p:Nat->Rat}(h:∀j,j<n->rsm n (λi=>p i*y i j)=p j*rsm n λi=>y j i)(v:Nat->Rat):wS n p (λi=>rsm n λc=>y i c*(v c-v i))=0:=by
 have a:wS n p (λi=>rsm n λc=>y i c*(v c-v i))=rsm n (λc=>rsm n (λi=>p i*y i c)*v c)-rsm n λi=>p i*rsm n (λc=>y i c)*v i:=by
  have e1:rsm n (λc=>rsm n (λi=>p i*y i c)*v c)=rsm n λi=>rsm n λc=>p i*y i c*v c:=by
   rw[Nl (f:=λi c=>p i*y i c*v c)];exact fC λc _=>oN.symm
  have C:wS n p (λi=>rsm n λc=>y i c*(v c-v i))+rsm n (λi=>p i*rsm n (λc=>y i c)*v i)=rsm n λi=>rsm n λc=>p i*y i c*v c:=by
   unfold wS;rw[←vU];refine fC λi _=>?_;have b1:p i*rsm n (λc=>y i c*(v c-v i))=rsm n λc=>p i*y i c*(v c-v i):=by rw[Rat.mul_comm,←oN];exact fC λc _=>by grind
   have b2:p i*rsm n (λc=>y i c)*v i=rsm n λc=>p i*y i c*v i:=by rw[Rat.mul_comm (p i),←oN,←oN];exact fC λc _=>by grind
   rw[b1,b2,←vU];exact fC λc _=>by grind
  grind
 rw[a,fC (g:=λi=>p i*rsm n (λc=>y i c)*v i) λc hc=>by rw[h c hc]];grind
theorem jWy{n0 n1 n2:Nat}{y0 X v:Nat->Nat->Rat}{u0 u1 u2:Nat->Nat->Nat->Rat}(h0:∀i j,0<=y0 i j)(h1:∀i j,0<=X i j)(h2:∀i j,0<=v i j)(p0:0<n0)(T:0<n1)(m:0<n2)
  (h:∀i j k,i<n0->j<n1->k<n2->1<=(rsm n0 λc=>y0 i c*(u0 c j k-u0 i j k))+(rsm n1 λc=>X j c*(u1 i c k-u1 i j k))+rsm n2 λc=>v k c*(u2 i j c-u2 i j k)):False:=by
 obtain⟨n0,rfl⟩:∃n,n0=n+1:=#[n0-1,#[]];obtain⟨n1,rfl⟩:∃n,n1=n+1:=#[n1-1,#[]];obtain⟨n2,rfl⟩:∃n,n2=n+1:=#[n2-1,#[]];obtain⟨a,d,s,e⟩:=Wn n0 y0 h0;obtain⟨b,t,bs,be⟩:=Wn n1 X h1;obtain⟨c,c0,u,w⟩:=Wn n2 v h2;have l:=wS_le (n:=n0+1) d λi hi=>wS_le (n:=n1+1) t λj P=>wS_le (n:=n2+1) c0 λk hk=>h i j k hi P hk;have f:wS (n0+1) a (λi=>wS (n1+1) b λj=>wS (n2+1) c λk=>rsm (n0+1) λq=>y0 i q*(u0 q j k-u0 i j k))=0:=by
  rw[Ut,uA (g:=λ_=>0) λj _=>?_,Zj,gG];rw[Ut,uA (g:=λ_=>0) λk _=>Hx e λq=>u0 q j k,Zj,gG]
 have I:wS (n0+1) a (λi=>wS (n1+1) b λj=>wS (n2+1) c λk=>rsm (n1+1) λq=>X j q*(u1 i q k-u1 i j k))=0:=by
  rw[uA (g:=λ_=>0) λi _=>?_,Zj,gG];rw[Ut,uA (g:=λ_=>0) λk _=>Hx be λq=>u1 i q k,Zj,gG]
 have S:wS (n0+1) a (λi=>wS (n1+1) b λj=>wS (n2+1) c λk=>rsm (n2+1) λq=>v k q*(u2 i j q-u2 i j k))=0:=by
  rw[uA (g:=λ_=>0) λi _=>?_,Zj,gG];rw[uA (g:=λ_=>0) λj _=>Hx w λq=>u2 i j q,Zj,gG]
 simp only[wS_add,f,I,S,Zj]at l;have:=Rat.mul_pos s (Rat.mul_pos bs (Rat.mul_pos u (show(0:Rat)<1 by decide+kernel)));grind
def Ex{b:List Nat}(hb:b∈fQ ns ns.length):∃h c o n,b=[h,c,o]/\ns[h]?=some n/\c<n/\o<n/\o≠c:=by
 unfold fQ at hb;obtain⟨h,t,hb⟩:=iD.mp hb;unfold Qj at hb;obtain⟨c,hc,hb⟩:=iD.mp hb;unfold vL at hb;obtain⟨o,D,rfl⟩:=dD.mp hb;have h1:=fE.mp t;obtain⟨h2,h3⟩:=List.mem_filter.mp D;have e:ns.getD h 0=ns[h]:=by rw[aP,aD h1];rfl
 rw[e]at hc h2;exact#[h,c,o,_,rfl,aD h1,fE.mp hc,fE.mp h2,by simpa using h3]
structure TbE(K:aR)(H:Hp)(t:Addr)(ns:List Nat)(cont:List Nat->List V)(un:List Nat->Nat->Int):Prop where
 tab:xJ K H t ns cont
 sz:Sz ns
 en:∀q∈dM ns.reverse,∀h,h<ns.length->∃v,(cont q)[h]?=some v/\En H v (un q h)
def TbE.same{t:Addr}{un:List Nat->Nat->Int}(h:TbE K H t ns A un)(s:aQ H H'):TbE K H' t ns A un:=#[h.tab.same s,h.sz,λq J i hi=>let⟨v,e,n⟩:=h.en q J i hi;#[v,e,n.keep (eN s)]]
noncomputable def mo(un:List Nat->Nat->Int)(q b:List Nat):Int×Int:=if q[b.getD 0 0]?=some (b.getD 1 0)then lo2 (un (q.set (b.getD 0 0) (b.getD 2 0)) (b.getD 0 0)-un q (b.getD 0 0)) SS else(0,1)
def bb_sm3{f:Nat->Int}{b n:Nat}(h:∀k,k<n->BB b (f k))(R:n<=3):BB (b+n) (sm n f):=by
 induction n with
 |zero=>show(0:Int).natAbs<2^b;exact dH _
 |succ n ih=>
  have h1:=ih (λk hk=>h k #[]) #[];have h2:=(h n #[]).mono (show b<=b+n by lia);unfold BB at*;show(sm n f+f n).natAbs<2^(b+n+1);rw[iH];lia
noncomputable def lsm:fW->(List Nat->Rat)->Rat
 | [],_=>0
 |x::t,f=>f x+lsm t f
def oO{f:List Nat->Rat}{b:fW}:∀{a:fW},lsm (a++b) f=lsm a f+lsm b f
 | []=>by show lsm b f=0+lsm b f;grind
 |x::t=>by show f x+lsm (t++b) f=f x+lsm t f+lsm b f;rw[oO];grind
def iN{f g:List Nat->Rat}:∀{l:fW},(∀x∈l,f x=g x)->lsm l f=lsm l g
 | [],_=>rfl
 |x::t,h=>by show f x+lsm t f=g x+lsm t g;rw[h x (bT ..),iN λy d=>h y (bK _ d)]
def Mg{f g:List Nat->Rat}:∀{l:fW},(∀x∈l,f x<=g x)->lsm l f<=lsm l g
 | [],_=>Rat.le_refl
 |x::t,h=>by
  have h1:=h x (bT ..);have h2:=Mg (l:=t) λy d=>h y (bK _ d);show f x+lsm t f<=g x+lsm t g;grind
def mY{f:List Nat->Rat}{c:Rat}:∀{l:fW},lsm l (λx=>f x*c)=lsm l f*c
 | []=>by show(0:Rat)=0*c;grind
 |x::t=>by show f x*c+lsm t (λx=>f x*c)=(f x+lsm t f)*c;rw[mY];grind
def Et{f g:List Nat->Rat}:∀{l:fW},lsm l (λx=>f x+g x)=lsm l f+lsm l g
 | []=>by show(0:Rat)=0+0;grind
 |x::t=>by show f x+g x+lsm t (λx=>f x+g x)=f x+lsm t f+(g x+lsm t g);rw[Et];grind
def jZr:∀{l:fW},lsm l (λ_=>0)=0
 | []=>rfl
 |x::t=>by show 0+lsm t (λ_=>0)=0;rw[jZr];grind
def Xt{f:List Nat->List Nat->Rat}{m:fW}:∀{l:fW},lsm l (λx=>lsm m λy=>f x y)=lsm m λy=>lsm l λx=>f x y
 | []=>jZr.symm
 |x::t=>by show lsm m (f x)+lsm t _=lsm m λy=>f x y+lsm t λx=>f x y;rw[Xt,Et]
def Ed{f:List Nat->Rat}{p:List Nat->Bool}:∀{l:fW},lsm (l.filter p) f=lsm l λx=>if p x=true then f x else 0
 | []=>rfl
 |x::t=>by
  show _=(if p x=true then f x else 0)+lsm t λx=>if p x=true then f x else 0;rw[←Ed];by_cases h:p x=true
  .rw[gP h,aJ h];rfl
  .rw[gQ h,aF h];grind
def Lh{g:Nat->Rat}{f:List Nat->Rat}{l:fW}(h:∀j q,l[j]?=some q->g j=f q):rsm l.length g=lsm l f:=by
 have k:∀i,i<=l.length->rsm i g=lsm (l.take i) f:=by
  intro i
  induction i with
  |zero=>intro _;rfl
  |succ i ih=>
   intro hi;have e:l[i]?=some l[i]:=aD #[];rw[dI e,oO,←ih #[]];show rsm i g+g i=rsm i g+(f l[i]+0);rw[h i _ e];grind
 rw[k _ (aM _),cB]
def Xv{g:Nat->fW}{f:List Nat->Rat}:∀{n:Nat},lsm ((range n).flatMap g) f=rsm n λc=>lsm (g c) f
 |0=>rfl
 |n+1=>by rw[gW,List.flatMap_append,oO,Xv,List.flatMap_singleton];rfl
def Nv{p:Nat->Bool}{g:Nat->List Nat}{f:List Nat->Rat}:∀{n:Nat},lsm (((range n).filter p).map g) f=rsm n λo=>if p o=true then f (g o)else 0
 |0=>rfl
 |n+1=>by
  rw[gW,List.filter_append,aY,oO,Nv];show rsm n _+_=rsm n _+(if p n=true then f (g n)else 0);by_cases h:p n=true
  .rw[gP h,aJ h];show _+(f (g n)+0)=_;grind
  .rw[gQ h,aF h];rfl
def jZ2{f:Nat->Rat}{c:Nat}:∀{n:Nat},c<n->(∀k,k<n->k≠c->f k=0)->rsm n f=f c
 |0,h,_=>absurd h (eO _)
 |n+1,h,z=>by
  show rsm n f+f n=f c;by_cases e:c=n
  .rw[e,nE λk hk=>z k #[] #[]];grind
  .rw[jZ2 (n:=n) #[] λk hk=>z k #[],z n #[] #[]];grind
structure AdvR(qs bs:fW)(mv:List Nat->List Nat->Rat)(gv P Y:List Nat->Rat)(W:Rat):Prop where
 p0:∀q∈qs,0<=P q
 y0:∀b∈bs,0<=Y b
 one:lsm qs P=1
 gl:∀b∈bs,lsm qs (λq=>P q*mv q b)<=0
 wo:lsm qs (λq=>P q*gv q)=W
 nb:∀q∈qs,gv q<=lsm bs (λb=>Y b*mv q b)+W
def adv_of{bs:fW}{mv:List Nat->List Nat->Rat}{d X L:List Nat->Rat}{ym l:Rat}(o:∀q∈qs,0<=X q)(Z:∀b∈bs,0<=Y b)(hm:0<=ym)
  (f:∀b∈bs,lsm qs (λq=>mv q b*L q*X q)<=0) (p:lsm qs (λq=>L q*X q)<=1) (n:∀q∈qs,(d q+l)*L q<=lsm bs (λb=>Y b*(mv q b*L q))+ym*L q)
  (h:lsm qs (λq=>(d q+l)*L q*X q)=ym) (i:∀q∈qs,0<L q) (Q:∀q∈qs,1<=d q+l) (M:¬∀q∈qs,1<=lsm bs λb=>Y b*mv q b):AdvR qs bs mv d (λq=>X q*L q) Y (ym-l):=by
 have a:∀q∈qs,d q+l<=lsm bs (λb=>Y b*mv q b)+ym:=λq J=>by
  refine gJ (c:=L q) ?_ (i q J);have e:lsm bs (λb=>Y b*(mv q b*L q))=lsm bs (λb=>Y b*mv q b)*L q:=by rw[←mY];exact iN λb _=>by grind
  have:=n q J;rw[e]at this;grind
 have j:0<ym:=by
  by_cases z:ym=0
  .refine absurd (λq J=>?_) M;have h1:=a q J;have h2:=Q q J;grind
  .grind
 have m:lsm qs (λq=>X q*L q)=lsm qs λq=>L q*X q:=iN λq _=>by grind
 have k:ym<=ym*lsm qs λq=>L q*X q:=by
  have h1:ym<=lsm qs λq=>(lsm bs (λb=>Y b*mv q b)+ym)*(L q*X q):=by
   conv=>lhs;rw[←h]
   exact Mg λq J=>by
    have:=Rat.mul_le_mul_of_nonneg_right (a q J) (gM (Rat.le_of_lt (i q J)) (o q J));grind
  have h2:lsm qs (λq=>(lsm bs (λb=>Y b*mv q b)+ym)*(L q*X q))=lsm bs (λb=>Y b*lsm qs λq=>mv q b*L q*X q)+ym*lsm qs λq=>L q*X q:=by
   have e1:lsm bs (λb=>Y b*lsm qs λq=>mv q b*L q*X q)=lsm qs λq=>lsm bs (λb=>Y b*mv q b)*(L q*X q):=by
    symm;rw[iN (l:=qs) (g:=λq=>lsm bs λb=>Y b*(mv q b*L q*X q)) λq _=>by rw[←mY];exact iN λb _=>by grind,Xt];exact iN λb _=>by rw[Rat.mul_comm,←mY];exact iN λq _=>by grind
   have C:ym*lsm qs (λq=>L q*X q)=lsm qs λq=>ym*(L q*X q):=by rw[Rat.mul_comm,←mY];exact iN λq _=>by grind
   rw[e1,C,←Et];exact iN λq _=>by grind
  have h3:lsm bs (λb=>Y b*lsm qs λq=>mv q b*L q*X q)<=0:=by
   rw[←jZr (l:=bs)];exact Mg λb hb=>by
    have:=fR (f b hb) (Z b hb);rwa [gG]at this
  grind
 have one:lsm qs (λq=>L q*X q)=1:=by
  generalize lsm qs (λq=>L q*X q)=S at p k;have:1<=S:=gJ (c:=ym) (by grind) j;grind
 refine#[λq J=>gM (o q J) (Rat.le_of_lt (i q J)),Z,by rw[m,one],λb hb=>?_,?_,λq J=>by have:=a q J;grind]
 .rw[iN (g:=λq=>mv q b*L q*X q) λq _=>by grind];exact f b hb
 .have e:lsm qs (λq=>(d q+l)*L q*X q)=lsm qs (λq=>X q*L q*d q)+lsm qs (λq=>L q*X q)*l:=by
   rw[←mY,←Et];exact iN λq _=>by grind
  rw[h,one]at e;grind
def uR(un:List Nat->Nat->Int)(q:List Nat)(h:Nat):Rat:=((un q h:Int):Rat)/((SS:Int):Rat)
def Wr{un:List Nat->Nat->Int}{o:Nat}:va (mo un q [h,c,o])=if q[h]?=some c then uR un (q.set h o) h-uR un q h else 0:=by
 show va (if q[h]?=some c then lo2 (un (q.set h o) h-un q h) SS else(0,1))=_;split
 .rw[show va (lo2 (un (q.set h o) h-un q h) SS)=_ from Ws vR (dZ vR)];unfold uR;rw[Rat.intCast_sub,vP,vP,vP];grind
 .exact vT
def Xx{un:List Nat->Nat->Int}{n:Nat}(hc:c<n)(J:q[h]?=some c)(Z:∀o,o<n->o≠c->0<=Y [h,c,o]):lsm (Qj h n) (λb=>Y b*va (mo un q b))=rsm n λo=>(if 0<=Y [h,c,o]then Y [h,c,o]else 0)*(uR un (q.set h o) h-uR un q h):=by
 unfold Qj;rw[Xv,jZ2 hc λk hk O=>?_]
 .unfold vL;rw[Nv];refine fC λo D=>?_;rw[Wr,aJ J];by_cases e:o=c
  .have:q.set h c=q:=by
    obtain⟨a,C⟩:=aK.mp J;rw[←C];exact List.set_getElem_self a
   rw[e,this,aF (by simp)];grind
  .rw[aJ (by simpa using e),aJ (Z o D e)]
 .unfold vL;rw[Nv];exact nE λo _=>by rw[Wr,aF (c:=q[h]?=some k) (by rw[J];simp;lia),gG,ite_self]
theorem nl_of{n0 n1:Nat}{un:List Nat->Nat->Int}(Z:∀b∈fQ [n0,n1] 2,0<=Y b)(p0:0<n0)(T:0<n1)(h:∀q∈dM [n0,n1].reverse,1<=lsm (fQ [n0,n1] 2) λb=>Y b*va (mo un q b)):False:=by
 have z:∀h i j,(0:Rat)<=if 0<=Y [h,i,j]then Y [h,i,j]else 0:=λh i j=>by split;assumption;exact Rat.le_refl
 have M:∀h n c o,h<2->[n0,n1].getD h 0=n->c<n->o<n->o≠c->[h,c,o]∈fQ [n0,n1] 2:=λh n c o d R hc D ne=>by
  refine iD.mpr #[h,fE.mpr d,iD.mpr #[c,fE.mpr (by rw[R];exact hc),dD.mpr #[o,List.mem_filter.mpr #[fE.mpr (by rw[R];exact D),by simpa using ne],rfl]]]
 refine jWy (n0:=n0) (n1:=n1) (n2:=1) (u0:=λi j _=>uR un [i,j] 0) (u1:=λi j _=>uR un [i,j] 1) (u2:=λ_ _ _=>0) (z 0) (z 1) (z 2) p0 T (by decide) λi j k hi P hk=>?_;have hm:[i,j]∈dM [n0,n1].reverse:=Nt _ _ rfl λa n c e1 C=>by
  rw[List.reverse_reverse]at e1
  match a,e1,C with
  |0,e1,C=>simp at e1 C;lia
  |1,e1,C=>simp at e1 C;lia
  |a+2,e1,_=>simp at e1
 have t:=h _ hm;have e:fQ [n0,n1] 2=Qj 0 n0++(Qj 1 n1++[]):=rfl;rw[e,oO,oO,Xx (q:=[i,j]) hi rfl λo D ne=>Z _ (M 0 n0 i o (by decide) rfl hi D ne),Xx (q:=[i,j]) P rfl λo D ne=>Z _ (M 1 n1 j o (by decide) rfl P D ne)]at t;have F:lsm [] (λb=>Y b*va (mo un [i,j] b))=0:=rfl;rw[F]at t;simp only[Ls0,Ls1]at t;show _<=_+_+rsm 1 _;rw[nE (n:=1) λo _=>by rw[Rat.sub_self,gG]];grind
def va_int(n:Int):va (n,1)=(n:Rat):=by
 have:=lQ (f:=(n,1)) (by decide:(0:Int)<1);rw[←this];show _=_*((1:Int):Rat);rw[show((1:Int):Rat)=1 from rfl];grind
def Di{fs:gB}(hp:∀f∈fs,0<f.2)(h:fs[i]?=some f):va ((clr fs).getD i 0,1)=va f*((lc fs:Int):Rat):=by
 have hm:=aL h;have p:=hp f hm;have e:(clr fs).getD i 0=f.1*((lc fs).fdiv f.2):=iM (by unfold clr;rw[aX,h];rfl);rw[e];have c:=jJZ hp hm;have a:=lQ p;refine Ea (mV p) ?_;rw[va_int,←eY,c,eY,←a];grind
structure AdQ where
 qs:fW
 bs:fW
 mv:List Nat->List Nat->Int×Int
 af:List Nat->Int×Int
namespace AdQ
def col(A:AdQ)(q:List Nat):gB:=A.bs.map (A.mv q)++[(1,1),A.af q]
def frs(A:AdQ):jD:=ofF (A.bs.length+1) λi=>A.qs.map λq=>((clr (A.col q)).getD i 0,1)
def fb(A:AdQ):gB:=A.bs.map (λ_=>(0,1))++[(1,1)]
def fg(A:AdQ):gB:=A.qs.map λq=>((clr (A.col q)).getD (A.bs.length+1) 0,1)
structure Ok(A:AdQ):Prop where
 mp:∀q∈A.qs,∀b∈A.bs,0<(A.mv q b).2
 ap:∀q∈A.qs,0<(A.af q).2
 nq:A.qs.Nodup
 nb:A.bs.Nodup
variable{A:AdQ}
def Ok.pos(h:A.Ok)(J:q∈A.qs):∀f∈A.col q,0<f.2:=λf hf=>by
 rcases cW.mp hf with hf |hf
 .obtain⟨b,hb,rfl⟩:=dD.mp hf;exact h.mp q J b hb
 .simp only[eA,List.not_mem_nil,or_false]at hf;rcases hf with rfl |rfl
  .decide
  .exact h.ap q J
def Ok.lp(h:A.Ok)(J:q∈A.qs):0<lc (A.col q):=Mi (h.pos J)
def frs_length:A.frs.length=A.bs.length+1:=bI _ _
def fg_length:A.fg.length=A.qs.length:=aA ..
def qI:A.fb.length=A.bs.length+1:=by unfold fb;rw[bC,aA];rfl
def Wv(hi:i<A.bs.length+1)(J:A.qs[j]?=some q):rwF A.frs i j=((clr (A.col q)).getD i 0,1):=by
 unfold rwF frs;rw[aP (l:=ofF _ _),fO _ hi];show(map _ _).getD j (0,1)=_;rw[aP,aX,J];rfl
def col_b{b:List Nat}(h:A.bs[i]?=some b):(A.col q)[i]?=some (A.mv q b):=by
 unfold col;rw[bV (by rw[aA];exact(aK.mp h).1),aX,h];rfl
def col_1:(A.col q)[A.bs.length]?=some (1,1):=by
 unfold col;rw[bO (by rw[aA];exact aM _),aA,gH];rfl
def col_g:(A.col q)[A.bs.length+1]?=some (A.af q):=by
 unfold col;rw[bO (by rw[aA];lia),aA,show A.bs.length+1-A.bs.length=1 by lia];rfl
def fb_b(h:i<A.bs.length):A.fb.getD i (0,1)=(0,1):=by
 unfold fb;rw[aP,bV (by rw[aA];exact h),aX,aD h];rfl
def fb_1:A.fb.getD A.bs.length (0,1)=(1,1):=by
 unfold fb;rw[aP,bO (by rw[aA];exact aM _),aA,gH];rfl
def Wz(J:A.qs[j]?=some q):A.fg.getD j (0,1)=((clr (A.col q)).getD (A.bs.length+1) 0,1):=by
 unfold fg;rw[aP,aX,J];rfl
def idx{l:fW}(nd:l.Nodup)(h:l[j]?=some q):l.idxOf q=j:=by
 obtain⟨Y,rfl⟩:=aK.mp h;exact nd.idxOf_getElem j Y
section
variable{fl:Bool}{s:Nat->Nat}
noncomputable def x(A:AdQ)(fl:Bool)(s:Nat->Nat)(q:List Nat):Int×Int:=xF fl A.frs A.fb A.fg s (A.qs.idxOf q)
noncomputable def y(A:AdQ)(fl:Bool)(s:Nat->Nat)(b:List Nat):Int×Int:=yF fl A.frs A.fb A.fg s (A.bs.idxOf b)
def L(A:AdQ)(q:List Nat):Rat:=((lc (A.col q):Int):Rat)
def va_le0(p:0<f.2)(h:f.1<=0):va f<=0:=by
 rw[←vT];exact(qL p (by decide)).mpr (by simpa using h)
theorem no_way_(B:BeO A.frs A.fb A.fg)(h:A.Ok)(ok:(bP fl A.frs A.fb A.fg).Ok s)(io:jY (bP fl A.frs A.fb A.fg) s)(un:UnO (bP fl A.frs A.fb A.fg) s (some c)):False:=by
 have r:∀j,0<(mH (bP fl A.frs A.fb A.fg) s c j).2/\0<=va (mH (bP fl A.frs A.fb A.fg) s c j):=λj=>let h:=Wq ok un j;#[h.1,qF h.1 h.2.2.1];have hm:A.bs.length<A.frs.length:=by rw[frs_length];lia
 have g:∀j,j<A.fg.length->0<(rwF A.frs A.bs.length j).2:=λj P=>Ep B hm P;have Q:=Vs B ok io un hm;have T:=jR (n:=A.fg.length) g λj _=>(r j).1;have b:=va_le0 T Q;rw[yI g λj _=>(r j).1]at b;have e:∀j,j<A.fg.length->∃l:Rat,0<l/\va (rwF A.frs A.bs.length j)=l:=λj P=>by
  rw[fg_length]at P;have eq:A.qs[j]?=some A.qs[j]:=aD P;have J:=aL eq;refine#[A.L A.qs[j],mV (h.lp J),?_];rw[Wv #[] eq,Di (h.pos J) col_1,vM,Rat.one_mul];rfl
 have nn:∀j,j<A.fg.length->0<=va (rwF A.frs A.bs.length j)*va (mH (bP fl A.frs A.fb A.fg) s c j):=λj P=>by
  obtain⟨l,a,f⟩:=e j P;rw[f];exact gM (Rat.le_of_lt a) (r j).2
 have z:=Nk nn (by have:=qT nn;grind);have w:∀j,j<A.fg.length->va (mH (bP fl A.frs A.fb A.fg) s c j)=0:=λj P=>by
  obtain⟨l,a,f⟩:=e j P;have:=z j P;rw[f]at this;exact(Rat.mul_eq_zero.mp this).resolve_left (by grind)
 have g2:∀j,j<A.fg.length->0<(A.fg.getD j (0,1)).2:=λj P=>by
  rw[Wz (aD (by rwa [fg_length]at P))];exact Int.zero_lt_one
 have U:=Qk B ok io un;have d:=jR (n:=A.fg.length) g2 λj _=>(r j).1;have k:=va_pos d U;rw[yI g2 λj _=>(r j).1,nE λj P=>by rw[w j P,gG]]at k;exact Rat.lt_irrefl k
def adv(B:BeO A.frs A.fb A.fg)(h:A.Ok)(ok:(bP fl A.frs A.fb A.fg).Ok s)(io:jY (bP fl A.frs A.fb A.fg) s)(un:UnO (bP fl A.frs A.fb A.fg) s none){d:List Nat->Rat}{l:Rat}(hg:∀q∈A.qs,va (A.af q)=d q+l)(Q:∀q∈A.qs,1<=d q+l)
  (M:¬∀q∈A.qs,1<=lsm A.bs λb=>va (A.y fl s b)*va (A.mv q b)):AdvR A.qs A.bs (λq b=>va (A.mv q b)) d (λq=>va (A.x fl s q)*A.L q) (λb=>va (A.y fl s b)) (va (yF fl A.frs A.fb A.fg s A.bs.length)-l):=by
 have m:∀j,0<(xF fl A.frs A.fb A.fg s j).2/\0<=va (xF fl A.frs A.fb A.fg s j):=λj=>let h:=Iz B ok j;#[h.1,qF h.1 h.2.2.1];have y0:∀i,i<A.frs.length->0<(yF fl A.frs A.fb A.fg s i).2/\0<=va (yF fl A.frs A.fb A.fg s i):=λi hi=>let h:=Wp B ok un hi;#[h.1,qF h.1 h.2.2.1];have k:=frs_length (A:=A);have c:=fg_length (A:=A);have ex:∀{j:Nat}{q:List Nat},A.qs[j]?=some q->A.x fl s q=xF fl A.frs A.fb A.fg s j:=λ{j q} e=>by unfold x;rw[idx h.nq e]
 have S:∀{i:Nat}{b:List Nat},A.bs[i]?=some b->A.y fl s b=yF fl A.frs A.fb A.fg s i:=λ{j q} e=>by unfold y;rw[idx h.nb e]
 have row:∀i,i<A.frs.length->(∀j,j<A.fg.length->0<(rwF A.frs i j).2):=λi hi j P=>Ep B hi P;have all:∀i,i<A.frs.length->(rsm A.fg.length λj=>va (rwF A.frs i j)*va (xF fl A.frs A.fb A.fg s j))<=va (A.fb.getD i (0,1)):=λi hi=>by
  rw[←yI (row i hi) λj _=>(m j).1];refine(qL (jR (row i hi) λj _=>(m j).1) ?_).mpr (jJQ B ok io hi);by_cases e:i<A.bs.length
  .rw[fb_b e];decide
  .rw[show i=A.bs.length by lia,fb_1];decide
 refine adv_of (X:=λq=>va (A.x fl s q)) (L:=A.L) (l:=l) (λq J=>(m _).2) (λb hb=>?_) (y0 _ #[]).2 (λb hb=>?_) ?_ (λq J=>?_) ?_ (λq J=>mV (h.lp J)) Q M
 .obtain⟨i,e⟩:=cJ hb;show 0<=va (A.y fl s b);rw[S e];exact(y0 i (by have:=(aK.mp e).1;lia)).2
 .obtain⟨i,e⟩:=cJ hb;have F:=(aK.mp e).1;have a:=all i #[];rw[fb_b F,vT,c]at a;rwa [Lh (f:=λq=>va (A.mv q b)*A.L q*va (A.x fl s q)) λj q eq=>by rw[Wv #[] eq,Di (h.pos (aL eq)) (col_b e),ex eq];rfl]at a
 .have a:=all A.bs.length #[];rw[fb_1,vM,c]at a;rwa [Lh (f:=λq=>A.L q*va (A.x fl s q)) λj q eq=>by rw[Wv #[] eq,Di (h.pos (aL eq)) col_1,ex eq,vM,Rat.one_mul];rfl]at a
 .obtain⟨j,eq⟩:=cJ J;have o:=(aK.mp eq).1;have a:=ys_pay B ok un (j:=j) #[];have g:∀i,i<A.frs.length->0<(rwF A.frs i j).2:=λi hi=>row i hi j #[];have p:=jR (n:=A.frs.length) (λi hi=>(y0 i hi).1) g;have a:=(qL (by rw[Wz eq];exact Int.zero_lt_one) p).mpr a;rw[yI (λi hi=>(y0 i hi).1) g,Wz eq,Di (h.pos J) col_g,hg q J,k]at a;have t:rsm (A.bs.length+1) (λi=>va (yF fl A.frs A.fb A.fg s i)*va (rwF A.frs i j))=lsm A.bs (λb=>va (A.y fl s b)*(va (A.mv q b)*A.L q))+va (yF fl A.frs A.fb A.fg s A.bs.length)*A.L q:=by
   show rsm A.bs.length _+va (yF fl A.frs A.fb A.fg s A.bs.length)*va (rwF A.frs A.bs.length j)=_;rw[Lh (f:=λb=>va (A.y fl s b)*(va (A.mv q b)*A.L q)) λi b e=>by rw[Wv (by have:=(aK.mp e).1;lia) eq,Di (h.pos J) (col_b e),S e];rfl,Wv #[] eq,Di (h.pos J) col_1,vM,Rat.one_mul];rfl
  rw[t]at a;exact a
 .have b:=jWJ B ok io un;have g2:∀j,j<A.fg.length->0<(A.fg.getD j (0,1)).2:=λj P=>by rw[Wz (aD (by rwa [c]at P))];exact Int.zero_lt_one
  have b2:∀i,i<A.frs.length->0<(A.fb.getD i (0,1)).2:=λi hi=>by
   by_cases e:i<A.bs.length
   .rw[fb_b e];decide
   .rw[show i=A.bs.length by lia,fb_1];decide
  have e:=va_eqv (jR g2 λj _=>(m j).1) (jR b2 λi hi=>(y0 i hi).1) b;rw[yI g2 λj _=>(m j).1,yI b2 λi hi=>(y0 i hi).1,c,k]at e;have t:rsm (A.bs.length+1) (λi=>va (A.fb.getD i (0,1))*va (yF fl A.frs A.fb A.fg s i))=va (yF fl A.frs A.fb A.fg s A.bs.length):=by
   show rsm A.bs.length _+va (A.fb.getD A.bs.length (0,1))*va (yF fl A.frs A.fb A.fg s A.bs.length)=_;rw[nE λi hi=>by rw[fb_b hi,vT,Rat.zero_mul],fb_1,vM];grind
  rw[t,Lh (f:=λq=>(d q+l)*A.L q*va (A.x fl s q)) λj q eq=>by rw[Wz eq,Di (h.pos (aL eq)) col_g,hg q (aL eq),ex eq];rfl]at e;exact e
end
end AdQ
def Xu{f:List Nat->Rat}{x:List Nat}:∀{l:fW},x∈l->(∀y∈l,0<=f y)->f x<=lsm l f
 |z::t,h,p=>by
  have n:0<=lsm t f:=by rw[←jZr (l:=t)];exact Mg λy d=>p y (bK _ d)
  have p0:=p z (bT ..);show f x<=f z+lsm t f;rcases eA.mp h with rfl |h
  .grind
  .have:=Xu h λy d=>p y (bK _ d);grind
structure Ud(f:Int×Int):Prop where
 p:0<f.2
 c:Int.gcd f.1 f.2=1
 n:0<=f.1
 b1:BB 40000 f.1
 b2:BB 40000 f.2
namespace AdQ
section
variable{A:AdQ}{fl:Bool}{s:Nat->Nat}
noncomputable def P(A:AdQ)(fl:Bool)(s:Nat->Nat)(q:List Nat):Int×Int:=lo2 ((A.x fl s q).1*lc (A.col q)) ((A.x fl s q).2*1)
def lc_one{row:gB}(h:∀f∈row,f.2=1):BB 1 (lc row):=
 Dj (M:=1) (by show(1:Int).natAbs<2^1;decide) (by decide) ((yR row 1 (by decide) λf hf=>by rw[h f hf];decide).2.2.2 1 (Int.one_dvd _) λf hf=>by rw[h f hf];exact Int.one_dvd _)
def lo_zero{b:Int}(h:0<b):(lo2 0 b).2=1:=by
 have l:=dZ (t:=0) h;have e:(lo2 0 b).1*b=0:=by rw[l.eq,dY]
 have z:(lo2 0 b).1=0:=(Int.mul_eq_zero.mp e).resolve_right #[];have c:=l.cop;rw[z,Int.gcd_zero_left]at c;have:=l.pos;lia
def beo{n:Nat}(h:A.Ok)(hc:∀q∈A.qs,∀x∈clr (A.col q),BB p x)(hb:A.bs.length+1<=m)(J:A.qs.length<=n)(T:1<=p)(m1:m<=100)(n1:n<=100)(hm:(m+1)*(p+p+3)+(p+p+3)+(m+1)+(m+1)*(m+1)+1<=9000):BeO A.frs A.fb A.fg:=by
 have S:BB 1 (1:Int):=by show(1:Int).natAbs<2^1;decide
 have I:BB 1 (0:Int):=by show(0:Int).natAbs<2^1;decide
 have cb:∀q∈A.qs,∀i,Gp p 1 ((clr (A.col q)).getD i 0,1):=λq J i=>#[Int.zero_lt_one,by
  show BB p ((clr (A.col q)).getD i 0);by_cases e:i<(clr (A.col q)).length
  .exact hc q J _ (lZ e)
  .rw[aP,cL #[]];show(0:Int).natAbs<2^p;exact dH _,S]
 have gr:∀row∈A.frs,∀f∈row,Gp p 1 f/\f.2=1:=λrow hr f hf=>by
  obtain⟨i,_,rfl⟩:=kT hr;obtain⟨q,J,rfl⟩:=dD.mp hf;exact#[cb q J i,rfl]
 have gg:∀f∈A.fg,Gp p 1 f/\f.2=1:=λf hf=>by
  obtain⟨q,J,rfl⟩:=dD.mp hf;exact#[cb q J _,rfl]
 have Y:∀row∈A.frs,BB 1 (lc row):=λrow hr=>lc_one λf hf=>(gr row hr f hf).2;have b:=frs_length (A:=A);have lst:A.frs.getD A.bs.length []∈A.frs:=by
  have hk:A.bs.length<A.frs.length:=#[];rw[aP,aD hk];exact cO hk
 have w:∀row∈A.frs,0<(whF row).1/\0<(whF row).2:=λrow hr=>iV λf hf=>(gr row hr f hf).1.1;have d:∀f∈bnF A.frs A.fb,0<f.2/\f.2∣(whF (A.frs.getD A.bs.length [])).2:=λf hf=>by
  obtain⟨i,e⟩:=cJ hf;have F:=(aK.mp e).1;rw[jM (by rw[qI,b]),b]at F;have e1:A.frs[i]?=some (A.frs.getD i []):=by rw[aP,aD #[]];rfl
  have hr:=w _ (aL e1);by_cases c:i<A.bs.length
  .have C:A.fb[i]?=some (0,1):=by
    have:=fb_b c;rw[aP,aD (by rw[qI];lia)]at this;rw[aD (by rw[qI];lia)];exact congrArg some this
   rw[qC C e1]at e;obtain rfl:=aV e;have:(ftm (0,1) (whF (A.frs.getD i []))).2=1:=by
    show(lo2 (0*(whF (A.frs.getD i [])).1) (1*(whF (A.frs.getD i [])).2)).2=1;rw[dY];exact lo_zero #[]
   rw[this];exact#[by decide,Int.one_dvd _]
  .have o:i=A.bs.length:=#[];subst o;have C:A.fb[A.bs.length]?=some (1,1):=by
    have:=fb_1 (A:=A);rw[aP,aD (by rw[qI];lia)]at this;rw[aD (by rw[qI];lia)];exact congrArg some this
   rw[qC C e1]at e;obtain rfl:=aV e;have z:0<1*(whF (A.frs.getD A.bs.length [])).2:=#[];refine#[(dZ (t:=1*(whF (A.frs.getD A.bs.length [])).1) z).pos,?_];exact fN (Ll (u:=1*(whF (A.frs.getD A.bs.length [])).1) z) #[1,by rw[fB,dR]]
 have a:=(Mb (λf hf=>(gr _ lst f hf).1) (Y _ lst) #[]).2;have l:BB (p+1) (lc (bnF A.frs A.fb)):=Dj a (w _ lst).2 ((yR _ 1 (by decide) λf hf=>(d f hf).1).2.2.2 _ (Int.one_dvd _) λf hf=>(d f hf).2);have h2:(A.frs.length+1)*(A.frs.length+1)<=(m+1)*(m+1):=gO #[] #[];have h3:(A.frs.length+1)*(p+p+3)<=(m+1)*(p+p+3):=Nat.mul_le_mul_right _ #[];have g:(A.frs.length+1)*(p+1)<=(A.frs.length+1)*(p+p+3):=Nat.mul_le_mul_left _ #[];refine beo_of p 1 1 1 1 (p+1) (λrow hr=>?_) (by rw[qI,b]) (λrow hr f hf=>(gr row hr f hf).1) (λf hf=>(gg f hf).1) (λf hf=>?_) Y (lc_one λf hf=>(gg f hf).2) l T #[] (by rw[fg_length];lia) #[] #[] #[] #[] #[] #[] (by rw[show p+1+1+(p+1)=p+p+3 by lia];lia)
 .obtain⟨i,_,rfl⟩:=kT hr;rw[fg_length,aA]
 .rcases cW.mp hf with hf |hf
  .obtain⟨_,_,rfl⟩:=dD.mp hf;exact#[Int.zero_lt_one,I,S]
  .rw[bZ.mp hf];exact#[Int.zero_lt_one,S,S]
def x_ok(B:BeO A.frs A.fb A.fg)(ok:(bP fl A.frs A.fb A.fg).Ok s)(q:List Nat):0<(A.x fl s q).2/\BB 9000 (A.x fl s q).2:=by
 obtain⟨I,a,_,xe⟩:=Iz B ok (A.qs.idxOf q);refine#[I,Dj (B.ox fl s ok.n) (bF ok.pos (Ur B).1) (Lq xe a)]
def y_ok(B:BeO A.frs A.fb A.fg)(ok:(bP fl A.frs A.fb A.fg).Ok s)(un:UnO (bP fl A.frs A.fb A.fg) s none)(hk:k<A.frs.length):Ud (yF fl A.frs A.fb A.fg s k)/\BB 9000 (yF fl A.frs A.fb A.fg s k).2:=by
 obtain⟨v,a,c,b⟩:=Wp B ok un hk;have hm:A.frs.getD k []∈A.frs:=by rw[aP,aD hk];exact cO hk
 have w:=Gz B hk;have o:=iV λf hf=>(B.gg f hf).1;have j:=bF (bF ok.pos w.2) o.1;have d:=Lq b a;have b2:=Dj (B.oy fl s ok.n _ hm).1 j d;refine#[#[v,a,c,?_,b2.mono (by decide)],b2];exact(((B.oy fl s ok.n _ hm).2 k hk).mul B.wg.2).of_le (tR j (bX v) (Int.le_of_dvd j d) b)
def va_P(B:BeO A.frs A.fb A.fg)(ok:(bP fl A.frs A.fb A.fg).Ok s)(q:List Nat):va (A.P fl s q)=va (A.x fl s q)*A.L q:=by
 have I:=(x_ok B ok q).1;have z:0<(A.x fl s q).2*1:=#[];have e:va (A.P fl s q)=_:=Ws z (dZ (t:=(A.x fl s q).1*lc (A.col q)) z);rw[e];symm;refine nX (mV z) ?_;have:=lQ I;rw[dR,eY,←this];show _*A.L q*_=_*_*A.L q;grind
structure Told(A:AdQ)(fl:Bool)(s:Nat->Nat)(gv:List Nat->Rat)(z:Int):Prop where
 adv:AdvR A.qs A.bs (λq b=>va (A.mv q b)) gv (λq=>va (A.P fl s q)) (λb=>va (A.y fl s b)) (va (yF fl A.frs A.fb A.fg s A.bs.length)-((1-z:Int):Rat))
 xb:∀q∈A.qs,0<(A.x fl s q).2/\BB 9000 (A.x fl s q).1/\BB 9000 (A.x fl s q).2
 P:∀q∈A.qs,Ud (A.P fl s q)
 Y:∀b∈A.bs,Ud (A.y fl s b)
 ym:0<(yF fl A.frs A.fb A.fg s A.bs.length).2/\BB 9240 (yF fl A.frs A.fb A.fg s A.bs.length).1/\BB 9000 (yF fl A.frs A.fb A.fg s A.bs.length).2
def told(B:BeO A.frs A.fb A.fg)(h:A.Ok)(ok:(bP fl A.frs A.fb A.fg).Ok s)(io:jY (bP fl A.frs A.fb A.fg) s)(un:UnO (bP fl A.frs A.fb A.fg) s none)(hp:p<=230){d:List Nat->Rat}(hg:∀q∈A.qs,va (A.af q)=d q+((1-z:Int):Rat))(Q:∀q∈A.qs,1<=va (A.af q))(w:∀q∈A.qs,BB p (A.af q).1)
  (M:¬∀q∈A.qs,1<=lsm A.bs λb=>va (A.y fl s b)*va (A.mv q b)):A.Told fl s d z:=by
 have a:=AdQ.adv B h ok io un hg (λq J=>by rw[←hg q J];exact Q q J) M;have j:AdvR A.qs A.bs (λq b=>va (A.mv q b)) d (λq=>va (A.P fl s q)) (λb=>va (A.y fl s b)) (va (yF fl A.frs A.fb A.fg s A.bs.length)-((1-z:Int):Rat)):=by
  rwa [show(λq=>va (A.P fl s q))=λq=>va (A.x fl s q)*A.L q from funext λq=>va_P B ok q]
 have C:∀q∈A.qs,va (A.P fl s q)<=1:=λq J=>by have:=Xu J j.p0;rwa [j.one]at this
 have v:∀q∈A.qs,1<=A.L q:=λq J=>by
  have:=h.lp J;have:((1:Int):Rat)<=A.L q:=Rat.intCast_le_intCast.mpr #[];exact this
 have m:∀q,0<=va (A.x fl s q):=λq=>let h:=Iz B ok (A.qs.idxOf q);qF h.1 h.2.2.1;have r:∀{f:Int×Int}{n:Nat},0<f.2->0<=f.1->va f<=1->BB n f.2->BB n f.1:=λ{f n} p N l b=>b.of_le (by have:=va_le1 p l;lia);have o:=y_ok B ok un (k:=A.bs.length) (by rw[frs_length];lia);refine#[j,λq J=>#[(x_ok B ok q).1,r (x_ok B ok q).1 (Iz B ok _).2.2.1 ?_ (x_ok B ok q).2,(x_ok B ok q).2],λq J=>?_,λb hb=>?_,o.1.p,?_,o.2]
 .have h1:=C q J;rw[va_P B ok]at h1;have:=fR (v q J) (m q);grind
 .have I:=x_ok B ok q;have z:0<(A.x fl s q).2*1:=#[];have l:=dZ (t:=(A.x fl s q).1*lc (A.col q)) z;have N:0<=(A.P fl s q).1:=by
   have h1:=(Iz B ok (A.qs.idxOf q)).2.2.1;have h2:=eF h1 (bX (h.lp J));have e:=l.eq;have p:=l.pos;show 0<=(lo2 ((A.x fl s q).1*lc (A.col q)) ((A.x fl s q).2*1)).1;refine Int.not_lt.mp λc=>?_;have:=Int.mul_lt_mul_of_pos_right c z;have h3:0<=(A.x fl s q).1*lc (A.col q)*(lo2 ((A.x fl s q).1*lc (A.col q)) ((A.x fl s q).2*1)).2:=eF h2 (bX p);lia
  have b2:BB 9000 (A.P fl s q).2:=Dj (by rw[dR];exact I.2) z (Ll z);exact#[l.pos,l.cop,N,(r l.pos N (C q J) b2).mono (by decide),b2.mono (by decide)]
 .obtain⟨i,e⟩:=cJ hb;unfold y;exact(y_ok B ok un (by rw[frs_length,idx h.nb e];have:=(aK.mp e).1;lia)).1
 .have le:va (yF fl A.frs A.fb A.fg s A.bs.length)<=va (((2^p:Nat):Int),1):=by
   have e:va (yF fl A.frs A.fb A.fg s A.bs.length)=lsm A.qs λq=>va (A.P fl s q)*va (A.af q):=by
    rw[iN (g:=λq=>va (A.P fl s q)*d q+va (A.P fl s q)*((1-z:Int):Rat)) λq J=>by rw[hg q J];grind,Et,mY,j.one,j.wo];grind
   have t:lsm A.qs (λq=>va (A.P fl s q)*va (((2^p:Nat):Int),1))=va (((2^p:Nat):Int),1):=by rw[mY,j.one,Rat.one_mul]
   rw[e,←t];refine Mg λq J=>fR ((qL (h.ap q J) Int.zero_lt_one).mpr ?_) (j.p0 q J);have b:(A.af q).1.natAbs<2^p:=w q J;have u:=h.ap q J;have:((2^p:Nat):Int)*1<=((2^p:Nat):Int)*(A.af q).2:=Int.mul_le_mul_of_nonneg_left #[] (Int.natCast_nonneg _);show(A.af q).1*1<=((2^p:Nat):Int)*(A.af q).2;lia
  have Z:=(qL o.1.p Int.zero_lt_one).mp le;have b:BB (p+1+9000) (((2^p:Nat):Int)*(yF fl A.frs A.fb A.fg s A.bs.length).2):=BB.mul (by show(((2^p:Nat):Int)).natAbs<2^(p+1);rw[Int.natAbs_natCast];exact Nat.pow_lt_pow_right (by decide) #[]) o.2;have n:=o.1.n;refine(b.of_le ?_).mono #[];have D:(yF fl A.frs A.fb A.fg s A.bs.length).1*1<=((2^p:Nat):Int)*(yF fl A.frs A.fb A.fg s A.bs.length).2:=Z;lia
end
end AdQ
def S2(ns:List Nat):Prop:=∃a b,ns=[a,b]/\(a,b)∈[(1,1),(1,2),(1,3),(2,1),(2,2),(2,3),(3,1),(3,2),(1,6),(6,1),(2,4),(4,2),(3,3),(1,4),(4,1)]
def S2.all(h:S2 ns):(fQ ns ns.length).Nodup/\(fQ ns ns.length).length<=30/\(dM ns.reverse).length<=9/\1<=(dM ns.reverse).length/\ns.length=2/\((dM ns.reverse).length<=4->(fQ ns ns.length).length<=12):=by
 obtain⟨a,b,rfl,h⟩:=h;have k:∀x∈[(1,1),(1,2),(1,3),(2,1),(2,2),(2,3),(3,1),(3,2),(1,6),(6,1),(2,4),(4,2),(3,3),(1,4),(4,1)],(fQ [x.1,x.2] [x.1,x.2].length).Nodup/\(fQ [x.1,x.2] [x.1,x.2].length).length<=30/\(dM [x.1,x.2].reverse).length<=9/\1<=(dM [x.1,x.2].reverse).length/\[x.1,x.2].length=2/\((dM [x.1,x.2].reverse).length<=4->(fQ [x.1,x.2] [x.1,x.2].length).length<=12):=by decide+kernel
 exact k _ h
def S2.pos(h:S2 ns):∃a b,ns=[a,b]/\0<a/\0<b/\a<=6/\b<=6:=by
 obtain⟨a,b,rfl,h⟩:=h;have k:∀x∈[(1,1),(1,2),(1,3),(2,1),(2,2),(2,3),(3,1),(3,2),(1,6),(6,1),(2,4),(4,2),(3,3),(1,4),(4,1)],0<x.1/\0<x.2/\x.1<=6/\x.2<=6:=by decide+kernel
 exact#[a,b,rfl,k _ h]
noncomputable def gF(un:List Nat->Nat->Int)(G:Nat->Int)(ns q:List Nat):Int×Int:=lo2 (sm ns.length λh=>G h*un q h) (SS*SS)
def adq(un:List Nat->Nat->Int)(G:Nat->Int)(ns:List Nat)(z:Int):AdQ:=#[dM ns.reverse,fQ ns ns.length,mo un,λq=>lft z (gF un G ns q)]
structure Bts(ns:List Nat)(un:List Nat->Nat->Int)(D:Int)(b:Nat):Prop where
 d0:0<D
 bd:BB b D
 u:∀q∈dM ns.reverse,∀h,h<ns.length->∃x,un q h*D=x*SS/\BB b x
 sz:(b<=190/\(fQ ns ns.length).length<=12)∨b<=60
structure AdI(ns:List Nat)(un:List Nat->Nat->Int)(G:Nat->Int):Prop where
 s3:S2 ns
 bu:∃D b,Bts ns un D b
 bg:∀h,h<ns.length->∃g,G h*2520=g*SS/\BB 22 g
def SS2:0<SS*SS:=bF vR vR
def Nx{a b c d:Int}(hb:0<b)(hd:0<d)(h:a*d=c*b):lo2 a b=lo2 c d:=by
 have P:=dZ (t:=a) hb;have Z:=dZ (t:=c) hd;exact Prod.ext_iff.mpr (Lo.uniq hb P (jZs Z hd hb h.symm))
section
variable{ns:List Nat}{un:List Nat->Nat->Int}{G:Nat->Int}{z:Int}{D:Int}{b:Nat}
def vQ{n:Nat}{x c:Int}(h:BB n x)(hc:c.natAbs<=2^k):BB (n+k) (x*c):=by
 unfold BB at*;rw[cH,Nat.pow_add];exact fU (Nat.mul_le_mul_left _ hc) (Nat.mul_lt_mul_of_pos_right h (dH _))
def AdI.gN(I:AdI ns un G)(B:Bts ns un D b)(J:q∈dM ns.reverse):∃N,gF un G ns q=lo2 N (D*2520)/\BB (b+25) N:=by
 have i:0<D*2520:=by have:=B.d0;lia
 have k:∀n,n<=ns.length->∃N,(sm n λh=>G h*un q h)*(D*2520)=N*(SS*SS)/\BB (b+22+n) N:=by
  intro n
  induction n with
  |zero=>intro _;exact#[0,by show(0:Int)*_=_;rw[dY,dY],by show(0:Int).natAbs<_;exact dH _]
  |succ n ih=>
   intro R;obtain⟨N,e,c⟩:=ih #[];obtain⟨x,ex,bx⟩:=B.u q J n #[];obtain⟨g,a,bg⟩:=I.bg n #[];refine#[N+g*x,?_,?_]
   .show(sm n (λh=>G h*un q h)+G n*un q n)*(D*2520)=_;have:G n*un q n*(D*2520)=(G n*2520)*(un q n*D):=by grind
    rw[Int.add_mul,e,this,a,ex];grind
   .have h2:=(bg.mul bx).mono (show 22+b<=b+22+n by lia);unfold BB at*;rw[show b+22+(n+1)=b+22+n+1 from rfl,iH];lia
 have n2:=I.s3.all.2.2.2.2.1;obtain⟨N,e,c⟩:=k ns.length (aM _);exact#[N,Nx SS2 i e,c.mono #[]]
def AdI.gl(I:AdI ns un G):0<(gF un G ns q).2:=(dZ SS2).pos
def AdI.gb(I:AdI ns un G)(J:q∈dM ns.reverse):0<(gF un G ns q).2/\BB 215 (gF un G ns q).1/\BB 215 (gF un G ns q).2:=by
 obtain⟨D,b,B⟩:=I.bu;obtain⟨N,e,c⟩:=I.gN B J;have i:0<D*2520:=by have:=B.d0;lia
 have b1:b<=190:=by rcases B.sz with h |h<;>lia
 have k:=(dZ (t:=N) i).bb c (n:=b+12) (vQ B.bd (by decide));rw[e];exact#[(dZ i).pos,k.1.mono #[],k.2.mono #[]]
def AdI.ent(I:AdI ns un G)(B:Bts ns un D b)(m:Mnf [(dM ns.reverse).map (gF un G ns)] z)(J:q∈dM ns.reverse):∃N,Ent (D*2520) N (lft z (gF un G ns q))/\BB (b+40) N:=by
 have i:0<D*2520:=by have:=B.d0;lia
 obtain⟨r,hr,f,hf,j⟩:=m.at_;rw[bZ.mp hr]at hf;obtain⟨g,n,rfl⟩:=dD.mp hf;obtain⟨N,e,b1⟩:=I.gN B J;obtain⟨d,A,b2⟩:=I.gN B n;have fb:=floor_b (u:=d) i;rw[A]at j;rw[←j]at fb;have bd:=vQ B.bd (c:=2520) (k:=12) (by decide);rw[e];refine#[_,ent_lft i,?_];unfold BB at*;rw[Nat.pow_add]at b1 b2 bd⊢;have a:=dH b;generalize 2^b=V at*;rw[show(2:Nat)^25=33554432 by decide]at b1 b2;rw[show(2:Nat)^12=4096 by decide]at bd;rw[show(2:Nat)^40=1099511627776 by decide];generalize D*2520=S at*;rw[Int.add_mul,fB]at fb;rw[Int.sub_mul,fB];generalize z*S=Z at*;lia
def Ent.mo(I:AdI ns un G)(B:Bts ns un D b){c:List Nat}(J:q∈dM ns.reverse)(hb:c∈fQ ns ns.length):∃N,Ent (D*2520) N (mo un q c)/\BB (b+40) N:=by
 have d0:=B.d0;obtain⟨h,c,o,n,rfl,R,hc,a,_⟩:=Ex hb;have Y:=(aK.mp R).1;show ∃N,Ent _ N (if q[h]?=some c then lo2 (un (q.set h o) h-un q h) SS else(0,1))/\_;split
 .obtain⟨x,ex,bx⟩:=B.u _ (Np J R a) h Y;obtain⟨y,S,by_⟩:=B.u _ J h Y;have e:lo2 (un (q.set h o) h-un q h) SS=lo2 (x-y) D:=Nx vR d0 (by rw[Int.sub_mul,ex,S,Int.sub_mul]);rw[e];have l:=dZ (t:=x-y) d0;refine#[(x-y)*2520,#[l.pos,l.cop,fN (Ll d0) #[2520,rfl],by have:=l.eq;grind],?_];have k:BB (b+1) (x-y):=by unfold BB at*;rw[iH];lia
  exact(vQ k (c:=2520) (k:=12) (by decide)).mono #[]
 .exact#[0,#[by decide,by decide,#[_,(fB _).symm],by rw[dY,dY]],by show(0:Int).natAbs<2^_;exact dH _]
def AdI.ok(I:AdI ns un G)(m:Mnf [(dM ns.reverse).map (gF un G ns)] z):(adq un G ns z).Ok:=by
 obtain⟨D,b,B⟩:=I.bu;exact#[λq J b hb=>let⟨_,e,_⟩:=Ent.mo I B J hb;e.p,λq J=>let⟨_,e,_⟩:=I.ent B m J;e.p,mJ _,I.s3.all.1]
def AdI.bb(I:AdI ns un G)(B:Bts ns un D b)(m:Mnf [(dM ns.reverse).map (gF un G ns)] z)(J:q∈dM ns.reverse):RwE (D*2520) (b+40) ((adq un G ns z).col q):=#[λf hf=>by
 rcases cW.mp hf with hf |hf
 .obtain⟨c,hb,rfl⟩:=dD.mp hf;exact Ent.mo I B J hb
 .simp only[eA,List.not_mem_nil,or_false]at hf;rcases hf with rfl |rfl
  .exact#[D*2520,#[by decide,by decide,#[_,(fB _).symm],by rw[fB,dR]],(vQ B.bd (c:=2520) (k:=12) (by decide)).mono #[]]
  .exact I.ent B m J]
def AdI.g9(I:AdI ns un G)(m:Mnf [(dM ns.reverse).map (gF un G ns)] z)(J:q∈dM ns.reverse):∀f∈(adq un G ns z).col q,G9 f:=λf hf=>by
 obtain⟨D,b,B⟩:=I.bu;have i:0<D*2520:=by have:=B.d0;lia
 have b1:b<=190:=by rcases B.sz with h |h<;>lia
 obtain⟨N,e,c⟩:=(I.bb B m J).h f hf;exact#[e.p,(ent_bb e i c).mono #[],(Dj (n:=b+12) (vQ B.bd (by decide)) i e.d).mono #[]]
def AdI.beo(I:AdI ns un G)(m:Mnf [(dM ns.reverse).map (gF un G ns)] z):BeO (adq un G ns z).frs (adq un G ns z).fb (adq un G ns z).fg:=by
 obtain⟨D,b,B⟩:=I.bu;have i:0<D*2520:=by have:=B.d0;lia
 obtain⟨_,a,q9,_⟩:=I.s3.all;have hc:∀q∈(adq un G ns z).qs,∀x∈clr ((adq un G ns z).col q),BB (b+40) x:=λq J=>(I.bb B m J).clr i;rcases B.sz with⟨h,h2⟩|h
 .exact AdQ.beo (p:=230) (m:=13) (n:=9) (I.ok m) (λq J x hx=>(hc q J x hx).mono #[]) (by show(fQ ns ns.length).length+1<=13;lia) q9 (by decide) (by decide) (by decide) (by decide)
 .exact AdQ.beo (p:=100) (m:=31) (n:=9) (I.ok m) (λq J x hx=>(hc q J x hx).mono #[]) (by show(fQ ns ns.length).length+1<=31;lia) q9 (by decide) (by decide) (by decide) (by decide)
def AdI.told(I:AdI ns un G)(m:Mnf [(dM ns.reverse).map (gF un G ns)] z){fl:Bool}(ok:(bP fl (adq un G ns z).frs (adq un G ns z).fb (adq un G ns z).fg).Ok s)(io:jY (bP fl (adq un G ns z).frs (adq un G ns z).fb (adq un G ns z).fg) s)(u:UnO (bP fl (adq un G ns z).frs (adq un G ns z).fb (adq un G ns z).fg) s none):(adq un G ns z).Told fl s (λq=>va (gF un G ns q)) z:=by
 have x:=I.ok m;have B:=I.beo m;refine AdQ.told (p:=230) B x ok io u (aM _) (λq _=>va_lft I.gl) (λq J=>lft_ge I.gl (m.le _ (bZ.mpr rfl) _ (dD.mpr #[q,J,rfl]))) (λq J=>by
  obtain⟨D,b,c⟩:=I.bu;have b1:b<=190:=by rcases c.sz with h |h<;>lia
  obtain⟨_,e,bb⟩:=I.ent c m J;exact(ent_bb e (by have:=c.d0;lia) bb).mono #[]) λM=>?_
 have j:∀b∈fQ ns ns.length,0<=va ((adq un G ns z).y fl s b):=λb hb=>by
  obtain⟨i,e⟩:=cJ hb;have k:=(AdQ.y_ok B ok u (k:=(fQ ns ns.length).idxOf b) (by rw[AdQ.frs_length];show _<(fQ ns ns.length).length+1;rw[AdQ.idx I.s3.all.1 e];have:=(aK.mp e).1;lia)).1;exact qF k.p k.n
 obtain⟨a,b,rfl,h1,h2,_⟩:=I.s3.pos;exact nl_of (n0:=a) (n1:=b) j h1 h2 M
end
def EnS(H:Hp)(v:V):Prop:=∃a x y,v=.ref a/\H a=some (.tup [.int x,.int y])/\0<y/\y<=9/\BB 10 x
def EnS.keep{v:V}(h:EnS H v)(k:Cf H H'):EnS H' v:=let⟨a,x,y,e,h1,r⟩:=h;#[a,x,y,e,k _ _ h1,r]
def EnS.v{H:Hp}{v:V}(h:EnS H v):EnV 30 H v:=let⟨a,x,y,e,h1,p,l,b⟩:=h;#[a,x,y,e,h1,p,#[],b.mono (by decide)]
def EnP(n:Nat)(H:Hp)(v:V):Prop:=EnV 30 H v/\(4<n->EnS H v)
def EnP.keep{n:Nat}{v:V}(h:EnP n H v)(k:Cf H H'):EnP n H' v:=#[h.1.keep k,λz=>(h.2 z).keep k]
def EnS.g{H:Hp}{v:V}(h:EnS H v):∃g,enU H v*2520=g*SS/\BB 22 g:=by
 obtain⟨a,x,y,rfl,h1,p,l,b⟩:=h;obtain⟨i,B,o,e,c,_,_,ex,_⟩:=(show EnV 10 H (.ref a)from#[a,x,y,rfl,h1,p,#[],b]).at;obtain rfl:=V.ref.inj e;rw[h1]at c;obtain⟨rfl,rfl⟩:x=B/\y=o:=by simpa using c
 have d:y*(2520/y)=2520/\(2520/y).natAbs<=2^12:=by
  have:y=1∨y=2∨y=3∨y=4∨y=5∨y=6∨y=7∨y=8∨y=9:=#[];rcases this with e |e |e |e |e |e |e |e |e<;>rw[e]<;>decide
 refine#[x*(2520/y),?_,vQ b (k:=12) d.2]
 calc enU H (.ref a)*2520=enU H (.ref a)*y*(2520/y):=by rw[fV,d.1]
  _=x*(2520/y)*SS:=by rw[←ex];ac_rfl
noncomputable def prE(e:List Nat->Int):fW->Int
 | []=>1
 |q::t=>e q*prE e t
def prE_ok{e:List Nat->Int}:∀{l:fW},(∀q∈l,0<e q/\(e q).natAbs<=2^40)->0<prE e l/\(prE e l).natAbs<=2^(40*l.length)/\∀q∈l,e q∣prE e l
 | [],_=>#[Int.zero_lt_one,by show(1:Int).natAbs<=2^(40*0);decide,λq h=>nomatch h]
 |q::t,h=>by
  obtain⟨p,b,d⟩:=prE_ok (l:=t) λr hr=>h r (bK _ hr);have k:=h q (bT ..);refine#[bF k.1 p,?_,λr hr=>?_]
  .show(e q*prE e t).natAbs<=2^(40*(t.length+1));rw[cH,Nat.mul_add,Nat.add_comm,Nat.pow_add];exact gO k.2 b
  .show e r∣e q*prE e t;rcases eA.mp hr with rfl |hr
   .exact#[_,rfl]
   .exact fN (d r hr) #[e q,fM _ _]
noncomputable def dnV(H:Hp):V->Int
 | .ref a=>match H a with
  |some (.tup [.int _,.int y])=>y
  |_=>1
 |_=>1
def EnV.dn{v:V}(h:EnV m H v):∃x,0<dnV H v/\dnV H v<=1000037/\x*SS=enU H v*dnV H v/\BB m x:=by
 obtain⟨a,x,y,rfl,h1,p,l,ex,b⟩:=h.at;have e:dnV H (.ref a)=y:=by show(match H a with |some (.tup [.int _,.int y])=>y |_=>1)=y;rw[h1]
 rw[e];exact#[x,p,l,ex,b]
def jY9{f:List Nat->Nat->V}(en:∀q∈dM ns.reverse,∀h,h<ns.length->EnS H (f q h)):Bts ns (λq h=>enU H (f q h)) 2520 22:=#[by decide,by unfold BB;decide,λq J h t=>(en q J h t).g,.inr (by decide)]
def jVg{f:List Nat->Nat->V}(n2:ns.length=2)(a:(dM ns.reverse).length<=4)(N:(fQ ns ns.length).length<=12)(en:∀q∈dM ns.reverse,∀h,h<ns.length->EnV 30 H (f q h)):Bts ns (λq h=>enU H (f q h)) (prE (λq=>dnV H (f q 0)*dnV H (f q 1)) (dM ns.reverse)) 190:=by
 have k:∀q∈dM ns.reverse,0<dnV H (f q 0)*dnV H (f q 1)/\(dnV H (f q 0)*dnV H (f q 1)).natAbs<=2^40:=λq J=>by
  obtain⟨_,T,P,_⟩:=(en q J 0 #[]).dn;obtain⟨_,l,Z,_⟩:=(en q J 1 #[]).dn;refine#[bF T l,?_];rw[cH];exact cK (gO (show _<=2^20 by lia) (show _<=2^20 by lia)) (by decide)
 obtain⟨p,b,d⟩:=prE_ok k;have c:=cK b (fY (by decide) (show _<=160 by lia));generalize prE (λq=>dnV H (f q 0)*dnV H (f q 1)) (dM ns.reverse)=D at*;refine#[p,?_,λq J h t=>?_,.inl #[aM _,N]]
 .exact fU c (Nat.pow_lt_pow_right (by decide) (by decide))
 .obtain⟨x,T,P,ex,bx⟩:=(en q J h t).dn;have g:dnV H (f q h)∣D:=by
   have:=d q J;have e:h=0∨h=1:=#[];rcases e with rfl |rfl
   .exact fN #[_,rfl] this
   .exact fN #[_,fM _ _] this
  refine#[x*(D/dnV H (f q h)),?_,vQ bx (k:=160) (cK (Int.natAbs_ediv_le_natAbs _ _) c)]
  calc enU H (f q h)*D=enU H (f q h)*dnV H (f q h)*(D/dnV H (f q h)):=by rw[fV,Int.mul_ediv_cancel' g]
   _=x*(D/dnV H (f q h))*SS:=by rw[←ex];ac_rfl
def Kj:LS:=["_law_script","_law_many","_law_found","_law_k","_law_cell","_law_at"]
def xC(K:aR):Sp:=λvs H Q _=>∃a ns,∃many:Nat,vs=[.ref a,.int many]/\SqL K H a (map int ns)/\ns.length<=63/\1<=many/\many<=1000/\∀l hs H',aQ H H'->H' l=some (.lst (map int hs))->hs.length=many->(∀h∈hs,Nm h)->Q (.ref l) H'
def Ee(a l:Addr)(many:Nat)(C:Hp):NS:=λ_ Z U=>∃(S A J:Option V)(hs:List Int),Z=[some (.ref a),some (.int many),some (.ref l),S,A,J]/\aQ C U/\U l=some (.lst (map int hs))/\hs.length=many/\∀h∈hs,Nm h
def qY(K:aR):TS:=(cC (cT (tOp gR (aE 3) (aE 1)) (aZ 5)) (cT (tOp gR (tOp iF (tOp iF (tOp eT (tOp (fX K) (aE 2) (aE 5)) (tC (.int 48271))) (aE 4)) (tOp eT (aE 3) (aE 3))) (tOp iF (tOp tV (tC (.int 10)) (tC (.int 60))) (tC (.int 7)))) (Kr (aE 2) (aE 5) xH)))
def Pe(K:aR):TS:=(cC (cT (tC (.int 0)) (aZ 4)) (cC (fS (cV (tOp tT (tCB (jE K) (aH (aE 0) bE)) (tC (.int 0)))) (cT (tOp gR (tOp (fX K) (aE 0) (tOp gR (aE 3) (tCB cMin (aH (tCB (jE K) (aH (aE 0) bE)) (aH (tC (.int 63)) bE))))) (tOp iF (tOp tV (tC (.int 10)) (tC (.int 60))) (tC (.int 7)))) (aZ 4)) eJ) (qY K)))
def Ag(K:aR):TE:=(tC (.int 0))
def zE(K:aR):TS:=(cC (cT (dQ (hV (aH (aE 1) bE)) [] (Ag K)) (aZ 2)) (cC (gI (hV (aH (tCB cMax (aH (aE 1) (aH (tCB cMin (aH (tCB (jE K) (aH (aE 0) bE)) (aH (tC (.int 63)) bE))) bE))) bE)) (aZ 3) (Pe K)) (cQ (aE 2))))
def nm_mod(c:Int):Nm (c%(10^Int.toNat 60+7)):=by
 have o:=Int.emod_nonneg c (show(10^Int.toNat 60+7:Int)≠0 by decide);have l:=Int.emod_lt_of_pos c (show(0:Int)<10^Int.toNat 60+7 by decide);refine#[o,?_];generalize c%(10^Int.toNat 60+7)=w at o l⊢;have a:(10^Int.toNat 60:Int)=1000000000000000000000000000000000000000000000000000000000000:=by decide
 rw[a]at l;unfold BB;have:(2:Nat)^210=1645504557321206042154969182557350504982735865633579863348609024:=by decide
 rw[this];lia
def Vy{K}:RdS K xC zE Kj:=by
 rintro u H Q E ⟨a,ns,many,rfl,k,R,m1,m2,q⟩;rw[show start Kj [ref a,int many]=[some (.ref a),some (.int many),none,none,none,none]from rfl];(dsimp![zE,dQ,gI,hV,cMax,cMin,cC,cT,aZ,aE,tC,cQ,aH,bE,tCB,jE]);refine#[#[],#[],kD (lo:=0) (W:=WEq H λi N=>N=map int (List.replicate i 0)) (by rw[sizeLine_eq];lia) #[rfl,rfl] ?_ ?_]
 .rintro i T U _ _ ⟨rfl,rfl⟩;dsimp only[Ag,tC,fJ,fK,fH];exact#[rfl,by show _=map int (List.replicate (i+1) 0);rw[List.replicate_succ',aY];rfl]
 .rintro T U _ ⟨rfl,rfl⟩ l Y;rw[dA];have O:=aQ.upd (o:=lst (map int (List.replicate many 0))) Y;refine#[_,.inl (O.seq k),?_];rw[aA];have P:∃j:Nat,(if(if 63<(ns.length:Int)then 63 else(ns.length:Int))>many then(if 63<(ns.length:Int)then 63 else(ns.length:Int))else(many:Int))=j/\j<=1063:=by
   refine#[(if(if 63<(ns.length:Int)then 63 else(ns.length:Int))>many then(if 63<(ns.length:Int)then 63 else(ns.length:Int))else(many:Int)).toNat,?_,?_]
   .split<;>(try split)<;>lia
   .split<;>(try split)<;>lia
  obtain⟨j,f,P⟩:=P;rw[f,dA];refine#[#[],#[],uF (lo:=0) (n:=j) (g:=aZ 3) (D:={ nx:=cQ (aE 2) (eQ Q),rt:=Q }) (Ee a l many U) ?_ ?_ ?_]
  .exact#[none,none,none,List.replicate many 0,rfl,O,aI,by rw[List.length_replicate],λh t=>by rw[List.eq_of_mem_replicate t];exact#[by decide,by unfold BB;decide]]
  .rintro i Z w p ⟨S,A,J,hs,rfl,G,d,C,hb⟩;have last:∀c:Int,qY K { nx:=Ee a l many U (i+1),ct:=Ee a l many U (i+1),bk:=cQ (aE 2) (eQ Q),rt:=Q } [some (.ref a),some (.int many),some (.ref l),some (.int (0+i)),some (.int c),J] w:=by
    intro c;have b:((0+(i:Int))%(many:Int))=((i%many:Nat):Int):=by rw[eP];push_cast;rfl
    have e:i%many<many:=Nat.mod_lt _ #[];(dsimp![qY,Kr,xH,cC,cT,aZ,aE,tC,tOp,rI0,rI,iF,eT,gR,tV,fX]);refine#[#[],_,SqL.of d,_,Vp (by rw[b];lia) (by rw[b,C];lia),_,rfl,.r (by unfold BB;decide),.r (by unfold BB;lia),#[by decide,by decide,by decide],by decide,_,d,_,(by rw[aA,C];exact Eu (by rw[b];lia) (by rw[b];lia)),?_];rw[←List.map_set];refine#[_,_,_,_,rfl,G.put Y,aI,by rw[length_set,C],λh t=>?_];rcases mem_or_eq_of_mem_set t with t |rfl
    .exact hb h t
    .exact nm_mod _
   (dsimp![cMin,cC,cT,aZ,aE,tC,tOp,rI0,rI,iF,gR,tV,tT,fS,cV,eJ,aH,bE,tCB,jE,fX,cP]);refine#[_,.inl (G.seq k),kX (λs=>?_) (λ_=>last 0)];rw[aA]at s;refine#[_,.inl (G.seq k),?_];rw[aA];have hm:0<(if 63<(ns.length:Int)then 63 else(ns.length:Int))/\(if 63<(ns.length:Int)then 63 else(ns.length:Int))<=ns.length:=by split<;>lia
   generalize (if 63<(ns.length:Int)then 63 else(ns.length:Int))=m at hm;have I:=Int.emod_nonneg (0+(i:Int)) (show m≠0 by lia);have v:=Int.emod_lt_of_pos (0+(i:Int)) hm.1;exact#[hm.1,_,G.seq k,_,Vp I #[],#[by decide,by decide,by decide],_,rfl,by decide,last _]
  .rintro Z w ⟨S,A,J,hs,rfl,G,d,C,hb⟩;(dsimp![aE,cQ]);exact q l hs w G d C hb
def Tp:LS:=["_law_sizes","_law_plays_here","_law_many","_law_longer","_law_play"]
def Dx(K:aR):Sp:=λvs H Q _=>∃l ns,vs=[.ref l]/\H l=some (.lst (tv ns))/\Sz ns/\∀p xs H',aQ H H'->H p=none->H' p=some (.lst xs)->Ps H' xs (dM ns.reverse)->Q (.ref p) H'
def jZq(s:Nat)(b:List Nat):fW:=(range s).map λc=>b++[c]
def jZW(l:Addr)(H:Hp)(ns:List Nat):NS:=λi Z U=>∃t xs S A J,Z=[some (.ref l),some (.ref t),S,A,J]/\aQ H U/\H t=none/\U t=some (.lst xs)/\Ps U xs (dM (ns.take i).reverse)
def Ze(l t:Addr)(n:Nat)(H:Hp)(qs:fW):NS:=λj Z U=>∃g ys J,Z=[some (.ref l),some (.ref t),some (.int n),some (.ref g),J]/\aQ H U/\H g=none/\U g=some (.lst ys)/\Ps U ys ((qs.take j).flatMap (jZq n))
def wJ(K:aR):TS:=(cT (aE 3) (aZ 1))
def wK(K:aR):TE:=(tOp sB (aE 1) (iA (aH (aE 0) bE)))
def Gb(K:aR):TS:=(cT (tOp qJ (aE 3) (dQ (hV (aH (aE 2) bE)) [4] (wK K))) (aZ 3))
def Ga(K:aR):TS:=(cC (cT (kQ bE) (aZ 3)) (cC (gI (dC K (aE 1)) (aZ 4) (Gb K)) (wJ K)))
def Hn(K:aR):TS:=(cC (cT (kQ (aH (iA bE) bE)) (aZ 1)) (cC (gI (dC K (aE 0)) (aZ 2) (Ga K)) (cQ (aE 1))))
def jYs(s:Nat)(b:List Nat):(jZq s b).length=s:=by simp [jZq]
def Oq(s:Nat):∀qs:fW,(qs.flatMap (jZq s)).length=qs.length*s
 | []=>by simp
 |b::qs=>by rw[List.flatMap_cons,bC,jYs,Oq s qs,dB,Nat.succ_mul];lia
def jJp{K}:RdS K Dx Hn Tp:=by
 rintro m H Q E ⟨l,ns,rfl,hS,sz,q⟩;rw[show start Tp [ref l]=[some (.ref l),none,none,none,none]from rfl];(dsimp?[Hn,gI,dC]);refine#[sz0,λa ha=>#[sz1,λt y=>?_]];have O:aQ H (upd H a (.tup [])):=aQ.upd ha;have s2:aQ (upd H a (.tup [])) (upd (upd H a (.tup [])) t (.lst [.ref a])):=aQ.upd y;have s3:=O.trans s2;refine#[#[_,SqL.of (s3 _ _ hS)],iU (K:=K) (a:=l) (xs:=tv ns) (g:=aZ 2) (D:={ nx:=cQ (aE 1) (eQ Q),rt:=Q }) (jZW l H ns) ?_ ?_ ?_ ?_]
 .exact#[t,_,none,none,none,rfl,s3,O.free y,aI,Ps.one (s2 _ _ aI)]
 .rintro i Z U _ ⟨_,_,_,_,_,_,G,_⟩;exact SqL.of (G _ _ hS)
 .rintro i x Z U hi ⟨t,F,S,A,o3,rfl,G,y,B,J⟩;obtain⟨n,R,rfl⟩:=Gy hi;have a1:i<ns.length:=(aK.mp R).1;have Y:=sz.le n (aL R);have C:=sz.len;have a0:(dM (ns.take i).reverse).length<=36:=by
   rw[Jy _ (sz.take i).rev.ge];have h2:(ns.take i).reverse.length<=2:=?_
   .exact cK (Fc _ (sz.take i).rev.le) (cK (fY (by decide) h2) (by decide))
   rw[cU,dO];lia
  have f:F.length=(dM (ns.take i).reverse).length:=J.1;(dsimp?[Ga,gI,dC]);refine#[sz0,λg hg=>?_];have X:aQ U (upd U g (.lst [])):=aQ.upd hg;refine#[#[_,SqL.of (X _ _ B)],iU (K:=K) (a:=t) (xs:=F) (g:=aZ 4) (D:={ nx:=wJ K _,rt:=Q }) (Ze l t n U (dM (ns.take i).reverse)) ?_ ?_ ?_ ?_]
  .exact#[g,[],_,rfl,X,hg,aI,Ps.nil]
  .rintro j Z w _ ⟨_,_,_,_,s,_⟩;exact SqL.of (s _ _ B)
  .rintro j x Z w P ⟨g,T,o4,rfl,s,hg,o,py⟩;obtain⟨b,a,hb,rfl,ha⟩:=(J.same s).get P;have a2:j<(dM (ns.take i).reverse).length:=(aK.mp hb).1;have d:T.length=j*n:=by rw[py.1,Oq,dO];congr 1;lia
   (dsimp?[Gb,dQ,hV,qJ]);refine#[#[],#[],kD (lo:=0) (n:=n) (λk N I=>aQ w I/\Ps I N ((range k).map λc=>b++[c])) (pS #[]) #[aQ.refl _,Ps.nil] ?_ ?_]
   .rintro k N I hk _ ⟨u,pz⟩;(dsimp?[cN,bR,cR,wK,sB];try simp_arith[cN,bR,cR,wK,sB,eP])
    refine#[sz1,λz M=>?_];have v:aQ I (upd I z (.tup [.int k])):=aQ.upd M;refine#[_,rfl,_,v _ _ (u _ _ ha),_,aI,?_,λp H6 e hp=>#[u.trans (v.trans e),?_]]
    .rw[mU];have:=iE _ b (aL hb);rw[cU,dO]at this;exact pS (by show _+1<=216;lia)
    .rw[gW,aY];exact(pz.same (v.trans e)).app (Ps.one (by rw[hp,tv_app];rfl))
   .rintro N I M ⟨u,pz⟩ p hp;have v:aQ I (upd I p (.lst N)):=aQ.upd hp;refine#[T,v _ _ (u _ _ o),N,aI,?_,λr hr=>?_]
    .rw[d,M];have:j*n+n<=216:=by
      have h1:(j+1)*n<=36*6:=gO #[] Y;rw[Nat.succ_mul]at h1;exact h1
     exact pS this
    .have e:aQ (upd I p (.lst N)) (upd (upd I p (.lst N)) r (.lst (T++N))):=aQ.upd hr;refine#[r,_,_,rfl,((s.trans u).trans v).trans e,((s.trans u).trans v).free hr,aI,?_];rw[dI hb,List.flatMap_append];refine Ps.app (((py.same u).same v).same e) ?_;rw[List.flatMap_cons,List.flatMap_nil,cA];exact(pz.same v).same e
  .rintro Z w ⟨g,T,o4,rfl,s,hg,o,py⟩;(dsimp?[wJ]);refine#[g,T,_,_,_,rfl,G.trans s,G.free hg,o,?_];rw[f,cB]at py;rw[dI R,List.reverse_append];exact py
 .rintro Z U ⟨t,F,S,A,o3,rfl,G,y,B,J⟩;(dsimp![aE,tC,tOp,rI0,rNe,gT,cQ,cV]);rw[mU,cB]at J;exact q t F U G y B J
def Kl:LS:=["_law_one","_law_other"]
def jH(_:aR):Sp:=λvs H Q _=>∃a b,vs=[.int a,.int b]/\Q (.int (Int.gcd a b:Nat)) H
def Aj(K:aR):TS:=(Qh 0 1 (aH (aE 1) (aH (tOp gR (aE 0) (aE 1)) bE)))
def zK(K:aR):TS:=(cC (cT (tCB Dh (aH (aE 0) bE)) (aZ 0)) (cC (cT (tCB Dh (aH (aE 1) bE)) (aZ 1)) (cC (yL (cV (tOp tT (aE 1) (tC (.int 0)))) (Aj K)) (cQ (aE 0)))))
def Wa{K}:RdS K jH zK Kl:=by
 rintro m H Q E ⟨a,b,rfl,k⟩;rw[show start Kl [int a,int b]=[some (.int a),some (.int b)]from rfl];(dsimp![zK,cC,cT,aZ,aE,tT,aH,bE,tCB,Dh,jJX]);refine Mt (λZ d=>d=H/\∃g s,Z=[some (.int g),some (.int s)]/\0<=g/\0<=s/\Int.gcd g s=Int.gcd a b) (λZ _=>(intO (Z.getD 1 none)).toNat) ?_ ?_ ?_
 .exact#[rfl,_,_,rfl,#[],#[],by simp [Int.gcd]]
 .rintro Z d ⟨rfl,g,s,rfl,hg,hs,e⟩;(dsimp![Aj,aE,tC,tOp,rI0,rI,gR,cQ,cV,aH,bE,Qh,cP]);refine kX (λhp=>?_) (λhp=>?_)
  .have h1:=Int.emod_nonneg g (b:=s) #[];have h2:=Int.emod_lt_of_pos g hp;simp [hp,h1,hs];refine#[?_,?_]
   .rw[←e,Int.gcd_comm g s,Int.emod_def,Int.gcd_sub_mul_left_right]
   .show max (g%s) 0<s;lia
  .have c:s=0:=#[];subst c;rw[←e,Int.gcd_zero_right]at k;have:((g.natAbs:Nat):Int)=g:=#[];rw[this]at k;exact k
 .intro Z d f n y h;dsimp only[cV,tOp,tC,rI0]at h⊢
  first
  | (obtain⟨v,hv,q⟩:=Ar h
     exact Aq hv (jVQ q λi q=>y _ _ q))
  | (obtain⟨v,hv,i,j,hi,P,b,hb,q⟩:=Ar h
     exact Aq hv #[i,j,hi,P,b,hb,y _ _ q])
def Kk:LS:=["_law_number","_law_way_here","_law_top","_law_bottom","_law_most"]
def qE(_:aR):Sp:=λvs H Q _=>∃n a,vs=[.int n,.int a]/\Nm n/\∀p H',aQ H H'->EnV 30 H' (.ref p)->(a=0∨a=1∨a=3->EnS H' (.ref p))->Q (.ref p) H'
def nJ(K:aR):TS:=(cC (cT (cD (jH K) [] E0 (aH (aE 2) (aH (aE 3) bE))) (aZ 4)) (cQ (iA (aH (tOp kR (aE 2) (aE 4)) (aH (tOp kR (aE 3) (aE 4)) bE)))))
def qZ(K:aR):TS:=(cC (cT (tOp iF (tC (.int 1)) (tOp gR (tOp gR (tOp eT (aE 0) (tC (.int 16807))) (tC (.int 1000037))) (tC (.int 9)))) (aZ 3)) (cC (fS (cV (tOp rEq (aE 1) (tC (.int 4)))) (cT (tOp iF (tC (.int 1)) (tOp gR (tOp eT (aE 0) (tC (.int 16807))) (tC (.int 1000037)))) (aZ 3)) eJ) (nJ K)))
def Ai(K:aR):TS:=(cC (cT (tOp kZ (tOp gR (aE 0) (tOp iF (tOp eT (tC (.int 2)) (tOp tV (tC (.int 10)) (tC (.int 9)))) (tC (.int 1)))) (tOp tV (tC (.int 10)) (tC (.int 9)))) (aZ 2)) (cC (fS (cV (tOp rEq (aE 1) (tC (.int 3)))) (cT (tOp kZ (tOp gR (tOp gR (tOp eT (aE 0) (tC (.int 69621))) (tC (.int 1000033))) (tC (.int 1999))) (tC (.int 999))) (aZ 2)) eJ) (qZ K)))
def Ah(K:aR):TS:=(cC (fS (cV (tOp rEq (aE 1) (tC (.int 1)))) (cQ (iA (aH (tOp kZ (tOp gR (tOp gR (tOp eT (aE 0) (tC (.int 69621))) (tC (.int 1000033))) (tC (.int 19))) (tC (.int 9))) (aH (tC (.int 1)) bE)))) eJ) (Ai K))
def zJ(K:aR):TS:=(cC (fS (cV (tOp rEq (aE 1) (tC (.int 0)))) (cQ (iA (aH (tOp kZ (tOp gR (tOp gR (tOp eT (aE 0) (tC (.int 48271))) (tC (.int 1000003))) (tC (.int 3))) (tC (.int 1))) (aH (tC (.int 1)) bE)))) eJ) (Ah K))
def bb_t9(c:Int):BB 30 (c%(2*10^Int.toNat 9+1)-10^Int.toNat 9):=by
 have e:(10^Int.toNat 9:Int)=1000000000:=by decide
 rw[e];unfold BB;lia
def Vz{K}:RdS K qE zJ Kk:=by
 rintro G H Q E ⟨n,a,rfl,C,q⟩;rw[show start Kk [int n,int a]=[some (.int n),some (.int a),none,none,none]from rfl];have bn:=C.2;have b1:∀k:Int,0<=k->k<1000000->BB 20 k:=λk c h1=>by unfold BB;lia
 have en:∀{p:Addr}{d:Hp}{x y:Int},aQ H d->d p=some (.tup [.int x,.int y])->0<y->y<=9->BB 10 x->Q (.ref p) d:=λ{p d x y} s h y0 j b=>
  have e:EnS d (.ref p):=#[p,x,y,rfl,h,y0,j,b]
  q p d s e.v λ_=>e
 have g:∀t b:Int,BB 30 t->(a=0∨a=1∨a=3->BB 10 t)->0<b->b<=1000037->(a≠4->b<=9)->nJ K (eQ Q) [some (.int n),some (.int a),some (.int t),some (.int b),none] H:=by
  intro t b l f m1 A D;(dsimp?[nJ];try simp_arith[nJ,jH])
  have B:0<Int.gcd t b:=Int.gcd_pos_of_ne_zero_right _ #[];have bb:BB 20 b:=by unfold BB;lia
  have bg:=bb.gcd (i:=t) #[];refine#[#[#[],bg.mono (by decide)],#[#[],bg.mono (by decide)],sz2,λp hp=>q p _ (aQ.upd hp) ?_ λw=>?_]
  .have F:=Uo (t:=t) (b:=b) #[];have Z:=F.by_;exact#[p,_,_,rfl,aI,F.pos,by have:=F.pos;lia,l.of_le F.bx]
  .have F:=Uo (t:=t) (b:=b) #[];have Z:=F.by_;have:=D #[];exact#[p,_,_,rfl,aI,F.pos,by have:=F.pos;lia,(f w).of_le F.bx]
 have z:∀t:Int,BB 30 t->(a=0∨a=1∨a=3->BB 10 t)->qZ K (eQ Q) [some (.int n),some (.int a),some (.int t),none,none] H:=by
  intro t l f;(dsimp?[qZ]);refine#[.b bn (b1 _ (by decide) (by decide)),by decide,by decide,kX (λw=>#[.b bn (b1 _ (by decide) (by decide)),by decide,?_]) (λw=>?_)]
  .generalize n*16807=m;exact g _ _ l f #[] #[] #[]
  .generalize n*16807%1000037=m;exact g _ _ l f #[] #[] #[]
 (dsimp?[zJ,Ah,Ai]);refine kX (λ_=>?_) (λr=>kX (λ_=>?_) (λo=>?_))
 .refine#[.b bn (b1 _ (by decide) (by decide)),by decide,by decide,sz2,λp hp=>en (aQ.upd hp) aI (by decide) (by decide) ?_];generalize n*48271%1000003=m;unfold BB;lia
 .refine#[.b bn (b1 _ (by decide) (by decide)),by decide,by decide,sz2,λp hp=>en (aQ.upd hp) aI (by decide) (by decide) ?_];generalize n*69621%1000033=m;unfold BB;lia
 .refine#[#[by decide,by decide,by decide],.b (m:=2) (n:=40) (by unfold BB;decide) (by unfold BB;decide),by decide,#[by decide,by decide,by decide],kX (λ_=>?_) (λu=>z _ (bb_t9 n) λw=>by lia)];refine#[.b bn (b1 _ (by decide) (by decide)),by decide,by decide,?_];generalize n*69621%1000033=m;have b:BB 10 (m%1999-999):=by unfold BB;lia
  exact z _ (b.mono (by decide)) λ_=>b
def jX3:LS:=["_law_number","_law_many"]
def Nh(_:aR):Sp:=λvs H Q _=>∃n m:Int,vs=[.int n,.int m]/\∀(w:Int) H',aQ H H'->(m<=4∨w=0∨w=1∨w=3)->Q (.int w) H'
def Oi(K:aR):TS:=(cQ (tOp gR (aE 0) (tC (.int 3))))
def Oh(K:aR):TS:=(cC (fS (cV (tOp rEq (tOp gR (aE 0) (tC (.int 3))) (tC (.int 2)))) (cQ (tOp (fX K) (kQ (aH (tC (.int 2)) (aH (tC (.int 4)) bE))) (tOp gR (tOp Ja (aE 0) (tC (.int 3))) (tC (.int 2))))) eJ) (Oi K))
def Og(K:aR):TS:=(cC (fS (Ek (cV (tOp rEq (tOp gR (aE 0) (tC (.int 3))) (tC (.int 2)))) (cV (tOp tT (aE 1) (tC (.int 4))))) (cQ (tC (.int 3))) eJ) (Oh K))
def Uz(K:aR):TS:=(cC (fS (cV (tOp tT (aE 1) (tC (.int 6)))) (cQ (tC (.int 0))) eJ) (Og K))
def jWh{K}:RdS K Nh Uz jX3:=by
 rintro d H Q E ⟨n,m,rfl,q⟩;rw[show start jX3 [int n,int m]=[some (.int n),some (.int m)]from rfl];(dsimp?[Uz,Og,Oh,Oi]);have c:=aQ.refl H;refine kX (λ_=>q 0 H c #[]) (λ_=>#[by decide,?_]);have z:n%3≠2->Q (int (n%3)) H:=λh=>q _ H c #[];refine kX (λa=>kX (λ_=>q 3 H c #[]) (λb=>#[by decide,?_])) (λa=>?_)
 .rw[aJ a];refine#[sz2,λp hp=>#[#[by decide,by decide],by decide,_,SqL.of aI,?_]];have h1:n/3%2=0∨n/3%2=1:=#[];rcases h1 with h |h<;>rw[h]
  .exact#[_,iR,q 2 _ (aQ.upd hp) #[]]
  .exact#[_,iB,q 4 _ (aQ.upd hp) #[]]
 .rw[aF bU,aF a];exact#[by decide,by decide,z a]
def Tq:LS:=["_law_script","_law_head","_law_sizes","_law_plays_here","_law_cells","_law_k","_law_goal"]
structure DrO(H:Hp)(r s c g:Addr)(ms:List Nat)(kv:List (List Key×V))(cont:List Nat->List V)(xs:List V):Prop where
 hr:H r=some (.tup [.ref s,.ref c,.ref g])
 hs:H s=some (.lst (tv ms))
 s3:S2 ms
 sz:Sz ms
 hc:H c=some (.dT kv)
 kc:Kc H kv cont (dM ms.reverse)
 cl:∀q,(cont q).length=2
 en:∀q∈dM ms.reverse,∀v∈cont q,EnP (dM ms.reverse).length H v
 hg:H g=some (.lst xs)
 xl:xs.length=2
 xe:∀v∈xs,EnS H v
def Dy(K:aR):Sp:=λvs H Q _=>∃a ns,vs=[.ref a]/\SqL K H a (map int ns)/\ns.length<=63/\∀r s c g C B A xs H',aQ H H'->DrO H' r s c g C B A xs->Q (.ref r) H'
def jZV(C:Hp)(c:Addr)(pre:St)(qs:fW):NS:=λi Z U=>∃B A o,Z=pre++[some (.ref c),o,none]/\aQ C U/\U c=some (.dT B)/\Kc U B A (qs.take i)/\(∀q,(A q).length=2)/\∀q∈qs.take i,∀v∈A q,EnP qs.length U v
def Gf(K:aR):TS:=(cQ (iA (aH (aE 2) (aH (aE 4) (aH (aE 6) bE)))))
def wR(K:aR):TE:=(cD (qE K) [] E0 (aH (tOp (fX K) (aE 1) (tOp iF (tC (.int 4)) (aE 0))) (aH (tOp (fX K) (kQ (aH (tC (.int 0)) (aH (tC (.int 1)) (aH (tC (.int 3)) bE)))) (tOp gR (tOp (fX K) (aE 1) (tC (.int 6))) (tC (.int 3)))) bE)))
def wP(K:aR):TS:=(cC (cT (dQ (hV (aH (tC (.int 2)) bE)) [1] (wR K)) (aZ 6)) (Gf K))
def wQ(K:aR):TE:=(cD (qE K) [] E0 (aH (tOp (fX K) (aE 1) (tOp iF (tOp iF (tC (.int 8)) (tOp eT (tC (.int 2)) (aE 3))) (aE 0))) (aH (cD (Nh K) [] E0 (aH (tOp (fX K) (aE 1) (tC (.int 3))) (aH (tCB (jE K) (aH (aE 2) bE)) bE))) bE)))
def Gg(K:aR):TS:=(Cb (aE 4) (tOp (fX K) (aE 3) (aE 5)) (dQ (hV (aH (tC (.int 2)) bE)) [1,3,5] (wQ K)))
def Ge(K:aR):TS:=(cC (gI (hV (aH (tCB (jE K) (aH (aE 3) bE)) bE)) (aZ 5) (Gg K)) (wP K))
def Gd(K:aR):TS:=(cC (cT vN (aZ 4)) (Ge K))
def wO(K:aR):TS:=(cC (cT (cD (Dx K) [] E0 (aH (aE 2) bE)) (aZ 3)) (Gd K))
def wN(K:aR):TS:=(cC (fS (cV (tOp rEq (tOp gR (tOp (fX K) (aE 1) (tC (.int 7))) (tC (.int 2))) (tC (.int 1)))) (cT (kQ (aH (tOp (fX K) (aE 2) (tC (.int 1))) (aH (tOp (fX K) (aE 2) (tC (.int 0))) bE))) (aZ 2)) eJ) (wO K))
def wM(K:aR):TS:=(cC (fS (cV (tOp rEq (tOp gR (tOp (fX K) (aE 1) (tC (.int 2))) (tC (.int 16))) (tC (.int 2)))) (cT (tOp (fX K) (kQ (aH (kQ (aH (tC (.int 1)) (aH (tC (.int 6)) bE))) (aH (kQ (aH (tC (.int 2)) (aH (tC (.int 4)) bE))) (aH (kQ (aH (tC (.int 3)) (aH (tC (.int 3)) bE))) (aH (kQ (aH (tC (.int 1)) (aH (tC (.int 4)) bE))) bE))))) (tOp gR (tOp (fX K) (aE 1) (tC (.int 1))) (tC (.int 4)))) (aZ 2)) eJ) (wN K))
def wL(K:aR):TS:=(cC (fS (cV (tOp rEq (tOp gR (tOp (fX K) (aE 1) (tC (.int 2))) (tC (.int 4))) (tC (.int 1)))) (cT (tOp iF (tC (.int 1)) (tOp gR (tOp (fX K) (aE 1) (tC (.int 1))) (tC (.int 3)))) (Kr (aE 2) (tC (.int 1)) xH)) eJ) (wM K))
def Gc(K:aR):TS:=(cC (cT (kQ (aH (tOp iF (tC (.int 1)) (tOp gR (tOp (fX K) (aE 1) (tC (.int 0))) (tC (.int 2)))) (aH (tOp iF (tC (.int 1)) (tOp gR (tOp (fX K) (aE 1) (tC (.int 1))) (tC (.int 2)))) bE))) (aZ 2)) (wL K))
def Ho(K:aR):TS:=(cC (cT (cD (xC K) [] E0 (aH (aE 0) (aH (tC (.int 28)) bE))) (aZ 1)) (Gc K))
def S2.sz{C:List Nat}(h:S2 C):Sz C:=by
 obtain⟨a,b,rfl,d,t,B,b6⟩:=h.pos;exact#[by show 2<=3;decide,λn R=>by simp at R;lia,λn R=>by simp at R;lia]
def S2.swap{a b:Nat}(h:(a,b)∈[(1,1),(1,2),(1,3),(2,1),(2,2),(2,3),(3,1),(3,2),(1,6),(6,1),(2,4),(4,2),(3,3),(1,4),(4,1)]):S2 [b,a]:=by
 have k:∀x∈[(1,1),(1,2),(1,3),(2,1),(2,2),(2,3),(3,1),(3,2),(1,6),(6,1),(2,4),(4,2),(3,3),(1,4),(4,1)],((x.2,x.1):Nat×Nat)∈[(1,1),(1,2),(1,3),(2,1),(2,2),(2,3),(3,1),(3,2),(1,6),(6,1),(2,4),(4,2),(3,3),(1,4),(4,1)]:=by decide+kernel
 exact#[b,a,rfl,k _ h]
def jJq{K}:RdS K Dy Ho Tq:=by
 rintro vs H Q E ⟨a,ns,rfl,hS,R,k⟩;rw[show start Tq [ref a]=[some (.ref a),none,none,none,none,none,none]from rfl];(dsimp![Ho,cC,cT,aZ,aE,tC,tOp,rI0,rI,iF,gR,rEq,gT,fS,cV,eJ,cD,aH,bE,iA,kQ,fX,jN,eK,jO,cA,cP]);refine#[a,ns,28,rfl,hS,R,by decide,by decide,λhd hs S O t Y nm=>?_];have a0:∀{i:Nat},i<28->atI (map int hs) (i:Int)=some (.int (hs.getD i 0)):=λh=>jW8 #[];have a8:∀{i:Nat},i<28->Nm (hs.getD i 0):=λh=>nm _ (lZ #[]);have r5:∀sl ms M,aQ S M->M sl=some (.lst (tv ms))->S2 ms->wO K (eQ Q) [some (.ref a),some (.ref hd),some (.ref sl),none,none,none,none] M:=by
  intro sl ms M s2 a1 s3;have sz:=s3.sz;have b3:=s2 _ _ t;(dsimp?[wO]);refine#[sl,ms,rfl,a1,sz,λpl ps H4 G _ a5 pp=>?_];have q8:=s3.all.2.2.1;have pn:=pp.1;have a9:=G _ _ b3;(dsimp?[Gd,vN]);intro c hc;have su:=aQ.upd (o:=HO.dT []) hc;(dsimp?[Ge,gI,hV]);refine#[_,.inl (SqL.of (su _ _ a5)),#[],#[],?_];rw[show((ps.length:Nat):Int).toNat=(dM ms.reverse).length by lia];refine uF (lo:=0) (g:=aZ 5) (D:={ nx:=wP K (eQ Q),rt:=Q }) (jZV H4 c [some (.ref a),some (.ref hd),some (.ref sl),some (.ref pl)] (dM ms.reverse)) #[[],λ_=>[.non,.non],none,rfl,su,aI,#[rfl,λi q e=>by simp at e],λ_=>rfl,λq J=>by simp at J] ?_ ?_
  .rintro i Z I hi ⟨B,A,o,rfl,X,a6,kc,cl,en⟩;(dsimp?[Gg,Cb,dQ,hV,Lca,Lna]);refine#[by decide,by decide,kD (lo:=0) (λj N H6=>aQ I H6/\N.length=j/\∀v∈N,EnP (dM ms.reverse).length H6 v) (by rw[sizeLine_eq];decide) #[aQ.refl _,rfl,by simp] ?_ ?_]
   .rintro j N H6 P _ ⟨s,zl,ze⟩;have j3:j<2:=P;have a4:=s _ _ (X _ _ a9);(dsimp?[wQ,cN,bR,cR,bH];try simp_arith[wQ,cN,bR,cR,bH,eP])
    refine#[.b (m:=10) (n:=10) (by unfold BB;decide) (by unfold BB;lia),_,SqL.of a4,_,by rw[show(8+2*(i:Int)+j)=((8+2*i+j:Nat):Int) by push_cast;rfl];exact a0 #[],_,SqL.of a4,_,a0 (i:=3) #[],_,.inl (SqL.of (s _ _ (X _ _ a5))),_,_,rfl,λw Hw sw hw=>?_];refine#[_,_,rfl,a8 #[],λr H7 u er es=>#[(s.trans sw).trans u,by rw[bC,zl];rfl,λv hv=>?_]];rcases cW.mp hv with hv |hv
    .exact(ze v hv).keep (eN (sw.trans u))
    .rw[bZ.mp hv];exact#[er,λh4=>es #[]]
   rintro N H6 _ ⟨s,zl,ze⟩ p hp;have zl:N.length=2:=zl;have u:=aQ.upd (o:=lst N) hp;have a2:=s.trans u;have p7:(upd H6 p (.lst N)) p=some (.lst N):=aI;have b0:∀v∈N,EnP (dM ms.reverse).length (upd H6 p (.lst N)) v:=λv hv=>(ze v hv).keep (eN u);generalize upd H6 p (.lst N)=H7 at a2 p7 b0;have a7:=X.trans a2;obtain⟨q,b,eq,eb,hb⟩:=(pp.same a7).at hi;have n0:=kc.new (mJ _) eq;have c7:=a2 _ _ a6;have J:=aL eq;have nt:=Ec (mJ ms.reverse) eq;have kl:=kc.1;rw[dO]at kl;have up:∀b o,b≠c->H7 b=some o->(upd H7 c (.dT (B++[(tk q,.ref p)]))) b=some o:=λb o hb e=>by rw[bY hb];exact e
   have nc:∀b F,H7 b=some (.lst F)->b≠c:=λb F e z=>by rw[z,c7]at e;cases e
   have b4:∀b F,H7 b=some (.tup F)->b≠c:=λb F e z=>by rw[z,c7]at e;cases e
   have ci:∀f∈(dM ms.reverse).take i,(if f=q then N else A f)=A f:=λf U=>aF λ(z:f=q)=>nt (by rw[←z];exact U);refine#[_,SqL.of (a7 _ _ a5),_,by rw[eP];exact gU eb,_,.inr #[B,tk q,b,c7,rfl,by rw[tU];exact hb,by rw[sizeLine_eq];lia,rfl],B++[(tk q,.ref p)],λf=>if f=q then N else A f,_,rfl,a7.put hc,by rw[aI,nF _ n0],?_,λf=>by dsimp only;split;exact zl;exact cl f,λf a3 v hv=>?_]
   .rw[nF _ n0];refine Kc.snoc (((kc.same a2).off λb F e=>up b _ (nc b F e) e).cong ci) eq (up _ _ (nc _ _ p7) ?_);rw[aJ rfl];exact p7
   .rw[nF _ n0];have kt:Cf H7 (upd H7 c (.dT (B++[(tk q,.ref p)]))):=λb F e=>up b _ (b4 b F e) e;rw[dI eq]at a3;by_cases e:f=q
    .dsimp only at hv;rw[aJ e]at hv;exact(b0 v hv).keep kt
    .dsimp only at hv;rw[aF e]at hv;rcases cW.mp a3 with a3 |a3
     .exact((en f a3 v hv).keep (eN a2)).keep kt
     .exact absurd (bZ.mp a3) e
  .rintro Z I ⟨B,A,o,rfl,X,a6,kc,cl,en⟩;rw[cB]at kc en;(dsimp?[wP,dQ,hV,Lca,Lna]);refine#[by decide,by decide,kD (lo:=0) (λj N H6=>aQ I H6/\N.length=j/\∀v∈N,EnS H6 v) (by rw[sizeLine_eq];decide) #[aQ.refl _,rfl,by simp] ?_ ?_]
   .rintro j N H6 P _ ⟨s,zl,ze⟩;have j3:j<2:=P;have a4:=s _ _ (X _ _ a9);(dsimp?[wR,cN,bR,cR,bH];try simp_arith[wR,cN,bR,cR,bH,eP])
    refine#[_,SqL.of a4,_,by rw[show(4+(j:Int))=((4+j:Nat):Int) by push_cast;rfl];exact a0 #[],sz3,λp hp=>?_];have sp:=aQ.upd (o:=lst [int 0,int 1,int 3]) hp;have ew:∃w:Int,(w=0∨w=1∨w=3)/\atI [int 0,int 1,int 3] (hs.getD 6 0%3)=some (.int w):=by
     have h1:hs.getD 6 0%3=0∨hs.getD 6 0%3=1∨hs.getD 6 0%3=2:=#[];rcases h1 with h |h |h<;>rw[h]
     .exact#[0,.inl rfl,iR]
     .exact#[1,.inr (.inl rfl),iB]
     .exact#[3,.inr (.inr rfl),atI2]
    obtain⟨w,w3,ew⟩:=ew;refine#[_,SqL.of (sp _ _ a4),_,a0 (i:=6) #[],_,rfl,by decide,_,SqL.of aI,_,ew,_,_,rfl,a8 #[],λr H7 u er es=>#[(s.trans sp).trans u,by rw[bC,zl];rfl,λv hv=>?_]];rcases cW.mp hv with hv |hv
    .exact(ze v hv).keep (eN (sp.trans u))
    .rw[bZ.mp hv];exact es w3
   rintro N H6 _ ⟨s,zl,ze⟩ p hp;(dsimp?[Gf]);refine#[sz3,λr hr=>?_];have u:=(aQ.upd (o:=lst N) hp).trans (aQ.upd (o:=tup [ref sl,ref c,ref p]) hr);have a2:=s.trans u;exact k r sl c p ms B A N _ (O.trans (s2.trans (G.trans (X.trans a2)))) #[aI,(G.trans (X.trans a2)) _ _ a1,s3,sz,a2 _ _ a6,kc.same a2,cl,λq J v hv=>(en q J v hv).keep (eN a2),aQ.upd hr _ _ aI,zl,λv hv=>(ze v hv).keep (eN u)]
 have r6:∀sl ms M,aQ S M->M sl=some (.lst (tv ms))->S2 ms->wN K (eQ Q) [some (.ref a),some (.ref hd),some (.ref sl),none,none,none,none] M:=by
  rintro sl ms M s2 a1 ⟨x,y,rfl,hm⟩;(dsimp?[wN]);refine#[_,SqL.of (s2 _ _ t),_,a0 (i:=7) #[],_,rfl,by decide,kX (λ_=>#[_,SqL.of a1,_,iB,_,SqL.of a1,_,iR,sz2,λp hp=>?_]) (λ_=>r5 sl _ M s2 a1 #[x,y,rfl,hm])];exact r5 p [y,x] _ (s2.trans (aQ.upd hp)) aI (S2.swap hm)
 have r7:∀sl ms M,aQ S M->M sl=some (.lst (tv ms))->S2 ms->wM K (eQ Q) [some (.ref a),some (.ref hd),some (.ref sl),none,none,none,none] M:=by
  intro sl ms M s2 a1 s3;(dsimp?[wM]);refine#[_,SqL.of (s2 _ _ t),_,a0 (i:=2) #[],_,rfl,by decide,kX (λ_=>?_) (λ_=>r6 sl _ M s2 a1 s3)];refine#[sz2,λT h1=>#[sz2,λl h2=>#[sz2,λp3 h3=>#[sz2,λp4 h4=>#[by show 4<=sizeLine;decide,λp5 h5=>?_]]]]];have u1:=aQ.upd (o:=lst [int 1,int 6]) h1;have u2:=aQ.upd (o:=lst [int 2,int 4]) h2;have u3:=aQ.upd (o:=lst [int 3,int 3]) h3;have u4:=aQ.upd (o:=lst [int 1,int 4]) h4;have u5:=aQ.upd (o:=lst [ref T,ref l,ref p3,ref p4]) h5;have e5:upd (upd (upd (upd (upd M T (lst [int 1,int 6])) l (lst [int 2,int 4])) p3 (lst [int 3,int 3])) p4 (lst [int 1,int 4])) p5 (lst [ref T,ref l,ref p3,ref p4]) p5=_:=aI;have e1:=u5 _ _ (u4 _ _ (u3 _ _ (u2 _ _ (aI (H:=M) (a:=T) (o:=lst [int 1,int 6])))));have C:=u5 _ _ (u4 _ _ (u3 _ _ (aI (H:=upd M T (lst [int 1,int 6])) (a:=l) (o:=lst [int 2,int 4]))));have e3:=u5 _ _ (u4 _ _ (aI (H:=upd (upd M T (lst [int 1,int 6])) l (lst [int 2,int 4])) (a:=p3) (o:=lst [int 3,int 3])));have e4:=u5 _ _ (aI (H:=upd (upd (upd M T (lst [int 1,int 6])) l (lst [int 2,int 4])) p3 (lst [int 3,int 3])) (a:=p4) (o:=lst [int 1,int 4]));have X:=s2.trans (((u1.trans u2).trans u3).trans (u4.trans u5));generalize upd (upd (upd (upd (upd M T (lst [int 1,int 6])) l (lst [int 2,int 4])) p3 (lst [int 3,int 3])) p4 (lst [int 1,int 4])) p5 (lst [ref T,ref l,ref p3,ref p4])=I at*;refine#[_,SqL.of (X _ _ t),_,a0 (i:=1) #[],_,rfl,by decide,_,SqL.of e5,?_];have c4:hs.getD 1 0%4=0∨hs.getD 1 0%4=1∨hs.getD 1 0%4=2∨hs.getD 1 0%4=3:=#[];rcases c4 with h |h |h |h<;>rw[h]
  .exact#[_,iR,r6 T [1,6] _ X e1 #[1,6,rfl,by decide]]
  .exact#[_,iB,r6 l [2,4] _ X C #[2,4,rfl,by decide]]
  .exact#[_,atI2,r6 p3 [3,3] _ X e3 #[3,3,rfl,by decide]]
  .exact#[_,rfl,r6 p4 [1,4] _ X e4 #[1,4,rfl,by decide]]
 have r8:∀sl x y M,S sl=none->aQ S M->M sl=some (.lst (tv [x,y]))->(x=1∨x=2)->(y=1∨y=2)->wL K (eQ Q) [some (.ref a),some (.ref hd),some (.ref sl),none,none,none,none] M:=by
  intro sl x y M sn s2 a1 hx d;(dsimp?[wL,Kr,xH]);refine#[_,SqL.of (s2 _ _ t),_,a0 (i:=2) #[],_,rfl,by decide,kX (λ_=>#[_,SqL.of (s2 _ _ t),_,a0 (i:=1) #[],_,rfl,by decide,_,a1,1,rfl,?_]) (λ_=>r7 sl [x,y] M s2 a1 #[x,y,rfl,?_])]
  .obtain⟨z,ez,hz⟩:∃z:Nat,1+hs.getD 1 0%3=z/\(z=1∨z=2∨z=3):=#[(1+hs.getD 1 0%3).toNat,#[],#[]];rw[ez];refine r7 sl [x,z] _ (s2.put sn) aI #[x,z,rfl,?_];rcases hx with rfl |rfl<;>rcases hz with rfl |rfl |rfl<;>decide
  .rcases hx with rfl |rfl<;>rcases d with rfl |rfl<;>decide
 (dsimp?[Gc]);refine#[_,SqL.of t,_,a0 (i:=0) #[],_,rfl,by decide,_,SqL.of t,_,a0 (i:=1) #[],_,rfl,by decide,sz2,λp hp=>?_];obtain⟨x,ex,hx⟩:∃z:Nat,1+hs.getD 0 0%2=z/\(z=1∨z=2):=#[(1+hs.getD 0 0%2).toNat,#[],#[]];obtain⟨y,ey,d⟩:∃z:Nat,1+hs.getD 1 0%2=z/\(z=1∨z=2):=#[(1+hs.getD 1 0%2).toNat,#[],#[]];rw[ex,ey];exact r8 p x y _ hp (aQ.upd hp) aI hx d
def Ct:LS:=["lists","told","choices","longer","begun"]
def rB(_:aR):Sp:=λvs H Q _=>∃l ls cs,vs=[.ref l]/\H l=some (.lst ls)/\Lg H ls cs/\Ch cs/\∀p xs H',aQ H H'->H p=none->H' p=some (.lst xs)->Ps H' xs (Bq cs.reverse)->Q (.ref p) H'
def Lx(c:List Nat)(b:List Nat):fW:=c.map λx=>b++[x]
def Qd(l:Addr)(H:Hp)(cs:fW):NS:=λi Z U=>∃t xs S A J,Z=[some (.ref l),some (.ref t),S,A,J]/\aQ H U/\H t=none/\U t=some (.lst xs)/\Ps U xs (Bq (cs.take i).reverse)
def Kx(l t a:Addr)(c:List Nat)(H:Hp)(qs:fW):NS:=λj Z U=>∃g ys J,Z=[some (.ref l),some (.ref t),some (.ref a),some (.ref g),J]/\aQ H U/\H g=none/\U g=some (.lst ys)/\Ps U ys ((qs.take j).flatMap (Lx c))
def oA(K:aR):TS:=(cT (aE 3) (aZ 1))
def oB(K:aR):TE:=(tOp sB (aE 1) (iA (aH (aE 0) bE)))
def uH(K:aR):TS:=(oU (tBM K "list" Vg (aE 3) (aH (dQ (dC K (aE 2)) [4] (oB K)) bE)))
def uG(K:aR):TS:=(cC (cT (kQ bE) (aZ 3)) (cC (gI (dC K (aE 1)) (aZ 4) (uH K)) (oA K)))
def sT(K:aR):TS:=(cC (cT (kQ (aH (iA bE) bE)) (aZ 1)) (cC (gI (dC K (aE 0)) (aZ 2) (uG K)) (cQ (aE 1))))
def Sd(c:List Nat):∀qs:fW,(qs.flatMap (Lx c)).length=qs.length*c.length
 | []=>by simp
 |b::qs=>by rw[List.flatMap_cons,bC,Sd c qs,dB,Nat.succ_mul,Lx,aA];lia
def Pf{K}:RdS K rB sT Ct:=by
 rintro vs H Q E ⟨l,ls,cs,rfl,hS,r,ch,q⟩;rw[show start Ct [ref l]=[some (.ref l),none,none,none,none]from rfl];(dsimp?[sT,gI,dC]);refine#[sz0,λa ha=>#[sz1,λt y=>?_]];have O:aQ H (upd H a (.tup [])):=aQ.upd ha;have s2:aQ (upd H a (.tup [])) (upd (upd H a (.tup [])) t (.lst [.ref a])):=aQ.upd y;have s3:=O.trans s2;refine#[#[_,SqL.of (s3 _ _ hS)],iU (K:=K) (a:=l) (xs:=ls) (g:=aZ 2) (D:={ nx:=cQ (aE 1) (eQ Q),rt:=Q }) (Qd l H cs) ?_ ?_ ?_ ?_]
 .exact#[t,_,none,none,none,rfl,s3,O.free y,aI,Ps.one (s2 _ _ aI)]
 .rintro i Z U _ ⟨_,_,_,_,_,_,G,_⟩;exact SqL.of (G _ _ hS)
 .rintro i x Z U hi ⟨t,F,S,A,o3,rfl,G,y,B,J⟩;obtain⟨n,c,R,rfl,hc⟩:=(r.same G).get hi;have a3:i<cs.length:=(aK.mp R).1;have Y:=ch.le n (aL R);have C:=ch.len;have a1:Ch (cs.take i).reverse:=Ch.rev #[by rw[dO];lia,λd hd=>ch.le d (mem_of_mem_take hd)];have a2:(Bq (cs.take i).reverse).length<=36:=cK a1.many (cK (fY (j:=2) (by decide) (by rw[cU,dO];lia)) (by decide));have f:F.length=(Bq (cs.take i).reverse).length:=J.1;(dsimp?[uG,gI,dC]);refine#[sz0,λg hg=>?_];have X:aQ U (upd U g (.lst [])):=aQ.upd hg;refine#[#[_,SqL.of (X _ _ B)],iU (K:=K) (a:=t) (xs:=F) (g:=aZ 4) (D:={ nx:=oA K _,rt:=Q }) (Kx l t c n U (Bq (cs.take i).reverse)) ?_ ?_ ?_ ?_]
  .exact#[g,[],_,rfl,X,hg,aI,Ps.nil]
  .rintro j Z w _ ⟨_,_,_,_,s,_⟩;exact SqL.of (s _ _ B)
  .rintro j x Z w P ⟨g,T,o4,rfl,s,hg,o,py⟩;obtain⟨b,a,hb,rfl,ha⟩:=(J.same s).get P;have a4:j<(Bq (cs.take i).reverse).length:=(aK.mp hb).1;have hy:T.length=j*n.length:=by rw[py.1,Sd,dO];congr 1;lia
   have a0:=s _ _ hc;(dsimp?[uH,oU,tBM,dQ,dC]);refine#[.inl #[rfl,_,SqL.of o],#[_,SqL.of a0],eR (K:=K) (a:=c) (xs:=tv n) (λk N I=>aQ w I/\Ps I N (Lx (n.take k) b)) ?_ #[aQ.refl _,Ps.nil] ?_ ?_ ?_]
   .rw[mU];exact pS #[]
   .rintro k N I _ ⟨u,_⟩;exact SqL.of (u _ _ a0)
   .rintro k x N I hk _ ⟨u,pz⟩;obtain⟨m,hm,rfl⟩:=Gy hk;show oB K [some (.int m),some (.ref a)] I _;(dsimp?[oB,sB]);refine#[sz1,λz M=>?_];have v:aQ I (upd I z (.tup [.int m])):=aQ.upd M;refine#[_,v _ _ (u _ _ ha),_,aI,?_,λp H6 e hp=>#[u.trans (v.trans e),?_]]
    .rw[mU];have:=Rv _ b (aL hb);rw[cU,dO]at this;exact pS (by show _+1<=216;lia)
    .unfold Lx;rw[dI hm,aY];exact(pz.same (v.trans e)).app (Ps.one (by rw[hp,tv_app];rfl))
   .rintro N I M ⟨u,pz⟩ p hp;rw[mU,cB]at pz;rw[mU]at M;have v:aQ I (upd I p (.lst N)):=aQ.upd hp;refine#[g,p,T,N,rfl,rfl,v _ _ (u _ _ o),aI,?_,?_]
    .rw[hy,M];have:j*n.length+n.length<=216:=by
      have h1:(j+1)*n.length<=36*6:=gO #[] Y;rw[Nat.succ_mul]at h1;exact h1
     exact pS this
    .refine#[g,_,_,rfl,((s.trans u).trans v).put hg,hg,aI,?_];rw[dI hb,List.flatMap_append];refine Ps.keep (Ps.app ((py.same u).same v) ?_) (Sl (v _ _ (u _ _ o)));rw[List.flatMap_cons,List.flatMap_nil,cA];exact pz.same v
  .rintro Z w ⟨g,T,o4,rfl,s,hg,o,py⟩;(dsimp?[oA]);refine#[g,T,_,_,_,rfl,G.trans s,G.free hg,o,?_];rw[f,cB]at py;rw[dI R,List.reverse_append];exact py
 .rintro Z U ⟨t,F,S,A,o3,rfl,G,y,B,J⟩;(dsimp![aE,tC,tOp,rI0,rNe,gT,cQ,cV]);rw[r.1,cB]at J;exact q t F U G y B J
def Pc:LS:=["sizes"]
def sJ(K:aR):Sp:=λvs H Q _=>∃l ns,vs=[.ref l]/\SqL K H l (tv ns)/\Sz ns/\∀p xs H',aQ H H'->H p=none->H' p=some (.lst xs)->Ps H' xs (dM ns.reverse)->Q (.ref p) H'
def Cm(K:aR):TE:=(Wu (aE 0))
def Dp(K:aR):TS:=(cQ (cD (rB K) [] E0 (aH (dQ (dC K (aE 0)) [] (Cm K)) bE)))
def rng_tv(n:Nat):map int (vK n)=tv (range n):=by unfold vK tv;rw[List.map_map];rfl
def Sz.ch(sz:Sz ns):Ch (ns.map range):=#[by rw[aA];exact sz.len,λc hc=>by obtain⟨n,R,rfl⟩:=dD.mp hc;rw[gX];exact sz.le n R]
def lg_step{U:Hp}{n:Nat}{p:Addr}(r:Lg U ys ((ns.take i).map range))(R:ns[i]?=some n)(hp:U p=none):Lg (upd U p (.lst (map int (vK n)))) (ys++[.ref p]) ((ns.take (i+1)).map range):=by
 rw[dI R,aY];exact(r.same (aQ.upd hp)).snoc (by rw[aI,rng_tv])
def Yt{K}:RdS K sJ Dp Pc:=by
 rintro m H Q E ⟨l,ns,rfl,P,sz,q⟩;rw[show start Pc [ref l]=[some (.ref l)]from rfl];have c:=sz.len;(dsimp?[Dp,dQ,dC]);refine#[#[_,P],eR (K:=K) (a:=l) (xs:=tv ns) (λi N U=>aQ H U/\Lg U N ((ns.take i).map range)) ?_ #[aQ.refl _,Lg.nil] ?_ ?_ ?_]
 .rw[mU];exact pS #[]
 .rintro i T U _ ⟨s3,_⟩;exact s3.seq P
 .rintro i x T U hi _ ⟨s3,r⟩;obtain⟨n,R,rfl⟩:=Gy hi;have Y:=sz.le n (aL R);(dsimp?[Cm,cN,cR,Wu]);exact#[n,rfl,#[],λp hp=>#[s3.trans (aQ.upd hp),lg_step r R hp]]
 .rintro T U _ ⟨s3,r⟩ p hp;rw[mU,cB]at r;have G:aQ U (upd U p (.lst T)):=aQ.upd hp;refine#[p,T,ns.map range,rfl,aI,r.same G,sz.ch,λk F d X M b J=>q k F d ((s3.trans G).trans X) ((s3.trans G).free M) b ?_];rw[Xj,List.map_reverse];exact J
def Dc:LS:=["self"]
def rK(K:aR):Sp:=λvs H Q _=>∃t ns A,vs=[.ref t]/\xJ K H t ns A/\Sz ns/\∀p xs H',aQ H H'->H p=none->H' p=some (.lst xs)->Ps H' xs (dM ns.reverse)->Q (.ref p) H'
def tJ(K:aR):TS:=(cQ (cD (sJ K) [] E0 (aH (gS K (aE 0) "many") bE)))
def Po{K vs H Q E}(T:TabK K)(h:rK K vs H Q E):tJ K (eQ Q) (start Dc vs) H:=by
 obtain⟨t,ns,A,rfl,⟨f,m,d,B,y,hm,_⟩,sz,q⟩:=h;rw[show start Dc [ref t]=[some (.ref t)]from rfl];(dsimp?[tJ,gS]);exact#[_,_,_,y,T.cl,T.nM,_,Il _ _,m,ns,rfl,SqL.of hm,sz,q]
def Db:LS:=["self"]
def rJ(K:aR):Sp:=λvs H Q _=>∃t ns A,vs=[.ref t]/\xJ K H t ns A/\∀l,H l=none->Q (.ref l) (upd H l (.lst (tv ns)))
def tI(K:aR):TS:=(cQ (tCB (pT K) (aH (gS K (aE 0) "many") bE)))
def Pn{K vs H Q E}(T:TabK K)(h:rJ K vs H Q E):tI K (eQ Q) (start Db vs) H:=by
 obtain⟨t,ns,A,rfl,⟨f,m,d,B,y,hm,_⟩,q⟩:=h;rw[show start Db [ref t]=[some (.ref t)]from rfl];(dsimp?[tI,gS,pT]);exact#[_,_,_,y,T.cl,T.nM,_,Il _ _,m,rfl,_,.inl (SqL.of hm),q]
def Pd:LS:=["table","told","hand","size","choice"]
def zX(K:aR):Sp:=λvs H Q _=>∃t ns A,vs=[.ref t]/\xJ K H t ns A/\Sz ns/\∀p xs H',aQ H H'->H' p=some (.lst xs)->Ps H' xs (fQ ns ns.length)->Q (.ref p) H'
def Ac(t l z:Addr)(C:Hp)(ns:List Nat):NS:=λi Z U=>∃ys S A J,Z=[some (.ref t),some (.ref l),S,A,J]/\aQ C U/\U z=some (.lst (tv ns))/\U l=some (.lst ys)/\Ps U ys (fQ ns i)
def Wk(t l z:Addr)(C:Hp)(ns:List Nat)(h n:Nat):NS:=λc Z U=>∃ys J,Z=[some (.ref t),some (.ref l),some (.int h),some (.int n),J]/\aQ C U/\U z=some (.lst (tv ns))/\U l=some (.lst ys)/\Ps U ys (fQ ns h++(range c).flatMap (vL h n))
def tF(K:aR):TE:=(iA (aH (aE 1) (aH (aE 2) (aH (aE 0) bE))))
def Co(K:aR):TS:=(oU (tBM K "list" Vg (aE 1) (aH (jX (hV (aH (aE 3) bE)) [2,4] (cV (tOp rNe (aE 0) (aE 2))) (tF K)) bE)))
def Cn(K:aR):TS:=(gI (hV (aH (aE 3) bE)) (aZ 4) (Co K))
def tE(K:aR):TG:=(jN K 2 (eK (aZ 2) (eK (aZ 3) jO)))
def vY(K:aR):TS:=(cC (cT (kQ bE) (aZ 1)) (cC (gI (xI K (eZ (eI K "Table") "sizes" (rJ K) [] E0 (aE 0) bE)) (tE K) (Cn K)) (cQ (aE 1))))
def yZ{h n c:Nat}:(vL h n c).length<=n:=by unfold vL;rw[aA];exact cK (List.length_filter_le _ _) (by rw[gX];exact aM _)
def yV{d c:Type}{f:d->List c}{m:Nat}:∀{l:List d},(∀a∈l,(f a).length<=m)->(l.flatMap f).length<=l.length*m
 | [],_=>by simp
 |a::l,h=>by
  rw[List.flatMap_cons,bC,dB,Nat.succ_mul];have:=yV (l:=l) λb hb=>h b (bK _ hb);have:=h a bT;lia
def jVh{n:Nat}(R:n<=6):(Qj h n).length<=36:=by
 have:=yV (f:=vL h n) (m:=6) (l:=range n) λc _=>cK yZ R;rw[gX]at this;have e:(List.flatMap (vL h n) (range n)).length=(Qj h n).length:=rfl;lia
def Yc(sz:Sz ns)(hi:i<=3):(fQ ns i).length<=108:=by
 have:=yV (f:=λh=>Qj h (ns.getD h 0)) (m:=36) (l:=range i) λh _=>jVh (by
  rw[aP];cases e:ns[h]? with
  |none=>exact dN _
  |some n=>exact sz.le n (aL e))
 rw[gX]at this;have e:(fQ ns i).length=(List.flatMap (λh=>Qj h (ns.getD h 0)) (range i)).length:=rfl;lia
def Yw{K}:RdS K zX vY Pd:=by
 rintro vs H Q E ⟨t,ns,A,rfl,tb,sz,q⟩;rw[show start Pd [ref t]=[some (.ref t),none,none,none,none]from rfl];have n3:=sz.len;obtain⟨dx,m,d,y⟩:=tb.ins;(dsimp?[vY,eZ,gI,xI];try simp_arith[vY,eZ,gI,xI,if_true])
 refine#[sz0,λl Y=>?_];have O:aQ H (upd H l (.lst [])):=aQ.upd Y;have P:(upd H l (.lst [])) l=some (.lst []):=aI;generalize upd H l (.lst [])=S at O P;refine#[dx,_,O _ _ y,Lp _ _ (by decide+kernel) (by decide+kernel),t,ns,A,rfl,tb.same O,λz M=>?_];have F:aQ S (upd S z (.lst (tv ns))):=aQ.upd M;have zl:z≠l:=λe=>by rw[e,P]at M;cases M
 refine#[z,rfl,#[_,SqL.of aI],Fh (K:=K) (a:=z) (xs:=tv ns) (g:=tE K) (D:={ nx:=cQ (aE 1) (eQ Q),rt:=Q }) (Ac t l z H ns) ?_ ?_ ?_ ?_]
 .exact#[[],none,none,none,rfl,O.trans F,aI,F _ _ P,Ps.nil]
 .rintro i Z U _ ⟨_,_,_,_,_,_,a0,_⟩;exact SqL.of a0
 .rintro i x p Z U hi ⟨T,o1,o2,J,rfl,s3,a0,j,b⟩ hp;obtain⟨n,R,rfl⟩:=Gy hi;have n6:=sz.le n (aL R);have il:i<ns.length:=(aK.mp R).1;have G:aQ U (upd U p (.tup [.int i,.int n])):=aQ.upd hp;(dsimp?[tE,Cn,gI,hV]);refine#[_,SqT.of aI,rfl,_,_,rfl,_,_,rfl,rfl,_,rfl,#[],#[],uF (lo:=0) (n:=n) (g:=aZ 4) (D:={ nx:=Ac t l z H ns (i+1),rt:=Q,ct:=Ac t l z H ns (i+1),bk:=cQ (aE 1) (eQ Q) }) (Wk t l z H ns i n) ?_ ?_ ?_]
  .exact#[T,_,rfl,s3.trans G,G _ _ a0,G _ _ j,by rw[List.range_zero,List.flatMap_nil,cA];exact b.same G]
  .rintro c Z w hc ⟨T,J,rfl,X,a1,s,b⟩;(dsimp?[Co,oU,tBM,jX,hV]);refine#[.inl #[rfl,_,SqL.of s],#[],#[],Ke (lo:=0) (n:=n) (λk N I=>aQ w I/\Ps I N (((range k).filter λo=>decide (o≠c)).map λo=>[i,c,o])) (pS #[]) #[aQ.refl _,Ps.nil] ?_ ?_]
   .rintro k N I hk _ ⟨u,B⟩;(dsimp?[cN,bR,cR,tF];try simp_arith[cN,bR,cR,eP,tF])
    rw[gW,List.filter_append];refine#[rfl,?_];by_cases e:k=c
    .subst e;rw[aF (by simp),gQ (by simp),List.filter_nil,cA];exact#[u,B]
    .rw[aJ (by simp;lia),gP (by simpa using e),List.filter_nil];refine And.intro (sz3) (λr hr=>⟨u.trans (aQ.upd hr),?_⟩);rw[aY];exact(B.same (aQ.upd hr)).app (Ps.one (by rw[aI];rfl))
   .rintro N I ⟨u,B⟩ r hr;have v:aQ I (upd I r (.lst N)):=aQ.upd hr;have pb:Ps I N (vL i n c):=B;have e1:=Yc sz (i:=i) #[];have C:=yV (f:=vL i n) (m:=6) (l:=range c) λc _=>cK yZ n6;have e3:=@yZ i n c;have e4:T.length=(fQ ns i++(range c).flatMap (vL i n)).length:=b.1;rw[bC]at e4;rw[gX]at C;have e5:N.length=(vL i n c).length:=pb.1;refine#[l,r,T,N,rfl,rfl,v _ _ (u _ _ s),aI,pS #[],?_];have a2:=v _ _ (u _ _ s);have k8:=Sl (o:=.lst (T++N)) a2;refine#[_,_,rfl,((X.trans u).trans v).put Y,?_,aI,?_]
    .rw[bY zl];exact v _ _ (u _ _ a1)
    .rw[gW,List.flatMap_append,List.flatMap_cons,List.flatMap_nil,cA,←List.append_assoc];exact((b.same (u.trans v)).app (pb.same v)).keep k8
  .rintro Z w ⟨T,J,rfl,X,a1,s,b⟩;refine#[T,_,_,_,rfl,X,a1,s,?_];have e:ns.getD i 0=n:=by rw[aP,R];rfl
   unfold fQ;rw[gW,List.flatMap_append,List.flatMap_cons,List.flatMap_nil,cA,e];exact b
 .rintro Z U ⟨T,o1,o2,J,rfl,s3,_,j,b⟩;(dsimp![aE,tC,tOp,rI0,rNe,gT,cQ,cV]);rw[mU]at b;exact q l T U s3 j b
def Tu:LS:=["one","other","great","small","left"]
def lC(_:aR):Sp:=λvs H Q _=>∃a b,vs=[.int a,.int b]/\Q (.int (Int.gcd a b:Nat)) H
def Gm(K:aR):TS:=(cC (cT (tOp gR (aE 2) (aE 3)) (aZ 4)) (cC (cT (aE 3) (aZ 2)) (cT (aE 4) (aZ 3))))
def Hr(K:aR):TS:=(cC (cT (tCB Dh (aH (aE 0) bE)) (aZ 2)) (cC (cT (tCB Dh (aH (aE 1) bE)) (aZ 3)) (cC (yL (cV (tOp rNe (aE 3) (tC (.int 0)))) (Gm K)) (cQ (aE 2)))))
def jJt{K}:RdS K lC Hr Tu:=by
 rintro m H Q E ⟨a,b,rfl,k⟩;rw[show start Tu [int a,int b]=[some (.int a),some (.int b),none,none,none]from rfl];(dsimp![Hr,cC,cT,aZ,aE,aH,bE,tCB,Dh,jJX]);refine Mt (λZ d=>d=H/\∃g s l,Z=[some (.int a),some (.int b),some (.int g),some (.int s),l]/\0<=g/\0<=s/\Int.gcd g s=Int.gcd a b) (λZ _=>(intO (Z.getD 3 none)).toNat) ?_ ?_ ?_
 .exact#[rfl,_,_,_,rfl,#[],#[],by simp [Int.gcd]]
 .rintro Z d ⟨rfl,g,s,l,rfl,hg,hs,e⟩;(dsimp![Gm,cC,cT,aZ,aE,tC,tOp,rI,gR,rNe,gT,cQ,cV]);by_cases c:s=0
  .subst c;simp only[decide_true,Bool.not_true,Option.some.injEq,exists_eq_left',exists_eq_left,V.int.injEq,V.ref.injEq,V.bl.injEq,List.cons.injEq,and_true,true_and,exists_and_left,and_assoc,fJ,fK,fH,hE,jZ,iQ];rw[←e,Int.gcd_zero_right]at k;have:((g.natAbs:Nat):Int)=g:=#[];rw[this]at k;simpa using k
  .have hp:0<s:=#[];have h1:=Int.emod_nonneg g c;have h2:=Int.emod_lt_of_pos g hp;simp [c,hp,h1,hs];refine#[?_,?_]
   .rw[←e,Int.gcd_comm g s,Int.emod_def,Int.gcd_sub_mul_left_right]
   .show max (g%s) 0<s;lia
 .intro Z d f n y h;dsimp only[cV,tOp,tC,rNe]at h⊢
  first
  | (obtain⟨v,hv,hs,q⟩:=Ar h
     exact Aq hv #[hs,y _ _ q])
  | (obtain⟨v,hv,hs,b,hb,q⟩:=Ar h
     exact Aq hv #[hs,b,hb,y _ _ q])
def jX0:LS:=["top","bottom","shared"]
def nD(_:aR):Sp:=λvs H Q _=>∃t b,vs=[.int t,.int b]/\b≠0/\BB 9000 b/\∀x y p H',aQ H H'->H' p=some (.tup [.int x,.int y])->Lo t b x y->Q (.ref p) H'
def La(K:aR):TS:=(cC (fS (cV (tOp rEq (aE 1) (tC (.int 0)))) jL eJ) (cC (cT (cD (lC K) [] E0 (aH (aE 0) (aH (aE 1) bE))) (aZ 2)) (cC (fS (cV (tOp kH (aE 1) (tC (.int 0)))) (cT (tUn iK (aE 2)) (aZ 2)) eJ) (cQ (iA (aH (tOp kR (aE 0) (aE 2)) (aH (tOp kR (aE 1) (aE 2)) bE)))))))
def jWe{K}:RdS K nD La jX0:=by
 rintro m H Q E ⟨t,b,rfl,hb,bb,q⟩;rw[show start jX0 [int t,int b]=[some (.int t),some (.int b),none]from rfl]
 (try dsimp only[La,cC,cT,aZ,aE,tC,tOp,tUn,rI0,rI,rU,kR,iK,kH,rEq,gT,cQ,fS,cV,eJ,cD,aH,bE,iA,jL,Lq0,Lq1,Ls0,Ls1,fJ,fK,fH];try simp only[La,cC,cT,aZ,aE,tC,tOp,tUn,rI0,rI,rU,kR,iK,kH,rEq,gT,cQ,fS,cV,eJ,cD,aH,bE,iA,jL,Lq0,Lq1,Ls0,Ls1,Option.some.injEq,exists_eq_left',V.int.injEq,V.bl.injEq,List.cons.injEq,and_true,true_and,cA,exists_and_left,cP,and_assoc,lC,exists_eq_left,V.ref.injEq,fJ,fK,fH,hE,jZ,iQ])
 rw[aF hb];have bg:=bb.gcd (i:=t) hb;have B:0<Int.gcd t b:=Int.gcd_pos_of_ne_zero_right _ hb;refine kX (λR=>?_) (λR=>?_)
 .refine#[#[#[],bg.neg],#[#[],bg.neg],sz2,λp hp=>q _ _ p _ (aQ.upd hp) aI (lo_neg R)]
 .refine#[#[#[],bg],#[#[],bg],sz2,λp hp=>q _ _ p _ (aQ.upd hp) aI (Uo #[])]
def N_plus:LS:=["one","other"]
def Ld(K:aR):Sp:=λvs H Q _=>∃p q a b c d,vs=[.ref p,.ref q]/\Tw K H p q a b c d/\0<b/\0<d/\BB 9000 (b*d)/\∀r H',aQ H H'->H' r=some (.tup [.int (lo2 (a*d+c*b) (b*d)).1,.int (lo2 (a*d+c*b) (b*d)).2])->Q (.ref r) H'
def Zs(K:aR):TS:=(cQ (cD (nD K) [] E0 (aH (tOp iF (tOp eT (tOp (dU K) (aE 0) (tC (.int 0))) (tOp (dU K) (aE 1) (tC (.int 1)))) (tOp eT (tOp (dU K) (aE 1) (tC (.int 0))) (tOp (dU K) (aE 0) (tC (.int 1))))) (aH (tOp eT (tOp (dU K) (aE 0) (tC (.int 1))) (tOp (dU K) (aE 1) (tC (.int 1)))) bE))))
def rd_plus{K}:RdS K Ld Zs N_plus:=by
 rintro m H Q E ⟨p,q,a,b,c,d,rfl,⟨hp,J,ba,bb,bc,bd⟩,t,d0,D,k⟩;rw[show start N_plus [ref p,ref q]=[some (.ref p),some (.ref q)]from rfl];(dsimp?[Zs]);refine#[_,hp,_,iR,_,J,_,iB,_,rfl,_,rfl,.b ba bd,_,J,_,iR,_,hp,_,iB,_,rfl,_,rfl,.b bc bb,_,hp,_,iB,_,J,_,iB,_,rfl,_,rfl,.b bb bd,?_];have z:0<b*d:=bF t d0;refine#[_,_,rfl,#[],D,λx y r e s h l=>k r e s ?_];obtain⟨e1,C⟩:=l.uniq z (dZ z);rw[←e1,←C];exact h
def Yd:LS:=["fractions","total","fraction"]
def Hy(K:aR):Sp:=λvs H Q _=>∃l ps S n,∃m:Nat->Int,vs=[.ref l]/\SqL K H l (map ref ps)/\eG K H ps (ofF n λk=>lo2 (m k) S)/\0<S/\BB 250 S/\(∀k,k<=n->BB 250 (sm k m))/\(∀k,k<n->BB 250 (m k))/\∀p H',aQ H H'->H' p=some (.tup [.int (lo2 (sm n m) S).1,.int (lo2 (sm n m) S).2])->Q (.ref p) H'
def jYw(l:Addr)(C:Hp)(S:Int)(m:Nat->Int):NS:=λi Z U=>∃t o,Z=[some (.ref l),some (.ref t),o]/\aQ C U/\U t=some (.tup [.int (lo2 (sm i m) S).1,.int (lo2 (sm i m) S).2])
def Jc(K:aR):TS:=(cT (cD (Ld K) [] E0 (aH (aE 1) (aH (aE 2) bE))) (aZ 1))
def Mv(K:aR):TS:=(cC (cT (iA (aH (tC (.int 0)) (aH (tC (.int 1)) bE))) (aZ 1)) (cC (gI (dC K (aE 0)) (aZ 2) (Jc K)) (cQ (aE 1))))
def jW3{v S:Int}(P:0<S):lo2 ((lo2 u S).1*(lo2 v S).2+(lo2 v S).1*(lo2 u S).2) ((lo2 u S).2*(lo2 v S).2)=lo2 (u+v) S:=
 Lo.is P (lo_plus (dZ P).eq (dZ P).eq (dZ P).pos (dZ P).pos P (dZ (bF (dZ P).pos (dZ P).pos)))
def jYU{K}:RdS K Hy Mv Yd:=by
 rintro s H Q E ⟨l,J,S,n,m,rfl,Y,hf,j,e,bs,b,q⟩;have d:J.length=n:=by rw[hf.length,bI]
 rw[show start Yd [ref l]=[some (.ref l),none,none]from rfl];(dsimp?[Mv,gI,dC]);refine#[sz2,λt y=>#[#[_,(aQ.upd y).seq Y],iU (K:=K) (a:=l) (xs:=map ref J) (g:=aZ 2) (D:={ nx:=cQ (aE 1) (eQ Q),rt:=Q }) (jYw l H S m) ?_ ?_ ?_ ?_]]
 .refine#[t,none,rfl,aQ.upd y,?_];rw[show lo2 (sm 0 m) S=(0,1)from(Lo.is j (lo_mk j (by decide) (by decide) (by simp [sm]))).symm];exact aI
 .rintro i Z U _ ⟨_,_,_,s3,_⟩;exact s3.seq Y
 .rintro i x Z U hi ⟨t,o,rfl,s3,B⟩;obtain⟨p,rfl,hp⟩:=eU hi;obtain⟨f,O,c⟩:=(hf.same s3).get hp;obtain⟨X,rfl⟩:=gA O;have P:=dZ (t:=sm i m) j;have k:=dZ (t:=m i) j;have b1:=P.bb (bs i #[]) e;have b2:=k.bb (b i X) e;(dsimp?[Jc]);refine#[_,_,_,_,_,_,rfl,#[SqT.of B,c,b1.1.mono (by decide),b1.2.mono (by decide),b2.1.mono (by decide),b2.2.mono (by decide)],P.pos,k.pos,(b1.2.mul b2.2).mono (by decide),λr w G hr=>?_];rw[jW3 j]at hr;exact#[r,_,rfl,s3.trans G,hr]
 .rintro Z U ⟨t,o,rfl,s3,B⟩;(dsimp![aE,tC,tOp,rI0,rNe,gT,cQ,cV]);rw[aA,d]at B;exact q t U s3 B
def jXz:LS:=["one","other"]
def uB(K:aR):Sp:=λvs H Q _=>∃p q a b c d,vs=[.ref p,.ref q]/\Tw K H p q a b c d/\0<b/\0<d/\BB 9000 (b*d)/\∀r H',aQ H H'->H' r=some (.tup [.int (lo2 (a*c) (b*d)).1,.int (lo2 (a*c) (b*d)).2])->Q (.ref r) H'
def Uw(K:aR):TS:=(cQ (cD (nD K) [] E0 (aH (tOp eT (tOp (dU K) (aE 0) (tC (.int 0))) (tOp (dU K) (aE 1) (tC (.int 0)))) (aH (tOp eT (tOp (dU K) (aE 0) (tC (.int 1))) (tOp (dU K) (aE 1) (tC (.int 1)))) bE))))
def jWd{K}:RdS K uB Uw jXz:=by
 rintro m H Q E ⟨p,q,a,b,c,d,rfl,⟨hp,J,ba,bb,bc,bd⟩,t,d0,D,k⟩;rw[show start jXz [ref p,ref q]=[some (.ref p),some (.ref q)]from rfl];(dsimp![Uw,aE,tC,tOp,rI,eT,cQ,cD,aH,bE,dU,cA]);refine#[_,hp,_,iR,_,J,_,iR,_,rfl,_,rfl,.b ba bc,_,hp,_,iB,_,J,_,iB,_,rfl,_,rfl,.b bb bd,?_];have z:0<b*d:=bF t d0;refine#[_,_,rfl,#[],D,λx y r e s h l=>k r e s ?_];obtain⟨e1,C⟩:=l.uniq z (dZ z);rw[←e1,←C];exact h
def Ao:LS:=["self","play","hand","size"]
def mF(K:aR):Sp:=λvs H Q _=>∃t a ns A q,vs=[.ref t,.ref a]/\xJ K H t ns A/\H a=some (.tup (tv q))/\q∈dM ns.reverse/\∀l H',aQ H H'->H l=none->H' l=some (.lst (A q))->Q (.ref l) H'
def Ky(t a:Addr)(H:Hp):NS:=λ_ Z U=>∃S A,Z=[some (.ref t),some (.ref a),S,A]/\aQ H U
def nL(K:aR):TS:=(cQ (tCB (pT K) (aH (jW (gS K (aE 0) "cells") (aE 1)) bE)))
def sN(K:aR):TS:=(fS (tOr (cV (tOp kH (tOp (dU K) (aE 1) (aE 2)) (tC (.int 0)))) (cV (tOp Ty (tOp (dU K) (aE 1) (aE 2)) (aE 3)))) jL eJ)
def nN(K:aR):TG:=(jN K 2 (eK (aZ 2) (eK (aZ 3) jO)))
def rA(K:aR):TS:=(cC (gI (xI K (gS K (aE 0) "many")) (nN K) (sN K)) (nL K))
def Kw{K vs H Q E}(T:TabK K)(h:mF K vs H Q E):rA K (eQ Q) (start Ao vs) H:=by
 obtain⟨t,a,ns,A,q,rfl,⟨f,m,d,B,y,hm,hd,ok⟩,ha,J,k⟩:=h;have b:q.length=ns.length:=by rw[iE _ q J,cU]
 rw[show start Ao [ref t,ref a]=[some (.ref t),some (.ref a),none,none]from rfl];(dsimp?[rA,gI,xI,gS]);refine#[_,_,_,y,T.cl,T.nM,_,Il _ _,m,rfl,#[_,SqL.of hm],Fh (K:=K) (a:=m) (xs:=tv ns) (g:=nN K) (D:={ nx:=nL K (eQ Q),rt:=Q }) (Ky t a H) ?_ ?_ ?_ ?_]
 .exact#[_,_,rfl,aQ.refl _]
 .rintro i Z U _ ⟨_,_,_,s3⟩;exact SqL.of (s3 _ _ hm)
 .rintro i x p Z U hi ⟨S,e,rfl,s3⟩ hp;obtain⟨n,R,rfl⟩:=Gy hi;have j:i<q.length:=by rw[b];exact(aK.mp R).1
  have c:q[i]?=some q[i]:=aD j;have lt:=Vj _ q J i n q[i] (by rw[List.reverse_reverse];exact R) c;have G:aQ U (upd U p (.tup [.int i,.int n])):=aQ.upd hp;(dsimp?[nN,sN]);refine#[_,SqT.of aI,rfl,_,_,rfl,_,_,rfl,rfl,_,rfl,_,SqT.of (G _ _ (s3 _ _ ha)),_,gU (tv_at c),_,rfl,?_];rw[aF #[]];refine#[_,rfl,_,SqT.of (G _ _ (s3 _ _ ha)),_,gU (tv_at c),_,rfl,_,rfl,?_];rw[aF #[]];exact#[_,_,rfl,s3.trans G]
 .rintro Z U ⟨S,e,rfl,s3⟩;(dsimp?[nL,jW,gS,pT]);obtain⟨l,hv,C⟩:=ok q J;exact#[_,_,_,s3 _ _ y,T.cl,T.nC,_,Ox _ _,d,rfl,_,(by rw[←hv];exact Lz.t (s3 _ _ hd) (by rw[tU];exact s3 _ _ ha)),l,rfl,_,.inl (SqL.of (s3 _ _ C)),λw u=>k w _ (s3.trans (aQ.upd u)) (s3.free u) aI]
def Ts:LS:=["table","play","goal"]
def Dz(K:aR):Sp:=λvs H Q _=>∃t pl g ns A un q xs,∃G:Nat->Int,vs=[.ref t,.ref pl,.ref g]/\TbE K H t ns A un/\H pl=some (.tup (tv q))/\q∈dM ns.reverse/\SqL K H g xs/\xs.length=ns.length/\(A q).length=ns.length/\(∀h v,xs[h]?=some v->En H v (G h))/\AdI ns un G/\
 ∀p H',aQ H H'->H' p=some (.tup [.int (lo2 (sm ns.length λh=>G h*un q h) (SS*SS)).1,.int (lo2 (sm ns.length λh=>G h*un q h) (SS*SS)).2])->Q (.ref p) H'
def Gk(K:aR):TE:=(cD (uB K) [] E0 (aH (aE 0) (aH (aE 1) bE)))
def Gj(K:aR):TG:=(jN K 2 (eK (aZ 0) (eK (aZ 1) jO)))
def Be(K:aR):TS:=(cQ (cD (Hy K) [] E0 (aH (gY (mR K (aH (aE 2) (aH (eZ (eI K "Table") "earned" (mF K) [] E0 (aE 0) (aH (aE 1) bE)) bE))) 2 [] (Gj K) (Gk K)) bE)))
def jW1{a b c d v x y S T:Int}(j:0<S)(e:0<T)(h1:a*S=u*b)(h2:c*T=v*d)(hb:0<b)(hd:0<d)(h:Lo (a*c) (b*d) x y):(x,y)=lo2 (u*v) (T*S):=Lo.is (bF e j) (lo_prod h1 h2 hb hd j e h)
def by_ss{a b g S:Int}(h:a*SS=u*b)(e:u*S=g*SS):a*S=g*b:=by
 refine eX (Int.ne_of_gt vR) ?_
 calc a*S*SS=a*SS*S:=by ac_rfl
  _=u*S*b:=by rw[h];ac_rfl
  _=g*b*SS:=by rw[e];ac_rfl
def jJs{K}:RdS K Dz Be Ts:=by
 rintro m H Q E ⟨t,pl,g,ns,A,un,q,F,G,rfl,tb,hp,J,hg,xl,cl,hG,I,k⟩;have n3:=tb.sz.len;rw[show start Ts [ref t,ref pl,ref g]=[some (.ref t),some (.ref pl),some (.ref g)]from rfl];obtain⟨D,b,B⟩:=I.bu;have a4:b<=190:=by rcases B.sz with h |h<;>lia
 have D0:=B.d0;have X:∃X:Nat->Int,∀h,h<ns.length->un q h*D=X h*SS/\BB b (X h):=
  #[λh=>if c:h<ns.length then Classical.choose (B.u q J h c)else 0,λh c=>by simp only[c,dite_true];exact Classical.choose_spec (B.u q J h c)]
 have Y:∃Y:Nat->Int,∀h,h<ns.length->G h*2520=Y h*SS/\BB 22 (Y h):=
  #[λh=>if c:h<ns.length then Classical.choose (I.bg h c)else 0,λh c=>by simp only[c,dite_true];exact Classical.choose_spec (I.bg h c)]
 obtain⟨X,z⟩:=X;obtain⟨Y,Z⟩:=Y;have bG:∀h,h<ns.length->BB 212 (Y h*X h):=λh hh=>((Z h hh).2.mul (z h hh).2).mono #[];obtain⟨f,m0,d0,ht⟩:=tb.tab.ins;(dsimp?[Be,gY,mR,eZ];try simp_arith[Be,gY,mR,eZ,if_true])
 refine#[f,_,ht,Lp _ _ (by decide+kernel) (by decide+kernel),t,pl,ns,A,q,rfl,tb.tab,hp,J,λl S O _ hl=>#[l,rfl,#[_,O.seq hg],#[_,SqL.of hl],?_]];refine lM (K:=K) (a:=g) (b:=l) (xs:=F) (ys:=A q) (λi N U=>aQ S U/\∃rs,N=map ref rs/\eG K U rs (ofF i λh=>lo2 (Y h*X h) (D*2520))) ?_ ?_ #[aQ.refl _,[],rfl,trivial] ?_ ?_ ?_
 .rw[sizeLine_eq];lia
 .omega
 .rintro i N U _ ⟨s3,_⟩;exact#[(O.trans s3).seq hg,SqL.of (s3 _ _ hl)]
 .rintro i x y p N U hx d _ ⟨s3,rs,rfl,hr⟩ M os ho;have hi:i<ns.length:=by rw[←xl];exact(aK.mp hx).1
  obtain⟨o2,o3,rfl⟩:∃o1 o2,os=[o1,o2]:=by
   match os,ho with
   | [o1,o2],_=>exact#[o1,o2,rfl]
  have s4:=s3.trans (aQ.upd (o:=tup [x,y]) M);obtain⟨a1,x1,y1,rfl,h1,T,p9,f1,b1⟩:=(hG i x hx).keep (eN (O.trans s4));obtain⟨v2,C,a3⟩:=tb.en _ J i hi;rw[d]at C;cases C;obtain⟨a2,x2,v,rfl,h2,p2,p8,f2,b2⟩:=a3.keep (eN (O.trans s4));have s:BB 20 y1:=by unfold BB;lia
  have a0:BB 20 v:=by unfold BB;lia
  (dsimp?[Gj,Gk,cN,bR,cR,bH]);refine#[_,SqT.of aI,rfl,_,_,rfl,_,_,rfl,rfl,#[[some (.ref a1),some (.ref a2)],rfl,rfl],_,_,_,_,_,_,rfl,#[SqT.of h1,SqT.of h2,b1.mono (by decide),s.mono (by decide),b2.mono (by decide),a0.mono (by decide)],T,p2,(s.mul a0).mono (by decide),λr w s5 h5=>#[s4.trans s5,rs++[r],by rw[aY];rfl,?_]];rw[fP];refine eG.snoc ((hr.same (aQ.upd M)).same s5) ?_;rw[←jW1 (by decide:(0:Int)<2520) D0 (by_ss f1 (Z i hi).1) (by_ss f2 (z i hi).1) T p2 (dZ (bF T p2))];exact SqT.of h5
 .rintro N U _ ⟨s3,rs,rfl,hr⟩ p M;rw[xl]at hr;refine#[p,rs,D*2520,ns.length,λh=>Y h*X h,rfl,SqL.of aI,hr.same (aQ.upd M),#[],(vQ B.bd (c:=2520) (k:=12) (by decide)).mono #[],?_,?_,λp2 w s4 h4=>k p2 w ((O.trans (s3.trans (aQ.upd M))).trans s4) ?_]
  .exact λj P=>(bb_sm3 (λh hh=>bG h #[]) #[]).mono #[]
  .exact λh hh=>(bG h hh).mono (by decide)
  .have e:lo2 (sm ns.length λh=>G h*un q h) (SS*SS)=lo2 (sm ns.length λh=>Y h*X h) (D*2520):=by
    refine Nx SS2 #[] ?_;have:∀n,n<=ns.length->(sm n λh=>G h*un q h)*(D*2520)=(sm n λh=>Y h*X h)*(SS*SS):=by
     intro n
     induction n with
     |zero=>intro _;show(0:Int)*_=0*_;rw[dY,dY]
     |succ n ih=>
      intro R;show(sm n (λh=>G h*un q h)+G n*un q n)*(D*2520)=(sm n (λh=>Y h*X h)+Y n*X n)*(SS*SS);have:G n*un q n*(D*2520)=(G n*2520)*(un q n*D):=by grind
      rw[Int.add_mul,ih #[],this,(Z n #[]).1,(z n #[]).1];grind
    exact this _ (aM _)
   rw[e];exact h4
def Cu:LS:=["row"]
def rC(K:aR):Sp:=λvs H Q _=>∃a ps fs,vs=[.ref a]/\SqL K H a (map ref ps)/\eG K H ps fs/\(∀f∈fs,0<f.2/\BB 4000 f.2)/\fs≠[]/\fs.length<=100/\∀z H',aQ H H'->(∃f∈fs,z=f.1.fdiv f.2)->(∀f∈fs,z<=f.1.fdiv f.2)->Q (.int z) H'
def uI(K:aR):TE:=(tOp kR (tOp (dU K) (aE 0) (tC (.int 0))) (tOp (dU K) (aE 0) (tC (.int 1))))
def sU(K:aR):TS:=(cQ (tCB (Ma K) (aH (dQ (dC K (aE 0)) [] (uI K)) bE)))
def Pg{K}:RdS K rC sU Cu:=by
 rintro m H Q E ⟨a,J,fs,rfl,P,hf,hg,ne,R,q⟩;have d:=hf.length;rw[show start Cu [ref a]=[some (.ref a)]from rfl];(dsimp?[sU,dQ,dC,Ma]);refine#[#[_,P],eR (K:=K) (a:=a) (xs:=map ref J) (λi N U=>aQ H U/\N=map int ((fs.take i).map λf=>f.1.fdiv f.2)) (by rw[aA,sizeLine_eq];lia) #[aQ.refl _,rfl] ?_ ?_ ?_]
 .rintro i N U _ ⟨s3,_⟩;exact s3.seq P
 .rintro i x N U hi _ ⟨s3,rfl⟩;obtain⟨p,rfl,hp⟩:=eU hi;obtain⟨f,O,c⟩:=(hf.same s3).get hp;have g:=hg f (aL O);(dsimp?[uI]);refine#[_,c,_,iR,_,c,_,iB,_,rfl,_,rfl,#[#[],g.2.mono (by decide)],s3,?_];rw[dI O,aY,aY];rfl
 .rintro N U _ ⟨s3,rfl⟩ p hp;rw[aA,d,cB];refine#[_,SqL.of aI,λe=>ne (map_eq_nil_iff.mp e),λz M v=>?_];obtain⟨f,b,rfl⟩:=dD.mp M;exact q _ _ (s3.trans (aQ.upd hp)) #[f,b,rfl] λg j=>v _ (dD.mpr #[g,j,rfl])
def Tl:LS:=["rows"]
def Du(K:aR):Sp:=λvs H Q _=>∃a g frs n,vs=[.ref a]/\SqL K H a (map ref g)/\xV K H g frs/\WoR frs n/\∀z p H',aQ H H'->H' p=some (.tup [.int (1-z),.int 1])->Mnf frs z->Q (.ref p) H'
def Fq(K:aR):TE:=(cD (rC K) [] E0 (aH (aE 0) bE))
def Hk(K:aR):TS:=(cQ (iA (aH (tOp kZ (tC (.int 1)) (tCB (Ma K) (aH (dQ (dC K (aE 0)) [] (Fq K)) bE))) (aH (tC (.int 1)) bE))))
def jJj{K}:RdS K Du Hk Tl:=by
 rintro m H Q E ⟨a,g,frs,n,rfl,P,hf,W,q⟩;have d:=hf.length;have m2:=W.m2;rw[show start Tl [ref a]=[some (.ref a)]from rfl];(dsimp?[Hk,dQ,dC,Ma]);refine#[#[_,P],eR (K:=K) (a:=a) (xs:=map ref g) (λi N U=>aQ H U/\∃zz:List Int,N=map int zz/\zz.length=i/\(∀z∈zz,∃r∈frs,∃f∈r,z=f.1.fdiv f.2)/\∀(k:Nat) z r,zz[k]?=some z->frs[k]?=some r->∀f∈r,z<=f.1.fdiv f.2) (by rw[aA,sizeLine_eq];lia) #[aQ.refl _,[],rfl,rfl,(λ_ h=>nomatch h),λk z r e=>by simp at e] ?_ ?_ ?_]
 .rintro i N U _ ⟨s3,_⟩;exact s3.seq P
 .rintro i x N U hi _ ⟨s3,zz,rfl,Z,I,S⟩;obtain⟨p,rfl,hp⟩:=eU hi;obtain⟨r,qs,F,B,u⟩:=hf.get hp;have j:=aL F;have s:=W.hr r j;have n1:=W.n1;have n2:=W.n2;(dsimp?[Fq]);refine#[p,qs,r,rfl,s3.seq (SqL.of B),u.same s3,λf b=>#[(W.hg r j f b).1,(W.hg r j f b).2.2],λe=>by rw[e]at s;simp at s;lia,#[],λz w G#[f,o,e] le=>#[s3.trans G,zz++[z],by rw[aY];rfl,by rw[bC,Z];rfl,λT l=>?_,λk T A e1 C D b=>?_]]
  .rcases cW.mp l with h |h
   .exact I T h
   .rw[bZ.mp h];exact#[r,j,f,o,e]
  .rcases yU e1 with⟨e1,_⟩|⟨J,rfl⟩
   .exact S k T A e1 C D b
   .rw[J,Z,F]at C;obtain rfl:=aV C;exact le D b
 .rintro N U _ ⟨s3,zz,rfl,Z,I,S⟩ p hp;rw[aA,d]at Z;have m1:=W.m1;refine#[_,SqL.of aI,λe=>by rw[e]at Z;simp at Z;lia,λz M v=>#[sz2,λt y=>q z t _ ((s3.trans (aQ.upd hp)).trans (aQ.upd y)) aI #[I z M,λr hr f b=>?_]]];obtain⟨k,hk⟩:=cJ hr;have c:k<zz.length:=by have:=(aK.mp hk).1;lia
  have h1:=v _ (cO c);have h2:=S k _ r (aD c) hk f b;lia
def Tv:LS:=["row","number","fraction"]
def wB(K:aR):Sp:=λvs H Q _=>∃a ps fs,vs=[.ref a]/\SqL K H a (map ref ps)/\eG K H ps fs/\(∀f∈fs,G9 f)/\fs.length<=100/\∀l p H',aQ H H'->H' l=some (.lst (map int (clr fs)))->H' p=some (.tup [.int (lc fs),.ref l])->Q (.ref p) H'
def jZa(a:Addr)(C:Hp)(fs:gB):NS:=λi Z U=>U=C/\∃o,Z=[some (.ref a),some (.int (lc (fs.take i))),o]/\BB (9000*i+1) (lc (fs.take i))
noncomputable def jZe(C:Hp)(fs:gB):Nat->List V->Hp->Prop:=WEq C λi ys=>ys=map int ((clr fs).take i)
def Gn(K:aR):TE:=(tOp eT (tOp (dU K) (aE 0) (tC (.int 0))) (tOp kR (aE 1) (tOp (dU K) (aE 0) (tC (.int 1)))))
def wY(K:aR):TS:=(cQ (iA (aH (aE 1) (aH (dQ (dC K (aE 0)) [1] (Gn K)) bE))))
def Vt(K:aR):TS:=(cT (tOp eT (aE 1) (tOp kR (tOp (dU K) (aE 2) (tC (.int 1))) (cD (lC K) [] E0 (aH (aE 1) (aH (tOp (dU K) (aE 2) (tC (.int 1))) bE))))) (aZ 1))
def Hs(K:aR):TS:=(cC (cT (tC (.int 1)) (aZ 1)) (cC (gI (dC K (aE 0)) (aZ 2) (Vt K)) (wY K)))
def jJu{K}:RdS K wB Hs Tv:=by
 rintro y H Q E ⟨a,J,fs,rfl,P,hf,hg,R,q⟩;have d:=hf.length;have t:∀f∈fs,0<f.2:=λf hf=>(hg f hf).1;rw[show start Tv [ref a]=[some (.ref a),none,none]from rfl];(dsimp![Hs,gI,dC,cC,cT,aZ,aE,tC]);refine#[#[_,P],iU (K:=K) (a:=a) (xs:=map ref J) (g:=aZ 2) (D:={ nx:=wY K (eQ Q),rt:=Q }) (jZa a H fs) ?_ ?_ ?_ ?_]
 .exact#[rfl,none,rfl,by show BB 1 1;unfold BB;decide]
 .rintro i Z U _ ⟨rfl,_⟩;exact P
 .rintro i x Z U hi ⟨rfl,o,rfl,bl⟩;obtain⟨p,rfl,hp⟩:=eU hi;obtain⟨f,O,c⟩:=hf.get hp;have j:=hg f (aL O);have lp:0<lc (fs.take i):=Mi λf hf=>t f (mem_of_mem_take hf);obtain⟨S,_,_,_,u⟩:=lcf_ok lp j.1;have e:=lc_snoc O;have v:i<fs.length:=(aK.mp O).1;have s:=j.2.2.of_le u;have r:f.2≠0:=Int.ne_of_gt j.1;have B:0<Int.gcd (lc (fs.take i)) f.2:=Int.gcd_pos_of_ne_zero_right _ r;unfold lcf at e
  (try dsimp only[cT,aZ,aE,tC,tOp,rI,eT,kR,cD,aH,bE,dU,Lq0,Lq1,Ls0,Ls1,fJ,fK,fH];try simp only[lC,cT,aZ,aE,tC,tOp,rI,eT,kR,cD,aH,bE,dU,Lq0,Lq1,Ls0,Ls1,Option.some.injEq,exists_eq_left',V.int.injEq,V.ref.injEq,List.cons.injEq,and_true,cA,exists_and_left,and_assoc,exists_eq_left,V.bl.injEq,true_and,fJ,fK,fH,hE,jZ,iQ])
  refine#[_,c,_,iB,_,c,_,iB,_,rfl,_,rfl,#[#[],j.2.2.gcd r],.b (m:=900001) (n:=9000) (bl.mono #[]) s,?_];rw[←e];refine#[rfl,_,rfl,?_];rw[e];exact(bl.mul s).mono #[]
 .rintro Z U ⟨rfl,o,rfl,bl⟩;rw[aA,d,cB]at bl⊢;(dsimp![wY,dQ,dC,aE,cQ,aH,bE,iA]);refine#[#[_,P],eR (K:=K) (a:=a) (xs:=map ref J) (jZe U fs) ?_ ?_ ?_ ?_ ?_]
  .rw[aA,d,sizeLine_eq];lia
  .exact#[rfl,by simp]
  .rintro i T w _ ⟨rfl,_⟩;exact P
  .rintro i x T w hi _ ⟨rfl,rfl⟩;obtain⟨p,rfl,hp⟩:=eU hi;obtain⟨f,O,c⟩:=hf.get hp;have j:=hg f (aL O);obtain⟨k,hk⟩:=(yR fs 1 (by decide) t).2.2.1 f (aL O);have hk:lc fs=f.2*k:=hk;have r:f.2≠0:=Int.ne_of_gt j.1;have z:(lc fs).fdiv f.2=k:=by rw[hk];exact Int.mul_fdiv_cancel_left _ r
   have bk:BB (9000*fs.length+1) ((lc fs).fdiv f.2):=by
    refine bl.of_le ?_;rw[z,hk,cH];exact Nat.le_mul_of_pos_left _ #[]
   (dsimp![Gn,cN,bR,cR,bH,aE,tC,tOp,rI,eT,kR,dU]);refine#[_,c,_,iR,_,c,_,iB,_,rfl,#[r,j.2.2],_,rfl,.b (m:=20000) (n:=900001) j.2.1 (bk.mono #[]),rfl,?_];show _=map int (List.take (i+1) (clr fs));rw[dI (jXr O),aY];rfl
  .rintro T w _ ⟨rfl,rfl⟩ l Y;have A:(clr fs).length=fs.length:=by unfold clr;rw[aA]
   rw[aA,d,←A,cB];refine#[sz2,λp hp=>q l p _ ((aQ.upd Y).trans (aQ.upd hp)) (aQ.upd hp _ _ aI) aI]
def jX2:LS:=["one","other"]
def Fb(K:aR):Sp:=λvs H Q _=>∃p q a b c d,vs=[.ref p,.ref q]/\Tw K H p q a b c d/\0<b/\0<d/\BB 9000 (b*d)/\∀r H',aQ H H'->H' r=some (.tup [.int (lo2 (a*d-c*b) (b*d)).1,.int (lo2 (a*d-c*b) (b*d)).2])->Q (.ref r) H'
def Uy(K:aR):TS:=(cQ (cD (nD K) [] E0 (aH (tOp kZ (tOp eT (tOp (dU K) (aE 0) (tC (.int 0))) (tOp (dU K) (aE 1) (tC (.int 1)))) (tOp eT (tOp (dU K) (aE 1) (tC (.int 0))) (tOp (dU K) (aE 0) (tC (.int 1))))) (aH (tOp eT (tOp (dU K) (aE 0) (tC (.int 1))) (tOp (dU K) (aE 1) (tC (.int 1)))) bE))))
def jWg{K}:RdS K Fb Uy jX2:=by
 rintro m H Q E ⟨p,q,a,b,c,d,rfl,⟨hp,J,ba,bb,bc,bd⟩,t,d0,D,k⟩;rw[show start jX2 [ref p,ref q]=[some (.ref p),some (.ref q)]from rfl];(dsimp?[Uy]);refine#[_,hp,_,iR,_,J,_,iB,_,rfl,_,rfl,.b ba bd,_,J,_,iR,_,hp,_,iB,_,rfl,_,rfl,.b bc bb,_,hp,_,iB,_,J,_,iB,_,rfl,_,rfl,.b bb bd,?_];have z:0<b*d:=bF t d0;refine#[_,_,rfl,#[],D,λx y r e s h l=>k r e s ?_];obtain⟨e1,C⟩:=l.uniq z (dZ z);rw[←e1,←C];exact h
def Yk:LS:=["rest","hand","choice"]
def Ib(_:aR):Sp:=λvs H Q _=>∃a q h c,vs=[.ref a,.int (h:Nat),.int (c:Nat)]/\H a=some (.tup (tv q))/\q.length<=100/\∀p H',aQ H H'->H' p=some (.tup (tv (q.take h++c::q.drop h)))->Q (.ref p) H'
def Nf(K:aR):TS:=(cQ (tOp sB (tOp sB (tSl Qi (aE 0) iC (lX (aE 1))) (iA (aH (aE 2) bE))) (tSl Qi (aE 0) (lX (aE 1)) iC)))
def jYf{K}:RdS K Ib Nf Yk:=by
 rintro m H Q E ⟨a,q,h,c,rfl,ha,Y,k⟩;rw[show start Yk [ref a,int h,int c]=[some (.ref a),some (.int h),some (.int c)]from rfl];(dsimp?[Nf,sB,Qi]);have e1:=Bb (tv q) none (some (h:Int));have C:=Bb (tv q) (some (h:Int)) none;rw[mU]at e1 C;refine#[_,ha,λT S O h1=>#[sz1,λz M=>?_]];have F:aQ S (upd S z (.tup [.int c])):=aQ.upd M;refine#[_,F _ _ h1,_,aI,pS (by show _+1<=216;lia),λP U s3 h3=>#[_,s3 _ _ (F _ _ (O _ _ ha)),λD w G A=>#[_,G _ _ h3,_,A,?_,λr I X i=>?_]]]
 .rw[bC];exact pS (by show _+1+_<=216;lia)
 .refine k r I ((((O.trans F).trans s3).trans G).trans X) ?_;rw[i,jJJ,Ob];simp only[tv,aY,bR,map_take,List.map_drop,List.append_assoc,Lca,Lna]
def Cy:LS:=["table","rest","hand","choice"]
def nK(K:aR):Sp:=λvs H Q _=>∃t r ns A b i c v,vs=[.ref t,.ref r,.int (i:Nat),.int (c:Nat)]/\xJ K H t ns A/\H r=some (.tup (tv b))/\b.length<=100/\b.take i++c::b.drop i∈dM ns.reverse/\(A (b.take i++c::b.drop i))[i]?=some v/\∀H',aQ H H'->Q v H'
def oR(K:aR):TS:=(cQ (tOp (fX K) (eZ (eI K "Table") "earned" (mF K) [] E0 (aE 0) (aH (cD (Ib K) [] E0 (aH (aE 1) (aH (aE 2) (aH (aE 3) bE)))) bE)) (aE 2)))
def Pj{K}:RdS K nK oR Cy:=by
 rintro m H Q E ⟨t,r,ns,A,b,i,c,v,rfl,T,hr,hb,J,hv,k⟩;rw[show start Cy [ref t,ref r,int i,int c]=[some (.ref t),some (.ref r),some (.int i),some (.int c)]from rfl];obtain⟨f,m0,d0,y⟩:=T.ins;(dsimp?[oR,eZ];try simp_arith[oR,eZ,if_true])
 refine#[f,_,y,Lp _ _ (by decide+kernel) (by decide+kernel),r,b,i,c,rfl,hr,hb,λd S O j=>#[t,d,ns,A,_,rfl,T.same O,j,J,λl M F _ a=>?_]];exact#[_,rfl,_,SqL.of a,_,gU hv,k _ (O.trans F)]
def Tj:LS:=["table","rest","breach","hand"]
def Dt(K:aR):Sp:=λvs H Q _=>∃t r a ns A un b h c o n,vs=[.ref t,.ref r,.ref a]/\TbE K H t ns A un/\H r=some (.tup (tv b))/\b.length<=100/\ins h o b∈dM ns.reverse/\ins h c b∈dM ns.reverse/\H a=some (.tup (tv [h,c,o]))/\ns[h]?=some n/\c<n/\o<n/\∀p H',aQ H H'->H' p=some (.tup [.int (lo2 (un (ins h o b) h-un (ins h c b) h) SS).1,.int (lo2 (un (ins h o b) h-un (ins h c b) h) SS).2])->Q (.ref p) H'
def Hi(K:aR):TS:=(cC (cT (tOp (dU K) (aE 2) (tC (.int 0))) (aZ 3)) (cQ (cD (Fb K) [] E0 (aH (cD (nK K) [] E0 (aH (aE 0) (aH (aE 1) (aH (aE 3) (aH (tOp (dU K) (aE 2) (tC (.int 2))) bE))))) (aH (cD (nK K) [] E0 (aH (aE 0) (aH (aE 1) (aH (aE 3) (aH (tOp (dU K) (aE 2) (tC (.int 1))) bE))))) bE)))))
def jW4{a b c d v S:Int}(h1:a*S=u*b)(h2:c*S=v*d)(hb:0<b)(hd:0<d)(P:0<S):lo2 (a*d-c*b) (b*d)=lo2 (u-v) S:=by
 obtain⟨e1,C⟩:=Lo.uniq P (lo_less h1 h2 hb hd P (dZ (bF hb hd))) (dZ P);exact Prod.ext e1 C
def jJh{K}:RdS K Dt Hi Tj:=by
 rintro m H Q E ⟨t,r,a,ns,A,un,b,h,c,o,n,rfl,tb,hr,bl,q1,G,ha,R,hc,D,q⟩;have Y:h<ns.length:=(aK.mp R).1;rw[show start Tj [ref t,ref r,ref a]=[some (.ref t),some (.ref r),some (.ref a),none]from rfl];obtain⟨g,e1,d⟩:=tb.en _ q1 h Y;obtain⟨k,C,x⟩:=tb.en _ G h Y;(dsimp?[Hi]);refine#[_,SqT.of ha,_,iR,_,SqT.of ha,_,atI2,t,r,ns,A,b,h,o,g,rfl,tb.tab,hr,bl,q1,e1,λS O=>?_];refine#[_,SqT.of (O _ _ ha),_,iB,t,r,ns,A,b,h,c,k,rfl,tb.tab.same O,O _ _ hr,bl,G,C,λM F=>?_];obtain⟨j,u,X,rfl,h1,T,e,w,b1⟩:=d.keep (eN (O.trans F));obtain⟨z,I,v,rfl,h2,l,f,y,b2⟩:=x.keep (eN (O.trans F));have s:BB 20 X:=by unfold BB;lia
 have i:BB 20 v:=by unfold BB;lia
 refine#[j,z,u,X,I,v,rfl,#[SqT.of h1,SqT.of h2,b1.mono (by decide),s.mono (by decide),b2.mono (by decide),i.mono (by decide)],T,l,(s.mul i).mono (by decide),λp U s3 hp=>q p U ((O.trans F).trans s3) ?_];rw[←jW4 w y T l vR];exact hp
def Th:LS:=["play","hand"]
def Dr(_:aR):Sp:=λvs H Q _=>∃a q h,vs=[.ref a,.int (h:Nat)]/\H a=some (.tup (tv q))/\q.length<=100/\∀p H',aQ H H'->H' p=some (.tup (tv (wo h q)))->Q (.ref p) H'
def Hg(K:aR):TS:=(cQ (tOp sB (tSl Qi (aE 0) iC (lX (aE 1))) (tSl Qi (aE 0) (lX (tOp iF (aE 1) (tC (.int 1)))) iC)))
def jJf{K}:RdS K Dr Hg Th:=by
 rintro m H Q E ⟨a,q,h,rfl,ha,Y,k⟩;rw[show start Th [ref a,int h]=[some (.ref a),some (.int h)]from rfl];(dsimp?[Hg,sB,Qi]);refine#[_,ha,λT S O h1=>#[_,O _ _ ha,λl M F h2=>#[_,F _ _ h1,_,h2,?_,λP U s3 h3=>?_]]]
 .have e1:=Bb (tv q) none (some (h:Int));have C:=Bb (tv q) (some ((h:Int)+1)) none;rw[mU]at e1 C;exact pS #[]
 .refine k P U ((O.trans F).trans s3) ?_;rw[h3,jJJ,show((h:Int)+1)=((h+1:Nat):Int) by lia,Ob,←wo_tv];rfl
def Ti:LS:=["table","play","breach"]
def Ds(K:aR):Sp:=λvs H Q _=>∃t pl a ns A un q h c o n,vs=[.ref t,.ref pl,.ref a]/\TbE K H t ns A un/\H pl=some (.tup (tv q))/\q∈dM ns.reverse/\H a=some (.tup (tv [h,c,o]))/\ns[h]?=some n/\c<n/\o<n/\∀p H',aQ H H'->H' p=some (.tup [.int (mo un q [h,c,o]).1,.int (mo un q [h,c,o]).2])->Q (.ref p) H'
def Hh(K:aR):TS:=(cC (fS (cV (tOp rNe (tOp (dU K) (aE 1) (tOp (dU K) (aE 2) (tC (.int 0)))) (tOp (dU K) (aE 2) (tC (.int 1))))) (cQ (iA (aH (tC (.int 0)) (aH (tC (.int 1)) bE)))) eJ) (cQ (cD (Dt K) [] E0 (aH (aE 0) (aH (cD (Dr K) [] E0 (aH (aE 1) (aH (tOp (dU K) (aE 2) (tC (.int 0))) bE))) (aH (aE 2) bE))))))
def jJg{K}:RdS K Ds Hh Ti:=by
 rintro m H Q E ⟨t,g,a,ns,A,un,q,h,c,o,n,rfl,tb,hp,J,ha,R,hc,D,k⟩;have Y:h<ns.length:=(aK.mp R).1;have Z:q.length=ns.length:=by rw[iE _ q J,cU]
 have hd:q[h]?=some q[h]:=aD #[];rw[show start Ti [ref t,ref g,ref a]=[some (.ref t),some (.ref g),some (.ref a)]from rfl];(dsimp?[Hh]);refine#[_,SqT.of ha,_,iR,_,rfl,_,SqT.of hp,.int q[h],gU (by unfold tv;rw[aX,hd];rfl),_,SqT.of ha,.int c,iB,rfl,?_];by_cases e:q[h]=c
 .have b:q.set h c=q:=by rw[←e];exact List.set_getElem_self _
  have d:=jZy (h:=h) (q:=q) #[] o;have bc:=jZy (h:=h) (q:=q) #[] c;rw[aF (by simp [e])];refine#[_,SqT.of ha,_,iR,g,q,h,rfl,hp,by have:=tb.sz.len;lia,λp S O h1=>?_];refine#[t,p,a,ns,A,un,wo h q,h,c,o,n,rfl,tb.same O,h1,by unfold wo;rw[bC,dO,List.length_drop];have:=tb.sz.len;lia,by rw[show ins h o (wo h q)=q.set h o from d];exact Np J R D,by rw[show ins h c (wo h q)=q.set h c from bc,b];exact J,O _ _ ha,R,hc,D,λl M F h2=>k l M (O.trans F) ?_];have j:mo un q [h,c,o]=lo2 (un (ins h o (wo h q)) h-un (ins h c (wo h q)) h) SS:=by
   show(if q[h]?=some c then lo2 (un (q.set h o) h-un q h) SS else(0,1))=_;rw[aJ (by rw[hd,e]),show ins h o (wo h q)=q.set h o from d,show ins h c (wo h q)=q.set h c from bc,b]
  rw[j];exact h2
 .rw[aJ (by simp;lia)];refine#[sz2,λp hp=>k p _ (aQ.upd hp) ?_];have j:mo un q [h,c,o]=(0,1):=by
   show(if q[h]?=some c then lo2 (un (q.set h o) h-un q h) SS else(0,1))=_;rw[aF (by rw[hd];simp;exact e)]
  rw[j];exact aI
def Gu:LS:=["table","play","told","aim"]
def cF(un:List Nat->Nat->Int)(bs:fW)(q:List Nat)(f:Int×Int):gB:=bs.map (mo un q)++[(1,1),f]
def tO(K:aR):Sp:=λvs H Q _=>∃t pl l z ns A un q xs f,vs=[.ref t,.ref pl,.ref l,.ref z]/\TbE K H t ns A un/\H pl=some (.tup (tv q))/\q∈dM ns.reverse/\SqL K H l xs/\Ps H xs (fQ ns ns.length)/\SqT K H z [.int f.1,.int f.2]/\(∀g∈cF un (fQ ns ns.length) q f,G9 g)/\(fQ ns ns.length).length<=61/\
 ∀w p H',aQ H H'->H' w=some (.lst (map int (clr (cF un (fQ ns ns.length) q f))))->H' p=some (.tup [.int (lc (cF un (fQ ns ns.length) q f)),.ref w])->Q (.ref p) H'
def xK(K:aR):TE:=(cD (Ds K) [] E0 (aH (aE 1) (aH (aE 2) (aH (aE 0) bE))))
def wX(K:aR):TS:=(cQ (cD (wB K) [] E0 (aH (tOp qJ (dQ (dC K (aE 2)) [0,1] (xK K)) (kQ (aH (iA (aH (tC (.int 1)) (aH (tC (.int 1)) bE))) (aH (aE 3) bE)))) bE)))
def Qo{K}:RdS K tO wX Gu:=by
 rintro m H Q E ⟨t,g,l,z,ns,A,un,q,F,f,rfl,tb,hp,J,Y,B,ha,hg,R,k⟩;rw[show start Gu [ref t,ref g,ref l,ref z]=[some (.ref t),some (.ref g),some (.ref l),some (.ref z)]from rfl];(dsimp?[wX,dQ,dC]);have pn:=B.1;refine#[#[_,Y],eR (K:=K) (a:=l) (xs:=F) (λi N U=>aQ H U/\∃qs,N=map ref qs/\eG K U qs (((fQ ns ns.length).take i).map (mo un q))) (by rw[sizeLine_eq];lia) #[aQ.refl _,[],rfl,trivial] ?_ ?_ ?_]
 .rintro i N U _ ⟨s3,_⟩;exact s3.seq Y
 .rintro i x N U hi _ ⟨s3,qs,rfl,hf⟩;obtain⟨b,a,O,rfl,hb⟩:=(B.same s3).get hi;obtain⟨h,c,o,n,rfl,h1,h2,h3,_⟩:=Ex (aL O);(dsimp?[xK,cN,bR,cR,bH]);refine#[t,g,a,ns,A,un,q,h,c,o,n,rfl,tb.same s3,s3 _ _ hp,J,hb,h1,h2,h3,λr w G hr=>#[s3.trans G,qs++[r],by rw[aY];rfl,?_]];rw[dI O,aY];exact eG.snoc (hf.same G) (SqT.of hr)
 .rintro N U _ ⟨s3,qs,rfl,hf⟩;rw[pn,cB]at hf;intro p e;refine#[sz2,λT j=>#[sz2,λC y=>?_]];have G:aQ U (upd U p (.lst (map ref qs))):=aQ.upd e;have X:=G.trans (aQ.upd (o:=.tup [.int 1,.int 1]) j);have s:=X.trans (aQ.upd (o:=.lst [.ref T,.ref z]) y);have Z:=hf.length;rw[aA]at Z;refine#[p,C,map ref qs,[.ref T,.ref z],rfl,rfl,?_,aI,by rw[aA,sizeLine_eq];show qs.length+2<=_;lia,λP d=>?_]
  .exact(aQ.upd y) _ _ ((aQ.upd j) _ _ aI)
  have u:=s.trans (aQ.upd (o:=.lst (map ref qs++[.ref T,.ref z])) d);refine#[P,qs++[T,z],_,rfl,by rw[aY];exact SqL.of aI,?_,hg,by unfold cF;rw[bC,aA];show _+2<=100;lia,λI D M v h1 h2=>k I D M ((s3.trans u).trans v) h1 h2];refine eG.append ?_ (hf.same u);exact#[SqT.of (((aQ.upd y).trans (aQ.upd d)) _ _ aI),(s3.trans u).tup ha,trivial]
def Yg:LS:=["row","lift"]
def Hz(K:aR):Sp:=λvs H Q _=>∃a t ps fs,∃z:Int,vs=[.ref a,.ref t]/\SqL K H a (map ref ps)/\eG K H ps fs/\SqT K H t [.int (1-z),.int 1]/\BB 9000 (1-z)/\(∀f∈fs,0<f.2/\BB 4000 f.1/\BB 4000 f.2)/\fs.length<=100/\∀l qs H',aQ H H'->H' l=some (.lst (map ref qs))->eG K H' qs (fs.map (lft z))->Q (.ref l) H'
def Je(K:aR):TE:=(cD (Ld K) [] E0 (aH (aE 0) (aH (aE 1) bE)))
def Na(K:aR):TS:=(cQ (dQ (dC K (aE 0)) [1] (Je K)))
def jYb{K}:RdS K Hz Na Yg:=by
 rintro m H Q E ⟨a,t,e,fs,z,rfl,P,hf,y,b,hg,R,q⟩;have d:=hf.length;rw[show start Yg [ref a,ref t]=[some (.ref a),some (.ref t)]from rfl];(dsimp?[Na,dQ,dC]);refine#[#[_,P],eR (K:=K) (a:=a) (xs:=map ref e) (λi N U=>aQ H U/\∃qs,N=map ref qs/\eG K U qs ((fs.take i).map (lft z))) (by rw[aA,sizeLine_eq];lia) #[aQ.refl _,[],rfl,trivial] ?_ ?_ ?_]
 .rintro i N U _ ⟨s3,_⟩;exact s3.seq P
 .rintro i x N U hi _ ⟨s3,qs,rfl,J⟩;obtain⟨p,rfl,hp⟩:=eU hi;obtain⟨f,O,c⟩:=(hf.same s3).get hp;have g:=hg f (aL O);have one:BB 20000 (1:Int):=by show(1:Int).natAbs<2^20000;exact Nat.one_lt_two_pow (by decide)
  (dsimp?[Je,cN,bR,cR,bH]);refine#[_,_,_,_,_,_,rfl,#[c,s3.tup y,g.2.1.mono (by decide),g.2.2.mono (by decide),b.mono (by decide),one],g.1,by decide,by rw[dR];exact g.2.2.mono (by decide),λr w G hr=>#[s3.trans G,qs++[r],by rw[aY];rfl,?_]];rw[dI O,aY];exact eG.snoc (J.same G) (SqT.of hr)
 .rintro N U _ ⟨s3,qs,rfl,J⟩ l Y;rw[aA,d,cB]at J;exact q l qs _ (s3.trans (aQ.upd Y)) aI (J.same (aQ.upd Y))
def Yf:LS:=["columns","place"]
def ClAt(H:Hp)(ps:List Addr)(c:jD):Prop:=ps.length=c.length/\∀(i:Nat) p fs,ps[i]?=some p->c[i]?=some fs->∃l,H p=some (.tup [.int (lc fs),.ref l])/\H l=some (.lst (map int (clr fs)))
def Bg(K:aR):Sp:=λvs H Q _=>∃l ps c,∃j:Int,∃m:Nat,vs=[.ref l,.int j]/\SqL K H l (map ref ps)/\ClAt H ps c/\ps.length<=100/\(∀fs∈c,atI (map int (clr fs)) j=some (.int ((clr fs).getD m 0)))/\
 ∀p X H',aQ H H'->H' p=some (.lst (map ref X))->eG K H' X (c.map λfs=>((clr fs).getD m 0,1))->Q (.ref p) H'
def Jd(K:aR):TE:=(iA (aH (tOp (fX K) (tOp (dU K) (aE 0) (tC (.int 1))) (aE 1)) (aH (tC (.int 1)) bE)))
def Mz(K:aR):TS:=(cQ (dQ (dC K (aE 0)) [1] (Jd K)))
def ClAt.same{c:jD}(h:ClAt H ps c)(s:aQ H H'):ClAt H' ps c:=#[h.1,λi p fs e1 C=>let⟨l,a,b⟩:=h.2 i p fs e1 C;#[l,s _ _ a,s _ _ b]]
def jYa{K}:RdS K Bg Mz Yf:=by
 rintro b H Q E ⟨l,J,c,j,m,rfl,Y,hc,R,ha,k⟩;rw[show start Yf [ref l,int j]=[some (.ref l),some (.int j)]from rfl];(dsimp?[Mz,dQ,dC]);have pn:=hc.1;refine#[#[_,Y],eR (K:=K) (a:=l) (xs:=map ref J) (λi N U=>aQ H U/\∃qs,N=map ref qs/\eG K U qs ((c.take i).map λfs=>((clr fs).getD m 0,1))) (by rw[aA,sizeLine_eq];lia) #[aQ.refl _,[],rfl,trivial] ?_ ?_ ?_]
 .rintro i N U _ ⟨s3,_⟩;exact s3.seq Y
 .rintro i x N U hi _ ⟨s3,qs,rfl,hf⟩;obtain⟨p,rfl,hp⟩:=eU hi;have f:i<c.length:=by rw[←pn];exact(aK.mp hp).1
  have O:c[i]?=some c[i]:=aD f;obtain⟨w,h1,h2⟩:=(hc.same s3).2 i p _ hp O;(dsimp?[Jd,cN,bR,cR,bH]);refine#[_,SqT.of h1,_,iB,_,rfl,_,SqL.of h2,_,ha _ (aL O),sz2,λr hr=>#[s3.trans (aQ.upd hr),qs++[r],by rw[aY];rfl,?_]];rw[dI O,aY];exact eG.snoc (hf.same (aQ.upd hr)) (SqT.of aI)
 .rintro N U _ ⟨s3,qs,rfl,hf⟩ p hp;rw[aA,pn,cB]at hf;exact k p qs _ (s3.trans (aQ.upd hp)) aI (hf.same (aQ.upd hp))
def jX5:LS:=["one","other"]
def Nj(K:aR):Sp:=λvs H Q _=>∃p q a b c d,vs=[.ref p,.ref q]/\Tw K H p q a b c d/\Q (.bl (decide (a*d<c*b))) H
def Vb(K:aR):TS:=(cQ (tOp kH (tOp eT (tOp (dU K) (aE 0) (tC (.int 0))) (tOp (dU K) (aE 1) (tC (.int 1)))) (tOp eT (tOp (dU K) (aE 1) (tC (.int 0))) (tOp (dU K) (aE 0) (tC (.int 1))))))
def jWj{K}:RdS K Nj Vb jX5:=by
 rintro m H Q E ⟨p,q,a,b,c,d,rfl,⟨hp,J,ba,bb,bc,bd⟩,k⟩;rw[show start jX5 [ref p,ref q]=[some (.ref p),some (.ref q)]from rfl];(dsimp![Vb,aE,tC,tOp,rI0,rI,eT,kH,cQ,dU]);exact#[_,hp,_,iR,_,J,_,iB,_,rfl,_,rfl,.b ba bd,_,J,_,iR,_,hp,_,iB,_,rfl,_,rfl,.b bc bb,k]
def Ye:LS:=["row","told","number"]
def Bf(K:aR):Sp:=λvs H Q _=>∃a ns,vs=[.ref a]/\SqL K H a (map int ns)/\Q (.int (gl ns)) H
def jYy(a:Addr)(C:Hp)(ns:List Int):NS:=λi Z U=>U=C/\∃o,Z=[some (.ref a),some (.int (gl (ns.take i))),o]
def Yn(K:aR):TS:=(cC (cT (cD (lC K) [] E0 (aH (aE 1) (aH (aE 2) bE))) (aZ 1)) (fS (cV (tOp rEq (aE 1) (tC (.int 1)))) (cQ (aE 1)) eJ))
def Mw(K:aR):TS:=(cC (cT (tC (.int 0)) (aZ 1)) (cC (gI (dC K (aE 0)) (aZ 2) (Yn K)) (cQ (aE 1))))
def jYQ{K}:RdS K Bf Mw Ye:=by
 rintro m H Q E ⟨a,ns,rfl,P,q⟩;rw[show start Ye [ref a]=[some (.ref a),none,none]from rfl];(dsimp![Mw,gI,dC,cC,cT,aZ,aE,tC,cQ]);refine#[#[_,P],iU (K:=K) (a:=a) (xs:=map int ns) (g:=aZ 2) (D:={ nx:=cQ (aE 1) (eQ Q),rt:=Q }) (jYy a H ns) ?_ ?_ ?_ ?_]
 .exact#[rfl,none,rfl]
 .rintro i Z U _ ⟨rfl,_⟩;exact P
 .rintro i x Z U hi ⟨rfl,o,rfl⟩;obtain⟨c,rfl,hc⟩:=fZ hi;have e:=gl_snoc hc;unfold glf at e
  (try dsimp only[cC,cT,aZ,aE,tC,tOp,rEq,gT,cQ,fS,cV,eJ,cD,aH,bE,Lq0,Lq1,Ls0,Ls1,fJ,fK,fH];try simp only[lC,cC,cT,aZ,aE,tC,tOp,rEq,gT,cQ,fS,cV,eJ,cD,aH,bE,Lq0,Lq1,Ls0,Ls1,Option.some.injEq,exists_eq_left',V.int.injEq,V.bl.injEq,List.cons.injEq,and_true,true_and,cA,exists_and_left,cP,and_assoc,exists_eq_left,V.ref.injEq,fJ,fK,fH,hE,jZ,iQ])
  rw[←e];refine kX (λh1=>?_) (λh1=>?_)
  .have e1:=gl_one h1;rw[h1];rwa [e1]at q
  .exact#[rfl,_,rfl]
 .rintro Z U ⟨rfl,o,rfl⟩;(dsimp![aE,tC,tOp,rI0,rNe,gT,cQ,cV]);rwa [aA,cB]
def jX1:LS:=["row","common"]
def Ng(K:aR):Sp:=λvs H Q _=>∃a ns,vs=[.ref a]/\SqL K H a (map int ns)/\ns.length<=1000/\(∀n∈ns,BB 9000 n)/\∀l H',aQ H H'->H l=none->H' l=some (.lst (map int (vO ns)))->Q (.ref l) H'
noncomputable def jVc(C:Hp)(ns:List Int):Nat->List V->Hp->Prop:=λi ys U=>U=C/\ys=map int ((ns.take i).map λn=>n.fdiv (gl ns))
def Of(K:aR):TE:=(tOp kR (aE 0) (aE 1))
def Ux(K:aR):TS:=(cC (cT (cD (Bf K) [] E0 (aH (aE 0) bE)) (aZ 1)) (cC (fS (cV (tOp kH (aE 1) (tC (.int 2)))) (cQ (tCB (pT K) (aH (aE 0) bE))) eJ) (cQ (dQ (dC K (aE 0)) [1] (Of K)))))
def jWf{K}:RdS K Ng Ux jX1:=by
 rintro m H Q E ⟨a,ns,rfl,P,R,hb,q⟩;rw[show start jX1 [ref a]=[some (.ref a),none]from rfl];(dsimp![Ux,dQ,dC,pT,cC,cT,aZ,aE,tC,tOp,rI0,kH,cQ,fS,cV,eJ,cD,aH,bE,tCB,cA,cP]);refine#[_,_,rfl,P,_,rfl,kX (λh2=>?_) (λh2=>?_)]
 .refine#[_,.inl P,λl Y=>q l _ (aQ.upd Y) Y ?_];unfold vO;rw[aJ h2];exact aI
 .refine#[#[_,P],eR (K:=K) (a:=a) (xs:=map int ns) (jVc H ns) ?_ ?_ ?_ ?_ ?_]
  .rw[aA,sizeLine_eq];lia
  .exact#[rfl,rfl]
  .rintro i T U _ ⟨rfl,_⟩;exact P
  .rintro i x T U hi _ ⟨rfl,rfl⟩;obtain⟨c,rfl,hc⟩:=fZ hi;(dsimp![Of,cN,bR,cR,bH,aE,tOp,rI,kR]);refine#[#[#[],gl_bb hb],rfl,?_];rw[dI hc];simp
  .rintro T U _ ⟨rfl,rfl⟩ p hp;refine q p _ (aQ.upd hp) hp ?_;rw[aA,cB];unfold vO;rw[aF h2];exact aI
def jXy:LS:=["row","made"]
def yT(K:aR):Sp:=λvs H Q _=>∃a ps fs,vs=[.ref a]/\SqL K H a (map ref ps)/\eG K H ps fs/\(∀f∈fs,G9 f)/\fs.length<=100/\(∀x∈clr fs,BB 9000 x)/\
 ∀r f l H',aQ H H'->H' r=some (.tup [.ref f,.ref l])->H' f=some (.tup [.int (whF fs).1,.int (whF fs).2])->H' l=some (.lst (map int (whL fs)))->Q (.ref r) H'
def Uv(K:aR):TS:=(cC (cT (cD (wB K) [] E0 (aH (aE 0) bE)) (aZ 1)) (cQ (iA (aH (cD (nD K) [] E0 (aH (tOp (dU K) (aE 1) (tC (.int 0))) (aH (tCB cMax (aH (cD (Bf K) [] E0 (aH (tOp (dU K) (aE 1) (tC (.int 1))) bE)) (aH (tC (.int 1)) bE))) bE))) (aH (cD (Ng K) [] E0 (aH (tOp (dU K) (aE 1) (tC (.int 1))) bE)) bE)))))
def jWc{K}:RdS K yT Uv jXy:=by
 rintro m H Q E ⟨a,J,fs,rfl,P,hf,hg,R,hb,q⟩;rw[show start jXy [ref a]=[some (.ref a),none]from rfl];(dsimp![Uv,cMax,cC,cT,aZ,aE,tC,tOp,cQ,cD,aH,bE,iA,tCB,dU,cA]);refine#[_,_,_,rfl,P,hf,hg,R,λl p S O Y hp=>#[_,rfl,_,SqT.of hp,_,iR,_,rfl,_,SqT.of hp,_,iB,_,_,rfl,SqL.of Y,_,rfl,?_]];have A:(clr fs).length=fs.length:=by unfold clr;rw[aA]
 have z:=Az (gl (clr fs));have D:BB 9000 (mx1 (gl (clr fs))):=by
  unfold mx1;split
  .show(1:Int).natAbs<2^9000;exact Nat.one_lt_two_pow (by decide)
  .exact gl_bb hb
 refine#[_,_,rfl,show mx1 (gl (clr fs))≠0 by lia,D,λx y f M F b d=>?_];obtain⟨e1,C⟩:=d.uniq z (dZ z);have c:M f=some (.tup [.int (whF fs).1,.int (whF fs).2]):=by unfold whF;rw[←e1,←C];exact b
 refine#[_,rfl,_,SqT.of (F _ _ hp),_,iB,_,_,rfl,SqL.of (F _ _ Y),#[],hb,λZ U s3 _ j=>?_];refine#[sz2,λr hr=>q r f Z _ (((O.trans F).trans s3).trans (aQ.upd hr)) aI (aQ.upd hr _ _ (s3 _ _ c)) (aQ.upd hr _ _ j)]
def Tk:LS:=["row"]
def vZ(K:aR):Sp:=λvs H Q _=>∃a ns,vs=[.ref a]/\SqL K H a (map int ns)/\ns≠[]/\ns.length<=200/\∀(M:Nat) H',aQ H H'->(∀n∈ns,ib n<=M)->(∃n∈ns,ib n=M)->Q (.int M) H'
def Fp(K:aR):TE:=(tBM0 K "int" Wx (aE 0))
def Hj(K:aR):TS:=(cQ (tCB (Xa K) (aH (dQ (dC K (aE 0)) [] (Fp K)) bE)))
def jJi{K}:RdS K vZ Hj Tk:=by
 rintro b H Q E ⟨a,ns,rfl,ha,ne,c,q⟩;rw[show start Tk [ref a]=[some (.ref a)]from rfl];(dsimp?[Hj,dQ,dC,Xa]);refine#[#[_,ha],eR (K:=K) (a:=a) (xs:=map int ns) (λi N U=>U=H/\N=map int ((ns.take i).map λn=>(ib n:Int))) (by rw[aA,sizeLine_eq];lia) #[rfl,rfl] ?_ ?_ ?_]
 .rintro i N U _ ⟨rfl,_⟩;exact ha
 .rintro i x N U hi _ ⟨rfl,rfl⟩;obtain⟨n,rfl,R⟩:=fZ hi;(dsimp?[Fp,tBM0,Wx]);refine#[rfl,?_];rw[dI R,aY,aY];rfl
 .rintro N U _ ⟨rfl,rfl⟩ p hp;rw[aA,cB];refine#[_,SqL.of aI,λz=>ne (map_eq_nil_iff.mp z),λM X v=>?_];obtain⟨n,R,rfl⟩:=dD.mp X;refine q (ib n) _ (aQ.upd hp) (λm hm=>?_) #[n,R,rfl];have:=v _ (dD.mpr #[m,hm,rfl]);lia
def Km:LS:=["rows","place"]
def kE(K:aR):Sp:=λvs H Q _=>∃a ps X,∃k:Int,∃c:Nat,vs=[.ref a,.int k]/\SqL K H a (map ref ps)/\eL H ps X/\X.length<=200/\(∀r∈X,atI (map int r) k=some (.int (r.getD c 0)))/\∀l H',aQ H H'->H l=none->H' l=some (.lst (map int (X.map λr=>r.getD c 0)))->Q (.ref l) H'
def Ak(K:aR):TE:=(tOp (fX K) (aE 0) (aE 1))
def zO(K:aR):TS:=(cQ (dQ (dC K (aE 0)) [1] (Ak K)))
def Wb{K}:RdS K kE zO Km:=by
 rintro m H Q E ⟨a,J,X,k,c,rfl,P,hr,R,hc,q⟩;have d:=hr.length;rw[show start Km [ref a,int k]=[some (.ref a),some (.int k)]from rfl];(dsimp![zO,dQ,dC,aE,cQ]);refine#[#[_,P],eR (K:=K) (a:=a) (xs:=map ref J) (WEq H λi N=>N=map int ((X.take i).map λr=>r.getD c 0)) ?_ #[rfl,rfl] ?_ ?_ ?_]
 .rw[aA,sizeLine_eq];lia
 .rintro i T U _ ⟨rfl,_⟩;exact P
 .rintro i x T U hi _ ⟨rfl,rfl⟩;obtain⟨p,rfl,hp⟩:=eU hi;obtain⟨r,F,B⟩:=hr.get hp;(dsimp![Ak,cN,bR,cR,bH,aE,tOp,fX]);refine#[_,SqL.of B,_,hc r (aL F),rfl,?_];show _=map int ((X.take (i+1)).map λr=>r.getD c 0);rw[dI F,aY,aY];rfl
 .rintro T U _ ⟨rfl,rfl⟩ l Y;rw[aA,d,cB];exact q l _ (aQ.upd Y) Y aI
def N_span:LS:=["column"]
def Lc(K:aR):Sp:=λvs H Q _=>∃a ns,vs=[.ref a]/\SqL K H a (map int ns)/\ns.length<=200/\(∀n∈ns,BB 20000 n)/\∀n H',aQ H H'->BB 30000 n->Q (.int n) H'
def Rg(K:aR):TE:=(tCB Dh (aH (aE 0) bE))
def Zr(K:aR):TS:=(cQ (tOp iF (tC (.int 1)) (tCB (cSum K) (aH (dQ (dC K (aE 0)) [] (Rg K)) bE))))
def rd_span{K}:RdS K Lc Zr N_span:=by
 rintro m H Q E ⟨a,ns,rfl,P,R,hb,q⟩;rw[show start N_span [ref a]=[some (.ref a)]from rfl];(dsimp![Zr,dQ,dC,cSum,aE,tC,tOp,rI0,iF,cQ,aH,bE,tCB]);refine#[#[_,P],eR (K:=K) (a:=a) (xs:=map int ns) (WEq H λi N=>N=map int ((ns.take i).map λn=>(n.natAbs:Int))) ?_ #[rfl,rfl] ?_ ?_ ?_]
 .rw[aA,sizeLine_eq];lia
 .rintro i T U _ ⟨rfl,_⟩;exact P
 .rintro i x T U hi _ ⟨rfl,rfl⟩;obtain⟨c,rfl,hc⟩:=fZ hi;(dsimp![Rg,jJX,aE,aH,bE,tCB,Dh]);refine#[rfl,?_];show _=map int ((ns.take (i+1)).map λn=>(n.natAbs:Int));rw[dI hc,aY,aY];rfl
 .rintro T U _ ⟨rfl,rfl⟩ l Y;rw[aA,cB];refine#[_,SqL.of aI,q _ _ (aQ.upd Y) ?_];have h1:=Zv (l:=ns.map λn=>(n.natAbs:Int)) (p:=20000) λx hx=>by
   obtain⟨n,hm,rfl⟩:=dD.mp hx;have:=hb n hm;unfold BB at this⊢;rwa [Int.natAbs_natCast]
  rw[aA]at h1;have one:BB (20000+ns.length) 1:=by show(1:Int).natAbs<2^_;exact Nat.one_lt_two_pow #[]
  exact(one.add h1).mono #[]
def N_unit:LS:=["many","place"]
def Vd(K:aR):Sp:=λvs H Q _=>∃n k:Nat,vs=[.int n,.int k]/\n<=200/\∀l H',aQ H H'->H l=none->H' l=some (.lst (map int (ofF n λr=>if r=k then 1 else 0)))->Q (.ref l) H'
def Rf(K:aR):TE:=(tIf (cV (tOp rEq (aE 0) (aE 1))) (tC (.int 1)) (tC (.int 0)))
def Zq(K:aR):TS:=(cQ (dQ (hV (aH (aE 0) bE)) [1] (Rf K)))
def rd_unit{K}:RdS K Vd Zq N_unit:=by
 rintro m H Q E ⟨n,k,rfl,R,q⟩;rw[show start N_unit [int n,int k]=[some (.int n),some (.int k)]from rfl];(dsimp![Zq,dQ,hV,aE,cQ,aH,bE]);refine#[#[],#[],kD (lo:=0) (W:=WEq H λi N=>N=map int (ofF i λr=>if r=k then 1 else 0)) (by rw[sizeLine_eq];lia) #[rfl,rfl] ?_ ?_]
 .rintro i T U _ _ ⟨rfl,rfl⟩;(dsimp![Rf,tIf,cN,bR,cR,bH,aE,tC,tOp,rEq,gT,cV,cP]);refine kX (λh=>#[rfl,?_]) (λh=>#[rfl,?_])
  .show _=map int (ofF (i+1) λr=>if r=k then 1 else 0);have:i=k:=#[];rw[fP,aY,aJ this];rfl
  .show _=map int (ofF (i+1) λr=>if r=k then 1 else 0);have:¬i=k:=#[];rw[fP,aY,aF this];rfl
 .rintro T U _ ⟨rfl,rfl⟩ l Y;rw[dA];exact q l _ (aQ.upd Y) Y aI
def De:LS:=["self","lists"]
def jU(K:aR):Sp:=λvs H Q _=>∃t f r g L,vs=[.ref t,.ref r]/\H t=some (.ins (eI K "Corner") f [])/\xU H r g L/\L.Lim/\L.fl=false/\
 ∀ins H',H ins=none->Sb t H H'->iX K H' t ins L L.ins0->Q .non H'
def vE(K:aR):TE:=(tOp iF (tCB (jE K) (aH (gS K (aE 1) "begun") bE)) (aE 0))
def uY(K:aR):TS:=(xX K (aE 0) (dQ (hV (aH (tOp kZ (tCB (jE K) (aH (aE 1) bE)) (tC (.int 1))) bE)) [0] (vE K)) "inside")
def vD(K:aR):TE:=(tOp qJ (cD (Vd K) [] E0 (aH (tCB (jE K) (aH (aE 2) bE)) (aH (aE 0) bE))) (kQ (aH (tOp (fX K) (aE 1) (tUn iK (tC (.int 1)))) bE)))
def uZ(K:aR):TG:=(jN K 2 (eK (aZ 0) (eK (aZ 1) jO)))
def uX(K:aR):TS:=(cC (xX K (aE 0) (gY (xI K (aE 1)) 2 [1] (uZ K) (vD K)) "kept") (uY K))
def vC(K:aR):TE:=(cD (Lc K) [] E0 (aH (tSl (xS K) (aE 0) iC (lX (tUn iK (tC (.int 1))))) bE))
def vB(K:aR):TE:=(cD (Lc K) [] E0 (aH (kQ (aH (tC (.int 1)) bE)) bE))
def uW(K:aR):TS:=(cC (xX K (aE 0) (tOp qJ (dQ (dC K (gS K (aE 0) "begun")) [] (vC K)) (dQ (dC K (tSl (xS K) (aE 1) iC (lX (tUn iK (tC (.int 1)))))) [] (vB K))) "spans") (uX K))
def vA(K:aR):TE:=(cD (kE K) [] E0 (aH (aE 1) (aH (aE 0) bE)))
def tL(K:aR):TS:=(cC (xX K (aE 0) (dQ (hV (aH (tOp kZ (tCB (jE K) (aH (tOp (fX K) (aE 1) (tC (.int 0))) bE)) (tC (.int 1))) bE)) [1] (vA K)) "begun") (uW K))
def jVd(L:Lpd)(P:j<L.n):(ofF (L.m+1) L.rowL).map (λr=>r.getD j 0)=L.colL j:=by
 unfold Lpd.colL;have e:(ofF (L.m+1) L.rowL).map (λr=>r.getD j 0)=ofF (L.m+1) λi=>(L.rowL i).getD j 0:=by unfold ofF;rw[List.map_map];rfl
 rw[e];exact jC λi _=>iM (L.rowL_get i P)
def xU.sb{t:Addr}{g:List Addr}{L:Lpd}(h:xU H a g L)(s:Sb t H H')(i:IsI H t):xU H' a g L:=#[s.lst i h.ha,s.rws i h.hr]
def Qu(xs:List V)(m:Nat)(h:xs.length=m+1):(qK xs none (some (-1))).length=m:=by rw[Fi,dO];lia
def oc2(h:m<=100):m+1<=16777216:=#[]
def oc3(h:m<=100):m+1+1<=16777216:=#[]
def oc7(h:m<=100):-(2^62)<=(m:Int)/\(m:Int)<2^62:=#[]
def oc8{a b n:Nat}(h1:a=n)(h2:b=m)(i:m<=100)(r:n<=100):a+b<=16777216:=#[]
def oc9(h:m<=100):m<=16777216:=#[]
def oc10:((m+1:Nat):Int)-1=(m:Int):=#[]
def oc12(h:m<=100):m+1<=200:=#[]
def Pq{K vs H Q E}(C:xW K)(h:jU K vs H Q E):tL K (eQ Q) (start De vs) H:=by
 obtain⟨t,f,r,g,L,rfl,y,R,lim,fl,q⟩:=h;have rl:=R.len;have m1:=lim.m1;have n1:=lim.n1;have hI:IsI H t:=#[_,_,_,y];rw[show start De [ref t,ref r]=[some (.ref t),some (.ref r)]from rfl];obtain⟨p0,g0,f1⟩:=R.row (dN L.m);(dsimp?[tL,xX,dQ,hV]);refine#[_,SqL.of R.ha,ref p0,gU (j:=0) (by rw[aX,g0];rfl),p0,rfl,_,.inl (SqL.of f1),?_];rw[aA,Lpd.rowL_length,oc10,dA];refine#[(oc7 n1).1,(oc7 n1).2,kD (lo:=0) (W:=λi N U=>aQ H U/\∃a0,N=map ref a0/\eL U a0 (ofF i L.colL)) (by rw[sizeLine_eq];exact oc9 n1) #[aQ.refl _,[],rfl,trivial] ?_ ?_]
 .rintro i T U hi _ ⟨s3,g1,rfl,hc⟩;(dsimp?[vA,cN,bR,cR,bH]);refine#[r,g,_,0+(i:Int),i,rfl,SqL.of (s3 _ _ R.ha),(R.same s3).hr,by rw[bI];exact oc12 m1,λrow B=>?_,λl w G Y d=>#[s3.trans G,g1++[l],by rw[aY];rfl,?_]]
  .obtain⟨k,hk,rfl⟩:=kT B;rw[eP];exact kN (by rw[Lpd.rowL_length];lia)
  .rw[fP];exact eL.snoc (hc.same G) (by rw[d,jVd L hi])
 .rintro T U _ ⟨s3,a0,rfl,f2⟩ bl d7;have G:=s3.trans (aQ.upd (o:=lst (map ref a0)) d7);have b4:=f2.same (aQ.upd (o:=lst (map ref a0)) d7);have c3:(upd U bl (.lst (map ref a0))) bl=some (.lst (map ref a0)):=aI;generalize upd U bl (.lst (map ref a0))=w at G b4 c3;clear s3 f2 d7;have d8:a0.length=L.n:=by rw[b4.length,bI]
  have t4:w t=some (.ins (eI K "Corner") f []):=G _ _ y;have I4:IsI w t:=#[_,_,_,t4];refine#[_,_,_,t4,C.cl,C.nb,by show 0<1000;decide,?_];have b5:Sb t w (upd w t (.ins (eI K "Corner") f (hJ "begun" (.ref bl) []))):=Sb.at;have t5:(upd w t (.ins (eI K "Corner") f (hJ "begun" (.ref bl) []))) t=some (.ins (eI K "Corner") f (hJ "begun" (.ref bl) [])):=aI;generalize upd w t (.ins (eI K "Corner") f (hJ "begun" (.ref bl) []))=I at b5 t5;have d9:Sb t H I:=(Sb.of G).trans b5;have I5:IsI I t:=#[_,_,_,t5];have c4:=b5.rws I4 b4;have b7:=b5.lst I4 c3;have R5:=R.sb d9 hI;clear b5 G t4 I4 b4 c3 f1;(dsimp?[uW,xX,dQ,dC,qJ,gS]);refine#[_,_,_,t5,C.cl,C.nb,_,rfl,bl,rfl,#[_,SqL.of b7],eR (K:=K) (a:=bl) (xs:=map ref a0) (λi N U=>aQ I U/\∃b:List Int,N=map int b/\b.length=i/\∀x∈b,BB 30000 x) ?_ #[aQ.refl _,[],rfl,rfl,(λ_ h=>nomatch h)] ?_ ?_ ?_]
  .rw[aA,d8,sizeLine_eq];exact oc9 n1
  .rintro i N U _ ⟨s3,_⟩;exact s3.seq (SqL.of b7)
  .rintro i x N U hi _ ⟨s3,b,rfl,sl,sb⟩;obtain⟨z,rfl,M⟩:=eU hi;obtain⟨row,er,B⟩:=c4.get M;obtain⟨g3,rfl⟩:=gA er;(dsimp?[vC,xS]);refine#[_,s3.seq (SqL.of B),λzc g4=>?_];have ec:qK (map int (L.colL i)) none (some (-1))=map int ((L.colL i).take ((L.colL i).length-1)):=by rw[Fi,aA,map_take]
   rw[ec];refine#[zc,_,rfl,SqL.of aI,?_,λx hx=>?_,λn H6 s bn=>#[(s3.trans (aQ.upd g4)).trans s,b++[n],by rw[aY];rfl,by rw[bC,sl];rfl,λx hx=>?_]]
   .unfold Lpd.colL;rw[dO,bI];exact cK (Nat.min_le_right _ _) (oc12 m1)
   .obtain⟨k,hk,rfl⟩:=kT (mem_of_mem_take hx);exact lim.ba _ _ g3 (Nat.le_of_lt_succ hk)
   .rcases cW.mp hx with hx |hx
    .exact sb x hx
    .rw[bZ.mp hx];exact bn
  .rintro N U _ ⟨s3,b,rfl,sl,sb⟩ P d1;rw[aA,d8]at sl;have s:=s3.trans (aQ.upd (o:=lst (map int b)) d1);have e0:(upd U P (.lst (map int b))) P=some (.lst (map int b)):=aI;generalize upd U P (.lst (map int b))=H6 at s e0;refine#[_,SqL.of (s _ _ R5.ha),λlc e2=>?_];have e3:=Qu (map ref g) L.m (by rw[aA];exact rl);generalize qK (map ref g) none (some (-1))=cs at e3;have e4:=s.trans (aQ.upd (o:=lst cs) e2);have d2:(upd H6 lc (lst cs)) lc=some (lst cs):=aI;have c5:=aQ.upd (o:=lst cs) e2 _ _ e0;generalize upd H6 lc (lst cs)=g5 at e4 d2 c5;refine#[#[_,SqL.of d2],eR (K:=K) (a:=lc) (xs:=cs) (λi N U=>aQ g5 U/\∃b:List Int,N=map int b/\b.length=i/\∀x∈b,BB 30000 x) ?_ #[aQ.refl _,[],rfl,rfl,(λ_ h=>nomatch h)] ?_ ?_ ?_]
   .rw[e3,sizeLine_eq];exact oc9 m1
   .rintro i N H7 _ ⟨u,_⟩;exact u.seq (SqL.of d2)
   .rintro i x N H7 hi _ ⟨u,F,rfl,c,d3⟩;(dsimp?[vB]);refine#[sz1,λZ J=>#[_,[1],rfl,SqL.of aI,by decide,λn hn=>by rw[bZ.mp hn];show(1:Int).natAbs<2^20000;exact Nat.one_lt_two_pow (by decide),λn H8 v bn=>#[(u.trans (aQ.upd J)).trans v,F++[n],by rw[aY];rfl,by rw[bC,c];rfl,λx hx=>?_]]];rcases cW.mp hx with hx |hx
    .exact d3 x hx
    .rw[bZ.mp hx];exact bn
   .rintro N H7 _ ⟨u,F,rfl,c,d3⟩ Z J;rw[e3]at c;refine#[_,aQ.upd J _ _ (u _ _ c5),_,aI,by rw[aA,aA,sizeLine_eq];exact oc8 sl c m1 n1,λO f3=>?_];have v:=(e4.trans (u.trans (aQ.upd (o:=lst (map int F)) J))).trans (aQ.upd (o:=lst (map int b++map int F)) f3);have b8:(upd (upd H7 Z (.lst (map int F))) O (.lst (map int b++map int F))) O=some (.lst (map int (b++F))):=by rw[aI,aY]
    generalize upd (upd H7 Z (.lst (map int F))) O (.lst (map int b++map int F))=H8 at v b8;clear s e0 u J f3 s3 d1 e4 d2 c5 e2;have f4:∀x∈b++F,BB 30000 x:=λx hx=>by
     rcases cW.mp hx with hx |hx
     .exact sb x hx
     .exact d3 x hx
    have f5:(b++F).length=L.n+L.m:=by rw[bC,sl,c]
    generalize b++F=g6 at f4 f5 b8;clear sb d3 sl c;have t8:=v _ _ t5;have I8:IsI H8 t:=#[_,_,_,t8];refine#[_,_,_,t8,C.cl,C.ns,by show 1<1000;decide,?_];have b9:Sb t H8 (upd H8 t (.ins (eI K "Corner") f (hJ "spans" (.ref O) (hJ "begun" (.ref bl) [])))):=Sb.at;have t9:(upd H8 t (.ins (eI K "Corner") f (hJ "spans" (.ref O) (hJ "begun" (.ref bl) [])))) t=some (.ins (eI K "Corner") f (hJ "spans" (.ref O) (hJ "begun" (.ref bl) []))):=aI;generalize upd H8 t (.ins (eI K "Corner") f (hJ "spans" (.ref O) (hJ "begun" (.ref bl) [])))=H9 at b9 t9;have e5:Sb t H H9:=d9.trans ((Sb.of v).trans b9);have I9:IsI H9 t:=#[_,_,_,t9];have d4:=b9.rws I8 (c4.same v);have d5:=b9.lst I8 (v _ _ b7);have d6:=b9.lst I8 b8;have R9:=R.sb e5 hI;clear b9 v I8 t8 c4 b7 d9 I5 t5 b8 R5;(dsimp?[uX,xX,gY,xI,qJ]);refine#[#[_,SqL.of R9.ha],jZi (K:=K) (a:=r) (xs:=map ref g) (λi N U=>aQ H9 U/\∃a1,N=map ref a1/\eL U a1 (ofF i (L.keptL L.ins0))) ?_ #[aQ.refl _,[],rfl,trivial] ?_ ?_ ?_]
    .rw[aA,rl,sizeLine_eq];exact oc2 m1
    .rintro i N U _ ⟨s3,_⟩;exact s3.seq (SqL.of R9.ha)
    .rintro i x p N U hi _ ⟨s3,a1,rfl,c6⟩ hp os D;obtain⟨z,rfl,M⟩:=eU hi;obtain⟨im,B⟩:=(R9.same s3).inv M;obtain⟨S,A,rfl⟩:∃S A,os=[S,A]:=by
      match os,D with
      | [S,A],_=>exact#[S,A,rfl]
     have G:=aQ.upd (o:=tup [.int i,.ref z]) hp;(dsimp?[uZ,vD,qJ,cN,bR,cR,bH]);refine#[_,SqT.of aI,rfl,_,_,rfl,_,_,rfl,rfl,#[[some (.int i),some (.ref z)],rfl,rfl],_,.inl ((s3.trans G).seq (SqL.of R9.ha)),?_];rw[aA,rl];refine#[L.m+1,i,rfl,oc12 m1,λP w X _ d1=>?_];have la:atI (map int (L.rowL i)) (-1)=some (.int (L.be i)):=qR (by rw[aA,Lpd.rowL_length,aX,Nat.add_sub_cancel,L.rowL_last];rfl);refine#[z,rfl,_,SqL.of ((G.trans X) _ _ B),_,la,sz1,λZ J=>#[P,rfl,_,aQ.upd J _ _ d1,_,aI,by rw[aA,bI,sizeLine_eq];exact oc3 m1,λl3 f6=>?_]];refine#[(((s3.trans G).trans X).trans (aQ.upd J)).trans (aQ.upd f6),a1++[l3],by rw[aY];rfl,?_];rw[fP i (L.keptL L.ins0)];refine eL.snoc ((((c6.same G).same X).same (aQ.upd J)).same (aQ.upd f6)) ?_;rw[aI];unfold Lpd.keptL;rw[Lpd.T_start fl (Nat.lt_succ_of_le im),aY]
     congr 3
     show _=_
     congr 1
     refine jC λk hk=>?_;rw[Lpd.T_start fl (Nat.lt_succ_of_le im)];unfold e1;by_cases e:i=k
     .rw[aJ e.symm,aJ e]
     .rw[aF (Ne.symm e),aF e]
    .rintro N U _ ⟨s3,a1,rfl,c6⟩ kl e6;rw[aA,rl]at c6;have a5:=s3.trans (aQ.upd (o:=lst (map ref a1)) e6);have a6:=c6.same (aQ.upd (o:=lst (map ref a1)) e6);have a7:(upd U kl (.lst (map ref a1))) kl=some (.lst (map ref a1)):=aI;generalize upd U kl (.lst (map ref a1))=c7 at a5 a6 a7;have e7:=a5 _ _ t9;have c1:IsI c7 t:=#[_,_,_,e7];refine#[_,_,_,e7,C.cl,C.nk,by show 2<1000;decide,?_];have a4:Sb t c7 (upd c7 t (.ins (eI K "Corner") f (hJ "kept" (.ref kl) (hJ "spans" (.ref O) (hJ "begun" (.ref bl) []))))):=Sb.at;have c2:(upd c7 t (.ins (eI K "Corner") f (hJ "kept" (.ref kl) (hJ "spans" (.ref O) (hJ "begun" (.ref bl) []))))) t=some (.ins (eI K "Corner") f (hJ "kept" (.ref kl) (hJ "spans" (.ref O) (hJ "begun" (.ref bl) [])))):=aI;generalize upd c7 t (.ins (eI K "Corner") f (hJ "kept" (.ref kl) (hJ "spans" (.ref O) (hJ "begun" (.ref bl) []))))=e8 at a4 c2;have c8:Sb t H e8:=e5.trans ((Sb.of a5).trans a4);have f7:IsI e8 t:=#[_,_,_,c2];have a8:=a4.rws c1 (d4.same a5);have a3:=a4.lst c1 (a5 _ _ d5);have a9:=a4.lst c1 (a5 _ _ d6);have b0:=a4.rws c1 a6;have b3:=a4.lst c1 a7;have g7:=R.sb c8 hI;clear a4 a5 c1 e7 d4 d5 d6 c6 a6 a7 s3 e5 t9 I9 R9 e6;(dsimp?[uY,xX,dQ,hV]);refine#[_,.inl (SqL.of g7.ha),?_];rw[aA,rl,oc10,dA];refine#[(oc7 m1).1,(oc7 m1).2,kD (lo:=0) (W:=WEq e8 λi N=>N=map int (ofF i λi=>((L.ins0 i:Nat):Int))) (by rw[sizeLine_eq];exact oc9 m1) #[rfl,rfl] ?_ ?_]
     .rintro i N c9 hi _ ⟨rfl,rfl⟩;(dsimp?[vE,gS,cN,bR,cR,bH]);refine#[_,_,_,c2,C.cl,C.nb,_,rfl,bl,rfl,_,.inl (SqL.of a3),rfl,?_];show _=map int (ofF (i+1) λi=>((L.ins0 i:Nat):Int));rw[fP,aY,aA,d8]
      congr 3
      unfold Lpd.ins0;show(L.n:Int)+(0+(i:Int))=((L.n+i:Nat):Int);lia
     .rintro N c9 _ ⟨rfl,rfl⟩ ins a2;have f8:=aQ.upd (o:=lst (map int (L.insL L.ins0))) a2;have g8:(upd c9 ins (.lst (map int (L.insL L.ins0)))) ins=some (.lst (map int (L.insL L.ins0))):=aI;have f9:ins≠t:=λe=>by rw[e,c2]at a2;cases a2
      have e9:H ins=none:=c8.free a2 f9;show ∃x h0 h4,upd c9 ins (.lst (map int (L.insL L.ins0))) t=some (HO.ins x h0 h4)/\_;have h5:=f8 _ _ c2;have nb:∀{a:Addr}{o:HO},c9 a=some o->a≠ins:=λe z=>by rw[z,a2]at e;cases e
      have nt:∀{a:Addr}{xs:List V},c9 a=some (.lst xs)->a≠t:=λe=>kS e c2 (by intro z;cases z);refine#[_,_,_,h5,C.cl,C.ni,by show 3<1000;decide,q ins _ e9 ((c8.trans (Sb.of f8)).trans Sb.at) #[f,bl,O,kl,a0,g6,a1,?_,?_,?_,?_,f5,f4,?_,?_,?_]]
      .rw[aI];rfl
      .rw[nV (.inl rfl),nV (.inr rfl)];exact yD a3 (nt a3) (nb a3)
      .rw[nV (.inl rfl),nV (.inr rfl)];exact a8.mn (a8.notI f7) (a8.notN a2)
      .rw[nV (.inl rfl),nV (.inr rfl)];exact yD a9 (nt a9) (nb a9)
      .rw[nV (.inl rfl),nV (.inr rfl)];exact yD b3 (nt b3) (nb b3)
      .rw[nV (.inl rfl),nV (.inr rfl)];exact b0.mn (b0.notI f7) (b0.notN a2)
      .rw[bY f9];exact g8
def tS:LS:=["column","longs"]
def rH(K:aR):Sp:=λvs H Q _=>∃a b xs ls,vs=[.ref a,.ref b]/\SqL K H a (map int xs)/\SqL K H b (map int ls)/\xs.length=ls.length/\xs.length<=200/\∀(w:Int) H',aQ H H'->(∀(i:Nat) x l,xs[i]?=some x->ls[i]?=some l->x≠0->(ib x:Int)-l<=w)->(w=0∨∃(i:Nat)(x l:Int),xs[i]?=some x/\ls[i]?=some l/\w=(ib x:Int)-l)->Q (.int w) H'
def uU(K:aR):TE:=(tOp kZ (tBM0 K "int" Wx (aE 0)) (aE 1))
def uT(K:aR):TG:=(jN K 2 (eK (aZ 0) (eK (aZ 1) jO)))
def tH(K:aR):TS:=(cQ (tMaxD K (aH (Vc (mR K (aH (aE 0) (aH (aE 1) bE))) 2 [] (uT K) (cV (tOp rNe (aE 0) (tC (.int 0)))) (uU K)) bE) (tC (.int 0))))
def Pm{K}:RdS K rH tH tS:=by
 rintro m H Q E ⟨a,b,F,ls,rfl,ha,hb,f,r,q⟩;rw[show start tS [ref a,ref b]=[some (.ref a),some (.ref b)]from rfl];(dsimp?[tH,Vc,mR,tMaxD]);refine#[#[_,ha],#[_,hb],jZj (K:=K) (a:=a) (b:=b) (xs:=map int F) (ys:=map int ls) (λi N U=>aQ H U/\∃ns:List Int,N=map int ns/\(∀n∈ns,∃(k:Nat)(x l:Int),F[k]?=some x/\ls[k]?=some l/\n=(ib x:Int)-l)/\∀(k:Nat) x l,k<i->F[k]?=some x->ls[k]?=some l->x≠0->(ib x:Int)-l∈ns) (by rw[aA,sizeLine_eq];lia) (by rw[aA,aA];exact f) #[aQ.refl _,[],rfl,(λ_ h=>nomatch h),λk x l h=>absurd h (eO _)] ?_ ?_ ?_]
 .rintro i N U _ ⟨s3,_⟩;exact#[s3.seq ha,s3.seq hb]
 .rintro i x y p N U hx d _ ⟨s3,ns,rfl,n1,n2⟩ hp os D;obtain⟨u,rfl,j⟩:=fZ hx;obtain⟨l,rfl,Y⟩:=fZ d;obtain⟨S,A,rfl⟩:∃S A,os=[S,A]:=by
   match os,D with
   | [S,A],_=>exact#[S,A,rfl]
  have G:=s3.trans (aQ.upd (o:=tup [.int u,.int l]) hp);(dsimp?[uT,uU,tBM0,Wx,cN,bR,cR,bH]);refine#[_,SqT.of aI,rfl,_,_,rfl,_,_,rfl,rfl,#[[some (.int u),some (.int l)],rfl,rfl],rfl,?_];have T:∀n∈ns,∃(k:Nat)(x:Int),F[k]?=some x/\∃l:Int,ls[k]?=some l/\n=(ib x:Int)-l:=λn R=>let⟨k,x,l,e1,C,O⟩:=n1 n R;#[k,x,e1,l,C,O];by_cases g:u=0
  .rw[decide_eq_true (by rw[g]:int u=int 0)];refine sR #[G,ns,rfl,T,λk x w hk e1 C c=>?_];by_cases e:k=i
   .subst e;rw[j]at e1;exact absurd ((aV e1).symm.trans g) c
   .exact n2 k x w #[] e1 C c
  .rw[decide_eq_false (λz=>g (by injection z):¬int u=int 0)];refine iteT #[rfl,u,rfl,l,rfl,G,ns++[(ib u:Int)-l],by rw[aY];rfl,λn R=>?_,λk x w hk e1 C hx=>?_]
   .rcases cW.mp R with h |h
    .exact T n h
    .exact#[i,u,j,l,Y,bZ.mp h]
   .by_cases e:k=i
    .subst e;rw[j]at e1;rw[Y]at C;obtain rfl:=aV e1;obtain rfl:=aV C;exact cY _ (bZ.mpr rfl)
    .exact iO _ (n2 k x w #[] e1 C hx)
 .rintro N U ⟨s3,ns,rfl,n1,n2⟩ p hp;rw[aA]at n2;have G:=s3.trans (aQ.upd (o:=lst (map int ns)) hp);have lt:∀{k:Nat}{x:Int},F[k]?=some x->k<F.length:=λe=>(aK.mp e).1;refine#[ns,SqL.of aI,λz=>q 0 _ G (λk x l e1 C hx=>?_) (.inl rfl),λ_ M X v=>q M _ G (λk x l e1 C hx=>v _ (n2 k x l (lt e1) e1 C hx)) ?_]
  .have:=n2 k x l (lt e1) e1 C hx;rw[z]at this;exact nomatch this
  .obtain⟨k,x,l,e1,C,O⟩:=n1 M X;exact .inr #[k,x,l,e1,C,O]
def Gs:LS:=["number","bits"]
def tM(K:aR):Sp:=λvs H Q _=>∃n b,vs=[.int n,.int b]/\0<=n/\ib n<=20000/\-1000000<=b/\b<=1000000/\∀r,Ub n b r->Q (.int r) H
def wF(K:aR):TS:=(cC (fS (cV (tOp kH (aE 0) (tC (.int 0)))) jL eJ) (cQ (tIf (cV (tOp tT (aE 1) (tC (.int 0)))) (tOp rShl (aE 0) (aE 1)) (tOp rShr (aE 0) (tUn iK (aE 1))))))
def Qn{K}:RdS K tM wF Gs:=by
 rintro m H Q E ⟨n,b,rfl,N,hi,b1,b2,q⟩;rw[show start Gs [int n,int b]=[some (.int n),some (.int b)]from rfl];(dsimp?[wF,tIf,rShl,rShr]);rw[aF #[]];refine kX (λh=>#[#[#[],by show(ib n:Int)+b<=_;lia],q _ (str_up #[] N)]) (λh=>#[#[],q _ ?_]);have:=Xg (n:=n) (b:=-b) #[] N;rwa [Int.neg_neg]at this
def Kh:LS:=["number","bits"]
def xA(K:aR):Sp:=λvs H Q _=>∃n b,vs=[.int n,.int b]/\ib n<=20000/\-1000000<=b/\b<=1000000/\∀r,Ub n b r->Q (.int r) H
def zB(K:aR):TS:=(cC (fS (cV (tOp kH (aE 0) (tC (.int 0)))) (cQ (tUn iK (cD (tM K) [] E0 (aH (tUn iK (aE 0)) (aH (aE 1) bE))))) eJ) (cQ (tIf (cV (tOp tT (aE 1) (tC (.int 0)))) (tOp rShl (aE 0) (aE 1)) (tOp rShr (aE 0) (tUn iK (aE 1))))))
def Vw{K}:RdS K xA zB Kh:=by
 rintro m H Q E ⟨n,b,rfl,hi,b1,b2,q⟩;rw[show start Kh [int n,int b]=[some (.int n),some (.int b)]from rfl];(dsimp?[zB,tIf,rShl,rShr]);refine kX (λh=>#[-n,b,rfl,#[],by rw[ib_neg];exact hi,b1,b2,λr hr=>#[r,rfl,q _ (str_neg hr h)]]) (λh=>?_);refine kX (λh=>#[#[#[],by show(ib n:Int)+b<=_;lia],q _ (str_up #[] #[])]) (λh=>#[#[],q _ ?_]);have:=Xg (n:=n) (b:=-b) #[] #[];rwa [Int.neg_neg]at this
def Ki:LS:=["row","bits","wides"]
def xB(K:aR):Sp:=λvs H Q _=>∃a w xs f,∃b:Int,vs=[.ref a,.int b,.ref w]/\SqL K H a (map int xs)/\SqL K H w (map int f)/\xs.length=f.length/\xs.length<=200/\(∀x∈xs,ib x<=20000)/\(-500000<=b/\b<=500000)/\(∀v∈f,-500000<=v/\v<=500000)/\
 ∀l X H',aQ H H'->H l=none->H' l=some (.lst (map int X))->X.length=xs.length->(∀(i:Nat) x v r,xs[i]?=some x->f[i]?=some v->X[i]?=some r->Ub x (b-v) r)->Q (.ref l) H'
def Af(K:aR):TE:=(cD (xA K) [] E0 (aH (aE 0) (aH (tOp kZ (aE 2) (aE 1)) bE)))
def Ae(K:aR):TG:=(jN K 2 (eK (aZ 0) (eK (aZ 1) jO)))
def zC(K:aR):TS:=(cQ (gY (mR K (aH (aE 0) (aH (aE 2) bE))) 2 [1] (Ae K) (Af K)))
def Vx{K}:RdS K xB zC Ki:=by
 rintro m H Q E ⟨a,w,F,f,b,rfl,ha,hw,g,M,bx,⟨b1,b2⟩,I,q⟩;rw[show start Ki [ref a,int b,ref w]=[some (.ref a),some (.int b),some (.ref w)]from rfl];(dsimp?[zC,gY,mR]);refine#[#[_,ha],#[_,hw],lM (K:=K) (a:=a) (b:=w) (xs:=map int F) (ys:=map int f) (λi N U=>aQ H U/\∃X:List Int,N=map int X/\X.length=i/\∀(k:Nat) x v r,F[k]?=some x->f[k]?=some v->X[k]?=some r->Ub x (b-v) r) (by rw[aA,sizeLine_eq];lia) (by rw[aA,aA];exact g) #[aQ.refl _,[],rfl,rfl,λk x v r _ _ e=>by simp at e] ?_ ?_ ?_]
 .rintro i N U _ ⟨s3,_⟩;exact#[s3.seq ha,s3.seq hw]
 .rintro i x y p N U hx d _ ⟨s3,X,rfl,s,ok⟩ hp os D;obtain⟨u,rfl,R⟩:=fZ hx;obtain⟨v,rfl,hv⟩:=fZ d;obtain⟨S,A,rfl⟩:∃S A,os=[S,A]:=by
   match os,D with
   | [S,A],_=>exact#[S,A,rfl]
  have G:=s3.trans (aQ.upd (o:=tup [.int u,.int v]) hp);have c:=I v (aL hv);(dsimp?[Ae,Af,cN,bR,cR,bH]);refine#[_,SqT.of aI,rfl,_,_,rfl,_,_,rfl,rfl,#[[some (.int u),some (.int v)],rfl,rfl],?_];refine#[_,rfl,u,b-v,rfl,bx u (aL R),#[],#[],λr hr=>#[G,X++[r],by rw[aY];rfl,by rw[bC,s];rfl,λk B Z t e1 C O=>?_]];rcases yU O with⟨O,_⟩|⟨z,rfl⟩
  .exact ok k B Z t e1 C O
  .rw[z,s,R]at e1;rw[z,s,hv]at C;obtain rfl:=aV e1;obtain rfl:=aV C;exact hr
 .rintro N U _ ⟨s3,X,rfl,s,ok⟩ l Y;rw[aA]at s;exact q l X _ (s3.trans (aQ.upd Y)) (s3.free Y) aI s ok
def Tg:LS:=["lists","bits","longs","wides"]
structure Rnd(L L2:Lpd)(b:Nat):Prop where
 m:L2.m=L.m
 n:L2.n=L.n
 fl:L2.fl=false
 ba:∀j k,j<L.n->k<=L.m->BB b (L2.a j k)
 bb:∀k,k<=L.m->BB b (L2.be k)
 nn:∀k,k<=L.m->0<=L.be k->0<=L2.be k
def Dq(K:aR):Sp:=λvs H Q _=>∃a g L,∃b:Nat,vs=[.ref a,.int b]/\xU H a g L/\1<=L.n/\L.n<=100/\L.m<=100/\b<=9000/\(∀i,i<=L.m->∀x∈L.rowL i,BB 20000 x)/\
 ∀l qs e H',aQ H H'->xU H' l qs e->Rnd L e b->Q (.ref l) H'
def Fo(K:aR):TE:=(cD (xB K) [] E0 (aH (aE 0) (aH (tOp kZ (aE 3) (aE 1)) (aH (aE 2) bE))))
def Fm(K:aR):TG:=(jN K 2 (eK (aZ 0) (eK (aZ 1) jO)))
def Fl(K:aR):TS:=(cQ (gY (mR K (aH (aE 0) (aH (aE 2) bE))) 2 [3,1] (Fm K) (Fo K)))
def wG(K:aR):TE:=(cD (rH K) [] E0 (aH (cD (kE K) [] E0 (aH (aE 2) (aH (aE 0) bE))) (aH (aE 1) bE)))
def Fk(K:aR):TS:=(cC (cT (dQ (hV (aH (tCB (jE K) (aH (tOp (fX K) (aE 0) (tC (.int 0))) bE)) bE)) [2,0] (wG K)) (aZ 3)) (Fl K))
def Fn(K:aR):TE:=(cD (vZ K) [] E0 (aH (tSl (xS K) (aE 0) iC (lX (tUn iK (tC (.int 1))))) bE))
def Hf(K:aR):TS:=(cC (cT (dQ (dC K (aE 0)) [] (Fn K)) (aZ 2)) (Fk K))
def jJe{K}:RdS K Dq Hf Tg:=by
 rintro vs H Q E ⟨a,g,L,b,rfl,R,n1,n2,m2,b2,bx,q⟩;have rl:=R.len;rw[show start Tg [ref a,int b]=[some (.ref a),some (.int b),none,none]from rfl];(dsimp?[Hf,dQ,dC]);refine#[#[_,SqL.of R.ha],eR (K:=K) (a:=a) (xs:=map ref g) (λi N U=>aQ H U/\∃ls:List Int,N=map int ls/\ls.length=i/\∀(k:Nat) l,ls[k]?=some l->(0<=l/\l<=20000)/\∀j,j<L.n->(ib (L.a j k):Int)<=l) (by rw[aA,sizeLine_eq];lia) #[aQ.refl _,[],rfl,rfl,λk l e=>by simp at e] ?_ ?_ ?_]
 .rintro i N U _ ⟨s3,_⟩;exact SqL.of (s3 _ _ R.ha)
 .rintro i x N U hi _ ⟨s3,ls,rfl,ll,F⟩;obtain⟨p,rfl,hp⟩:=eU hi;obtain⟨im,B⟩:=(R.same s3).inv hp;(dsimp?[Fn,xS]);refine#[_,SqL.of B,λz hz=>?_];rw[cut_row];refine#[z,_,rfl,SqL.of aI,λe=>?_,by rw[bI];lia,λM H4 G hM#[n,hn,eM]=>#[(s3.trans (aQ.upd hz)).trans G,ls++[(M:Int)],by rw[aY];rfl,by rw[bC,ll];rfl,λk l e=>?_]]
  .have:=congrArg List.length e;rw[bI]at this;simp at this;lia
  .rcases yU e with⟨e,_⟩|⟨ek,rfl⟩
   .exact and_assoc.mp (F k l e)
   .rw[ek,ll];obtain⟨j,P,rfl⟩:=kT hn;have:ib (L.a j i)<=20000:=Qx (bx i im _ (iO _ (aL (fO (λj=>L.a j i) P))));refine and_assoc.mp #[#[],λj P=>?_];have:=hM _ (aL (fO (λj=>L.a j i) P));lia
 .rintro N U _ ⟨s3,ls,rfl,ll,F⟩ lz a1;rw[aA,rl]at ll;have G:=s3.trans (aQ.upd (o:=lst (map int ls)) a1);have a0:(upd U lz (lst (map int ls))) lz=some (lst (map int ls)):=aI;generalize upd U lz (lst (map int ls))=H4 at G a0;clear s3 a1;have R4:=R.same G;obtain⟨p0,a2,a3⟩:=R4.row (dN L.m);(dsimp?[Fk,dQ,hV]);refine#[_,SqL.of R4.ha,ref p0,gU (j:=0) (by rw[aX,a2];rfl),p0,rfl,_,.inl (SqL.of a3),?_];rw[aA,Lpd.rowL_length,dA];refine#[#[],#[],kD (lo:=0) (W:=λj N I=>aQ H4 I/\∃ws:List Int,N=map int ws/\ws.length=j/\∀(k:Nat) w,ws[k]?=some w->(-20000<=w/\w<=20000)/\∀(i:Nat) x l,i<=L.m->(L.rowL i)[k]?=some x->ls[i]?=some l->x≠0->(ib x:Int)-l<=w) (by rw[sizeLine_eq];lia) #[aQ.refl _,[],rfl,rfl,λk l e=>by simp at e] ?_ ?_]
  .rintro j N I P _ ⟨s5,ws,rfl,wl,wo⟩;(dsimp?[wG,cN,bR,cR,bH];try simp_arith[wG,cN,bR,cR,bH,eP])
   refine#[a,g,_,(j:Int),j,rfl,SqL.of (s5 _ _ R4.ha),(R4.same s5).hr,by rw[bI];lia,λr hr=>?_,λc T s b5 a4=>?_]
   .obtain⟨i,hi,rfl⟩:=kT hr;exact kN (by rw[Lpd.rowL_length];lia)
   .have e:(ofF (L.m+1) L.rowL).map (λr=>r.getD j 0)=ofF (L.m+1) λi=>(L.rowL i).getD j 0:=by unfold ofF;rw[List.map_map];rfl
    rw[e]at a4;have a5:=s5.trans s;refine#[c,lz,_,ls,rfl,SqL.of a4,SqL.of (a5 _ _ a0),by rw[bI,ll],by rw[bI];lia,λw t u w1 w2=>#[a5.trans u,ws++[w],by rw[aY];rfl,by rw[bC,wl];rfl,λk w' e'=>?_]];rcases yU e' with⟨e',_⟩|⟨ek,rfl⟩
    .exact and_assoc.mp (wo k w' e')
    .rw[ek,wl];refine and_assoc.mp #[?_,λi x l hi ex el hx=>?_]
     .rcases w2 with w0 |⟨i,x,l,ex,el,ew⟩
      .omega
      .obtain⟨b7,rfl⟩:=gA ex;have hb:ib ((L.rowL i).getD j 0)<=20000:=Qx (bx i #[] _ (lZ (by rw[Lpd.rowL_length];lia)));have:=(F i l el).1;lia
     .have:=w1 i x l (by rw[fO _ (show i<L.m+1 by lia),iM ex]) el hx;exact this
  .rintro N I _ ⟨s5,ws,rfl,wl,wo⟩ wz a6;have s:=s5.trans (aQ.upd (o:=lst (map int ws)) a6);have a7:(upd I wz (lst (map int ws))) wz=some (lst (map int ws)):=aI;generalize upd I wz (lst (map int ws))=T at s a7;have a8:=G.trans s;have R6:=R.same a8;have a9:=s _ _ a0;clear s5 a6 s a0 R4 a3 a2;(dsimp?[Fl,gY,mR]);refine#[#[_,SqL.of R6.ha],#[_,SqL.of a9],lM (K:=K) (a:=a) (b:=lz) (xs:=map ref g) (ys:=map int ls) (λi N t=>aQ T t/\∃qs f,N=map ref qs/\eL t qs f/\f.length=i/\∀(k:Nat) row,f[k]?=some row->row.length=L.n+1/\∀(j:Nat) x v r l,(L.rowL k)[j]?=some x->ws[j]?=some v->row[j]?=some r->ls[k]?=some l->Ub x ((b:Int)-l-v) r) (by rw[aA,sizeLine_eq];lia) (by rw[aA,aA];lia) #[aQ.refl _,[],[],rfl,trivial,rfl,λk row e=>by simp at e] ?_ ?_ ?_]
   .rintro i N t _ ⟨u,_⟩;exact#[SqL.of (u _ _ R6.ha),SqL.of (u _ _ a9)]
   .rintro i x y p N t hx d _ ⟨u,qs,f,rfl,J,Z,ok⟩ hp os D;obtain⟨z,rfl,hz⟩:=eU hx;obtain⟨l,rfl,Y⟩:=fZ d;obtain⟨o1,A,rfl⟩:∃o1 A,os=[o1,A]:=by
     match os,D with
     | [o1,A],_=>exact#[o1,A,rfl]
    obtain⟨im,B⟩:=(R6.same u).inv hz;have s8:=aQ.upd (o:=tup [.ref z,.int l]) hp;have bl:=(F i l Y).1;(dsimp?[Fm,Fo,cN,bR,cR,bH]);refine#[_,SqT.of aI,rfl,_,_,rfl,_,_,rfl,rfl,#[[some (.ref z),some (.int l)],rfl,rfl],?_];generalize upd t p (tup [.ref z,.int l])=H8 at s8;refine#[_,rfl,z,wz,L.rowL i,ws,(b:Int)-l,rfl,SqL.of (s8 _ _ B),SqL.of ((u.trans s8) _ _ a7),by rw[Lpd.rowL_length,wl],by rw[Lpd.rowL_length];lia,λx hx=>Qx (bx i im x hx),#[#[],#[]],λv hv=>?_,λlr X H9 s9 b8 b3 b4 st=>#[(u.trans s8).trans s9,qs++[lr],by rw[aY];rfl,f++[X],eL.snoc ((J.same s8).same s9) b3,by rw[bC,Z];rfl,λk row e=>?_]]
    .obtain⟨j,P⟩:=cJ hv;have:=(wo j v P).1;lia
    .rcases yU e with⟨e,_⟩|⟨ek,rfl⟩
     .exact ok k row e
     .rw[ek,Z];refine#[by rw[b4,Lpd.rowL_length],λj x v r l' e1 C O e4=>?_];rw[Y]at e4;obtain rfl:=aV e4;exact st j x v r e1 C O
   .rintro N t _ ⟨u,qs,f,rfl,J,Z,ok⟩ l Y;rw[aA,rl]at Z;have s8:=aQ.upd (o:=lst (map ref qs)) Y;have b0:∀r∈f,r.length=L.n+1:=λr hr=>by
     obtain⟨k,hk⟩:=cJ hr;exact(ok k r hk).1
    have er:=jVk Z b0;refine q l qs (LpR f L.m L.n) _ ((a8.trans u).trans s8) #[aI,by show eL _ qs (ofF (L.m+1) (LpR f L.m L.n).rowL);rw[er];exact J.same s8] ?_;have cell:∀(k j:Nat),k<=L.m->j<L.n+1->∀x,(L.rowL k)[j]?=some x->BB b ((f.getD k []).getD j 0)/\(0<=x->0<=(f.getD k []).getD j 0):=λk j hk P x hx=>by
     have ek:f[k]?=some f[k]:=aD #[];obtain⟨len,st⟩:=ok k _ ek;have eg:f.getD k []=f[k]:=by rw[aP,ek];rfl
     have el:ls[k]?=some ls[k]:=aD #[];have ew:ws[j]?=some ws[j]:=aD #[];have S:=st j x _ _ _ hx ew (Fg (show j<(f[k]).length by lia)) el;rw[eg];refine#[?_,S.nn];by_cases x0:x=0
     .rw[S.zz x0];show(0:Int).natAbs<_;exact dH _
     .exact S.bb b (by have:=(wo j _ ew).2 k x _ hk hx el x0;lia)
    exact#[rfl,rfl,rfl,λj k P hk=>(cell k j hk #[] _ (L.rowL_get k P)).1,λk hk=>(cell k L.n hk #[] _ (L.rowL_last k)).1,λk hk h0=>(cell k L.n hk #[] _ (L.rowL_last k)).2 h0]
def Oz:LS:=["one","other"]
def sI(K:aR):Sp:=λvs H Q _=>∃a b,∃n:Nat,∃xs ys,∃f g:Nat->Int,vs=[.ref a,.ref b]/\SqL K H a (map int xs)/\SqL K H b (map int ys)/\n<=200/\n<=xs.length/\n<=ys.length/\(xs.length<=n∨ys.length<=n)/\(∀k,k<n->xs[k]?=some (f k)/\ys[k]?=some (g k)/\BB 20000 (f k)/\BB 20000 (g k))/\∀H',aQ H H'->Q (.int (sm n λk=>f k*g k)) H'
def Ci(K:aR):TE:=(tOp eT (aE 0) (aE 1))
def Cg(K:aR):TG:=(jN K 2 (eK (aZ 0) (eK (aZ 1) jO)))
def Dl(K:aR):TS:=(cQ (tCB (cSum K) (aH (gY (mR K (aH (aE 0) (aH (aE 1) bE))) 2 [] (Cg K) (Ci K)) bE)))
def Yq{K}:RdS K sI Dl Oz:=by
 rintro m H Q E ⟨a,b,n,F,T,f,g,rfl,v,t,R,h1,h2,h3,j,q⟩;rw[show start Oz [ref a,ref b]=[some (.ref a),some (.ref b)]from rfl];(dsimp![Dl,gY,mR,cSum,aE,cQ,aH,bE,tCB]);refine#[#[_,v],#[_,t],jZh (K:=K) (a:=a) (b:=b) (xs:=map int F) (ys:=map int T) n (λi N U=>aQ H U/\N=map int (ofF i λk=>f k*g k)) (by rw[sizeLine_eq];lia) (by rw[aA];lia) (by rw[aA];lia) (by rw[aA,aA];exact h3) #[aQ.refl _,rfl] ?_ ?_ ?_]
 .rintro i N U _ ⟨s3,_⟩;exact#[s3.seq v,s3.seq t]
 .rintro i x y p N U hx o hi _ ⟨s3,rfl⟩ hp os D;obtain⟨e1,C,b1,b2⟩:=j i hi;obtain⟨c,rfl,hc⟩:=fZ hx;obtain⟨d,rfl,hd⟩:=fZ o;rw[hc]at e1;rw[hd]at C;obtain rfl:=aV e1;obtain rfl:=aV C;obtain⟨S,A,rfl⟩:∃S A,os=[S,A]:=by
   match os,D with
   | [S,A],_=>exact#[S,A,rfl]
  (dsimp![Cg,Ci,aZ,aE,tOp,rI,eT,jN,eK,jO,Lca,Lna]);refine#[_,SqT.of aI,rfl,_,_,rfl,_,_,rfl,rfl,#[[some (.int (f i)),some (.int (g i))],rfl,rfl],_,rfl,_,rfl,.b b1 b2,s3.trans (aQ.upd hp),?_];rw[fP,aY];rfl
 .rintro e U _ ⟨s3,rfl⟩ l Y;refine#[_,SqL.of aI,?_];rw[jXV];exact q _ (s3.trans (aQ.upd Y))
def sP:LS:=["self","last","lacks","found","place","lack"]
noncomputable def oV:Option Nat->V
 |none=>.non
 |some f=>.int f
noncomputable def EntO(L:Lpd)(s:Nat->Nat)(i:Nat):Option Nat->Prop
 |none=>∀c,c<i->0<=L.T s L.m (L.cv c)
 |some c=>c<i/\L.T s L.m (L.cv c)<0
def jB(K:aR):Sp:=λvs H Q _=>∃t ins L s,vs=[.ref t]/\iX K H t ins L s/\L.Lim/\L.Okn s/\∀o H',aQ H H'->EntO L s (L.n+L.m) o->Q (oV o) H'
def Zg(t p l:Addr)(L:Lpd)(s:Nat->Nat)(C:Hp):NS:=λi Z U=>∃o S A,Z=[some (.ref t),some (.ref p),some (.ref l),some (oV o),S,A]/\aQ C U/\EntO L s i o
def pD(K:aR):TS:=(fS (Ek (cV (tOp kH (aE 5) (tC (.int 0)))) (tOr (cV (tOp Kq (aE 3) (tC .non))) (cV (tOp kH (tOp eT (aE 5) (tOp (fX K) (gS K (aE 0) "spans") (aE 3))) (tOp eT (tOp (fX K) (aE 2) (aE 3)) (tOp (fX K) (gS K (aE 0) "spans") (aE 4))))))) (cT (aE 4) (aZ 3)) eJ)
def lE(K:aR):TG:=(jN K 2 (eK (aZ 4) (eK (aZ 5) jO)))
def pB(K:aR):TS:=(cC (cT (tC .non) (aZ 3)) (cC (gI (xI K (aE 2)) (lE K) (pD K)) (cQ (aE 3))))
def pC(K:aR):TE:=(cD (sI K) [] E0 (aH (aE 0) (aH (aE 1) bE)))
def pA(K:aR):TS:=(cC (cT (tOp qJ (dQ (dC K (gS K (aE 0) "begun")) [1] (pC K)) (tSl (xS K) (aE 1) iC (lX (tCB (jE K) (aH (gS K (aE 0) "inside") bE))))) (aZ 2)) (pB K))
def nO(K:aR):TS:=(cC (cT (tOp (fX K) (gS K (aE 0) "kept") (tUn iK (tC (.int 1)))) (aZ 1)) (pA K))
def jXp{ns:List Int}{n:Nat}(h:n<=ns.length):qK (map int ns) none (some (n:Int))=map int (ns.take n):=by
 unfold qK;have e:HT.sIx (map int ns).length (map int ns).length (some (n:Int))=n:=by
  show(if(n:Int)<0 then((n:Int)+((map int ns).length:Int)).toNat else min (n:Int).toNat (map int ns).length)=n;rw[aF #[],aA,dA];exact Nat.min_eq_left h
 rw[HT.sIx_none,e,List.drop_zero,Nat.sub_zero,map_take]
def ofF_add(n m:Nat)(f:Nat->d):ofF n f++ofF m (λk=>f (n+k))=ofF (n+m) f:=by
 induction m with
 |zero=>exact cA _
 |succ m ih=>rw[fP,←List.append_assoc,ih,←Nat.add_assoc,fP]
def Ot(L:Lpd)(s:Nat->Nat)(i:Nat):(L.keptL s i).take L.m=ofF L.m λk=>L.T s i (e1 k):=by
 apply List.ext_getElem?;intro k;by_cases hk:k<L.m
 .rw[List.getElem?_take_of_lt hk,L.keptL_get s i #[],fO _ hk]
 .rw[cL (by rw[dO];lia),cL (by rw[bI];lia)]
def Eh{K vs H Q E}(C:xW K)(h:jB K vs H Q E):nO K (eQ Q) (start sP vs) H:=by
 obtain⟨t,ins,L,s,rfl,⟨dx,b,O,k,bs,ss,ks,P⟩,lim,ok,q⟩:=h;have bl:=P.bl;have kl:=P.kl;have m1:=lim.m1;have n1:=lim.n1;obtain⟨p,_,a3,a0⟩:=P.last;rw[show start sP [ref t]=[some (.ref t),none,none,none,none,none]from rfl];(dsimp?[nO,gS]);refine#[_,_,_,P.ob,C.cl,C.nk,_,jS _ _ _ _,_,rfl,_,SqL.of P.Kp,_,a3,?_];(dsimp?[pA,gS,dQ,dC,qJ]);refine#[_,_,_,P.ob,C.cl,C.nb,_,mP _ _ _ _,_,rfl,#[_,SqL.of P.B],eR (K:=K) (a:=b) (xs:=map ref bs) (λi N U=>aQ H U/\N=map int (ofF i λj=>L.T s L.m (L.cv j))) ?_ #[aQ.refl _,rfl] ?_ ?_ ?_]
 .rw[aA,sizeLine_eq];lia
 .rintro i ys U _ ⟨s3,_⟩;exact s3.seq (SqL.of P.B)
 .rintro i x ys U hi _ ⟨s3,rfl⟩;obtain⟨pc,rfl,hp⟩:=eU hi;have a1:i<L.n:=by have:=(aK.mp hp).1;lia
  obtain⟨r,F,a2⟩:=P.Bs.get hp;obtain⟨_,rfl⟩:=gA F;(dsimp![pC,cN,bR,cR,bH,aE,cD,aH,bE,cA]);refine#[_,_,L.m+1,_,_,L.a i,λk=>L.T s L.m (e1 k),rfl,s3.seq (SqL.of a2),s3.seq (SqL.of a0),#[],?_,?_,.inl ?_,λj hj=>#[fO _ hj,L.keptL_get s L.m #[],lim.ba _ _ a1 #[],lim.bk _ _ _ ok (aM _) #[]],λw G=>#[s3.trans G,?_]]
  .unfold Lpd.colL;rw[bI];exact aM _
  .rw[Lpd.keptL_length];lia
  .unfold Lpd.colL;rw[bI];exact aM _
  .rw[L.T_prod s (aM _) a1,fP,aY];rfl
 .rintro ys U _ ⟨s3,rfl⟩ l1 I;rw[aA,bl];have G:=s3.trans (aQ.upd (o:=lst (map int (ofF L.n λj=>L.T s L.m (L.cv j)))) I);have d:(upd U l1 (.lst (map int (ofF L.n λj=>L.T s L.m (L.cv j))))) l1=_:=aI;generalize upd U l1 (.lst (map int (ofF L.n λj=>L.T s L.m (L.cv j))))=w at G d;refine#[_,_,_,G _ _ P.ob,C.cl,C.ni,_,nZ _ _ _ _,_,rfl,_,.inl (G.seq (SqL.of P.hi)),?_];have il:(L.insL s).length=L.m:=by unfold Lpd.insL;rw[bI]
  rw[aA,il];refine#[_,G.seq (SqL.of a0),λl2 J=>?_];rw[jXp (by rw[Lpd.keptL_length];lia),Ot];have X:=G.trans (aQ.upd (o:=lst (map int (ofF L.m λk=>L.T s L.m (e1 k)))) J);refine#[_,aQ.upd J _ _ d,_,aI,by rw[aA,aA,bI,bI,sizeLine_eq];lia,λy a4=>?_];have s6:=X.trans (aQ.upd (o:=lst (map int (ofF L.n λj=>L.T s L.m (L.cv j))++map int (ofF L.m λk=>L.T s L.m (e1 k)))) a4);have e:map int (ofF L.n λj=>L.T s L.m (L.cv j))++map int (ofF L.m λk=>L.T s L.m (e1 k))=map int (ofF (L.n+L.m) λc=>L.T s L.m (L.cv c)):=by
   rw[←aY,←ofF_add]
   congr 2
   exact jC λk _=>by rw[L.cv_spare]
  rw[e]at s6⊢;have h3:(upd (upd w l2 (.lst (map int (ofF L.m λk=>L.T s L.m (e1 k))))) y (.lst (map int (ofF (L.n+L.m) λc=>L.T s L.m (L.cv c))))) y=_:=aI;generalize upd (upd w l2 (.lst (map int (ofF L.m λk=>L.T s L.m (e1 k))))) y (.lst (map int (ofF (L.n+L.m) λc=>L.T s L.m (L.cv c))))=H6 at s6 h3;(dsimp?[pB,gI,xI]);refine#[#[_,SqL.of h3],Fh (K:=K) (a:=y) (xs:=map int (ofF (L.n+L.m) λc=>L.T s L.m (L.cv c))) (g:=lE K) (D:={ nx:=cQ (aE 3) (eQ Q),rt:=Q }) (Zg t p y L s H6) ?_ ?_ ?_ ?_]
  .exact#[none,none,none,rfl,aQ.refl _,λc hc=>absurd hc (eO _)]
  .rintro i Z H7 _ ⟨_,_,_,_,u,_⟩;exact u.seq (SqL.of h3)
  .rintro i x pp Z H7 hi ⟨o,o1,A,rfl,u,en⟩ Y;obtain⟨v,rfl,hv⟩:=fZ hi;obtain⟨a1,rfl⟩:=gA hv;have s8:=u.trans (aQ.upd (o:=tup [.int i,.int (L.T s L.m (L.cv i))]) Y);have stay:0<=L.T s L.m (L.cv i)∨o≠none->EntO L s (i+1) o:=λM=>by
    cases o with
    |none=>
     intro c hc;by_cases a5:c=i
     .rw[a5];exact M.resolve_right (λz=>z rfl)
     .exact en c #[]
    |some f=>exact#[by have:=en.1;lia,en.2]
   (dsimp![lE,pD,Kq,gS,cT,aZ,aE,tC,tOp,rI0,rI,eT,kH,fS,cV,eJ,fX,Ek,tOr,jN,eK,jO,cP]);refine#[_,SqT.of aI,rfl,_,_,rfl,_,_,rfl,rfl,_,rfl,kX (λl=>?_) (λR=>#[o,_,_,rfl,s8,stay (.inl #[])])];cases o with
   |none=>
    simp only[oV,if_true,exists_eq_left',V.int.injEq,Option.some.injEq,exists_eq_left,V.ref.injEq,V.bl.injEq,List.cons.injEq,and_true,true_and,exists_and_left,and_assoc,fJ,fK,fH,hE,jZ,iQ];exact#[some i,_,_,rfl,s8,#[],l]
   |some f=>
    have hf:=en.1;have a6:=P.sl;simp only[oV,reduceCtorEq,if_false,exists_eq_left',V.int.injEq,Option.some.injEq,exists_eq_left,V.ref.injEq,V.bl.injEq,List.cons.injEq,and_true,true_and,exists_and_left,and_assoc,fJ,fK,fH,hE,jZ,iQ];have b1:=lim.bc s L.m i ok (aM _);have b2:=lim.bc s L.m f ok (aM _);refine#[_,_,_,(s6.trans s8) _ _ P.ob,C.cl,C.ns,_,Bm _ _ _ _,_,rfl,_,(s6.trans s8).seq (SqL.of P.S),_,kN (i:=f) #[],_,rfl,.b b1 (P.sb _ (lZ #[])),?_];refine#[_,s8.seq (SqL.of h3),_,kN (i:=f) (by rw[bI];lia),_,_,_,(s6.trans s8) _ _ P.ob,C.cl,C.ns,_,Bm _ _ _ _,_,rfl,_,(s6.trans s8).seq (SqL.of P.S),_,kN (i:=i) #[],_,rfl,_,rfl,.b (m:=20000) (by rw[iM (fO (λc=>L.T s L.m (L.cv c)) (show f<L.n+L.m by lia))];exact b2) (P.sb _ (lZ #[])),?_];exact kX (λ_=>#[some i,_,_,rfl,s8,#[],l]) (λ_=>#[some f,_,_,rfl,s8,stay (.inr (by simp))])
  .rintro Z H7 ⟨o,o1,A,rfl,u,en⟩;(dsimp![aE,cQ]);refine q o H7 (s6.trans u) ?_;rw[aA,bI]at en;exact en
def vI:LS:=["self","column"]
def iP(K:aR):Sp:=λvs H Q _=>∃t ins L s,∃c:Nat,vs=[.ref t,.int c]/\iX K H t ins L s/\L.Lim/\L.Okn s/\c<L.n+L.m/\∀l H',aQ H H'->H l=none->H' l=some (.lst (map int (L.numL s c)))->Q (.ref l) H'
def qA(K:aR):TE:=(cD (sI K) [] E0 (aH (tOp (fX K) (gS K (aE 2) "begun") (aE 1)) (aH (aE 0) bE)))
def oJ(K:aR):TS:=(cC (fS (cV (tOp kH (aE 1) (tCB (jE K) (aH (gS K (aE 0) "begun") bE)))) (cQ (dQ (dC K (gS K (aE 0) "kept")) [1,0] (qA K))) eJ) (cQ (cD (kE K) [] E0 (aH (gS K (aE 0) "kept") (aH (tOp kZ (aE 1) (tCB (jE K) (aH (gS K (aE 0) "begun") bE))) bE)))))
def Gx{K vs H Q E}(C:xW K)(h:iP K vs H Q E):oJ K (eQ Q) (start vI vs) H:=by
 obtain⟨t,ins,L,s,c,rfl,⟨J,b,M,k,bs,S,ks,P⟩,lim,ok,hc,q⟩:=h;have bl:=P.bl;have kl:=P.kl;have m1:=lim.m1;rw[show start vI [ref t,int c]=[some (.ref t),some (.int c)]from rfl];(dsimp![oJ,gS,dQ,dC,cC,aE,tOp,rI0,kZ,kH,cQ,fS,cV,eJ,cD,aH,bE,tCB,jE,cA,cP]);refine#[_,_,_,P.ob,C.cl,C.nb,_,mP _ _ _ _,_,rfl,_,.inl (SqL.of P.B),?_];rw[aA,bl];refine kX (λf=>?_) (λf=>?_)
 .have v:c<L.n:=#[];refine#[_,_,_,P.ob,C.cl,C.nk,_,jS _ _ _ _,_,rfl,#[_,SqL.of P.Kp],eR (K:=K) (a:=k) (xs:=map ref ks) (λi N U=>aQ H U/\N=map int (ofF i λi=>L.T s i (L.cv c))) ?_ #[aQ.refl _,rfl] ?_ ?_ ?_]
  .rw[aA,sizeLine_eq];lia
  .rintro i D U _ ⟨s3,_⟩;exact s3.seq (SqL.of P.Kp)
  .rintro i x D U hi _ ⟨s3,rfl⟩;obtain⟨p,rfl,hp⟩:=eU hi;have g:i<=L.m:=by have:=(aK.mp hp).1;lia
   obtain⟨r,F,A⟩:=P.Ks.get hp;obtain⟨_,rfl⟩:=gA F;obtain⟨z,_,y,o⟩:=P.col v;(dsimp![qA,gS,cN,bR,cR,bH,aE,tOp,cD,aH,bE,fX,cA]);refine#[_,_,_,s3 _ _ P.ob,C.cl,C.nb,_,mP _ _ _ _,_,rfl,_,s3.seq (SqL.of P.B),_,y,?_];refine#[_,_,L.m+1,_,_,L.a c,λk=>L.T s i (e1 k),rfl,s3.seq (SqL.of o),s3.seq (SqL.of A),#[],?_,?_,.inl ?_,λj I=>#[fO _ I,L.keptL_get s i #[],lim.ba _ _ v #[],lim.bk _ _ _ ok g #[]],λw G=>#[s3.trans G,?_]]
   .unfold Lpd.colL;rw[bI];exact aM _
   .rw[Lpd.keptL_length];lia
   .unfold Lpd.colL;rw[bI];exact aM _
   .rw[L.T_prod s g v,fP,aY];rfl
  .rintro D U _ ⟨s3,rfl⟩ l Y;rw[aA,kl];exact q l _ (s3.trans (aQ.upd Y)) (s3.free Y) aI
 .have R:L.n<=c:=#[];refine#[_,_,_,P.ob,C.cl,C.nk,_,jS _ _ _ _,_,_,_,P.ob,C.cl,C.nb,_,mP _ _ _ _,_,rfl,_,.inl (SqL.of P.B),?_];rw[aA,bl];refine#[_,_,_,_,c-L.n,rfl,SqL.of P.Kp,P.Ks,by rw[bI];lia,λr hr=>?_,λl d O Y u=>q l d O Y ?_]
  .obtain⟨i,hi,rfl⟩:=kT hr;have:=kN (l:=L.keptL s i) (i:=c-L.n) (by rw[Lpd.keptL_length];lia);rw[show((c-L.n:Nat):Int)=(c:Int)-(L.n:Int) by lia]at this;exact this
  .rw[u]
   congr 3
   unfold Lpd.numL;unfold ofF;rw[List.map_map];refine hU λi hi=>?_;have e:L.cv c=e1 (c-L.n):=by unfold Lpd.cv;rw[aF #[]]
   show(L.keptL s i).getD (c-L.n) 0=L.T s i (L.cv c);rw[e];exact iM (L.keptL_get s i #[])
def Pb:LS:=["row","other","column","listed","place","mine","yours"]
def zW(K:aR):Sp:=λvs H Q _=>∃a b l x y n,∃c w:Nat,vs=[.ref a,.ref b,.int c,.ref l]/\SqL K H a (map int x)/\SqL K H b (map int y)/\SqL K H l (map (λj:Nat=>int j) n)/\Ro x w/\Ro y w/\c<w/\(∀j∈n,j<w)/\Q (.bl (decide (lx x y c n=some true))) H
def jW7(a b l:Addr)(x y:List Int)(c:Nat)(n:List Nat)(C:Hp):NS:=SEq C λi Z=>∃S A J,Z=[some (.ref a),some (.ref b),some (.int c),some (.ref l),S,A,J]/\lx x y c n=lx x y c (n.drop i)
def sY(K:aR):TS:=(cQ (tC (.bl false)))
def Ql(K:aR):TS:=(cC (cT (tOp eT (tOp (fX K) (aE 0) (aE 4)) (tOp (fX K) (aE 1) (aE 2))) (aZ 5)) (cC (cT (tOp eT (tOp (fX K) (aE 1) (aE 4)) (tOp (fX K) (aE 0) (aE 2))) (aZ 6)) (fS (cV (tOp rNe (aE 5) (aE 6))) (cQ (tOp kH (aE 5) (aE 6))) eJ)))
def Dn(K:aR):TS:=(cC (gI (dC K (aE 3)) (aZ 4) (Ql K)) (sY K))
def jVZ{n:List Nat}{x:V}(h:(map (λj:Nat=>int j) n)[i]?=some x):∃c:Nat,x=.int c/\n[i]?=some c:=by
 rw[aX]at h;cases e:n[i]? with
 |none=>rw[e]at h;cases h
 |some z=>rw[e]at h;exact#[z,(aV h).symm,rfl]
def lx_drop{x y:List Int}{n:List Nat}(h:n[i]?=some j):lx x y c (n.drop i)=if x.getD j 0*y.getD c 0=y.getD j 0*x.getD c 0 then lx x y c (n.drop (i+1))else some (decide (x.getD j 0*y.getD c 0<y.getD j 0*x.getD c 0)):=by
 have f:i<n.length:=(aK.mp h).1;rw[List.drop_eq_getElem_cons f];have:n[i]=j:=(aK.mp h).2;rw[this];rfl
def Ys{K}:RdS K zW Dn Pb:=by
 rintro m H Q E ⟨a,b,l,x,y,n,c,w,rfl,p,t,C,⟨xl,xb⟩,⟨o,d⟩,hc,P,q⟩;rw[show start Pb [ref a,ref b,int c,ref l]=[some (.ref a),some (.ref b),some (.int c),some (.ref l),none,none,none]from rfl];(dsimp![Dn,gI,dC,cC,aZ,aE]);refine#[#[_,C],iU (K:=K) (a:=l) (xs:=map (λj:Nat=>int j) n) (g:=aZ 4) (D:={ nx:=sY K (eQ Q),rt:=Q }) (jW7 a b l x y c n H) ?_ ?_ ?_ ?_]
 .exact#[rfl,none,none,none,rfl,rfl]
 .rintro i Z U _ ⟨rfl,_⟩;exact C
 .rintro i v Z U hi ⟨rfl,S,A,J,rfl,e⟩;obtain⟨j,rfl,f⟩:=jVZ hi;have k:=P j (aL f);rw[lx_drop f]at e;(dsimp![cC,cT,aZ,aE,tOp,rI0,rI,eT,kH,rNe,gT,cQ,fS,cV,eJ,fX]);refine#[_,p,_,kN (i:=j) #[],_,t,_,kN (i:=c) #[],_,rfl,_,rfl,.b (xb _ (lZ #[])) (d _ (lZ #[])),_,t,_,kN (i:=j) #[],_,p,_,kN (i:=c) #[],_,rfl,_,rfl,.b (d _ (lZ #[])) (xb _ (lZ #[])),?_];by_cases M:x.getD j 0*y.getD c 0=y.getD j 0*x.getD c 0
  .rw[aF (by rw[decide_eq_true M];decide)];rw[aJ M]at e;exact#[rfl,_,_,_,rfl,e]
  .rw[aJ (by rw[decide_eq_false M];rfl)];rw[aF M]at e;rw[e]at q;have:decide (some (decide (x.getD j 0*y.getD c 0<y.getD j 0*x.getD c 0))=some true)=decide (x.getD j 0*y.getD c 0<y.getD j 0*x.getD c 0):=by
    by_cases h2:x.getD j 0*y.getD c 0<y.getD j 0*x.getD c 0
    .rw[decide_eq_true h2];rfl
    .rw[decide_eq_false h2];rfl
   rw[this]at q;exact q
 .rintro Z U ⟨rfl,S,A,J,rfl,e⟩;rw[aA,List.drop_length]at e;rw[e]at q;dsimp only[sY,tC,cQ,fJ,fK,fH];exact q
def Tm:LS:=["rows","column","listed","found","place","row"]
def Dv(K:aR):Sp:=λvs H Q _=>∃r l ps X n,∃c w:Nat,vs=[.ref r,.int c,.ref l]/\SqL K H r (map ref ps)/\eL H ps X/\(∀row∈X,Ro row w)/\SqL K H l (map (λj:Nat=>int j) n)/\c<w/\(∀j∈n,j<w)/\∀o H',aQ H H'->Lv X c n X.length o->Q (oV o) H'
def jZY(r l:Addr)(c:Nat)(X:List (List Int))(n:List Nat)(C:Hp):NS:=λi Z U=>∃o S A,Z=[some (.ref r),some (.int c),some (.ref l),some (oV o),S,A]/\aQ C U/\Lv X c n i o
def Fr(K:aR):TS:=(fS (Ek (cV (tOp tT (tOp (fX K) (aE 5) (aE 1)) (tC (.int 0)))) (tOr (cV (tOp Kq (aE 3) (tC .non))) (tB (cD (zW K) [] E0 (aH (aE 5) (aH (tOp (fX K) (aE 0) (aE 3)) (aH (aE 1) (aH (aE 2) bE)))))))) (cT (aE 4) (aZ 3)) eJ)
def wH(K:aR):TG:=(jN K 2 (eK (aZ 4) (eK (aZ 5) jO)))
def Hl(K:aR):TS:=(cC (cT (tC .non) (aZ 3)) (cC (gI (xI K (aE 0)) (wH K) (Fr K)) (cQ (aE 3))))
def jJk{K}:RdS K Dv Hl Tm:=by
 rintro m H Q E ⟨r,l,J,X,n,c,w,rfl,T,b,e,C,hc,P,q⟩;have d:=b.length;rw[show start Tm [ref r,int c,ref l]=[some (.ref r),some (.int c),some (.ref l),none,none,none]from rfl];(dsimp![Hl,gI,xI,cC,cT,aZ,aE,tC,cQ]);refine#[#[_,T],Fh (K:=K) (a:=r) (xs:=map ref J) (g:=wH K) (D:={ nx:=cQ (aE 3) (eQ Q),rt:=Q }) (jZY r l c X n H) ?_ ?_ ?_ ?_]
 .exact#[none,none,none,rfl,aQ.refl _,λk row hk=>absurd hk (eO _)]
 .rintro i Z U _ ⟨_,_,_,_,s3,_⟩;exact s3.seq T
 .rintro i x p Z U hi ⟨o,S,A,rfl,s3,Y⟩ hp;obtain⟨z,rfl,M⟩:=eU hi;obtain⟨row,F,B⟩:=b.get M;obtain⟨s,v⟩:=e row (aL F);have G:aQ H (upd U p (.tup [.int i,.ref z])):=s3.trans (aQ.upd hp);(dsimp![wH,Fr,Kq,cT,aZ,aE,tC,tOp,rI0,tT,fS,cV,tB,eJ,cD,aH,bE,fX,Ek,tOr,jN,eK,jO,cA,cP]);refine#[_,SqT.of aI,rfl,_,_,rfl,_,_,rfl,rfl,_,rfl,_,SqL.of (G _ _ B),_,kN #[],_,rfl,kX (λt=>?_) (λR=>#[_,_,_,rfl,G,Y.skip F R])];cases o with
  |none=>
   simp only[oV,if_true,Option.some.injEq,exists_eq_left',exists_eq_left,V.int.injEq,V.ref.injEq,V.bl.injEq,List.cons.injEq,and_true,true_and,exists_and_left,and_assoc,fJ,fK,fH,hE,jZ,iQ];exact#[some i,_,_,rfl,G,Y.first F t]
  |some f=>
   obtain⟨N,fr,hf,_⟩:=id Y;obtain⟨y,j⟩:∃y,J[f]?=some y:=#[_,aD (by rw[d];exact(aK.mp hf).1)];obtain⟨a0,O,u⟩:=b.get j;rw[hf]at O;obtain rfl:=aV O;have I:atI (map ref J) (f:Int)=some (.ref y):=gU (by rw[aX,j];rfl);simp only[oV,reduceCtorEq,if_false,exists_eq_left',V.int.injEq,Option.some.injEq,exists_eq_left,V.ref.injEq,V.bl.injEq,List.cons.injEq,and_true,true_and,exists_and_left,and_assoc,fJ,fK,fH,hE,jZ,iQ];refine#[_,G.seq T,_,I,_,_,_,_,_,_,_,w,rfl,SqL.of (G _ _ B),SqL.of (G _ _ u),G.seq C,#[s,v],e fr (aL hf),hc,P,_,rfl,kX (λha=>#[some i,_,_,rfl,G,Y.take hf F t (by simpa using ha)]) (λha=>#[some f,_,_,rfl,G,Y.keep hf F t (by simpa using ha)])]
 .rintro Z U ⟨o,S,A,rfl,s3,Y⟩;rw[aA,d]at Y;(dsimp![aE,tC,tOp,rI0,rNe,gT,cQ,cV]);exact q o U s3 Y
def qB:LS:=["self","numbers","rows","spares"]
noncomputable def LvO(L:Lpd)(s:Nat->Nat)(c:Nat):Option Nat->Prop
 |none=>∀i,i<=L.m->L.T s i (L.cv c)<=0
 |some r=>r<=L.m/\0<L.T s r (L.cv c)/\∀i,i<=L.m->0<L.T s i (L.cv c)->¬lp (λp=>-(L.T s i (L.li p)*L.T s r (L.cv c)-L.T s r (L.li p)*L.T s i (L.cv c))) L.ls
def jJ(K:aR):Sp:=λvs H Q _=>∃t ins L s M,∃c:Nat,vs=[.ref t,.ref M]/\iX K H t ins L s/\L.Lim/\L.Okn s/\H M=some (.lst (map int (L.numL s c)))/\∀o H',aQ H H'->LvO L s c o->Q (oV o) H'
noncomputable def lvr(L:Lpd)(s:Nat->Nat)(c i:Nat):List Int:=L.keptL s i++[L.T s i (L.cv c)]
def nR(K:aR):TE:=(tOp qJ (aE 0) (kQ (aH (aE 1) bE)))
def nQ(K:aR):TG:=(jN K 2 (eK (aZ 0) (eK (aZ 1) jO)))
def lV(K:aR):TS:=(cC (cT (gY (mR K (aH (gS K (aE 0) "kept") (aH (aE 1) bE))) 2 [] (nQ K) (nR K)) (aZ 2)) (cC (cT (tCB (jE K) (aH (gS K (aE 0) "inside") bE)) (aZ 3)) (cQ (cD (Dv K) [] E0 (aH (aE 2) (aH (tOp iF (aE 3) (tC (.int 2))) (aH (tOp qJ (kQ (aH (tOp iF (aE 3) (tC (.int 1))) bE)) (Wu (aE 3))) bE)))))))
def lvr_k(L:Lpd)(s:Nat->Nat)(c i:Nat)(h:k<=L.m):(lvr L s c i).getD k 0=L.T s i (e1 k):=iM (by unfold lvr;rw[bV (by rw[Lpd.keptL_length];lia),L.keptL_get s i h])
def lvr_b(L:Lpd)(s:Nat->Nat)(c i:Nat):(lvr L s c i).getD (L.m+1) 0=L.T s i L.be:=iM (by unfold lvr;rw[bV (by rw[Lpd.keptL_length];lia),L.keptL_last s i])
def Wy(L:Lpd)(s:Nat->Nat)(c i:Nat):(lvr L s c i).getD (L.m+2) 0=L.T s i (L.cv c):=iM (by unfold lvr;rw[bO (by rw[Lpd.keptL_length];lia),Lpd.keptL_length,gH];rfl)
def Ap{K vs H Q E}(C:xW K)(h:jJ K vs H Q E):lV K (eQ Q) (start qB vs) H:=by
 obtain⟨t,ins,L,s,nl,c,rfl,⟨f,b,O,k,bs,ss,ks,P⟩,lim,ok,n,q⟩:=h;have kl:=P.kl;have m1:=lim.m1;have a5:(L.numL s c).length=L.m+1:=by unfold Lpd.numL;rw[bI]
 rw[show start qB [ref t,ref nl]=[some (.ref t),some (.ref nl),none,none]from rfl];(dsimp![lV,gS,gY,mR,qJ,Wu,cC,cT,aZ,aE,tC,tOp,rI0,iF,cQ,cD,aH,bE,kQ,tCB,jE,cA]);refine#[_,_,_,P.ob,C.cl,C.nk,_,jS _ _ _ _,_,rfl,#[_,SqL.of P.Kp],#[_,SqL.of n],lM (K:=K) (a:=k) (b:=nl) (xs:=map ref ks) (ys:=map int (L.numL s c)) (λi N U=>aQ H U/\∃qs,N=map ref qs/\eL U qs (ofF i (lvr L s c))) ?_ ?_ #[aQ.refl _,[],rfl,trivial] ?_ ?_ ?_]
 .rw[aA,sizeLine_eq];lia
 .rw[aA,aA];lia
 .rintro i N U _ ⟨s3,_⟩;exact#[s3.seq (SqL.of P.Kp),s3.seq (SqL.of n)]
 .rintro i x y p N U hx d _ ⟨s3,qs,rfl,g⟩ hp os D;obtain⟨z,rfl,M⟩:=eU hx;obtain⟨v,rfl,hv⟩:=fZ d;obtain⟨r,F,B⟩:=P.Ks.get M;obtain⟨a6,rfl⟩:=gA F;obtain⟨_,rfl⟩:=gA hv;obtain⟨S,A,rfl⟩:∃S A,os=[S,A]:=by
   match os,D with
   | [S,A],_=>exact#[S,A,rfl]
  have G:=aQ.upd (o:=tup [.ref z,.int (L.T s i (L.cv c))]) hp;(dsimp![nQ,nR,qJ,aZ,aE,tOp,aH,bE,kQ,jN,eK,jO,Lca,Lna]);refine#[_,SqT.of aI,rfl,_,_,rfl,_,_,rfl,rfl,#[[some (.ref z),some (.int (L.T s i (L.cv c)))],rfl,rfl],sz1,λl1 I=>?_];have X:=aQ.upd (o:=lst [.int (L.T s i (L.cv c))]) I;refine#[_,rfl,_,(G.trans X) _ _ (s3 _ _ B),_,aI,by rw[aA,Lpd.keptL_length,sizeLine_eq];show L.m+2+1<=_;lia,λZ J=>?_];have R:=aQ.upd (o:=lst (map int (L.keptL s i)++[int (L.T s i (L.cv c))])) J;refine#[((s3.trans G).trans X).trans R,qs++[Z],by rw[aY];rfl,?_];rw[fP];refine eL.snoc (((g.same G).same X).same R) ?_;rw[aI];unfold lvr;rw[aY];rfl
 .rintro N U _ ⟨s3,qs,rfl,g⟩ l Y;rw[aA,kl]at g;have G:=s3.trans (aQ.upd (o:=lst (map ref qs)) Y);have a0:=g.same (aQ.upd (o:=lst (map ref qs)) Y);have a1:(upd U l (.lst (map ref qs))) l=some (.lst (map ref qs)):=aI;generalize upd U l (.lst (map ref qs))=w at G a0 a1;have il:(L.insL s).length=L.m:=by unfold Lpd.insL;rw[bI]
  refine#[_,_,_,G _ _ P.ob,C.cl,C.ni,_,nZ _ _ _ _,_,rfl,_,.inl (G.seq (SqL.of P.hi)),?_];rw[aA,il];refine#[sz1,λl1 I=>#[L.m,rfl,#[],λZ J=>?_]];have X:=(aQ.upd (o:=lst [.int ((L.m:Int)+1)]) I).trans (aQ.upd (o:=lst (map int (vK L.m))) J);refine#[_,aQ.upd J _ _ aI,_,aI,by rw[aA,sL,sizeLine_eq];show 1+L.m<=_;lia,λl3 a2=>?_];have R:=X.trans (aQ.upd (o:=lst ([int ((L.m:Int)+1)]++map int (vK L.m))) a2);have e:[int ((L.m:Int)+1)]++map int (vK L.m)=map (λj:Nat=>int j) ((L.m+1)::range L.m):=by
   unfold vK;rw[List.map_map,bR];rfl
  refine#[_,_,_,_,(L.m+1)::range L.m,L.m+2,L.m+3,rfl,R.seq (SqL.of a1),a0.same R,λrow hr=>?_,?_,#[],λj hj=>?_,λo H7 u lv=>?_]
  .obtain⟨i,hi,rfl⟩:=kT hr;refine#[by unfold lvr;rw[bC,Lpd.keptL_length];rfl,λx hx=>?_];unfold lvr at hx;rcases cW.mp hx with hx |hx
   .exact lim.kept ok #[] x hx
   .rw[bZ.mp hx];exact lim.bc s i c ok #[]
  .have:=SqL.of (K:=K) (aI (H:=upd (upd w l1 (.lst [.int ((L.m:Int)+1)])) Z (.lst (map int (vK L.m)))) (a:=l3) (o:=.lst ([int ((L.m:Int)+1)]++map int (vK L.m))));rw[e]at this⊢;exact this
  .rcases eA.mp hj with rfl |hj
   .omega
   .have:=fE.mp hj;lia
  .refine q o H7 ((G.trans R).trans u) ?_;rw[bI]at lv;cases o with
   |none=>
    intro i hi;have:=lv i _ #[] (fO (lvr L s c) (show i<L.m+1 by lia));rw[Wy]at this;lia
   |some r=>
    obtain⟨hr,fr,a3,hp,hm⟩:=lv;obtain⟨_,rfl⟩:=gA a3;rw[Wy]at hp;refine#[#[],hp,λi hi a4=>?_];have:=(hm i _ #[] (fO (lvr L s c) (show i<L.m+1 by lia)) (by rw[Wy];exact a4)).1;exact Lpd.lx_lp (λk hk=>lvr_k L s c r hk) (lvr_b L s c r) (Wy L s c r) (λk hk=>lvr_k L s c i hk) (lvr_b L s c i) (Wy L s c i) this
def xQ:LS:=["self"]
def iY(K:aR):Sp:=λvs H Q _=>∃t ins L s,vs=[.ref t]/\iX K H t ins L s/\Q (.int (L.D s)) H
def pR(K:aR):TS:=(cQ (tOp (fX K) (tOp (fX K) (gS K (aE 0) "kept") (tUn iK (tC (.int 1)))) (tUn iK (tC (.int 2)))))
def atI_m2{l:List Int}{x:Int}(h2:2<=l.length)(h:l[l.length-2]?=some x):atI (map int l) (-2)=some (.int x):=by
 unfold atI ixN;rw[aA,aF #[],aJ #[]];show(map int l)[(-2+(l.length:Int)).toNat]?=_;rw[show(-2+(l.length:Int)).toNat=l.length-2 by lia,aX,h];rfl
def Iw{K vs H Q E}(C:xW K)(h:iY K vs H Q E):pR K (eQ Q) (start xQ vs) H:=by
 obtain⟨t,ins,L,s,rfl,⟨f,b,O,k,bs,c,ks,P⟩,q⟩:=h;rw[show start xQ [ref t]=[some (.ref t)]from rfl];(dsimp![pR,gS,aE,tC,tOp,tUn,rU,iK,cQ,fX]);obtain⟨p,hp,a,B⟩:=P.last;refine#[_,_,_,P.ob,C.cl,C.nk,_,jS _ _ _ _,_,rfl,_,SqL.of P.Kp,_,a,_,rfl,_,SqL.of B,_,atI_m2 (by rw[Lpd.keptL_length];lia) (by rw[Lpd.keptL_length];exact L.keptL_get s L.m (aM _)),?_];rw[show L.m+2-2=L.m by lia,L.last_own];exact q
def vH:LS:=["self","column","numbers","at","bottom","gone","moved","row","number"]
def kU(K:aR):Sp:=λvs H Q _=>∃t ins L s M,∃c r:Nat,vs=[.ref t,.int c,.ref M,.int r]/\iX K H t ins L s/\L.Lim/\L.Okn s/\H M=some (.lst (map int (L.numL s c)))/\r<L.m/\
 ∀H',aQ (mn t ins H) (mn t ins H')->iX K H' t ins L (Lpd.sput s r c)->(∀f,H f≠none->El K H t ins L s f->El K H' t ins L (Lpd.sput s r c) f)->Q .non H'
noncomputable def mvr(L:Lpd)(s:Nat->Nat)(c r i:Nat):List Int:=(ofF (L.m+2) λk=>((L.keptL s i).getD k 0*L.T s r (L.cv c)-(L.keptL s r).getD k 0*L.T s i (L.cv c)).fdiv (L.D s))
def jXf(t M mv g:Addr)(c r:Nat)(L:Lpd)(s:Nat->Nat)(C:Hp):NS:=λi Z U=>∃S A qs,Z=[some (.ref t),some (.int c),some (.ref M),some (.int r),some (.int (L.D s)),some (.ref g),some (.ref mv),S,A]/\aQ C U/\U mv=some (.lst (map ref qs))/\eL U qs (ofF i (mvr L s c r))/\(∀x∈qs,C x=none)/\mv∉qs
def lS(K:aR):TS:=(cC (cT (aE 5) (Kr (aE 6) (aE 3) xH)) (cC (xX K (aE 0) (aE 6) "kept") (cT (aE 1) (Kr (gS K (aE 0) "inside") (aE 3) xH))))
def pY(K:aR):TE:=(tOp kR (tOp kZ (tOp eT (aE 0) (tOp (fX K) (aE 4) (aE 5))) (tOp eT (aE 1) (aE 3))) (aE 2))
def pX(K:aR):TG:=(jN K 2 (eK (aZ 0) (eK (aZ 1) jO)))
def pZ(K:aR):TS:=(oU (tBM K "list" Vh (aE 6) (aH (gY (mR K (aH (aE 7) (aH (aE 5) bE))) 2 [4,8,2,3] (pX K) (pY K)) bE)))
def lU(K:aR):TG:=(jN K 2 (eK (aZ 7) (eK (aZ 8) jO)))
def pW(K:aR):TS:=(cC (cT (kQ bE) (aZ 6)) (cC (gI (mR K (aH (gS K (aE 0) "kept") (aH (aE 2) bE))) (lU K) (pZ K)) (lS K)))
def oI(K:aR):TS:=(cC (cT (eZ (eI K "Corner") "bottom" (iY K) [] E0 (aE 0) bE) (aZ 4)) (cC (cT (tOp (fX K) (gS K (aE 0) "kept") (aE 3)) (aZ 5)) (pW K)))
def mvr_eq{L:Lpd}(ok:L.Okn s){r:Nat}(hr:r<L.m)(hi:i<=L.m)(O:i≠r):mvr L s c r i=L.keptL (Lpd.sput s r c) i:=by
 have K:=ok.ne;have key:∀y,(L.T s i y*L.T s r (L.cv c)-L.T s r y*L.T s i (L.cv c)).fdiv (L.D s)=L.T (Lpd.sput s r c) i y:=λy=>by
  rw[←ok.exch (c:=c) hr #[] O y];exact Int.mul_fdiv_cancel_left _ #[]
 apply List.ext_getElem?;intro k;unfold mvr;by_cases hk:k<=L.m
 .rw[fO _ #[],L.keptL_get _ _ hk,iM (L.keptL_get s i hk),iM (L.keptL_get s r hk),key]
 .by_cases a:k=L.m+1
  .subst a;rw[fO _ #[],L.keptL_last,iM (L.keptL_last s i),iM (L.keptL_last s r),key]
  .rw[cL (by rw[bI];lia),cL (by rw[Lpd.keptL_length];lia)]
def mvr_all{L:Lpd}(ok:L.Okn s){r:Nat}(hr:r<L.m):(ofF (L.m+1) (mvr L s c r)).set r (L.keptL s r)=ofF (L.m+1) (L.keptL (Lpd.sput s r c)):=by
 apply List.ext_getElem?;intro k;rw[getElem?_set];by_cases hk:k<L.m+1
 .rw[fO (L.keptL (Lpd.sput s r c)) hk];by_cases e:r=k
  .subst e;rw[aJ rfl,aJ (by rw[bI];lia)]
   congr 1
   unfold Lpd.keptL;rw[Lpd.Ok.same hr,jC λk _=>(Lpd.Ok.same (L:=L) (s:=s) (c:=c) hr (e1 k)).symm]
  .rw[aF e,fO _ hk,mvr_eq ok hr #[] (Ne.symm e)]
 .rw[cL (l:=ofF (L.m+1) (L.keptL (Lpd.sput s r c))) (by rw[bI];lia)];by_cases e:r=k
  .omega
  .rw[aF e,cL (by rw[bI];lia)]
def Gw{K vs H Q E}(C:xW K)(h:kU K vs H Q E):oI K (eQ Q) (start vH vs) H:=by
 obtain⟨t,ins,L,s,nl,c,r,rfl,ca,lim,ok,n,hr,q⟩:=h;obtain⟨dx,b,sp,k,bs,ss,ks,P⟩:=id ca;have kl:=P.kl;have m1:=lim.m1;have il:(L.insL s).length=L.m:=by unfold Lpd.insL;rw[bI]
 have d4:(L.numL s c).length=L.m+1:=by unfold Lpd.numL;rw[bI]
 obtain⟨g,hg,c2,a6⟩:=P.row (i:=r) #[];rw[show start vH [ref t,int c,ref nl,int r]=[some (.ref t),some (.int c),some (.ref nl),some (.int r),none,none,none,none,none]from rfl];(dsimp?[oI,gS,eZ]);refine#[_,_,P.ob,rfl,_,_,_,_,rfl,ca,_,_,_,P.ob,C.cl,C.nk,_,jS _ _ _ _,_,rfl,_,SqL.of P.Kp,_,c2,?_];(dsimp?[pW,gS,gI,mR]);refine#[sz0,λmv a0=>?_];have O:=aQ.upd (o:=lst []) a0;have J:(upd H mv (.lst [])) mv=some (.lst []):=aI;generalize e1:upd H mv (.lst [])=S at O J;refine#[_,_,_,O _ _ P.ob,C.cl,C.nk,_,jS _ _ _ _,_,rfl,#[_,O.seq (SqL.of P.Kp)],#[_,O.seq (SqL.of n)],for_zip (K:=K) (a:=k) (b:=nl) (xs:=map ref ks) (ys:=map int (L.numL s c)) (g:=lU K) (D:={ nx:=lS K (eQ Q),rt:=Q }) (jXf t nl mv g c r L s H) ?_ ?_ ?_ ?_ ?_]
 .exact#[none,none,[],rfl,O,J,trivial,(λ_ h=>nomatch h),(λh=>nomatch h)]
 .rintro i Z U _ ⟨_,_,_,_,s3,_⟩;exact#[s3.seq (SqL.of P.Kp),s3.seq (SqL.of n)]
 .rw[aA,aA];lia
 .rintro i x y p Z U hx d ⟨o1,A,qs,rfl,s3,b3,a2,a4,a7⟩ hp;obtain⟨z,rfl,M⟩:=eU hx;obtain⟨v,rfl,hv⟩:=fZ d;obtain⟨row,er,B⟩:=P.Ks.get M;obtain⟨d5,rfl⟩:=gA er;obtain⟨_,rfl⟩:=gA hv;have G:=aQ.upd (o:=tup [.ref z,.int (L.T s i (L.cv c))]) hp;(dsimp![lU,pZ,oU,tBM,Vh,gY,mR,aZ,aE,aH,bE,jN,eK,jO]);refine#[_,SqT.of aI,rfl,_,_,rfl,_,_,rfl,rfl,?_];have a8:=G _ _ b3;have b4:=a2.same G;generalize upd U p (.tup [.ref z,.int (L.T s i (L.cv c))])=H4 at G a8 b4;have a1:=s3.trans G;have bD:=lim.bD s ok;have D0:=ok.ne;have br:=lim.bc s r c ok #[];have bi:=lim.bc s i c ok #[];refine#[.inl #[rfl,_,SqL.of a8],_,rfl,#[_,a1.seq (SqL.of B)],#[_,a1.seq (SqL.of a6)],lM (K:=K) (a:=z) (b:=g) (xs:=map int (L.keptL s i)) (ys:=map int (L.keptL s r)) (λj N I=>aQ H4 I/\N=map int (ofF j λk=>((L.keptL s i).getD k 0*L.T s r (L.cv c)-(L.keptL s r).getD k 0*L.T s i (L.cv c)).fdiv (L.D s))) ?_ ?_ #[aQ.refl _,rfl] ?_ ?_ ?_]
  .rw[aA,Lpd.keptL_length,sizeLine_eq];lia
  .rw[aA,aA,Lpd.keptL_length,Lpd.keptL_length]
  .rintro j N I _ ⟨X,_⟩;exact#[(a1.trans X).seq (SqL.of B),(a1.trans X).seq (SqL.of a6)]
  .rintro j x y pp N I hx d _ ⟨X,rfl⟩ c3 os ho;obtain⟨u,rfl,R⟩:=fZ hx;obtain⟨w,rfl,hw⟩:=fZ d;obtain⟨q1,q2,rfl⟩:∃o1 A,os=[o1,A]:=by
    match os,ho with
    | [o1,A],_=>exact#[o1,A,rfl]
   have s6:=aQ.upd (o:=tup [.int u,.int w]) c3;have bu:=lim.kept ok (show i<=L.m by lia) u (aL R);have bw:=lim.kept ok (show r<=L.m by lia) w (aL hw);have eu:=iM R;have ew:=iM hw;(dsimp![pX,pY,cN,bR,cR,bH,aZ,aE,tOp,rI0,rI,kZ,eT,kR,fX,jN,eK,jO,Lca,Lna]);refine#[_,SqT.of aI,rfl,_,_,rfl,_,_,rfl,rfl,#[[some (.int u),some (.int w)],rfl,rfl],?_];refine#[_,((a1.trans X).trans s6).seq (SqL.of n),_,gU (j:=r) (v:=int (L.T s r (L.cv c))) (by rw[aX];unfold Lpd.numL;rw[fO _ #[]];rfl),?_];refine#[_,rfl,_,rfl,.b bu br,_,rfl,.b bw bi,#[#[],bD],X.trans s6,?_];rw[fP,aY,eu,ew];rfl
  .rintro N I _ ⟨X,rfl⟩ l Y;rw[aA,Lpd.keptL_length]at*;have s6:=aQ.upd (o:=lst (map int (mvr L s c r i))) Y;have c4:(upd I l (.lst (map int (mvr L s c r i)))) l=some (.lst (map int (mvr L s c r i))):=aI;have c5:=s6 _ _ (X _ _ a8);have c6:=b4.same (X.trans s6);have c7:=a1.trans (X.trans s6);have c8:H l=none:=(a1.trans X).free Y;have b5:l≠mv:=λe=>by rw[e,X _ _ a8]at Y;cases Y
   show ∃x,upd I l (.lst (map int (mvr L s c r i))) mv=some (lst x)/\x.length<sizeLine/\jXf t nl mv g c r L s H (i+1) _ (upd (upd I l (.lst (map int (mvr L s c r i)))) mv (lst (x++[ref l])));generalize upd I l (.lst (map int (mvr L s c r i)))=H6 at*;refine#[_,c5,by rw[aA,a2.length,bI,sizeLine_eq];lia,_,_,qs++[l],rfl,c7.put a0,?_,?_,λx hx=>?_,λhx=>?_]
   .rw[aI,aY];rfl
   .refine eL.put ?_ ?_
    .intro hx;rcases cW.mp hx with hx |hx
     .exact a7 hx
     .exact b5 (bZ.mp hx).symm
    .rw[fP];exact eL.snoc c6 c4
   .rcases cW.mp hx with hx |hx
    .exact a4 x hx
    .rw[bZ.mp hx];exact c8
   .rcases cW.mp hx with hx |hx
    .exact a7 hx
    .exact b5 (bZ.mp hx).symm
 .rintro Z U ⟨o1,A,qs,rfl,s3,b3,a2,a4,a7⟩;rw[aA,kl]at a2;(dsimp![lS,Kr,xH,xX,gS,cC,cT,aE]);have c9:qs.length=L.m+1:=by rw[a2.length,bI]
  have d1:t≠mv:=dE P.ob a0;have d2:ins≠mv:=dE P.hi a0;have b7:t≠ins:=kS P.ob P.hi (by intro z;cases z);have a3:mn t ins H g=some (.lst (map int (L.keptL s r))):=by
   obtain⟨_,e1,e2⟩:=P.hks.get hg;obtain⟨_,rfl⟩:=gA e1;exact e2
  have b8:g≠t/\g≠ins:=by
   constructor
   .rintro rfl;unfold mn at a3;rw[aJ (.inl rfl)]at a3;cases a3
   .rintro rfl;unfold mn at a3;rw[aJ (.inr rfl)]at a3;cases a3
  have d3:mv≠g:=λe=>by rw[e,a6]at a0;cases a0
  have b9:(map ref qs).set r (ref g)=map ref (qs.set r g):=by rw[List.map_set]
  have G:aQ H (upd U mv (.lst (map ref (qs.set r g)))):=s3.put a0;have a5:eL (upd U mv (.lst (map ref (qs.set r g)))) (qs.set r g) (ofF (L.m+1) (L.keptL (Lpd.sput s r c))):=by
   rw[←mvr_all ok hr];refine eL.put (λhx=>?_) (eL.setr (s3 _ _ a6) r a2);rcases mem_or_eq_of_mem_set hx with hx |hx
   .exact a7 hx
   .exact d3 hx
  have b0:(upd U mv (.lst (map ref (qs.set r g)))) mv=some (.lst (map ref (qs.set r g))):=aI;refine#[_,b3,_,by rw[aA,c9];exact Eu #[] #[],?_];rw[dA,b9];generalize upd U mv (.lst (map ref (qs.set r g)))=H4 at G a5 b0;refine#[_,_,_,G _ _ P.ob,C.cl,C.nk,by show 4<1000;decide,_,_,_,aI,C.cl,C.ni,_,nZ b sp mv ins,_,rfl,_,(by rw[bY b7.symm];exact G _ _ P.hi),_,(by rw[aA,il];exact Eu #[] #[]),?_];rw[dA,jXt];have em:∀o o',mn t ins (upd (upd H4 t o) ins o')=mn t ins H4:=λo o'=>by rw[nV (.inr rfl),nV (.inl rfl)]
  have a9:aQ (mn t ins H) (mn t ins H4):=iW G;have P5:nS K (upd (upd H4 t (.ins (eI K "Corner") dx (cfl b sp mv ins))) ins (.lst ((map int (L.insL s)).set r (int c)))) t ins L (Lpd.sput s r c) dx b sp mv bs ss (qs.set r g):=by
   refine#[?_,?_,?_,?_,P.sl,P.sb,?_,?_,?_]
   .rw[bY b7,aI]
   .rw[em];exact a9 _ _ P.hb
   .rw[em];exact P.hbs.same a9
   .rw[em];exact a9 _ _ P.hs
   .rw[em];exact yD b0 d1.symm d2.symm
   .rw[em];refine a5.mn (λhx=>?_) (λhx=>?_)
    .rcases mem_or_eq_of_mem_set hx with hx |hx
     .have:=a4 _ hx;rw[P.ob]at this;cases this
     .exact b8.1 hx.symm
    .rcases mem_or_eq_of_mem_set hx with hx |hx
     .have:=a4 _ hx;rw[P.hi]at this;cases this
     .exact b8.2 hx.symm
   .rw[aI,←List.map_set];unfold Lpd.insL;rw[ofF_set]
    congr 3
    refine jC λk _=>?_;unfold Lpd.sput;split<;>rfl
  refine q _ (by rw[em];exact a9) #[_,_,_,_,_,_,_,P5] λf c1 F=>?_;obtain⟨n1,n2,n3,n4,n5⟩:=F.of P;refine#[_,_,_,_,_,_,_,P5,n1,n2,λe=>c1 (by rw[e];exact a0),n4,λhx=>?_];rcases mem_or_eq_of_mem_set hx with hx |hx
  .exact c1 (a4 _ hx)
  .exact n5 (by rw[hx];exact aL hg)
def Kg:LS:=["corner","column","numbers","at"]
def qD(K:aR):Sp:=λvs H Q _=>∃t ins L s,vs=[.ref t]/\iX K H t ins L s/\L.Lim/\L.Okx s/\jY L s/\
 ∀o U H',aQ (mn t ins H) (mn t ins H')->iX K H' t ins L U->L.Okx U->jY L U->UnO L U o->Q (oV o) H'
def Ev(K:aR)(t ins:Addr)(L:Lpd)(C:Hp)(Z:St)(U:Hp)(s:Nat->Nat)(o:Option Nat):Prop:=(∃S A,Z=[some (.ref t),some (oV o),S,A])/\aQ (mn t ins C) (mn t ins U)/\iX K U t ins L s/\L.Okx s/\jY L s/\EntO L s (L.n+L.m) o
open Classical in
def mu_un(K:aR)(t ins:Addr)(L:Lpd)(H0:Hp)(σ:St)(H3:Hp):Nat:=if h:∃s,∃o,Ev K t ins L H0 σ H3 s o then L.mu (Classical.choose h)else 0
def qV(K:aR):TS:=(cQ (tC .non))
def qW(K:aR):TS:=(cC (cT (eZ (eI K "Corner") "numbers" (iP K) [] E0 (aE 0) (aH (aE 1) bE)) (aZ 2)) (cC (cT (eZ (eI K "Corner") "leaving_by" (jJ K) [] E0 (aE 0) (aH (aE 2) bE)) (aZ 3)) (cC (fS (cV (tOp Kq (aE 3) (tC .non))) (cQ (aE 1)) eJ) (cC (oU (eZ (eI K "Corner") "step_in" (kU K) [] E0 (aE 0) (aH (aE 1) (aH (aE 2) (aH (aE 3) bE))))) (cT (eZ (eI K "Corner") "entering" (jB K) [] E0 (aE 0) bE) (aZ 1))))))
def zA(K:aR):TS:=(cC (cT (eZ (eI K "Corner") "entering" (jB K) [] E0 (aE 0) bE) (aZ 1)) (cC (yL (cV (tOp Ww (aE 1) (tC .non))) (qW K)) (qV K)))
def jW9{L:Lpd}(h:L.insL s=L.insL U)(hi:i<L.m):s i=U i:=by
 unfold Lpd.insL at h;have h1:=fO (λi=>(s i:Int)) hi;rw[h,fO (λi=>(U i:Int)) hi]at h1;have:=aV h1;lia
def jX7{L:Lpd}(h:∀i,i<L.m->s i=U i):L.B s=L.B U:=by
 funext i
 unfold Lpd.B;by_cases hi:i<L.m
 .rw[aJ hi,aJ hi,h i hi]
 .rw[aF hi,aF hi]
def Xp{L:Lpd}(h:∀i,i<L.m->s i=U i):L.mu s=L.mu U:=by
 have e:=jX7 h;unfold Lpd.mu Lpd.Fur Lpd.T Lpd.D;rw[e]
def iX.ins_eq{t ins:Addr}{L:Lpd}(h:iX K H t ins L s)(h':iX K H t ins L U):∀i,i<L.m->s i=U i:=λi hi=>by
 obtain⟨_,_,_,_,_,_,_,P⟩:=h;obtain⟨_,_,_,_,_,_,_,c⟩:=h';have e:=P.hi.symm.trans c.hi;injection e with e;injection e with e;exact jW9 (List.map_inj_right (λa b h=>by injection h)|>.mp e) hi
def Xo{t ins:Addr}{L:Lpd}{C:Hp}{Z:St}{U:Hp}{o:Option Nat}(h:Ev K t ins L C Z U s o):mu_un K t ins L C Z U=L.mu s:=by
 unfold mu_un;have hx:∃s,∃o,Ev K t ins L C Z U s o:=#[s,o,h];rw[dif_pos hx];obtain⟨B,a⟩:=Classical.choose_spec hx;exact Xp (a.2.2.1.ins_eq h.2.2.1)
def mu_step{L:Lpd}(o:L.Okx s)(B:L.Okx U)(hs:jY L U)(h:L.Fur s U):L.mu U<L.mu s:=by
 have e:∀i,i<L.m->U i=Lpd.sf (ofF L.m U) i:=λi hi=>by
  unfold Lpd.sf;rw[aP,fO _ hi];rfl
 rw[Xp e];have a:=jX7 e;have b:L.D U=L.D (Lpd.sf (ofF L.m U)):=by unfold Lpd.D;rw[a]
 refine Lpd.mu_lt o.pos (b▸B.pos) (bI _ _) (λc hc=>?_) ?_
 .obtain⟨k,hk,rfl⟩:=kT hc;exact hs k hk
 .unfold Lpd.Fur Lpd.T Lpd.D at h⊢;rw[←a];exact h
def Vv{K}:RdS K qD zA Kg:=by
 rintro vs H Q E ⟨t,ins,L,s,rfl,ca,lim,ok,io,q⟩;obtain⟨f,b,sp,k,bs,ss,ks,P⟩:=id ca;rw[show start Kg [ref t]=[some (.ref t),none,none,none]from rfl];(dsimp![zA,eZ,cC,cT,aZ,aE,bE,cA]);refine#[_,_,P.ob,rfl,_,_,_,_,rfl,ca,lim,ok.n,λo S O en=>?_];refine Mt (λZ d=>∃s o,Ev K t ins L H Z d s o) (mu_un K t ins L H) #[s,o,#[_,_,rfl],iW O,ca.same O,ok,io,en] ?_ ?_
 .rintro Z U ⟨s3,J,l⟩;have a5:=Xo l;rw[a5];obtain⟨⟨q1,q2,rfl⟩,a0,a,B,p,g⟩:=l;(dsimp![Ww,aE,tC,tOp,cV]);cases J with
  |none=>
   (try dsimp only[qV,tC,cQ,fJ,fK,fH];try simp only[oV,decide_true,Bool.not_true,Bool.false_eq_true,if_false,qV,tC,cQ,Option.some.injEq,exists_eq_left',exists_eq_left,V.int.injEq,V.ref.injEq,V.bl.injEq,List.cons.injEq,and_true,true_and,exists_and_left,and_assoc,fJ,fK,fH,hE,jZ,iQ])
   exact q none s3 U a0 a B p g
  |some c=>
   (try dsimp only[qW,eZ,Kq,oU,cC,cT,aZ,aE,tC,tOp,cQ,fS,cV,eJ,aH,bE,Lq0,Lq1,Ls0,Ls1,fJ,fK,fH];try simp only[oV,reduceCtorEq,decide_false,Bool.not_false,if_true,qW,eZ,Kq,oU,cC,cT,aZ,aE,tC,tOp,cQ,fS,cV,eJ,aH,bE,Lq0,Lq1,Ls0,Ls1,Option.some.injEq,exists_eq_left',V.ref.injEq,V.bl.injEq,true_and,cA,exists_and_left,cP,exists_eq_left,V.int.injEq,List.cons.injEq,and_true,and_assoc,fJ,fK,fH,hE,jZ,iQ])
   obtain⟨a9,R,b0,k3,b4,b5,b7,C⟩:=id a;refine#[_,_,C.ob,rfl,_,_,_,_,_,rfl,a,lim,B.n,g.1,λM w G D a1=>?_];refine#[_,_,(C.same G).ob,rfl,_,_,_,_,_,_,rfl,a.same G,lim,B.n,a1,λo5 I X Y=>?_];have a2:aQ (mn t ins H) (mn t ins I):=a0.trans (iW (G.trans X));have N:=a.same (G.trans X);cases o5 with
   |none=>
    simp only[oV,if_true,exists_eq_left',V.int.injEq,Option.some.injEq,exists_eq_left,V.ref.injEq,V.bl.injEq,List.cons.injEq,and_true,true_and,exists_and_left,and_assoc,fJ,fK,fH,hE,jZ,iQ];exact q (some c) s3 I a2 N B p #[g.1,g.2,λi hi=>Y i #[]]
   |some r=>
    obtain⟨hr,hp,A⟩:=Y;have j:r<L.m:=by
     have:=g.2;rcases Nat.lt_or_ge r L.m with h |h
     .exact h
     .have:r=L.m:=#[];subst this;lia
    have x:=B.step j hp λi hi z=>A i #[] z;have a3:jY L (Lpd.sput s3 r c):=λi hi=>by
     unfold Lpd.sput;split
     .exact g.1
     .exact p i hi
    have a6:=B.further (r:=r) (c:=c) j g.2;simp only[oV,reduceCtorEq,if_false,exists_eq_left',V.int.injEq,Option.some.injEq,exists_eq_left,V.ref.injEq,V.bl.injEq,List.cons.injEq,and_true,true_and,exists_and_left,and_assoc,fJ,fK,fH,hE,jZ,iQ];refine#[_,_,(C.same (G.trans X)).ob,rfl,_,_,_,_,_,_,_,rfl,N,lim,B.n,X _ _ a1,j,λT a7 F _=>?_];obtain⟨b8,b6,b9,k6,c1,c2,c3,P6⟩:=id F;refine#[_,_,P6.ob,rfl,_,_,_,_,rfl,F,lim,x.n,λo7 H7 u a8=>?_];have a4:Ev K t ins L H [some (.ref t),some (oV o7),some (.ref M),some (.int r)] H7 (Lpd.sput s3 r c) o7:=#[#[_,_,rfl],(a2.trans a7).trans (iW u),F.same u,x,a3,a8];refine#[#[_,_,a4],?_];rw[Xo a4];exact mu_step B x a3 a6
 .intro Z d Q1 Q2 y h;dsimp only[cV,tOp,tUn,Ww]at h⊢
  first
  | (obtain⟨v,hv,hx,e⟩:=Ar h
     exact Aq hv #[hx,y _ _ e])
  | (obtain⟨v,hv,hx,b,hb,e⟩:=Ar h
     exact Aq hv #[hx,b,hb,y _ _ e])
def An:LS:=["row"]
def mE(K:aR):Sp:=λvs H Q _=>∃a ns,vs=[.ref a]/\SqL K H a (map int ns)/\ns.length<=200/\∀l H',aQ H H'->H l=none->H' l=some (.lst (map int (ns.map λx=>-x)))->Q (.ref l) H'
def sM(K:aR):TE:=(tUn iK (aE 0))
def qX(K:aR):TS:=(cQ (dQ (dC K (aE 0)) [] (sM K)))
def Kv{K}:RdS K mE qX An:=by
 rintro m H Q E ⟨a,ns,rfl,ha,M,q⟩;rw[show start An [ref a]=[some (.ref a)]from rfl];(dsimp?[qX,dQ,dC]);refine#[#[_,ha],eR (K:=K) (a:=a) (xs:=map int ns) (λi N U=>U=H/\N=map int ((ns.take i).map λx=>-x)) (by rw[aA,sizeLine_eq];lia) #[rfl,rfl] ?_ ?_ ?_]
 .rintro i N U _ ⟨rfl,_⟩;exact ha
 .rintro i x N U hi _ ⟨rfl,rfl⟩;obtain⟨n,rfl,R⟩:=fZ hi;(dsimp?[sM]);rw[dI R,aY,aY];rfl
 .rintro N U _ ⟨rfl,rfl⟩ p hp;rw[aA,cB];exact q p _ (aQ.upd hp) hp aI
def sQ:LS:=["self","inside","first","free","column","numbers","places"]
def mM(K:aR):Sp:=λvs H Q _=>∃t ins L g,∃l:List Nat,vs=[.ref t,.ref g]/\iX K H t ins L L.ins0/\L.Lim/\L.fl=false/\1<=L.m/\mn t ins H g=some (.lst (map int (l.map λc:Nat=>(c:Int))))/\l.length=L.m/\
 (∀H',aQ (mn t ins H) (mn t ins H')->Q (.bl false) H')/\
 ∀e s H',(e=L∨e=L.flip)->aQ (mn t ins H) (mn t ins H')->iX K H' t ins e s->e.Ok s->jY e s->Q (.bl true) H'
def lH(K:aR):TS:=(cQ (tOp Ty (tCB (Ma K) (aH (cD (kE K) [] E0 (aH (tSl (xS K) (gS K (aE 0) "kept") iC (lX (tUn iK (tC (.int 1))))) (aH (tUn iK (tC (.int 1))) bE))) bE)) (tC (.int 0))))
def pL(K:aR):TE:=(cD (mE K) [] E0 (aH (aE 0) bE))
def iI(K:aR):TS:=(cC (fS (cV (tOp kH (eZ (eI K "Corner") "bottom" (iY K) [] E0 (aE 0) bE) (tC (.int 0)))) (xX K (aE 0) (dQ (dC K (gS K (aE 0) "kept")) [] (pL K)) "kept") eJ) (lH K))
def pK(K:aR):TE:=(aE 0)
def lF(K:aR):TS:=(cC (oU (eZ (eI K "Corner") "step_in" (kU K) [] E0 (aE 0) (aH (aE 4) (aH (aE 5) (aH (tOp (fX K) (aE 6) (tC (.int 0))) bE))))) (oU (tBM K "list" Li (aE 3) (aH (tOp (fX K) (aE 6) (tC (.int 0))) bE))))
def pI(K:aR):TS:=(cC (fS (vJ (tTru K (aE 6))) (cQ (tC (.bl false))) eJ) (lF K))
def pJ(K:aR):TE:=(aE 0)
def pH(K:aR):TS:=(cC (cT (jX (dC K (aE 3)) [5] (cV (tOp rNe (tOp (fX K) (aE 1) (aE 0)) (tC (.int 0)))) (pJ K)) (aZ 6)) (pI K))
def iJ(K:aR):TS:=(cC (cT (eZ (eI K "Corner") "numbers" (iP K) [] E0 (aE 0) (aH (aE 4) bE)) (aZ 5)) (pH K))
def pF(K:aR):TS:=(cC (gI (dC K (jX (dC K (aE 1)) [2] (cV (tOp kH (aE 0) (aE 1))) (pK K))) (aZ 4) (iJ K)) (iI K))
def lJ(K:aR):TE:=(aE 0)
def pE(K:aR):TS:=(cC (cT (jX (hV (aH (tCB (jE K) (aH (aE 1) bE)) bE)) [1,2] (cV (tOp (rIn K true) (tOp iF (aE 2) (aE 0)) (aE 1))) (lJ K)) (aZ 3)) (pF K))
def nP(K:aR):TS:=(cC (cT (tCB (jE K) (aH (gS K (aE 0) "begun") bE)) (aZ 2)) (pE K))
def eL.take:∀{ps:List Addr}{X:List (List Int)}(i:Nat),eL H ps X->eL H (ps.take i) (X.take i)
 |_,_,0,_=>trivial
 | [],[],_+1,_=>trivial
 |_::_,_::_,i+1,h=>#[h.1,eL.take i h.2]
 | [],_::_,_,h=>h.elim
 |_::_,[],_,h=>h.elim
def jWw{n:Nat}{f:Nat->d}(h:i<=n):(ofF n f).take i=ofF i f:=by
 unfold ofF;rw[←map_take,List.take_range,Nat.min_eq_left h]
def jXU{c:Type}{n:Nat}{f:Nat->d}{g:d->c}:(ofF n f).map g=ofF n λk=>g (f k):=by unfold ofF;rw[List.map_map];rfl
def Jv(C:xW K){t ins:Addr}{L:Lpd}{h A u R j:Option V}(ca:iX K G t ins L s)(lim:L.Lim)(m1:1<=L.m)
  (n:∀d,aQ G d->Q (.bl false) d) (y:∀d,aQ G d->(∀i,i<L.m->0<=L.T s i L.be)->Q (.bl true) d):
  lH K (eQ Q) [some (.ref t),h,A,J,u,R,j] G:=by
 obtain⟨f,b,q,k,bs,w,ks,P⟩:=ca;have kl:=P.kl;have D:=lim.m1;(dsimp?[lH,gS,xS,Ma]);refine#[_,_,_,P.ob,C.cl,C.nk,_,jS b q k ins,k,rfl,_,SqL.of P.Kp,λz g=>?_];have p:qK (map ref ks) none (some (-1))=map ref (ks.take L.m):=by rw[Fi,aA,kl,Nat.add_sub_cancel,map_take]
 rw[p];have hks:eL G (ks.take L.m) (ofF L.m (L.keptL s)):=by have:=P.Ks.take L.m;rwa [jWw (Nat.le_succ _)]at this
 refine#[z,_,_,-1,L.m+1,rfl,SqL.of aI,hks.same (aQ.upd g),by rw[bI];lia,λr hr=>?_,λl S O Y I=>?_]
 .obtain⟨i,hi,rfl⟩:=kT hr;rw[iM (L.keptL_last s i)];exact qR (by rw[aA,Lpd.keptL_length,aX,show L.m+2-1=L.m+1 by lia,L.keptL_last];rfl)
 .have a:=(aQ.upd (o:=lst (map ref (ks.take L.m))) g).trans O;rw[jXU,jC λi _=>iM (L.keptL_last s i)]at I;refine#[l,rfl,_,SqL.of I,λe=>?_,λM X v=>?_]
  .have:=congrArg List.length e;rw[bI]at this;simp at this;lia
  .by_cases c:0<=M
   .rw[decide_eq_true c];refine y S a λi hi=>?_;have:=v _ (aL (fO (λi=>L.T s i L.be) hi));lia
   .rw[decide_eq_false c];exact n S a
def Yu(C:xW K){t ins:Addr}{L:Lpd}{S A u R T:Option V}(ca:iX K G t ins L s)(lim:L.Lim)(m1:1<=L.m)(ok:L.Okn s)(io:jY L s)
  (n:∀d,aQ (mn t ins G) (mn t ins d)->Q (.bl false) d) (y:∀e d,(e=L∨e=L.flip)->aQ (mn t ins G) (mn t ins d)->iX K d t ins e s->e.Ok s->jY e s->Q (.bl true) d):
  iI K (eQ Q) [some (.ref t),S,A,o3,u,R,T] G:=by
 obtain⟨f,b,O,k,bs,ss,ks,P⟩:=id ca;have kl:=P.kl;have ml:=lim.m1;have q:t≠ins:=kS P.ob P.hi (by intro z;cases z);have D0:=ok.ne;(dsimp?[iI,eZ,dQ,dC,xX,gS];try simp_arith[iI,eZ,dQ,dC,xX,gS,if_true])
 refine#[_,_,P.ob,rfl,t,ins,L,s,rfl,ca,_,rfl,kX (λhD=>?_) (λhD=>?_)]
 .refine#[_,_,_,P.ob,C.cl,C.nk,_,jS b O k ins,k,rfl,#[_,SqL.of P.Kp],eR (K:=K) (a:=k) (xs:=map ref ks) (λi N U=>aQ G U/\∃qs,N=map ref qs/\eL U qs (ofF i (L.flip.keptL s))/\∀x∈qs,G x=none) ?_ #[aQ.refl _,[],rfl,trivial,(λ_ h=>nomatch h)] ?_ ?_ ?_]
  .rw[aA,kl,sizeLine_eq];lia
  .rintro i N U _ ⟨s3,_⟩;exact SqL.of (s3 _ _ P.Kp)
  .rintro i x N U hi _ ⟨s3,qs,rfl,J,H⟩;obtain⟨z,rfl,M⟩:=eU hi;obtain⟨row,F,B⟩:=(P.Ks.same s3).get M;obtain⟨X,rfl⟩:=gA F;(dsimp?[pL]);refine#[z,_,rfl,SqL.of B,by rw[Lpd.keptL_length];lia,λl w s4 Y a0=>#[s3.trans s4,qs++[l],by rw[aY];rfl,?_,λx hx=>?_]]
   .rw[fP];exact eL.snoc (J.same s4) (by rw[a0,L.flip_kept])
   .rcases cW.mp hx with hx |hx
    .exact H x hx
    .rw[bZ.mp hx];exact s3.free Y
  .rintro N U _ ⟨s3,qs,rfl,J,H⟩ p hp;rw[aA,kl]at J;have s4:=s3.trans (aQ.upd (o:=lst (map ref qs)) hp);have g:=J.same (aQ.upd (o:=lst (map ref qs)) hp);have D:(upd U p (lst (map ref qs))) p=some (lst (map ref qs)):=aI;have p0:G p=none:=s3.free hp;generalize upd U p (lst (map ref qs))=w at s4 g D;refine#[_,_,_,s4 _ _ P.ob,C.cl,C.nk,by show 4<1000;decide,?_];rw[jXt];have j:∀o,mn t ins (upd w t o)=mn t ins w:=λo=>nV (.inl rfl);have v:aQ (mn t ins G) (mn t ins w):=iW s4;have r:iX K (upd w t (.ins (eI K "Corner") f (cfl b O p ins))) t ins L.flip s:=by
    refine#[f,b,O,p,bs,ss,qs,aI,?_,?_,?_,P.sl,P.sb,?_,?_,?_]
    .rw[j];exact v _ _ P.hb
    .rw[j];exact P.hbs.same v
    .rw[j];exact v _ _ P.hs
    .rw[j];exact yD D (dE P.ob p0).symm (dE P.hi p0).symm
    .rw[j];exact g.mn (λhx=>by have:=H _ hx;rw[P.ob]at this;cases this) (λhx=>by have:=H _ hx;rw[P.hi]at this;cases this)
    .rw[bY q.symm];exact s4 _ _ P.hi
   have Z:aQ (mn t ins G) (mn t ins (upd w t (.ins (eI K "Corner") f (cfl b O p ins)))):=by rw[j];exact v
   generalize upd w t (.ins (eI K "Corner") f (cfl b O p ins))=I at r Z;refine Jv C r lim.flip m1 (λd s'=>n d (Z.trans (iW s'))) λd s' c=>y L.flip d (.inr rfl) (Z.trans (iW s')) (r.same s') #[?_,ok.cr,c] io;rw[Lpd.flip_D];lia
 .refine Jv C ca lim m1 (λd s'=>n d (iW s')) λd s' c=>y L d (.inl rfl) (iW s') (ca.same s') #[#[],ok.cr,c] io
structure CmAt(K:aR)(H0 H:Hp)(t ins f cl:Addr)(L:Lpd)(s:Nat->Nat)(fr cs:List Nat):Prop where
 sm:aQ (mn t ins H0) (mn t ins H)
 ca:El K H t ins L s f
 ok:L.Okn s
 io:jY L s
 f0:H0 f=none
 hf:mn t ins H f=some (.lst (map int (fr.map λi:Nat=>(i:Int))))
 fm:∀x∈fr,x<L.m
 fl:fr.length<=L.m
 hc:mn t ins H cl=some (.lst (map int (cs.map λi:Nat=>(i:Int))))
 cf:cl≠f
def jW6(K:aR)(C:Hp)(t ins g f cl:Addr)(L:Lpd)(cs:List Nat):NS:=λ_ Z U=>∃s fr u R T,Z=[some (.ref t),some (.ref g),some (.int L.n),some (.ref f),u,R,T]/\CmAt K C U t ins f cl L s fr cs
def Ya:∀{l:List Nat}{r:Nat},r∈l->∃j:Nat,l[j]?=some r/\∀m:Nat,m<j->l[m]?≠some r
 | [],_,h=>nomatch h
 |a::l,r,h=>by
  by_cases e:a=r
  .exact#[0,by rw[e];rfl,λm hm=>absurd hm (eO _)]
  .rcases eA.mp h with h |h
   .exact absurd h.symm e
   .obtain⟨j,h1,h2⟩:=Ya h;refine#[j+1,by simpa using h1,λm hm=>?_];cases m with
    |zero=>intro z;exact e (by simpa using z)
    |succ m=>have:=h2 m #[];simpa using this
def Vm{x:V}(h:(map int (ns.map λi:Nat=>(i:Int)))[i]?=some x):∃y:Nat,x=.int (y:Int)/\ns[i]?=some y:=by
 rw[aX,aX]at h;cases e:ns[i]? with
 |none=>rw[e]at h;cases h
 |some y=>rw[e]at h;exact#[y,(aV h).symm,rfl]
def Yv{D:rW}{C:Hp}{t ins g f cl:Addr}{L:Lpd}{fr cs:List Nat}{o5 o6:Option V}(lim:L.Lim)(I:CmAt K C G t ins f cl L s fr cs)(hc:c<L.n)
  (k0:∀d,aQ (mn t ins C) (mn t ins d)->D.rt (.bl false) d) (k1:∀s' B o5 o6 d,CmAt K C d t ins f cl L s' B cs->D.nx [some (.ref t),some (.ref g),some (.int L.n),some (.ref f),some (.int c),o5,o6] d):
  iJ K D [some (.ref t),some (.ref g),some (.int L.n),some (.ref f),some (.int c),o5,o6] G:=by
 obtain⟨dx,b,sp,k,bs,ss,ks,P⟩:=id I.ca.at;(dsimp?[iJ,eZ];try simp_arith[iJ,eZ,if_true])
 refine#[_,_,P.ob,rfl,t,ins,L,s,c,rfl,I.ca.at,lim,I.ok,#[],λnl S O R X=>?_];have ml:=lim.m1;have fl:=I.fl;have a0:=O _ _ (lL _ _ I.hf);(dsimp?[pH,jX,dC]);refine#[#[_,SqL.of a0],Ef (K:=K) (a:=f) (xs:=map int (fr.map λi:Nat=>(i:Int))) (λi N U=>U=S/\∃J:List Nat,N=map int (J.map λi:Nat=>(i:Int))/\∀x∈J,x∈fr/\L.T s x (L.cv c)≠0) (by rw[aA,aA,sizeLine_eq];lia) #[rfl,[],rfl,(λ_ h=>nomatch h)] ?_ ?_ ?_]
 .rintro i N U _ ⟨rfl,_⟩;exact SqL.of a0
 .rintro i x N U hi _ ⟨rfl,J,rfl,hp⟩;obtain⟨y,rfl,hy⟩:=Vm hi;have ym:=I.fm y (aL hy);(dsimp?[pJ,cN,bR,cR,bH]);refine#[_,SqL.of X,int (L.T s y (L.cv c)),gU (by rw[aX];unfold Lpd.numL;rw[fO _ #[]];rfl),rfl,?_];by_cases h0:L.T s y (L.cv c)=0
  .rw[decide_eq_true (by rw[h0]:int (L.T s y (L.cv c))=int 0)];exact sR #[J,rfl,hp]
  .rw[decide_eq_false (λz=>h0 (by injection z):¬int (L.T s y (L.cv c))=int 0)];refine iteT #[J++[y],by rw[aY,aY];rfl,λx hx=>?_];rcases cW.mp hx with hx |hx
   .exact hp x hx
   .rw[bZ.mp hx];exact#[aL hy,h0]
 .rintro N U ⟨rfl,J,rfl,hp⟩ p u;have F:=aQ.upd (o:=lst (map int (J.map λi:Nat=>(i:Int)))) u;have l:(upd U p (lst (map int (J.map λi:Nat=>(i:Int))))) p=some (lst (map int (J.map λi:Nat=>(i:Int)))):=aI;generalize upd U p (lst (map int (J.map λi:Nat=>(i:Int))))=M at F l;have q:=O.trans F;(dsimp?[pI,tTru]);refine#[_,.inl #[_,SqL.of l,rfl],?_];cases J with
  |nil=>exact iteT (k0 M (I.sm.trans (iW q)))
  |cons r pr=>
   obtain⟨Z,Y⟩:=hp r bT;have rm:=I.fm r Z;have P2:=P.same q;refine sR ?_;(dsimp?[lF,oU,eZ,tBM,Li];try simp_arith[lF,oU,eZ,tBM,Li,if_true])
   have a1:p≠t/\p≠ins:=#[(dE (O _ _ P.ob) u).symm,(dE (O _ _ P.hi) u).symm];have Q:f≠t/\f≠ins:=by
    have hf:=I.hf;constructor
    .rintro rfl;unfold mn at hf;rw[aJ (.inl rfl)]at hf;cases hf
    .rintro rfl;unfold mn at hf;rw[aJ (.inr rfl)]at hf;cases hf
   have pf:p≠f:=λe=>by rw[e,a0]at u;cases u
   have F2:=I.ca.same q;refine#[_,_,P2.ob,rfl,_,SqL.of l,int r,iR,t,ins,L,s,nl,c,r,rfl,F2.at,lim,I.ok,F _ _ X,rm,λw v a4 ff=>?_];have F4:=ff f (by rw[q _ _ (lL _ _ I.hf)];exact λz=>nomatch z) F2
   have A:=v _ _ (iW q _ _ I.hf);have p4:=v _ _ (yD l a1.1 a1.2);have c4:=v _ _ (iW q _ _ I.hc);obtain⟨j,hj,a2⟩:=Ya Z;refine#[.inl #[rfl,_,SqL.of (lL _ _ A)],_,SqL.of (lL _ _ p4),int r,iR,fr.map λi:Nat=>(i:Int),(r:Int),rfl,lL _ _ A,j,by rw[aX,hj];rfl,λm hm e=>?_,?_]
   .rw[aX]at e;cases e2:fr[m]? with
    |none=>rw[e2]at e;cases e
    |some y=>
     rw[e2]at e;have:(y:Int)=r:=aV e;exact a2 m hm (by rw[e2];congr 1;lia)
   .have er:(fr.map λi:Nat=>(i:Int)).eraseIdx j=(fr.eraseIdx j).map λi:Nat=>(i:Int):=(Up _ _ _).symm;rw[er];have em:=Ba (H:=w) (o:=lst (map int ((fr.eraseIdx j).map λi:Nat=>(i:Int)))) Q.1 Q.2;have a3:mn t ins C f=none:=by unfold mn;rw[aF (λz=>z.elim Q.1 Q.2)];exact I.f0
    refine k1 (Lpd.sput s r c) (fr.eraseIdx j) _ _ _ #[by rw[em];exact((I.sm.trans (iW q)).trans v).put a3,F4.upd Q.1 Q.2,I.ok.step rm Y,λi hi=>?_,I.f0,by rw[em,aI],λx hx=>I.fm x (List.mem_of_mem_eraseIdx hx),cK (List.length_eraseIdx_le _ _) I.fl,by rw[em,bY I.cf];exact c4,I.cf];unfold Lpd.sput;split
    .omega
    .exact I.io i hi
def Ei{K vs H Q E}(C:xW K)(h:mM K vs H Q E):nP K (eQ Q) (start sQ vs) H:=by
 obtain⟨t,ins,L,g,l,rfl,ca,lim,fl,m1,hg,gl,k0,k1⟩:=h;obtain⟨dx,b,sp,k,bs,ss,ks,P⟩:=id ca;have ml:=lim.m1;rw[show start sQ [ref t,ref g]=[some (.ref t),some (.ref g),none,none,none,none,none]from rfl];(dsimp?[nP,gS]);refine#[_,_,_,P.ob,C.cl,C.nb,_,mP b sp k ins,b,rfl,_,.inl (SqL.of P.B),?_];rw[aA,P.bl];(dsimp?[pE,jX,hV]);have Y:=lL _ _ hg;refine#[_,.inl (SqL.of Y),?_];rw[aA,aA,gl,dA];refine#[#[],#[],jY6 (lo:=0) (W:=λj N d=>d=H/\∃fr:List Nat,N=map int (fr.map λi:Nat=>(i:Int))/\(∀x∈fr,x<L.m)/\fr.length<=j) (by rw[sizeLine_eq];lia) #[rfl,[],rfl,(λ_ h=>nomatch h),aM _] ?_ ?_]
 .rintro j N d hj _ ⟨rfl,fr,rfl,fm,a0⟩;(dsimp?[lJ,rIn,cN,bR,cR,bH];try simp_arith[lJ,rIn,cN,bR,cR,bH,eP])
  refine#[_,.inl (SqL.of Y),rfl,?_,?_]
  .rw[List.all_eq_true];intro v hv;obtain⟨c,_,rfl⟩:=dD.mp hv;rfl
  .refine kX (λ_=>#[fr++[j],by rw[aY,aY];rfl,λx hx=>?_,by rw[bC];show fr.length+1<=j+1;lia]) (λ_=>#[fr,rfl,fm,#[]]);rcases cW.mp hx with hx |hx
   .exact fm x hx
   .rw[bZ.mp hx];exact hj
 .rintro N d ⟨rfl,fr,rfl,fm,a0⟩ f hf;have O:=aQ.upd (o:=lst (map int (fr.map λi:Nat=>(i:Int)))) hf;have r:(upd d f (lst (map int (fr.map λi:Nat=>(i:Int))))) f=some (lst (map int (fr.map λi:Nat=>(i:Int)))):=aI;generalize upd d f (lst (map int (fr.map λi:Nat=>(i:Int))))=S at O r;have z:=O _ _ Y;(dsimp?[pF,gI,jX,dC]);refine#[#[_,SqL.of z],Ef (K:=K) (a:=g) (xs:=map int (l.map λi:Nat=>(i:Int))) (λi N U=>U=S/\∃u:List Nat,N=map int (u.map λi:Nat=>(i:Int))/\∀x∈u,x<L.n) (by rw[aA,aA,sizeLine_eq];lia) #[rfl,[],rfl,(λ_ h=>nomatch h)] ?_ ?_ ?_]
  .rintro i N U _ ⟨rfl,_⟩;exact SqL.of z
  .rintro i x N U hi _ ⟨rfl,u,rfl,hc⟩;obtain⟨y,rfl,hy⟩:=Vm hi;(dsimp?[pK,cN,bR,cR,bH]);by_cases h0:(y:Int)<(L.n:Int)
   .rw[aJ h0];refine#[u++[y],by rw[aY,aY];rfl,λx hx=>?_];rcases cW.mp hx with hx |hx
    .exact hc x hx
    .rw[bZ.mp hx];lia
   .rw[aF h0];exact#[u,rfl,hc]
  .rintro N U ⟨rfl,u,rfl,hc⟩ cl A;have F:=aQ.upd (o:=lst (map int (u.map λi:Nat=>(i:Int)))) A;have X:(upd U cl (lst (map int (u.map λi:Nat=>(i:Int))))) cl=some (lst (map int (u.map λi:Nat=>(i:Int)))):=aI;have a3:cl≠f:=λe=>by rw[e,r]at A;cases A
   have a1:cl≠t/\cl≠ins:=#[(dE (O _ _ P.ob) A).symm,(dE (O _ _ P.hi) A).symm];have a2:f≠t/\f≠ins:=#[(dE P.ob hf).symm,(dE P.hi hf).symm];have f2:=F _ _ r;generalize upd U cl (lst (map int (u.map λi:Nat=>(i:Int))))=M at F X f2;have q:=O.trans F;have I:CmAt K d M t ins f cl L L.ins0 fr u:=#[iW q,((ca.fresh hf).same q),Lpd.Okn.start fl,λi hi=>by show L.n+i<L.n+L.m;lia,hf,yD f2 a2.1 a2.2,fm,a0,yD X a1.1 a1.2,a3];refine#[#[_,SqL.of X],iU (K:=K) (a:=cl) (xs:=map int (u.map λi:Nat=>(i:Int))) (g:=aZ 4) (D:={ nx:=iI K (eQ Q),rt:=Q }) (jW6 K d t ins g f cl L u) #[_,_,_,_,_,rfl,I] ?_ ?_ ?_]
   .rintro i Z w _ ⟨_,_,_,_,_,_,p⟩;exact SqL.of (lL _ _ p.hc)
   .rintro i x Z w hi ⟨s,a4,o4,R,T,rfl,p⟩;obtain⟨y,rfl,hy⟩:=Vm hi;show iJ K _ [some (.ref t),some (.ref g),some (.int L.n),some (.ref f),some (.int y),R,T] w;exact Yv lim p (hc y (aL hy)) (λH5 sm=>k0 H5 sm) λs' a5 R T H5 G=>#[s',a5,_,R,T,rfl,G]
   .rintro Z w ⟨s,a4,o4,R,T,rfl,p⟩;exact Yu C p.ca.at lim m1 p.ok p.io (λH5 sm=>k0 H5 (p.sm.trans sm)) λL2 H5 e sm a6 J a7=>k1 L2 s H5 e (p.sm.trans sm) a6 J a7
def rV:LS:=["self","column","numbers"]
def lW(K:aR):Sp:=λvs H Q _=>∃t ins L s,∃o:Option Nat,vs=[.ref t,oV o]/\iX K H t ins L s/\L.Lim/\L.Okn s/\(∀c,o=some c->c<L.n+L.m)/\(∀H',aQ H H'->Q (.bl false) H')/\∀H',aQ H H'->UnO L s o->Q (.bl true) H'
def kF(K:aR):TS:=(cC (fS (cV (tOp Kq (aE 1) (tC .non))) (cQ (tOp Kq (eZ (eI K "Corner") "entering" (jB K) [] E0 (aE 0) bE) (tC .non))) eJ) (cC (cT (eZ (eI K "Corner") "numbers" (iP K) [] E0 (aE 0) (aH (aE 1) bE)) (aZ 2)) (cQ (rY (tOp kH (tOp (fX K) (aE 2) (tUn iK (tC (.int 1)))) (tC (.int 0))) (tOp Kq (eZ (eI K "Corner") "leaving_by" (jJ K) [] E0 (aE 0) (aH (aE 2) bE)) (tC .non))))))
def Bx{K vs H Q E}(C:xW K)(h:lW K vs H Q E):kF K (eQ Q) (start rV vs) H:=by
 obtain⟨t,ins,L,s,o,rfl,ca,lim,ok,hc,n,y⟩:=h;obtain⟨f,b,d,k,bs,e,ks,P⟩:=id ca;rw[show start rV [ref t,oV o]=[some (.ref t),some (oV o),none]from rfl];(dsimp?[kF,eZ,Kq];try simp_arith[kF,eZ,Kq,if_true])
 cases o with
 |none=>
  rw[aJ (show oV none=V.non from rfl)];refine#[_,_,P.ob,rfl,t,ins,L,s,rfl,ca,lim,ok,λo S O en=>?_];cases o with
  |none=>rw[decide_eq_true (show oV none=V.non from rfl)];exact y S O en
  |some c=>rw[decide_eq_false (show ¬oV (some c)=V.non from λz=>nomatch z)];exact n S O
 |some c=>
  rw[aF (show ¬oV (some c)=V.non from λz=>nomatch z)]
  refine#[_,_,P.ob,rfl,t,ins,L,s,c,rfl,ca,lim,ok,hc c rfl,λa S O R X=>#[a,rfl,_,SqL.of X,int (L.T s L.m (L.cv c)),qR (by rw[aA];unfold Lpd.numL;rw[bI,Nat.add_sub_cancel,aX,fO _ (gK _)];rfl),_,rfl,kX (λh=>#[_,_,(P.same O).ob,rfl,t,ins,L,s,a,c,rfl,ca.same O,lim,ok,X,λo M F Y=>?_]) (λh=>n S O)]];cases o with
  |none=>rw[decide_eq_true (show oV none=V.non from rfl)];exact y M (O.trans F) #[hc c rfl,h,λi hi=>Y i (jT hi)]
  |some r=>rw[decide_eq_false (show ¬oV (some r)=V.non from λz=>nomatch z)];exact n M (O.trans F)
def Cv:LS:=["lists","bits","guess","column","corner"]
structure Uc(H:Hp)(a:Addr)(rps:List Addr)(L:Lpd)(q q':Nat):Prop where
 R:xU H a rps L
 fl:L.fl=false
 m1:1<=L.m
 n1:1<=L.n
 lim:L.Lim
 F:Fit L.m L.n q'
 q9:q<=9000
 st:∀k,40*2^k<q->40*2^k<=q'
 ba:∀j k,j<L.n->k<=L.m->BB q (L.a j k)
 bb:∀k,k<=L.m->BB q (L.be k)
 nn:∀k,k<L.m->0<=L.be k
structure jZx(K:aR)(H:Hp)(p t ins:Addr)(L L2:Lpd)(s:Nat->Nat)(o:Option Nat):Prop where
 e:L2=L∨L2=L.flip
 hp:H p=some (.tup [.ref t,oV o])
 ca:iX K H t ins L2 s
 ok:L2.Ok s
 io:jY L2 s
 un:UnO L2 s o
def rD(K:aR):Sp:=λvs H Q _=>∃a g L q f,vs=[.ref a]/\Uc H a g L q f/\∀p t ins e s o H',aQ H H'->jZx K H' p t ins L e s o->Q (.ref p) H'
def uN(K:aR):TS:=(cQ (iA (aH (aE 4) (aH (aE 3) bE))))
def uM(K:aR):TS:=(cC (cT (cD (qD K) [] E0 (aH (aE 4) bE)) (aZ 3)) (uN K))
def oF(K:aR):TS:=(cC (cT (Ca (eI K "Corner") (jU K) [] E0 (aH (aE 0) bE)) (aZ 4)) (uM K))
def uO(K:aR):TE:=(cD (vZ K) [] E0 (aH (aE 0) bE))
def oE(K:aR):TS:=(cT (tOp eT (tC (.int 2)) (aE 1)) (aZ 1))
def oC(K:aR):TS:=(cC (fS (Ek (tB (eZ (eI K "Corner") "comes_to" (mM K) [] E0 (aE 4) (aH (gS K (aE 2) "inside") bE))) (tB (eZ (eI K "Corner") "ends_with" (lW K) [] E0 (aE 4) (aH (aE 3) bE)))) (cQ (iA (aH (aE 4) (aH (aE 3) bE)))) eJ) (oE K))
def uL(K:aR):TS:=(cC (cT (Ca (eI K "Corner") (jU K) [] E0 (aH (aE 0) bE)) (aZ 4)) (oC K))
def uK(K:aR):TS:=(cC (cT (cD (qD K) [] E0 (aH (aE 2) bE)) (aZ 3)) (uL K))
def oG(K:aR):TS:=(cC (cT (Ca (eI K "Corner") (jU K) [] E0 (aH (cD (Dq K) [] E0 (aH (aE 0) (aH (aE 1) bE))) bE)) (aZ 2)) (uK K))
def uJ(K:aR):TS:=(cC (yL (cV (tOp kH (aE 1) (tCB (Xa K) (aH (dQ (dC K (aE 0)) [] (uO K)) bE)))) (oG K)) (oF K))
def sV(K:aR):TS:=(cC (cT (tC (.int 40)) (aZ 1)) (uJ K))
def Uc.same{g:List Addr}{L:Lpd}{q f:Nat}(h:Uc H a g L q f)(s:aQ H H'):Uc H' a g L q f:=#[h.R.same s,h.fl,h.m1,h.n1,h.lim,h.F,h.q9,h.st,h.ba,h.bb,h.nn]
def Uc.row{g:List Addr}{L:Lpd}{q f:Nat}(h:Uc H a g L q f)(hi:i<=L.m):∀x∈L.rowL i,BB q x:=λx hx=>by
 rcases Lpd.rowL_mem hx with⟨j,P,rfl⟩|rfl
 .exact h.ba j i P hi
 .exact h.bb i hi
def Lf{S M:Hp}{t i:Addr}(s:aQ H S)(y:H t=none)(hi:H i=none)(m:aQ (mn t i S) (mn t i M)):aQ H M:=λb o e=>lL _ _ (m b o (yD (s b o e) (dE e y) (dE e hi)))
def Aa{g:List Addr}{L:Lpd}{P:Addr->Hp->Prop}(R:xU G a g L)(lim:L.Lim)(fl:L.fl=false)(k:∀t ins d,G t=none->G ins=none->aQ G d->iX K d t ins L L.ins0->P t d):
  ∀(x f:Addr),G x=none->G f=none->f≠x->jU K [.ref x,.ref a] (upd (upd G f (.own x)) x (.ins (eI K "Corner") f [])) (λv M=>v=.non/\P x M) E0:=by
 intro t f y c ne;have O:aQ G (upd (upd G f (.own t)) t (.ins (eI K "Corner") f [])):=(aQ.upd c).put y;refine#[t,f,a,g,L,rfl,aI,R.same O,lim,fl,λins d hi b ca=>#[rfl,k t ins d y (O.free hi) (λi o e=>b i o (O i o e) (dE e y)) ca]]
def jJl{g:List Addr}{L:Lpd}{q f:Nat}{j A u:Option V}(I:Uc G a g L q f)(s:aQ H G)(k:∀p t ins e s o d,aQ H d->jZx K d p t ins L e s o->Q (.ref p) d):
  oF K (eQ Q) [some (.ref a),j,A,J,u] G:=by
 (dsimp?[oF,Ca]);refine Aa I.R I.lim I.fl λt ins S y hi O ca=>?_;(dsimp?[uM]);refine#[t,ins,L,L.ins0,rfl,ca,I.lim,Lpd.Okx.start I.fl I.nn,λi hi=>by show L.n+i<L.n+L.m;lia,λo U M sm r b c h=>?_];(dsimp?[uN]);refine#[sz2,λp hp=>k p t ins L U o _ ((s.trans (Lf O y hi sm)).trans (aQ.upd hp)) #[.inl rfl,aI,r.same (aQ.upd hp),b.w,c,h]]
def jJm(C:xW K){D:rW}{g:List Addr}{L:Lpd}{q q' b:Nat}{A u:Option V}(I:Uc G a g L q q')(s:aQ H G)(b1:1<=b)(bq:b<q)(b7:b<=q')(k:∀p t ins e s o d,aQ H d->jZx K d p t ins L e s o->D.rt (.ref p) d)
  (kn:∀A J u d,aQ H d->D.nx [some (.ref a),some (.int ((2*b:Nat):Int)),A,J,u] d):
  oG K D [some (.ref a),some (.int b),A,J,u] G:=by
 have q9:=I.q9;(dsimp?[oG,Ca]);refine#[a,g,L,b,rfl,I.R,I.n1,I.F.n1,I.F.m1,#[],λi hi x hx=>(I.row hi x hx).mono #[],λl qs e S O R2 Y=>?_];have a1:e.Lim:=by
  have F2:Fit e.m e.n q':=by rw[Y.m,Y.n];exact I.F
  exact F2.lim (λj k P hk=>(Y.ba j k (by rw[←Y.n];exact P) (by rw[←Y.m];exact hk)).mono #[]) λk hk=>(Y.bb k (by rw[←Y.m];exact hk)).mono #[]
 show ∀(x f:Addr),_;refine Aa R2 a1 Y.fl λt ins M y hi s2 ca=>?_;(dsimp?[uK]);refine#[t,ins,e,e.ins0,rfl,ca,a1,Lpd.Okx.start Y.fl (λi hi=>Y.nn i (by have:=Y.m;lia) (I.nn i (by have:=Y.m;lia))),λi hi=>by show e.n+i<e.n+e.m;lia,λo s' U sm a7 B b8 a8=>?_];have a3:aQ G U:=Lf (O.trans s2) (O.free y) (O.free hi) sm;have z:=I.same a3;obtain⟨b9,b3,a9,k3,c1,c2,c3,P3⟩:=id a7;(dsimp?[uL,Ca]);refine Aa z.R z.lim z.fl λv h w a2 Q s4 a4=>?_;have P4:=P3.same s4;obtain⟨c4,b4,c5,k4,c6,c7,c8,PT⟩:=id a4;have r4:∀d,aQ H d->oE K D [some (.ref a),some (.int b),some (.ref t),some (oV o),some (.ref v)] d:=λd s'=>by
  (dsimp?[oE]);refine#[.l (by show(2:Int).natAbs<2^64;decide),?_];rw[show(2:Int)*(b:Int)=((2*b:Nat):Int) by lia];exact kn _ _ _ d s'
 have r:=s.trans a3;have e1:e.insL s'=(ofF L.m s').map λc:Nat=>(c:Int):=by unfold Lpd.insL;rw[Y.m,jXU]
 have a5:=P4.hi;rw[e1]at a5;have n1:ins≠v:=dE P3.hi a2;have n2:ins≠h:=dE P3.hi Q;(dsimp?[oC,eZ,gS];try simp_arith[oC,eZ,gS,if_true])
 refine#[_,_,PT.ob,rfl,_,_,_,P4.ob,C.cl,C.ni,_,nZ b3 a9 k3 ins,v,h,L,ins,ofF L.m s',rfl,a4,z.lim,z.fl,z.m1,yD a5 n1 n2,bI _ _,λH5 Z=>#[false,rfl,sR (sR (r4 H5 ?_))],λL3 s3 H5 e5 Z N a6 b0=>#[true,rfl,iteT ?_]]
 .exact Lf (r.trans s4) (r.free a2) (r.free Q) Z
 .have X:=Lf (r.trans s4) (r.free a2) (r.free Q) Z;obtain⟨c9,b5,d1,k5,d2,d3,d4,P5⟩:=id N;have a0:L3.Lim/\L3.n=L.n/\L3.m=L.m:=by
   rcases e5 with rfl |rfl
   .exact#[z.lim,rfl,rfl]
   .exact#[z.lim.flip,rfl,rfl]
  refine#[_,_,P5.ob,rfl,v,h,L3,s3,o,rfl,N,a0.1,a6.n,λc ec=>?_,λT s6=>#[false,rfl,sR (r4 T (X.trans s6))],λT s6 un=>#[true,rfl,iteT #[sz2,λp hp=>k p v h L3 s3 o _ ((X.trans s6).trans (aQ.upd hp)) #[e5,aI,(N.same s6).same (aQ.upd hp),a6,b0,un]]]];subst ec;have:=a8.1;rw[Y.n,Y.m]at this;rw[a0.2.1,a0.2.2];exact this
def Ph{K vs H Q E}(C:xW K)(h:rD K vs H Q E):sV K (eQ Q) (start Cv vs) H:=by
 obtain⟨a,g,L,q,f,rfl,I,k⟩:=h;rw[show start Cv [ref a]=[some (.ref a),none,none,none,none]from rfl];(dsimp?[sV,uJ,yL,dQ,dC,Xa]);have q9:=I.q9;have s:=I.R.len;have D:=I.F.m1;refine#[λm Z U=>∃(b e:Nat)(A J u:Option V),Z=[some (.ref a),some (.int b),A,J,u]/\m=9000-b/\b=40*2^e/\1<=b/\aQ H U,#[9000-40,40,0,none,none,none,rfl,rfl,rfl,by decide,aQ.refl _],?_];rintro m Z U ⟨b,T,A,J,u,rfl,rfl,O,b1,s3⟩;have z:=I.same s3;simp only[Lq0,Lq1];refine#[a,rfl,#[_,SqL.of z.R.ha],eR (K:=K) (a:=a) (xs:=map ref g) (λi N w=>aQ U w/\∃ls:List Int,N=map int ls/\ls.length=i/\∀l∈ls,l<=q) (by rw[aA,sizeLine_eq];lia) #[aQ.refl _,[],rfl,rfl,(λ_ h=>nomatch h)] ?_ ?_ ?_]
 .rintro i N w _ ⟨G,_⟩;exact SqL.of (G _ _ z.R.ha)
 .rintro i x N w hi _ ⟨G,ls,rfl,c,j⟩;obtain⟨p,rfl,hp⟩:=eU hi;obtain⟨y,B⟩:=(z.R.same G).inv hp;(dsimp?[uO]);refine#[p,_,rfl,SqL.of B,λe=>?_,by rw[Lpd.rowL_length];have:=I.F.n1;lia,λM H5 X _#[n,hn,r]=>#[G.trans X,ls++[(M:Int)],by rw[aY];rfl,by rw[bC,c];rfl,λl Y=>?_]]
  .have:=congrArg List.length e;rw[Lpd.rowL_length]at this;simp at this
  .rcases cW.mp Y with Y |Y
   .exact j l Y
   .rw[bZ.mp Y,←r];have:=Qx (I.row y n hn);lia
 .rintro N w _ ⟨G,ls,rfl,c,j⟩ p hp;rw[aA,s]at c;refine#[ls,SqL.of aI,λe=>by rw[e]at c;simp at c,λM hM v=>#[_,rfl,?_]];have X:=(s3.trans G).trans (aQ.upd (o:=lst (map int ls)) hp);have t:=j M hM;refine kX (λh=>#[λP d=>∃A J u,P=[some (.ref a),some (.int ((2*b:Nat):Int)),A,J,u]/\aQ H d,λP d#[A,J,u,e,S]=>#[9000-2*b,#[],2*b,T+1,A,J,u,e,rfl,by rw[O,iH];lia,#[],S],?_]) (λh=>?_)
  .exact jJm C (I.same X) X b1 #[] (by rw[O];exact I.st T #[]) k λA J u d S=>#[A,J,u,rfl,S]
  .exact jJl (I.same X) X k
def N_over:LS:=["one","other"]
def Le(K:aR):Sp:=λvs H Q _=>∃p q a b c d,vs=[.ref p,.ref q]/\Tw K H p q a b c d/\0<b/\0<c/\BB 9000 (b*c)/\∀r H',aQ H H'->H' r=some (.tup [.int (lo2 (a*d) (b*c)).1,.int (lo2 (a*d) (b*c)).2])->Q (.ref r) H'
def Zt(K:aR):TS:=(cQ (cD (nD K) [] E0 (aH (tOp eT (tOp (dU K) (aE 0) (tC (.int 0))) (tOp (dU K) (aE 1) (tC (.int 1)))) (aH (tOp eT (tOp (dU K) (aE 0) (tC (.int 1))) (tOp (dU K) (aE 1) (tC (.int 0)))) bE))))
def rd_over{K}:RdS K Le Zt N_over:=by
 rintro m H Q E ⟨p,q,a,b,c,d,rfl,⟨hp,J,ba,bb,bc,bd⟩,t,c0,D,k⟩;rw[show start N_over [ref p,ref q]=[some (.ref p),some (.ref q)]from rfl];(dsimp![Zt,aE,tC,tOp,rI,eT,cQ,cD,aH,bE,dU,cA]);refine#[_,hp,_,iR,_,J,_,iB,_,rfl,_,rfl,.b ba bd,_,hp,_,iB,_,J,_,iR,_,rfl,_,rfl,.b bb bc,?_];have z:0<b*c:=bF t c0;refine#[_,_,rfl,#[],D,λx y r e s h l=>k r e s ?_];obtain⟨e1,C⟩:=l.uniq z (dZ z);rw[←e1,←C];exact h
def xP:LS:=["self","numbers","told","number","column"]
def lN(K:aR):Sp:=λvs H Q _=>∃t ins L s M,∃f:Nat->Int,vs=[.ref t,.ref M]/\iX K H t ins L s/\L.Lim/\L.Ok s/\H M=some (.lst (map int (ofF (L.m+1) f)))/\
 ∀l ps H',aQ H H'->H l=none->H' l=some (.lst (map ref ps))->eG K H' ps (ofF L.n (xR L s f L.m))->Q (.ref l) H'
def jYx(K:aR)(t M l:Addr)(L:Lpd)(s:Nat->Nat)(f:Nat->Int)(C:Hp):NS:=λi Z U=>∃S A ps,Z=[some (.ref t),some (.ref M),some (.ref l),S,A]/\aQ C U/\U l=some (.lst (map ref ps))/\eG K U ps (ofF L.n (xR L s f i))
def rT(K:aR):TS:=(fS (cV (tOp kH (aE 4) (tCB (jE K) (aH (aE 2) bE)))) (cT (cD (nD K) [] E0 (aH (aE 3) (aH (eZ (eI K "Corner") "bottom" (iY K) [] E0 (aE 0) bE) bE))) (Kr (aE 2) (aE 4) xH)) eJ)
def mL(K:aR):TG:=(jN K 2 (eK (aZ 3) (eK (aZ 4) jO)))
def rS(K:aR):TE:=(iA (aH (tC (.int 0)) (aH (tC (.int 1)) bE)))
def pQ(K:aR):TS:=(cC (cT (dQ (dC K (gS K (aE 0) "begun")) [] (rS K)) (aZ 2)) (cC (gI (mR K (aH (aE 1) (aH (gS K (aE 0) "inside") bE))) (mL K) (rT K)) (cQ (aE 2))))
def jW2{D:Int}(h:0<D):lo2 0 D=(0,1):=by
 have:Lo 0 D 0 1:=#[by decide,by decide,by simp,aM _,#[]];exact(this.is h).symm
def Xl{n:Nat}{f:Nat->d}{v:d}:(ofF n f).set i v=ofF n λk=>if k=i then v else f k:=by
 apply List.ext_getElem?;intro k;rw[getElem?_set];by_cases hk:k<n
 .rw[fO (λk=>if k=i then v else f k) hk];by_cases e:i=k
  .rw[aJ e,aJ (by rw[bI];lia),aJ e.symm]
  .rw[aF e,aF (Ne.symm e),fO _ hk]
 .rw[cL (l:=ofF n λk=>if k=i then v else f k) (by rw[bI];lia)];by_cases e:i=k
  .rw[aJ e,aF (by rw[bI];lia)]
  .rw[aF e,cL (by rw[bI];lia)]
def Xh{L:Lpd}(ok:L.Ok s){f:Nat->Int}(hi:i<L.m):Lpd.spr (i+1) s f j=if j=s i then f i else Lpd.spr i s f j:=by
 show Lpd.spr i s f j+(if s i=j then f i else 0)=_;by_cases e:s i=j
 .rw[aJ e,aJ e.symm];have:Lpd.spr i s f j=0:=kL λk hk=>aF λz=>ok.inj (show k<L.m by lia) hi #[] (z.trans e.symm);rw[this,eP]
 .rw[aF e,aF (Ne.symm e),Int.add_zero]
def Iv{K vs H Q E}(C:xW K)(h:lN K vs H Q E):pQ K (eQ Q) (start xP vs) H:=by
 obtain⟨t,ins,L,s,M,f,rfl,ca,lim,ok,a4,q⟩:=h;obtain⟨dx,b,O,k,bs,ss,ks,P⟩:=id ca;have bl:=P.bl;have n1:=lim.n1;have m1:=lim.m1;have D0:=ok.pos;rw[show start xP [ref t,ref M]=[some (.ref t),some (.ref M),none,none,none]from rfl];(dsimp![pQ,gS,dQ,dC,gI,mR,cC,cT,aZ,aE,cQ,aH,bE]);refine#[_,_,_,P.ob,C.cl,C.nb,_,mP _ _ _ _,_,rfl,#[_,SqL.of P.B],eR (K:=K) (a:=b) (xs:=map ref bs) (λi N U=>aQ H U/\∃J,N=map ref J/\eG K U J (ofF i λ_=>((0,1):Int×Int))) ?_ #[aQ.refl _,[],rfl,trivial] ?_ ?_ ?_]
 .rw[aA,sizeLine_eq];lia
 .rintro i N U _ ⟨s3,_⟩;exact s3.seq (SqL.of P.B)
 .rintro i x N U hi _ ⟨s3,J,rfl,c⟩;dsimp only[rS,tC,aH,bE,iA,fJ,fK,fH];refine#[sz2,λp hp=>#[s3.trans (aQ.upd hp),J++[p],by rw[aY];rfl,?_]];rw[fP];exact eG.snoc (c.same (aQ.upd hp)) (SqT.of aI)
 .rintro N U _ ⟨s3,J,rfl,c⟩ l Y;rw[aA,bl]at c;have G:=s3.trans (aQ.upd (o:=lst (map ref J)) Y);have a5:=c.same (aQ.upd (o:=lst (map ref J)) Y);have a6:(upd U l (.lst (map ref J))) l=some (.lst (map ref J)):=aI;have a7:=s3.free Y;generalize upd U l (.lst (map ref J))=H4 at G a5 a6;have il:(L.insL s).length=L.m:=by unfold Lpd.insL;rw[bI]
  refine#[_,_,_,G _ _ P.ob,C.cl,C.ni,_,nZ _ _ _ _,_,rfl,#[_,G.seq (SqL.of a4)],#[_,G.seq (SqL.of P.hi)],jVY (K:=K) (a:=M) (b:=ins) (xs:=map int (ofF (L.m+1) f)) (ys:=map int (L.insL s)) (g:=mL K) (D:={ nx:=cQ (aE 2) (eQ Q),rt:=Q }) L.m (jYx K t M l L s f H) ?_ ?_ ?_ ?_ ?_ ?_ ?_]
  .refine#[none,none,J,rfl,G,a6,?_];have:(ofF L.n λ_=>((0,1):Int×Int))=ofF L.n (xR L s f 0):=jC λj _=>by
    unfold xR;show _=lo2 0 _;rw[jW2 D0]
   rw[←this];exact a5
  .rintro i Z I _ ⟨_,_,_,_,X,_⟩;exact#[X.seq (SqL.of a4),X.seq (SqL.of P.hi)]
  .rw[aA,bI];lia
  .rw[aA,il];exact aM _
  .rw[aA,aA,il];exact .inr (aM _)
  .rintro i x y p Z I hx d hi ⟨S,A,a0,rfl,X,a3,a2⟩ hp;obtain⟨v,rfl,hv⟩:=fZ hx;obtain⟨w,rfl,hw⟩:=fZ d;obtain⟨_,rfl⟩:=gA hv;obtain⟨_,rfl⟩:=gA hw;have s6:=aQ.upd (o:=tup [.int (f i),.int (s i)]) hp;have a8:a0.length=L.n:=by rw[a2.length,bI]
   (dsimp![mL,rT,eZ,cT,aZ,aE,tOp,rI0,kH,fS,cV,eJ,cD,aH,bE,tCB,jE,jN,eK,jO,cA,cP]);refine#[_,SqT.of aI,rfl,_,_,rfl,_,_,rfl,rfl,?_];have R:=s6 _ _ a3;have z:=a2.same s6;have a1:=X.trans s6;generalize upd I p (.tup [.int (f i),.int (s i)])=T at a1 R z;refine#[_,.inl (SqL.of R),?_];rw[aA,a8];refine#[_,rfl,kX (λa9=>?_) (λa9=>?_)]
   .have b3:s i<L.n:=#[];refine#[_,_,a1 _ _ P.ob,rfl,_,_,_,_,rfl,ca.same a1,_,_,rfl,Int.ne_of_gt D0,lim.bD s ok.n,λx y r H7 u b0 F=>?_];(dsimp![Kr,xH,aE]);refine#[_,u _ _ R,_,by rw[aA,a8];exact Eu #[] #[],?_];rw[dA];refine#[_,_,a0.set (s i) r,rfl,(a1.trans u).put a7,by rw[aI,List.map_set],?_];have e:ofF L.n (xR L s f (i+1))=(ofF L.n (xR L s f i)).set (s i) (x,y):=by
     rw[Xl];refine jC λj hj=>?_;unfold xR;rw[Xh ok hi];by_cases e:j=s i
     .rw[aJ e,aJ e,F.is D0]
     .rw[aF e,aF e]
    rw[e];exact eG.off (u _ _ R) (eG.set (SqT.of b0) (s i) (z.same u))
   .refine#[_,_,a0,rfl,a1,R,?_];have e:ofF L.n (xR L s f (i+1))=ofF L.n (xR L s f i):=jC λj hj=>by
     unfold xR;rw[Xh ok hi,aF #[]]
    rw[e];exact z
  .rintro Z I ⟨S,A,a0,rfl,X,a3,a2⟩;(dsimp![aE,cQ]);exact q l a0 I X a7 a3 a2
def Ko:LS:=["self"]
def xE(K:aR):Sp:=λvs H Q _=>∃t ins L s,vs=[.ref t]/\iX K H t ins L s/\L.Lim/\L.Ok s/\
 ∀l ps H',aQ H H'->H l=none->H' l=some (.lst (map ref ps))->eG K H' ps (ofF L.n (xR L s (λi=>L.T s i L.be) L.m))->Q (.ref l) H'
def zU(K:aR):TS:=(cQ (eZ (eI K "Corner") "spread" (lN K) [] E0 (aE 0) (aH (cD (kE K) [] E0 (aH (gS K (aE 0) "kept") (aH (tUn iK (tC (.int 1))) bE))) bE)))
def atI_end{l:List Int}{x:Int}(h:l[l.length-1]?=some x):atI (map int l) (-1)=some (.int x):=qR (by rw[aA,aX,h];rfl)
def Wd{K vs H Q E}(C:xW K)(h:xE K vs H Q E):zU K (eQ Q) (start Ko vs) H:=by
 obtain⟨t,ins,L,s,rfl,ca,lim,ok,q⟩:=h;obtain⟨f,b,c,k,bs,d,ks,P⟩:=id ca;have m1:=lim.m1;rw[show start Ko [ref t]=[some (.ref t)]from rfl];(dsimp![zU,gS,eZ,aE,tC,tUn,rU,iK,cQ,cD,aH,bE,cA]);refine#[_,_,P.ob,rfl,_,_,_,P.ob,C.cl,C.nk,_,jS _ _ _ _,_,_,_,_,L.m+1,rfl,SqL.of P.Kp,P.Ks,by rw[bI];lia,λr hr=>?_,λg S O R n=>?_]
 .obtain⟨i,hi,rfl⟩:=kT hr;rw[iM (L.keptL_last s i)];exact atI_end (by rw[Lpd.keptL_length];exact L.keptL_last s i)
 .have e:(ofF (L.m+1) (L.keptL s)).map (λr=>r.getD (L.m+1) 0)=ofF (L.m+1) λi=>L.T s i L.be:=by
   unfold ofF;rw[List.map_map];exact hU λi _=>iM (L.keptL_last s i)
  rw[e]at n;refine#[_,_,_,_,_,_,rfl,ca.same O,lim,ok,n,λl J M F Y a hp=>q l J M (O.trans F) (O.free Y) a hp]
def Dd:LS:=["self","column","told"]
def rL(K:aR):Sp:=λvs H Q _=>∃t ins L s,∃c:Nat,vs=[.ref t,.int c]/\iX K H t ins L s/\L.Lim/\L.Ok s/\c<L.n+L.m/\(∀i,i<L.m->s i≠c)/\
 ∀l ps H',aQ H H'->H l=none->H' l=some (.lst (map ref ps))->eG K H' ps (ofF L.n (mH L s c))->Q (.ref l) H'
def uV(K:aR):TE:=(tUn iK (aE 0))
def tK(K:aR):TS:=(cC (cT (eZ (eI K "Corner") "spread" (lN K) [] E0 (aE 0) (aH (dQ (dC K (eZ (eI K "Corner") "numbers" (iP K) [] E0 (aE 0) (aH (aE 1) bE))) [] (uV K)) bE)) (aZ 2)) (cC (fS (cV (tOp kH (aE 1) (tCB (jE K) (aH (aE 2) bE)))) (cT (iA (aH (tC (.int 1)) (aH (tC (.int 1)) bE))) (Kr (aE 2) (aE 1) xH)) eJ) (cQ (aE 2))))
def lo2_one{D:Int}(h:0<D):lo2 D D=(1,1):=by
 have:Lo D D 1 1:=#[by decide,by decide,by rw[fM],#[],#[]];exact(this.is h).symm
def Pp{K vs H Q E}(C:xW K)(h:rL K vs H Q E):tK K (eQ Q) (start Dd vs) H:=by
 obtain⟨t,ins,L,s,c,rfl,ca,lim,ok,hc,D,q⟩:=h;obtain⟨dx,b,sp,k,bs,ss,ks,P⟩:=id ca;have m1:=lim.m1;have A:=ok.pos;rw[show start Dd [ref t,int c]=[some (.ref t),some (.int c),none]from rfl];(dsimp![tK,eZ,dQ,dC,cC,cT,aZ,aE,tC,tOp,rI0,kH,cQ,fS,cV,eJ,aH,bE,iA,tCB,jE,cA,cP]);refine#[_,_,P.ob,rfl,_,_,P.ob,rfl,_,_,_,_,_,rfl,ca,lim,ok.n,hc,λM S O R a0=>?_];have B:(L.numL s c).length=L.m+1:=by unfold Lpd.numL;rw[bI]
 refine#[_,rfl,#[_,SqL.of a0],eR (K:=K) (a:=M) (xs:=map int (L.numL s c)) (WEq S λi N=>N=map int (ofF i λi=>-L.T s i (L.cv c))) ?_ #[rfl,rfl] ?_ ?_ ?_]
 .rw[aA,B,sizeLine_eq];lia
 .rintro i N U _ ⟨rfl,_⟩;exact SqL.of a0
 .rintro i x N U hi _ ⟨rfl,rfl⟩;obtain⟨v,rfl,hv⟩:=fZ hi;obtain⟨_,rfl⟩:=gA hv;(dsimp![uV,aE,tUn,rU,iK]);refine#[rfl,?_];show _=map int (ofF (i+1) λi=>-L.T s i (L.cv c));rw[fP,aY];rfl
 .rintro N U _ ⟨rfl,rfl⟩ l1 I;rw[aA,B];have F:=O.trans (aQ.upd (o:=lst (map int (ofF (L.m+1) λi=>-L.T s i (L.cv c)))) I);refine#[_,_,_,_,_,λi=>-L.T s i (L.cv c),rfl,ca.same F,lim,ok,aI,λl J w G Y d Z=>?_];have y:J.length=L.n:=by rw[Z.length,bI]
  have r:=F.trans G;have u:=F.free Y;refine#[_,rfl,_,.inl (SqL.of d),?_];rw[aA,y];have same:∀j,j≠c->mH L s c j=xR L s (λi=>-L.T s i (L.cv c)) L.m j:=λj hj=>by
   unfold mH xR;rw[aF hj,Int.add_zero]
  refine kX (λf=>#[sz2,λp hp=>?_]) (λf=>?_)
  ·(dsimp![Kr,xH,aE,cQ])
   have X:=aQ.upd (o:=tup [.int 1,.int 1]) hp;refine#[_,X _ _ d,_,by rw[aA,y];exact Eu #[] #[],?_];rw[dA];refine q l (J.set c p) _ ((r.trans X).put u) u (by rw[aI,List.map_set]) ?_;have e:ofF L.n (mH L s c)=(ofF L.n (xR L s (λi=>-L.T s i (L.cv c)) L.m)).set c (1,1):=by
    rw[Xl];refine jC λj hj=>?_;by_cases e:j=c
    .rw[aJ e];unfold mH;have:Lpd.spr L.m s (λi=>-L.T s i (L.cv c)) j=0:=kL λi hi=>aF λz=>D i hi (z.trans e);rw[this,aJ e,eP,lo2_one A]
    .rw[aF e,same j e]
   rw[e];exact eG.off (X _ _ d) (eG.set (g:=((1,1):Int×Int)) (SqT.of aI) c (Z.same X))
  .refine q l J w r u d ?_;have e:ofF L.n (mH L s c)=ofF L.n (xR L s (λi=>-L.T s i (L.cv c)) L.m):=jC λj hj=>same j #[];rw[e];exact Z
def Kn:LS:=["self"]
def xD(K:aR):Sp:=λvs H Q _=>∃t ins L s,vs=[.ref t]/\iX K H t ins L s/\L.Lim/\L.Ok s/\
 ∀l ps H',aQ H H'->H l=none->H' l=some (.lst (map ref ps))->eG K H' ps (ofF L.m λk=>lo2 (L.T s L.m (e1 k)) (L.D s))->Q (.ref l) H'
def Al(K:aR):TE:=(cD (nD K) [] E0 (aH (aE 0) (aH (eZ (eI K "Corner") "bottom" (iY K) [] E0 (aE 1) bE) bE)))
def zT(K:aR):TS:=(cQ (dQ (dC K (tSl (xS K) (tOp (fX K) (gS K (aE 0) "kept") (tUn iK (tC (.int 1)))) iC (lX (tCB (jE K) (aH (gS K (aE 0) "inside") bE))))) [0] (Al K)))
def Wc{K vs H Q E}(C:xW K)(h:xD K vs H Q E):zT K (eQ Q) (start Kn vs) H:=by
 obtain⟨t,ins,L,s,rfl,ca,lim,ok,q⟩:=h;obtain⟨f,b,z,k,bs,G,ks,P⟩:=id ca;have m1:=lim.m1;have A:=ok.pos;have w:(L.insL s).length=L.m:=by unfold Lpd.insL;rw[bI]
 obtain⟨p,_,d,B⟩:=P.last;rw[show start Kn [ref t]=[some (.ref t)]from rfl];(dsimp![zT,gS,dQ,dC,aE,tC,tOp,tUn,rU,iK,cQ,aH,bE,tCB,jE,tSl,lX,iC,xS,fX]);refine#[_,_,_,P.ob,C.cl,C.nk,_,jS _ _ _ _,_,rfl,_,SqL.of P.Kp,_,d,_,_,_,P.ob,C.cl,C.ni,_,nZ _ _ _ _,_,rfl,_,.inl (SqL.of P.hi),?_];rw[aA,w];refine#[_,rfl,_,SqL.of B,λj I=>?_];rw[jXp (by rw[Lpd.keptL_length];lia),Ot];have O:=aQ.upd (o:=lst (map int (ofF L.m λk=>L.T s L.m (e1 k)))) I;have h1:(upd H j (.lst (map int (ofF L.m λk=>L.T s L.m (e1 k))))) j=some (.lst (map int (ofF L.m λk=>L.T s L.m (e1 k)))):=aI;generalize upd H j (.lst (map int (ofF L.m λk=>L.T s L.m (e1 k))))=S at O h1;refine#[#[_,SqL.of h1],eR (K:=K) (a:=j) (xs:=map int (ofF L.m λk=>L.T s L.m (e1 k))) (λi N U=>aQ S U/\∃J,N=map ref J/\eG K U J (ofF i λk=>lo2 (L.T s L.m (e1 k)) (L.D s))) ?_ #[aQ.refl _,[],rfl,trivial] ?_ ?_ ?_]
 .rw[aA,bI,sizeLine_eq];lia
 .rintro i N U _ ⟨s3,_⟩;exact s3.seq (SqL.of h1)
 .rintro i x N U hi _ ⟨s3,J,rfl,c⟩;obtain⟨v,rfl,hv⟩:=fZ hi;obtain⟨g,rfl⟩:=gA hv;(dsimp![Al,eZ,cN,bR,cR,bH,aE,cD,aH,bE,cA]);refine#[_,_,(O.trans s3) _ _ P.ob,rfl,_,_,_,_,rfl,ca.same (O.trans s3),_,_,rfl,Int.ne_of_gt A,lim.bD s ok.n,λx y r M u e F=>#[s3.trans u,J++[r],by rw[aY];rfl,?_]];rw[fP];refine eG.snoc (c.same u) ?_;rw[←F.is A];exact SqT.of e
 .rintro N U _ ⟨s3,J,rfl,c⟩ l Y;rw[aA,bI]at c;exact q l J _ ((O.trans s3).trans (aQ.upd Y)) ((O.trans s3).free Y) aI (c.same (aQ.upd Y))
def N_best:LS:=["rows","bounds","goal","bound","made","limits","aims","lists","ended","xs"]
structure BeIn(K:aR)(H:Hp)(a b c:Addr)(rps bps gps:List Addr)(frs:jD)(fb fg:gB):Prop where
 ha:H a=some (.lst (map ref rps))
 hr:xV K H rps frs
 hb:H b=some (.lst (map ref bps))
 hbs:eG K H bps fb
 hg:H c=some (.lst (map ref gps))
 hgs:eG K H gps fg
 gb:∀f∈fb,G9 f
noncomputable def wordO:Option Nat->Str
 |none=>"best"
 |some _=>"endless"
noncomputable def wayO(fl:Bool)(frs:jD)(fb fg:gB)(s:Nat->Nat):Option Nat->gB
 |none=>ofF frs.length λk=>fov (ftm (lo2 ((bP fl frs fb fg).T s frs.length (e1 k)) ((bP fl frs fb fg).D s)) (whF (frs.getD k []))) (whF fg)
 |some c=>ofF fg.length (mH (bP fl frs fb fg) s c)
structure BeOut(K:aR)(H':Hp)(v:Addr)(fl:Bool)(frs:jD)(fb fg:gB)(s:Nat->Nat)(o:Option Nat)(x w:Addr)(xp wp:List Addr):Prop where
 ok:(bP fl frs fb fg).Ok s
 io:jY (bP fl frs fb fg) s
 un:UnO (bP fl frs fb fg) s o
 hv:H' v=some (.tup [.str (wordO o),.ref x,.ref w])
 hx:H' x=some (.lst (map ref xp))
 hxs:eG K H' xp (ofF fg.length λj=>fov (xR (bP fl frs fb fg) s (λi=>(bP fl frs fb fg).T s i (bP fl frs fb fg).be) frs.length j) (whF (bnF frs fb)))
 hw:H' w=some (.lst (map ref wp))
 hws:eG K H' wp (wayO fl frs fb fg s o)
def Ve(K:aR):Sp:=λvs H Q _=>∃a b c g k e frs fb fg,vs=[.ref a,.ref b,.ref c]/\BeIn K H a b c g k e frs fb fg/\
 (∀f∈fb,0<=f.1)/\BeO frs fb fg/\1<=frs.length/\1<=fg.length/\∀v fl s o x w d h H',aQ H H'->H x=none->H w=none->BeOut K H' v fl frs fb fg s o x w d h->Q (.ref v) H'
def iv_best(a b c:Addr)(C:Hp)(fb:gB):NS:=λi Z U=>∃S,Z=[some (.ref a),some (.ref b),some (.ref c),S,none,none,none,none,none,none]/\aQ C U/\∀f∈fb.take i,0<=f.1
def Rs(K:aR):TE:=(cD (Le K) [] E0 (aH (cD (uB K) [] E0 (aH (aE 0) (aH (tOp (dU K) (aE 1) (tC (.int 0))) bE))) (aH (tOp (dU K) (aE 2) (tC (.int 0))) bE)))
def Rl(K:aR):TG:=(jN K 2 (eK (aZ 0) (eK (aZ 1) jO)))
def qG(K:aR):TS:=(cC (fS (cV (tOp Ww (tOp (dU K) (aE 8) (tC (.int 1))) (tC .non))) (cQ (iA (aH (tC (.str "endless")) (aH (aE 9) (aH (eZ (eI K "Corner") "ways" (rL K) [] E0 (tOp (dU K) (aE 8) (tC (.int 0))) (aH (tOp (dU K) (aE 8) (tC (.int 1))) bE)) bE))))) eJ) (cQ (iA (aH (tC (.str "best")) (aH (aE 9) (aH (gY (mR K (aH (eZ (eI K "Corner") "ys" (xD K) [] E0 (tOp (dU K) (aE 8) (tC (.int 0))) bE) (aH (aE 4) bE))) 2 [6] (Rl K) (Rs K)) bE))))))
def Rr(K:aR):TE:=(cD (Le K) [] E0 (aH (aE 0) (aH (tOp (dU K) (aE 1) (tC (.int 0))) bE)))
def Hv(K:aR):TS:=(cC (cT (dQ (dC K (eZ (eI K "Corner") "xs" (xE K) [] E0 (tOp (dU K) (aE 8) (tC (.int 0))) bE)) [5] (Rr K)) (aZ 9)) (qG K))
def Ri(K:aR):TS:=(cC (cT (cD (rD K) [] E0 (aH (tOp qJ (aE 7) (kQ (aH (tOp qJ (cD (mE K) [] E0 (aH (tOp (dU K) (aE 6) (tC (.int 1))) bE)) (kQ (aH (tC (.int 0)) bE))) bE))) bE)) (aZ 8)) (Hv K))
def Rq(K:aR):TE:=(tOp qJ (tOp (dU K) (aE 0) (tC (.int 1))) (kQ (aH (aE 1) bE)))
def Rk(K:aR):TG:=(jN K 2 (eK (aZ 0) (eK (aZ 1) jO)))
def Hu(K:aR):TS:=(cC (cT (gY (mR K (aH (aE 4) (aH (tOp (dU K) (aE 5) (tC (.int 1))) bE))) 2 [] (Rk K) (Rq K)) (aZ 7)) (Ri K))
def Rp(K:aR):TE:=(cD (uB K) [] E0 (aH (aE 0) (aH (tOp (dU K) (aE 1) (tC (.int 0))) bE)))
def Rj(K:aR):TG:=(jN K 2 (eK (aZ 0) (eK (aZ 1) jO)))
def Rh(K:aR):TS:=(cC (cT (cD (yT K) [] E0 (aH (gY (mR K (aH (aE 1) (aH (aE 4) bE))) 2 [] (Rj K) (Rp K)) bE)) (aZ 5)) (cC (cT (cD (yT K) [] E0 (aH (aE 2) bE)) (aZ 6)) (Hu K)))
def Rn(K:aR):TE:=(cD (yT K) [] E0 (aH (aE 0) bE))
def Ht(K:aR):TS:=(cC (cT (dQ (dC K (aE 0)) [] (Rn K)) (aZ 4)) (Rh K))
def jYX(K:aR):TS:=(fS (tB (cD (Nj K) [] E0 (aH (aE 3) (aH (iA (aH (tC (.int 0)) (aH (tC (.int 1)) bE))) bE)))) jL eJ)
def Zu(K:aR):TS:=(cC (gI (dC K (aE 1)) (aZ 3) (jYX K)) (Ht K))
structure Xc(K:aR)(G:Hp)(md lv lf ll av af ag:Addr)(ms:List Addr)(frs:jD)(fb fg:gB):Prop where
 hmd:G md=some (.lst (map ref ms))
 hm:xY G ms frs
 hlv:G lv=some (.tup [.ref lf,.ref ll])
 hlf:G lf=some (.tup [.int (whF (bnF frs fb)).1,.int (whF (bnF frs fb)).2])
 hll:G ll=some (.lst (map int (whL (bnF frs fb))))
 hav:G av=some (.tup [.ref af,.ref ag])
 haf:G af=some (.tup [.int (whF fg).1,.int (whF fg).2])
 hag:G ag=some (.lst (map int (whL fg)))
def Xc.same{f:Hp}{Y b c d e:Addr}{C:List Addr}{frs:jD}{fb fg:gB}(h:Xc K G a Y b c d af e C frs fb fg)(s:aQ G f):Xc K f a Y b c d af e C frs fb fg:=
 #[s _ _ h.hmd,h.hm.same s,s _ _ h.hlv,s _ _ h.hlf,s _ _ h.hll,s _ _ h.hav,s _ _ h.haf,s _ _ h.hag]
def Xm(l:List Int):ofF l.length (λj=>l.getD j 0)=l:=by
 refine List.ext_getElem? λj=>?_;by_cases h:j<l.length
 .rw[fO _ h,Fg h]
 .rw[cL (by rw[bI];lia),cL #[]]
def rowL_of{e:Bool}{frs:jD}{fb fg:gB}(B:BeO frs fb fg){r:gB}(F:frs[i]?=some r):(bP e frs fb fg).rowL i=whL r++[(whL (bnF frs fb)).getD i 0]:=by
 unfold Lpd.rowL;have Y:=(aK.mp F).1;have eq:frs.getD i []=r:=by rw[aP,F];rfl
 have e1:ofF fg.length (λj=>(bP e frs fb fg).a j i)=whL r:=by
  rw[show(λj=>(bP e frs fb fg).a j i)=λj=>(whL r).getD j 0 from funext λj=>by
   show(if i<frs.length then(whL (frs.getD i [])).getD j 0 else _)=_;rw[aJ Y,eq],←B.lr r (aL F),←kC]
  exact Xm _
 show ofF fg.length (λj=>(bP e frs fb fg).a j i)++_=_;rw[e1];rfl
def jYW{e:Bool}{frs:jD}{fb fg:gB}(B:BeO frs fb fg):(bP e frs fb fg).rowL frs.length=((whL fg).map λx=>-x)++[0]:=by
 unfold Lpd.rowL;have e1:ofF fg.length (λj=>(bP e frs fb fg).a j frs.length)=(whL fg).map λx=>-x:=by
  conv=>rhs;rw[←Xm (whL fg),kC]
  unfold ofF;rw[List.map_map];refine hU λj _=>?_;show(if frs.length<frs.length then _ else _)=_;rw[aF (eW _)];rfl
 have C:(whL (bnF frs fb)).getD frs.length 0=0:=by
  rw[aP,cL (by rw[kC,jM B.lb];exact aM _)];rfl
 show ofF fg.length (λj=>(bP e frs fb fg).a j frs.length)++[(whL (bnF frs fb)).getD frs.length 0]=_;rw[e1,C]
def Zz{frs:jD}{fb fg:gB}(B:BeO frs fb fg):∀f∈bnF frs fb,G9 f:=λf hf=>by
 have a:=jM B.lb;obtain⟨i,hi⟩:=cJ hf;have j:i<frs.length:=by have:=(aK.mp hi).1;lia
 have b:i<fb.length:=by rw[B.lb];exact j
 have e1:=aD j;have C:=aD b;rw[qC C e1]at hi;obtain rfl:=aV hi;have h:=iV λf hf=>(B.gr _ (cO j) f hf).1;have tb:=B.tb _ (cO b) _ (cO j);have z:=bF (B.gb _ (cO b)).1 h.2;have F:=dZ (t:=(fb[i]).1*(whF frs[i]).1) z;exact#[F.pos,(F.bb tb.2 tb.1).1,(F.bb tb.2 tb.1).2]
def jJw{b c md lv lf ll av ag:Addr}{ms:List Addr}{frs:jD}{fb fg:gB}(B:BeO frs fb fg)(M:Xc K G md lv lf ll av af ag ms frs fb fg)(s0:aQ H G){p t ins:Addr}{L2:Lpd}{o:Option Nat}(O:jZx K G p t ins (bP false frs fb fg) L2 s o)
  (q:∀v fl s o x w xp wp d,aQ H d->H x=none->H w=none->BeOut K d v fl frs fb fg s o x w xp wp->Q (.ref v) d) {o7 o9:Option V}:
  Hv K (eQ Q) [some (.ref a),some (.ref b),some (.ref c),o3,some (.ref md),some (.ref lv),some (.ref av),o7,some (.ref p),o9] G:=by
 obtain⟨fl,C⟩:∃fl,L2=bP fl frs fb fg:=by
  rcases O.e with e |e
  .exact#[false,e]
  .exact#[true,e]
 subst C;have ok:=O.ok;have io:=O.io;have un:=O.un;have a5:=O.ca;have l:=O.hp;have e4:=Zz B;have lim:=B.lim fl;have m1:frs.length<=100:=lim.m1;have n1:fg.length<=100:=lim.n1;have e5:=M.hm.length;have D0:=ok.pos;obtain⟨f6,b5,f7,k5,f8,f9,g0,P⟩:=id a5;have wb:=iV λf hf=>(e4 f hf).1;have wg:=iV λf hf=>(B.gg f hf).1;(dsimp?[Hv,eZ,dQ,dC]);refine#[_,SqT.of l,_,iR,_,rfl,_,_,P.ob,rfl,_,_,_,_,rfl,a5,lim,ok,λxl d2 e6 I g1 a6 hxs=>?_];have a4:=I;have d3:d2.length=fg.length:=by rw[hxs.length,bI];rfl
 have e7:∀j,BB 20000 (Lpd.spr (bP fl frs fb fg).m s (λi=>(bP fl frs fb fg).T s i (bP fl frs fb fg).be) j):=spr_bb ok λi hi=>lim.bb s i ok.n #[];refine#[_,rfl,#[_,SqL.of a6],eR (K:=K) (a:=xl) (xs:=map ref d2) (λi N a1=>aQ e6 a1/\∃J,N=map ref J/\eG K a1 J (ofF i λj=>fov (xR (bP fl frs fb fg) s (λi=>(bP fl frs fb fg).T s i (bP fl frs fb fg).be) frs.length j) (whF (bnF frs fb)))) ?_ #[aQ.refl _,[],rfl,trivial] ?_ ?_ ?_]
 .rw[aA,d3,sizeLine_eq];lia
 .rintro i N a1 _ ⟨Z,_⟩;exact Z.seq (SqL.of a6)
 .rintro i x N a1 hi _ ⟨Z,J,rfl,c5⟩;obtain⟨p,rfl,hp⟩:=eU hi;obtain⟨f,ef,hF⟩:=hxs.get hp;obtain⟨X,rfl⟩:=gA ef;have F:=dZ (t:=Lpd.spr (bP fl frs fb fg).m s (λi=>(bP fl frs fb fg).T s i (bP fl frs fb fg).be) i) D0;have a7:=F.bb (e7 i) ((lim.bD s ok.n).mono (show 9000<=20000 by decide));have b3:(lo2 (Lpd.spr (bP fl frs fb fg).m s (λi=>(bP fl frs fb fg).T s i (bP fl frs fb fg).be) i) ((bP fl frs fb fg).D s)).2<=(bP fl frs fb fg).D s:=by have h1:=F.by_;have h2:=F.pos;lia
  (dsimp?[Rr,cN,bR,cR,bH]);refine#[_,SqT.of ((a4.trans Z) _ _ M.hlv),_,iR,_,_,_,_,_,_,rfl,#[Z.tup hF,SqT.of ((a4.trans Z) _ _ M.hlf),a7.1,a7.2,B.wb.1,B.wb.2],F.pos,wb.1,Bo (B.ox fl s ok.n) (bX F.pos) b3 (bX wb.1),λr e8 U hr=>#[Z.trans U,J++[r],by rw[aY];rfl,?_]];rw[fP];exact eG.snoc (c5.same U) (SqT.of hr)
 .rintro N a1 _ ⟨Z,xp,rfl,c6⟩ xv b7;rw[aA,d3]at c6;have U:=Z.trans (aQ.upd (o:=lst (map ref xp)) b7);have a2:=c6.same (aQ.upd (o:=lst (map ref xp)) b7);have a3:(upd a1 xv (.lst (map ref xp))) xv=some (.lst (map ref xp)):=aI;generalize upd a1 xv (.lst (map ref xp))=e8 at U a2 a3;have c2:H xv=none:=((s0.trans a4).trans Z).free b7;clear Z c6 b7;have a8:=a4.trans U;have c3:=a5.same (I.trans U);have d4:=P.same (I.trans U);(dsimp?[qG,Ww,eZ]);refine#[_,SqT.of ((I.trans U) _ _ l),_,iB,?_];cases o with
  |some c=>
   (dsimp?[qG];try simp_arith[qG,oV,reduceCtorEq,decide_false,Bool.not_false,if_true])
   refine#[_,SqT.of ((I.trans U) _ _ l),_,iR,_,rfl,_,_,d4.ob,rfl,_,SqT.of ((I.trans U) _ _ l),_,iB,_,_,_,_,_,rfl,c3,lim,ok,un.1,λi hi=>Lpd.out un.2.1 hi,λwl wp d5 g b8 c7 hws=>#[sz3,λv hv=>?_]];have Y:=aQ.upd (o:=tup [.str "endless",.ref xv,.ref wl]) hv;exact q v fl s (some c) xv wl xp wp _ (((s0.trans a8).trans g).trans Y) c2 ((s0.trans a8).free b8) #[ok,io,un,aI,Y _ _ (g _ _ a3),(a2.same g).same Y,Y _ _ c7,hws.same Y]
  |none=>
   (dsimp?[qG,gY,mR];try simp_arith[qG,oV,decide_true,Bool.not_true,Bool.false_eq_true,if_false,gY,mR])
   refine#[_,SqT.of ((I.trans U) _ _ l),_,iR,?_];refine#[_,_,d4.ob,rfl,_,_,_,_,rfl,c3,lim,ok,λyl d6 d5 g g3 a9 d7=>?_];have c8:d6.length=frs.length:=by rw[d7.length,bI];rfl
   have a0:=a8.trans g;refine#[_,rfl,#[_,SqL.of a9],#[_,SqL.of (a0 _ _ M.hmd)],lM (K:=K) (a:=yl) (b:=md) (xs:=map ref d6) (ys:=map ref ms) (λi N b0=>aQ d5 b0/\∃J,N=map ref J/\eG K b0 J (ofF i λk=>fov (ftm (lo2 ((bP fl frs fb fg).T s frs.length (e1 k)) ((bP fl frs fb fg).D s)) (whF (frs.getD k []))) (whF fg))) ?_ ?_ #[aQ.refl _,[],rfl,trivial] ?_ ?_ ?_]
   .rw[aA,c8,sizeLine_eq];lia
   .rw[aA,aA,c8,e5]
   .rintro i N b0 _ ⟨Y,_⟩;exact#[Y.seq (SqL.of a9),Y.seq (SqL.of (a0 _ _ M.hmd))]
   .rintro i x y p N b0 hx hy _ ⟨Y,J,rfl,c5⟩ hp os ho;obtain⟨py,rfl,e9⟩:=eU hx;obtain⟨pm,rfl,f1⟩:=eU hy;obtain⟨f,ef,hF⟩:=d7.get e9;obtain⟨f2,rfl⟩:=gA ef;obtain⟨r,rf,g4,er,hv,f3,g5⟩:=M.hm.get f1;have b9:=aL er;have f4:frs.getD i []=r:=by rw[aP,er];rfl
    obtain⟨A,o3,rfl⟩:∃S A,os=[S,A]:=by
     match os,ho with
     | [S,A],_=>exact#[S,A,rfl]
    have h:=Y.trans (aQ.upd (o:=tup [.ref py,.ref pm]) hp);have w:=iV λf hf=>(B.gr r b9 f hf).1;have c4:i<frs.length:=f2;obtain⟨d8,c9⟩:=B.oy fl s ok.n r b9;have c9:=c9 i c4;have F:=dZ (t:=(bP fl frs fb fg).T s frs.length (e1 i)) D0;have a7:=F.bb (lim.bk s frs.length i ok.n (aM _) (jT c4)) ((lim.bD s ok.n).mono (show 9000<=20000 by decide));have b3:(lo2 ((bP fl frs fb fg).T s frs.length (e1 i)) ((bP fl frs fb fg).D s)).2<=(bP fl frs fb fg).D s:=by have h1:=F.by_;have h2:=F.pos;lia
    (dsimp?[Rl,Rs,cN,bR,cR,bH]);refine#[_,SqT.of aI,rfl,_,_,rfl,_,_,rfl,rfl,#[[some (.ref py),some (.ref pm)],rfl,rfl],_,rfl,_,SqT.of ((a0.trans h) _ _ hv),_,iR,?_];have b1:BB 9000 ((bP fl frs fb fg).D s*(whF r).2):=d8.of_le (by
     rw[cH ((bP fl frs fb fg).D s*(whF r).2)];exact Nat.le_mul_of_pos_right _ #[])
    have b2:=Bo b1 (bX F.pos) b3 (bX w.2);have z2:=bF F.pos w.2;have d1:=dZ (t:=(lo2 ((bP fl frs fb fg).T s frs.length (e1 i)) ((bP fl frs fb fg).D s)).1*(whF r).1) z2;have f5:=lo2_le (t:=(lo2 ((bP fl frs fb fg).T s frs.length (e1 i)) ((bP fl frs fb fg).D s)).1*(whF r).1) z2;have b4:BB 20000 ((lo2 ((bP fl frs fb fg).T s frs.length (e1 i)) ((bP fl frs fb fg).D s)).1*(whF r).1):=c9.of_le (by
     rw[cH,cH];exact gO F.bx (aM _))
    have d9:=d1.bb b4 (b2.mono (show 9000<=20000 by decide));refine#[_,_,_,_,_,_,rfl,#[h.tup hF,SqT.of ((a0.trans h) _ _ f3),a7.1,a7.2,(B.wr r b9).1,(B.wr r b9).2],F.pos,w.2,b2,λu g6 c1 R=>?_];have b5:BB 9000 ((lo2 ((bP fl frs fb fg).T s frs.length (e1 i)) ((bP fl frs fb fg).D s)).2*(whF r).2*(whF fg).1):=Bo d8 (bX z2) (Int.mul_le_mul_of_nonneg_right b3 (bX w.2)) (bX wg.1);refine#[_,SqT.of ((a0.trans (h.trans c1)) _ _ M.hav),_,iR,_,_,_,_,_,_,rfl,#[SqT.of R,SqT.of ((a0.trans (h.trans c1)) _ _ M.haf),d9.1,d9.2,B.wg.1,B.wg.2],d1.pos,wg.1,Bo b5 (bX d1.pos) f5 (bX wg.1),λz g7 e0 hz=>#[h.trans (c1.trans e0),J++[z],by rw[aY];rfl,?_]];rw[fP];refine eG.snoc (((c5.same (aQ.upd hp)).same c1).same e0) ?_;rw[f4];exact SqT.of hz
   .rintro N b0 _ ⟨Y,wp,rfl,e3⟩ wl b8;rw[aA,c8]at e3;refine#[sz3,λv hv=>?_];have h:=(aQ.upd (o:=lst (map ref wp)) b8).trans (aQ.upd (o:=tup [.str "best",.ref xv,.ref wl]) hv);exact q v fl s none xv wl xp wp _ (((s0.trans a0).trans Y).trans h) c2 (((s0.trans a0).trans Y).free b8) #[ok,io,un,aI,h _ _ ((g.trans Y) _ _ a3),(a2.same (g.trans Y)).same h,aQ.upd hv _ _ aI,e3.same h]
def jJv{b c md Y lf ll av ag:Addr}{C:List Addr}{frs:jD}{fb fg:gB}(B:BeO frs fb fg)(U:∀f∈fb,0<=f.1)(b3:1<=frs.length)(X:1<=fg.length)(M:Xc K G md Y lf ll av af ag C frs fb fg)(s0:aQ H G)
  (q:∀v fl s o x w xp h d,aQ H d->H x=none->H w=none->BeOut K d v fl frs fb fg s o x w xp h->Q (.ref v) d) {o7 o8 o9:Option V}:
  Hu K (eQ Q) [some (.ref a),some (.ref b),some (.ref c),o3,some (.ref md),some (.ref Y),some (.ref av),o7,o8,o9] G:=by
 have lim:=B.lim false;have m1:frs.length<=100:=lim.m1;have n1:fg.length<=100:=lim.n1;have a4:=M.hm.length;have b4:=jM B.lb;have wl:(whL (bnF frs fb)).length=frs.length:=by rw[kC,b4]
 (dsimp?[Hu,gY,mR]);refine#[_,SqT.of M.hlv,_,iB,_,rfl,#[_,SqL.of M.hmd],#[_,SqL.of M.hll],lM (K:=K) (a:=md) (b:=ll) (xs:=map ref C) (ys:=map int (whL (bnF frs fb))) (λi N T=>aQ G T/\∃ls,N=map ref ls/\eL T ls (ofF i (bP false frs fb fg).rowL)) ?_ ?_ #[aQ.refl _,[],rfl,trivial] ?_ ?_ ?_]
 .rw[aA,sizeLine_eq,a4];lia
 .rw[aA,aA,a4,wl]
 .rintro i N T _ ⟨s6,_⟩;exact#[s6.seq (SqL.of M.hmd),s6.seq (SqL.of M.hll)]
 .rintro i x y p N T hx hy _ ⟨s6,ls,rfl,a1⟩ hp os D;obtain⟨z,rfl,b5⟩:=eU hx;obtain⟨v,rfl,hv⟩:=fZ hy;obtain⟨r,rf,rl,er,b7,c3,b8⟩:=M.hm.get b5;obtain⟨A,o3,rfl⟩:∃S A,os=[S,A]:=by
   match os,D with
   | [S,A],_=>exact#[S,A,rfl]
  have b9:=aL er;have u:=s6.trans (aQ.upd (o:=tup [.ref z,.int v]) hp);(dsimp?[Rk,Rq,qJ,cN,bR,cR,bH]);refine#[_,SqT.of aI,rfl,_,_,rfl,_,_,rfl,rfl,#[[some (.ref z),some (.int v)],rfl,rfl],_,rfl,_,SqT.of (u _ _ b7),_,iB,?_];refine#[sz1,λZ J=>#[_,rfl,_,aQ.upd J _ _ (u _ _ b8),_,aI,by rw[aA,kC,B.lr r b9,sizeLine_eq];show fg.length+1<=_;lia,λl3 a8=>?_]];refine#[(u.trans (aQ.upd J)).trans (aQ.upd a8),ls++[l3],by rw[aY];rfl,?_];rw[fP];refine eL.snoc (((a1.same (aQ.upd hp)).same (aQ.upd J)).same (aQ.upd a8)) ?_;rw[aI,rowL_of B er,iM hv,aY];rfl
 .rintro N T _ ⟨s6,ls,rfl,a1⟩ l7 a9;rw[aA,a4]at a1;have u:=s6.trans (aQ.upd (o:=lst (map ref ls)) a9);have a0:=a1.same (aQ.upd (o:=lst (map ref ls)) a9);have a2:(upd T l7 (.lst (map ref ls))) l7=some (.lst (map ref ls)):=aI;generalize upd T l7 (.lst (map ref ls))=H7 at u a0 a2;have c1:ls.length=frs.length:=by rw[a0.length,bI]
  (dsimp?[Ri,qJ]);refine#[_,SqT.of (u _ _ M.hav),_,iB,_,_,rfl,SqL.of (u _ _ M.hag),by rw[kC];lia,λlt H8 s8 _ c2=>#[sz1,λl0 a5=>#[_,rfl,_,aQ.upd a5 _ _ c2,_,aI,by rw[aA,aA,kC,sizeLine_eq];show fg.length+1<=_;lia,λlg b0=>#[sz1,λP a6=>?_]]]];have e:=((u.trans s8).trans (aQ.upd (o:=lst [.int 0]) a5)).trans (aQ.upd (o:=lst (map int ((whL fg).map λx=>-x)++[.int 0])) b0);have a7:=(s8.trans (aQ.upd (o:=lst [.int 0]) a5)).trans (aQ.upd (o:=lst (map int ((whL fg).map λx=>-x)++[.int 0])) b0);have a3:(upd (upd H8 l0 (.lst [.int 0])) lg (.lst (map int ((whL fg).map λx=>-x)++[.int 0]))) lg=some (.lst (map int ((bP false frs fb fg).rowL frs.length))):=by rw[aI,jYW B,aY];rfl
  generalize upd (upd H8 l0 (.lst [.int 0])) lg (.lst (map int ((whL fg).map λx=>-x)++[.int 0]))=H9 at e a7 a3 a6;refine#[_,aQ.upd a6 _ _ (a7 _ _ a2),_,aI,by rw[aA,c1,sizeLine_eq];show frs.length+1<=_;lia,λZ J=>?_];have g:=(aQ.upd (o:=lst [.ref lg]) a6).trans (aQ.upd (o:=lst (map ref ls++[.ref lg])) J);have R:xU (upd (upd H9 P (.lst [.ref lg])) Z (.lst (map ref ls++[.ref lg]))) Z (ls++[lg]) (bP false frs fb fg):=by
   refine#[by rw[aI,aY];rfl,?_];show eL _ _ (ofF (frs.length+1) _);rw[fP];exact eL.snoc ((a0.same a7).same g) (g _ _ a3)
  generalize upd (upd H9 P (.lst [.ref lg])) Z (.lst (map ref ls++[.ref lg]))=n at g R;obtain⟨q0,q1,F,q9,st,f1,f2⟩:=B.fit;have I:Uc n Z (ls++[lg]) (bP false frs fb fg) q0 q1:=#[R,rfl,b3,X,lim,F,q9,st,λj k _ _=>f1 j k,λk _=>f2 k,λi _=>jJa (λf hf=>(Zz B f hf).1) (jZl B U) i];exact#[Z,_,_,_,_,rfl,I,λp t ins L2 s o m l O=>jJw B (M.same ((e.trans g).trans l)) (s0.trans ((e.trans g).trans l)) O q]
def rd_best{K}:RdS K Ve Zu N_best:=by
 rintro m H Q E ⟨a,b,c,b0,k,c7,frs,fb,fg,rfl,I,qn,B,b3,b4,q⟩;have P:=I.hbs.length;rw[show start N_best [ref a,ref b,ref c]=[some (.ref a),some (.ref b),some (.ref c),none,none,none,none,none,none,none]from rfl];(dsimp![Zu,gI,dC,cC,aZ,aE]);refine#[#[_,SqL.of I.hb],iU (K:=K) (a:=b) (xs:=map ref k) (g:=aZ 3) (D:={ nx:=Ht K (eQ Q),rt:=Q }) (iv_best a b c H fb) ?_ ?_ ?_ ?_]
 .exact#[none,rfl,aQ.refl _,(λ_ h=>nomatch h)]
 .rintro i Z U _ ⟨_,_,s3,_⟩;exact s3.seq (SqL.of I.hb)
 .rintro i x Z U hi ⟨S,rfl,s3,al⟩;obtain⟨p,rfl,hp⟩:=eU hi;obtain⟨f,O,hF⟩:=I.hbs.get hp;have hm:=aL O;have gf:=I.gb f hm;have one:BB 20000 (1:Int):=by show(1:Int).natAbs<2^20000;exact Nat.one_lt_two_pow (by decide)
  have b5:BB 20000 (0:Int):=by show(0:Int).natAbs<2^20000;exact dH _
  (dsimp![jL,aZ,aE,tC,fS,tB,eJ,cD,aH,bE,iA,jL,cA]);refine#[sz2,λz M=>?_];have G:=s3.trans (aQ.upd (o:=tup [.int 0,.int 1]) M);refine#[_,_,_,_,_,_,rfl,#[G.tup hF,SqT.of aI,gf.2.1,gf.2.2.mono (by decide),b5,one],_,rfl,kX (λR=>?_) (λR=>?_)]
  .have:=qn f hm;simp only[cP,dR,dY]at R;lia
  .refine#[_,rfl,G,λg hg=>?_];rw[dI O]at hg;rcases cW.mp hg with hg |hg
   .exact al g hg
   .rw[bZ.mp hg];simp only[cP,dR,dY]at R;lia
 .rintro Z U ⟨S,rfl,s3,al⟩;rw[aA,P,cB]at al;have b7:=I.hr.length;have m1:frs.length<=100:=(B.lim false).m1;have n1:fg.length<=100:=(B.lim false).n1;(dsimp?[Ht,dQ,dC]);refine#[#[_,s3.seq (SqL.of I.ha)],eR (K:=K) (a:=a) (xs:=map ref b0) (λi N w=>aQ H w/\∃C,N=map ref C/\xY w C (frs.take i)) ?_ #[s3,[],rfl,trivial] ?_ ?_ ?_]
  .rw[aA,sizeLine_eq];lia
  .rintro i N w _ ⟨G,_⟩;exact G.seq (SqL.of I.ha)
  .rintro i x N w hi _ ⟨G,C,rfl,a1⟩;obtain⟨p,rfl,hp⟩:=eU hi;obtain⟨r,qs,F,a8,b8⟩:=I.hr.get hp;have j:=aL F;(dsimp![Rn,aE,cD,aH,bE,cA]);refine#[_,_,_,rfl,G.seq (SqL.of a8),b8.same G,B.gr r j,by rw[B.lr r j];lia,B.cr r j,λv f l H5 X hv hf Y=>#[G.trans X,C++[v],by rw[aY];rfl,?_]];rw[dI F];exact xY.append (show xY H5 [v] [r]from#[#[f,l,hv,hf,Y],trivial]) (a1.same X)
  .rintro N w _ ⟨G,C,rfl,a1⟩ md hmd;rw[aA,b7,cB]at a1;have X:=G.trans (aQ.upd (o:=lst (map ref C)) hmd);have a3:=a1.same (aQ.upd (o:=lst (map ref C)) hmd);have a0:(upd w md (.lst (map ref C))) md=some (.lst (map ref C)):=aI;generalize upd w md (.lst (map ref C))=H5 at X a3 a0;clear G a1 hmd s3;have b9:=a3.length;(dsimp?[Rh,gY,mR]);refine#[#[_,X.seq (SqL.of I.hb)],#[_,SqL.of a0],lM (K:=K) (a:=b) (b:=md) (xs:=map ref k) (ys:=map ref C) (λi N T=>aQ H5 T/\∃n,N=map ref n/\eG K T n ((bnF frs fb).take i)) ?_ ?_ #[aQ.refl _,[],rfl,trivial] ?_ ?_ ?_]
   .rw[aA,sizeLine_eq,P,B.lb];lia
   .rw[aA,aA,P,B.lb,b9]
   .rintro i N T _ ⟨s,_⟩;exact#[(X.trans s).seq (SqL.of I.hb),s.seq (SqL.of a0)]
   .rintro i x y p N T hx d _ ⟨s,n,rfl,a2⟩ hp os ho;obtain⟨pb,rfl,c1⟩:=eU hx;obtain⟨pm,rfl,c2⟩:=eU d;obtain⟨f,O,hF⟩:=I.hbs.get c1;obtain⟨r,rf,rl,F,hv,c3,c8⟩:=a3.get c2;obtain⟨A,J,rfl⟩:∃S A,os=[S,A]:=by
     match os,ho with
     | [S,A],_=>exact#[S,A,rfl]
    have j:=aL F;have a9:=aL O;have gf:=B.gb f a9;have u:=s.trans (aQ.upd (o:=tup [.ref pb,.ref pm]) hp);have wp:=iV λf hf=>(B.gr r j f hf).1;(dsimp?[Rj,Rp]);refine#[_,SqT.of aI,rfl,_,_,rfl,_,_,rfl,rfl,#[[some (.ref pb),some (.ref pm)],rfl,rfl],_,rfl,_,SqT.of (u _ _ hv),_,iR,?_];refine#[_,_,_,_,_,_,rfl,#[(X.trans u).tup hF,SqT.of (u _ _ c3),gf.2.1,gf.2.2.mono (by decide),(B.wr r j).1,(B.wr r j).2],gf.1,wp.2,(B.tb f a9 r j).1,λt H8 s8 ht=>#[u.trans s8,n++[t],by rw[aY];rfl,?_]];rw[dI (qC O F)];exact eG.snoc ((a2.same (aQ.upd hp)).same s8) (SqT.of ht)
   .rintro N T _ ⟨s,n,rfl,a2⟩ tl a6;have c4:=jM B.lb;rw[aA,P,B.lb,←c4,cB]at a2;have u:=s.trans (aQ.upd (o:=lst (map ref n)) a6);have a4:=a2.same (aQ.upd (o:=lst (map ref n)) a6);have a5:(upd T tl (.lst (map ref n))) tl=some (.lst (map ref n)):=aI;generalize upd T tl (.lst (map ref n))=H7 at u a4 a5;clear s a2 a6;have c5:=Zz B;refine#[_,_,_,rfl,SqL.of a5,a4,c5,#[],B.cb,λlv lf ll H8 s8 hlv hlf hll=>?_];have a7:=X.trans (u.trans s8);refine#[_,_,_,rfl,a7.seq (SqL.of I.hg),I.hgs.same a7,B.gg,#[],B.cg,λav af c9 H9 e hav haf c6=>?_];exact jJv B al b3 b4 #[e _ _ (s8 _ _ (u _ _ a0)),a3.same (u.trans (s8.trans e)),e _ _ hlv,e _ _ hlf,e _ _ hll,hav,haf,c6] (a7.trans e) q
def Yl:LS:=["table","goal","plays","told","goals","lift","columns","rows","found","plan","play","column","weight"]
def FrD(K:aR)(H:Hp)(d:Addr)(qs:fW)(P:List Nat->Int×Int):Prop:=∃B,H d=some (.dT B)/\B.map (·.1)=qs.map tk/\∀q∈qs,∃a,kY B (tk q)=some (.ref a)/\SqT K H a [.int (P q).1,.int (P q).2]
def FrD.same{d:Addr}{P:List Nat->Int×Int}(h:FrD K H d qs P)(s:aQ H H'):FrD K H' d qs P:=let⟨kv,a,b,c⟩:=h;#[kv,s _ _ a,b,λq J=>let⟨a,e,t⟩:=c q J;#[a,e,s.tup t]]
structure AdO(K:aR)(H:Hp)(v:Addr)(ns:List Nat)(un:List Nat->Nat->Int)(G:Nat->Int)(pd wd wa:Addr)(P Y:List Nat->Int×Int)(W:Int×Int):Prop where
 hv:H v=some (.tup [.ref pd,.ref wd,.ref wa])
 hp:FrD K H pd (dM ns.reverse) P
 hw:FrD K H wd (fQ ns ns.length) Y
 ha:H wa=some (.tup [.int W.1,.int W.2])
 op:∀q∈dM ns.reverse,Ud (P q)
 oy:∀b∈fQ ns ns.length,Ud (Y b)
 ow:0<W.2/\Int.gcd W.1 W.2=1/\BB 9300 W.1/\BB 9300 W.2
 adv:AdvR (dM ns.reverse) (fQ ns ns.length) (λq b=>va (mo un q b)) (λq=>va (gF un G ns q)) (λq=>va (P q)) (λb=>va (Y b)) (va W)
def Ic(K:aR):Sp:=λvs H Q _=>∃t g ns A un xs,∃G:Nat->Int,vs=[.ref t,.ref g]/\TbE K H t ns A un/\AdI ns un G/\SqL K H g xs/\xs.length=ns.length/\(∀q∈dM ns.reverse,(A q).length=ns.length)/\(∀h v,xs[h]?=some v->En H v (G h))/\
 ∀v D k a P Y W H',aQ H H'->H D=none->H k=none->AdO K H' v ns un G D k a P Y W->Q (.ref v) H'
def jYz(qs:fW)(C:Hp)(D:Addr)(pre:St)(P:List Nat->Int×Int):NS:=λi Z U=>∃B S A J,Z=pre++[some (.ref D),S,A,J]/\aQ C U/\U D=some (.dT B)/\B.map (·.1)=(qs.take i).map tk/\∀q∈qs.take i,∃a,kY B (tk q)=some (.ref a)/\U a=some (.tup [.int (P q).1,.int (P q).2])
def zP(K:aR):TS:=(cQ (iA (aH (aE 9) (aH (tDZip K (aH (aE 3) (aH (tOp (dU K) (aE 8) (tC (.int 2))) bE))) (aH (cD (Fb K) [] E0 (aH (tOp (fX K) (tOp (dU K) (aE 8) (tC (.int 2))) (tUn iK (tC (.int 1)))) (aH (aE 5) bE))) bE)))))
def zS(K:aR):TS:=(Cb (aE 9) (aE 10) (cD (uB K) [] E0 (aH (aE 12) (aH (iA (aH (tOp (dU K) (aE 11) (tC (.int 0))) (aH (tC (.int 1)) bE))) bE))))
def zQ(K:aR):TG:=(jN K 3 (eK (aZ 10) (eK (aZ 11) (eK (aZ 12) jO))))
def Jq(K:aR):TS:=(cC (gI (iZip3 K (aH (aE 2) (aH (aE 6) (aH (tOp (dU K) (aE 8) (tC (.int 1))) bE)))) (zQ K) (zS K)) (zP K))
def Jp(K:aR):TS:=(cC (cT vN (aZ 9)) (Jq K))
def Ju(K:aR):TE:=(iA (aH (tC (.int 0)) (aH (tC (.int 1)) bE)))
def Jo(K:aR):TS:=(cC (cT (cD (Ve K) [] E0 (aH (aE 7) (aH (tOp qJ (dQ (dC K (aE 3)) [] (Ju K)) (kQ (aH (iA (aH (tC (.int 1)) (aH (tC (.int 1)) bE))) bE))) (aH (cD (Bg K) [] E0 (aH (aE 6) (aH (tUn iK (tC (.int 1))) bE))) bE)))) (aZ 8)) (Jp K))
def zR(K:aR):TE:=(cD (Bg K) [] E0 (aH (aE 1) (aH (aE 0) bE)))
def Jn(K:aR):TS:=(cC (cT (dQ (hV (aH (tOp iF (tCB (jE K) (aH (aE 3) bE)) (tC (.int 1))) bE)) [6] (zR K)) (aZ 7)) (Jo K))
def Jt(K:aR):TE:=(cD (tO K) [] E0 (aH (aE 2) (aH (aE 0) (aH (aE 3) (aH (aE 1) bE)))))
def Jr(K:aR):TG:=(jN K 2 (eK (aZ 0) (eK (aZ 1) jO)))
def Jm(K:aR):TS:=(cC (cT (gY (mR K (aH (aE 2) (aH (cD (Hz K) [] E0 (aH (aE 4) (aH (aE 5) bE))) bE))) 2 [0,3] (Jr K) (Jt K)) (aZ 6)) (Jn K))
def Jl(K:aR):TS:=(cC (cT (cD (Du K) [] E0 (aH (kQ (aH (aE 4) bE)) bE)) (aZ 5)) (Jm K))
def Js(K:aR):TE:=(cD (Dz K) [] E0 (aH (aE 1) (aH (aE 0) (aH (aE 2) bE))))
def Jk(K:aR):TS:=(cC (cT (dQ (dC K (aE 2)) [0,1] (Js K)) (aZ 4)) (Jl K))
def Jj(K:aR):TS:=(cC (cT (cD (zX K) [] E0 (aH (aE 0) bE)) (aZ 3)) (Jk K))
def Ez(K:aR):TS:=(cC (cT (eZ (eI K "Table") "plays" (rK K) [] E0 (aE 0) bE) (aZ 2)) (Jj K))
def jYJ{B:List (List Key×V)}{k:List Key}(h:k∉B.map (·.1)):kY B k=none:=by
 cases e:kY B k with
 |none=>rfl
 |some v=>
  obtain⟨w,hw,O,_⟩:=Mu e;exact absurd (dD.mpr #[w,hw,O]) h
def Ps.refs(h:Ps H xs qs):∃J:List Addr,xs=map ref J:=by
 have:∀x∈xs,∃a,x=ref a:=λx hx=>by
  obtain⟨i,hi⟩:=cJ hx;obtain⟨_,a,_,e,_⟩:=h.get hi;exact#[a,e]
 clear h
 induction xs with
 |nil=>exact#[[],rfl]
 |cons x t ih=>
  obtain⟨a,rfl⟩:=this x (bT ..);obtain⟨J,rfl⟩:=ih λy d=>this y (bK _ d);exact#[a::J,rfl]
def jYg{K}:RdS K Ic Ez Yl:=by
 rintro vs H Q E ⟨t,g,ns,A,un,F,G,rfl,tb,I,hg,xl,cl,hG,k⟩;obtain⟨nb,b6,q8,q1,n3,_⟩:=I.s3.all;obtain⟨dx,m0,d0,ht⟩:=tb.tab.ins;rw[show start Yl [ref t,ref g]=[some (.ref t),some (.ref g),none,none,none,none,none,none,none,none,none,none,none]from rfl];(dsimp?[Ez,eZ];try simp_arith[Ez,eZ,if_true])
 refine#[dx,_,ht,Lp _ _ (by decide+kernel) (by decide+kernel),t,ns,A,rfl,tb.tab,tb.sz,λp ps S s1 _ hp pq=>?_];(dsimp?[Jj]);refine#[t,ns,A,rfl,tb.tab.same s1,tb.sz,λl bs M s2 hl pb=>?_];have a8:=s1.trans s2;have f9:=tb.same a8;have c2:=s2 _ _ hp;have e0:=pq.same s2;have pl:=pq.1;have bl:=pb.1;(dsimp?[Jk,dQ,dC]);refine#[#[_,SqL.of c2],eR (K:=K) (a:=p) (xs:=ps) (λi N U=>aQ M U/\∃X,N=map ref X/\eG K U X (((dM ns.reverse).take i).map (gF un G ns))) (by rw[sizeLine_eq];lia) #[aQ.refl _,[],rfl,trivial] ?_ ?_ ?_]
 .rintro i N U _ ⟨s3,_⟩;exact SqL.of (s3 _ _ c2)
 .rintro i x N U hi _ ⟨s3,X,rfl,hf⟩;obtain⟨q,a,eq,rfl,ha⟩:=(e0.same s3).get hi;have J:=aL eq;(dsimp?[Js,cN,bR,cR,bH]);refine#[t,a,g,ns,A,un,q,F,G,rfl,f9.same s3,ha,J,(a8.trans s3).seq hg,xl,cl q J,λh v e=>(hG h v e).keep (eN (a8.trans s3)),I,λr H4 s4 hr=>#[s3.trans s4,X++[r],by rw[aY];rfl,?_]];rw[dI eq,aY];exact eG.snoc (hf.same s4) (SqT.of hr)
 rintro N U _ ⟨s3,X,rfl,hf⟩ gl i3;rw[pl,cB]at hf;have s4:=aQ.upd (o:=lst (map ref X)) i3;have i4:=a8.trans (s3.trans s4);have e3:=s3.trans s4;have e4:(upd U gl (.lst (map ref X))) gl=some (.lst (map ref X)):=aI;have e5:=hf.same s4;generalize upd U gl (.lst (map ref X))=H4 at s4 i4 e3 e4 e5;(dsimp?[Jl]);refine#[sz1,λg1 i5=>?_];have s5:=aQ.upd (o:=lst [ref gl]) i5;have g0:∀f∈(dM ns.reverse).map (gF un G ns),0<f.2/\BB 215 f.1/\BB 215 f.2:=λf hf=>by
  obtain⟨q,J,rfl⟩:=dD.mp hf;exact I.gb J
 have gm:∀f∈(dM ns.reverse).map (gF un G ns),0<f.2/\BB 4000 f.1/\BB 4000 f.2:=λf hf=>let h:=g0 f hf;#[h.1,h.2.1.mono (by decide),h.2.2.mono (by decide)];refine#[g1,[gl],[(dM ns.reverse).map (gF un G ns)],(dM ns.reverse).length,rfl,SqL.of aI,#[#[X,s5 _ _ e4,e5.same s5],trivial],#[aM _,by show 1<=100;decide,q1,#[],λr hr=>by rw[bZ.mp hr,aA],λr hr f hf=>by rw[bZ.mp hr]at hf;exact gm f hf],λz lf H5 s6 hlf mn=>?_];have d1:=s5.trans s6;have ok:=I.ok mn;have bz:BB 216 (1-z):=mn.bb (n:=215) λr hr f hf=>by rw[bZ.mp hr]at hf;exact g0 f hf
 (dsimp?[Jm,gY,mR]);refine#[gl,lf,X,_,z,rfl,SqL.of (d1 _ _ e4),e5.same d1,SqT.of hlf,bz.mono (by decide),gm,by rw[aA];lia,λll ls H6 u hll g3=>#[ll,rfl,#[_,SqL.of ((e3.trans d1).trans u _ _ c2)],#[_,SqL.of hll],?_]];have d2:=(e3.trans d1).trans u;have i6:=g3.length;rw[aA,aA]at i6;refine lM (K:=K) (a:=p) (b:=ll) (xs:=ps) (ys:=map ref ls) (λi N H7=>aQ H6 H7/\∃cs,N=map ref cs/\ClAt H7 cs (((dM ns.reverse).take i).map (adq un G ns z).col)) ?_ ?_ #[aQ.refl _,[],rfl,rfl,λi p fs e=>by simp at e] ?_ ?_ ?_
 .rw[sizeLine_eq];lia
 .rw[aA];lia
 .rintro i N H7 _ ⟨s8,_⟩;exact#[SqL.of ((d2.trans s8) _ _ c2),SqL.of (s8 _ _ hll)]
 .rintro i x y pp N H7 hx d _ ⟨s8,cs,rfl,hc⟩ e6 os ho;obtain⟨o2,o3,rfl⟩:∃o1 o2,os=[o1,o2]:=by
   match os,ho with
   | [o1,o2],_=>exact#[o1,o2,rfl]
  obtain⟨q,a,eq,rfl,ha⟩:=(e0.same (d2.trans s8)).get hx;obtain⟨la,rfl,i7⟩:=eU d;have J:=aL eq;obtain⟨f,ef,hlf⟩:=(g3.same s8).get i7;rw[aX,aX,eq]at ef;obtain rfl:=aV ef;have s9:=aQ.upd (o:=tup [ref a,ref la]) e6;have a1:=(d2.trans s8).trans s9;(dsimp?[Jr,Jt,cN,bR,cR,bH]);refine#[_,SqT.of aI,rfl,_,_,rfl,_,_,rfl,rfl,#[[some (.ref a),some (.ref la)],rfl,rfl],t,a,l,la,ns,A,un,q,bs,_,rfl,f9.same a1,s9 _ _ ha,J,SqL.of (a1 _ _ hl),pb.same a1,s9.tup hlf,I.g9 mn J,#[],λl' r H8 a6 h1 h2=>#[(s8.trans s9).trans a6,cs++[r],by rw[aY];rfl,?_]];have g4:=s9.trans a6;rw[dI eq,aY];refine#[by rw[bC,bC,hc.1];rfl,λj p' fs e1 C=>?_];by_cases jl:j<cs.length
  .rw[bV jl]at e1;rw[bV (by rw[←hc.1];exact jl)]at C;exact(hc.same g4).2 j p' fs e1 C
  .rw[bO #[]]at e1;rw[bO (by rw[←hc.1];lia),←hc.1]at C;generalize j-cs.length=j' at e1 C
   match j',e1,C with
   |0,e1,C=>
    simp at e1 C;subst e1 C;exact#[l',h2,h1]
   |n+1,e1,_=>simp at e1
 rintro N H7 _ ⟨s8,cs,rfl,hc⟩ b5 g5;rw[pl,cB]at hc;have s9:=aQ.upd (o:=lst (map ref cs)) g5;have a1:=(d2.trans s8).trans s9;have c3:=hc.same s9;have c4:(upd H7 b5 (.lst (map ref cs))) b5=some (.lst (map ref cs)):=aI;have g6:=s9 _ _ (s8 _ _ (u _ _ hlf));generalize upd H7 b5 (.lst (map ref cs))=H9 at a1 c3 c4 g6;clear g5 s9 hc;have d4:∀q,(clr ((adq un G ns z).col q)).length=(fQ ns ns.length).length+2:=λq=>by
  unfold clr AdQ.col;rw[aA,bC,aA];rfl
 have l1:cs.length=(dM ns.reverse).length:=by rw[c3.1,aA]
 (dsimp?[Jn,dQ,hV]);refine#[_,.inl (SqL.of (a1 _ _ hl)),#[],#[],?_];rw[show((bs.length:Int)+1).toNat=(fQ ns ns.length).length+1 by lia];refine kD (lo:=0) (λi N b7=>aQ H9 b7/\∃rw,N=map ref rw/\xV K b7 rw (ofF i λi=>(dM ns.reverse).map λq=>((clr ((adq un G ns z).col q)).getD i 0,1))) (by rw[sizeLine_eq];lia) #[aQ.refl _,[],rfl,trivial] ?_ ?_
 .rintro i N b7 hi _ ⟨a6,a9,rfl,hr⟩;(dsimp?[zR,cN,bR,cR,bH];try simp_arith[zR,cN,bR,cR,bH,eP])
  refine#[b5,cs,_,i,i,rfl,SqL.of (a6 _ _ c4),c3.same a6,#[],λfs e7=>?_,λp' ws e8 b8 h1 h2=>#[a6.trans b8,a9++[p'],by rw[aY];rfl,?_]]
  .obtain⟨q,_,rfl⟩:=dD.mp e7;exact kN (by rw[d4];lia)
  .rw[fP];rw[List.map_map]at h2;exact xV.append (show xV K e8 [p'] [(dM ns.reverse).map λq=>((clr ((adq un G ns z).col q)).getD i 0,1)]from#[#[ws,h1,h2],trivial]) (hr.same b8)
 rintro N b7 _ ⟨a6,a9,rfl,hr⟩ rl g7;have b8:=aQ.upd (o:=lst (map ref a9)) g7;have b4:=a6.trans b8;have d5:=hr.same b8;have d6:(upd b7 rl (.lst (map ref a9))) rl=some (.lst (map ref a9)):=aI;generalize upd b7 rl (.lst (map ref a9))=e8 at b4 d5 d6;clear g7 b8 hr;have g8:=b4 _ _ (a1 _ _ hl);(dsimp?[Jo,dQ,dC]);refine#[#[_,SqL.of g8],eR (K:=K) (a:=l) (xs:=bs) (λi N a7=>aQ e8 a7/\∃R,N=map ref R/\eG K a7 R (((fQ ns ns.length).take i).map λ_=>(0,1))) (by rw[sizeLine_eq];lia) #[aQ.refl _,[],rfl,trivial] ?_ ?_ ?_]
 .rintro i N a7 _ ⟨b9,_⟩;exact SqL.of (b9 _ _ g8)
 .rintro i x N a7 hi _ ⟨b9,R,rfl,hu⟩;obtain⟨q,a,eq,rfl,ha⟩:=(pb.same ((a1.trans b4).trans b9)).get hi;(dsimp?[Ju]);refine#[sz2,λr hr=>#[b9.trans (aQ.upd hr),R++[r],by rw[aY];rfl,?_]];rw[dI eq,aY];exact eG.snoc (hu.same (aQ.upd hr)) (SqT.of aI)
 rintro N a7 _ ⟨b9,R,rfl,hu⟩ ul i8;rw[bl,cB]at hu;have i9:=hu.length;rw[aA]at i9;refine#[sz2,λp1 j0=>#[sz1,λp2 h0=>?_]];have h4:=aQ.upd (o:=lst (map ref R)) i8;have c5:=aQ.upd (o:=tup [int 1,int 1]) j0;have d3:=aQ.upd (o:=lst [ref p1]) h0;refine#[ul,p2,_,[.ref p1],rfl,rfl,d3 _ _ (c5 _ _ aI),aI,by rw[aA,sizeLine_eq];show _+1<=_;lia,λc6 j1=>?_];have e9:=aQ.upd (o:=lst (map ref R++[ref p1])) j1;have a5:=b9.trans (((h4.trans c5).trans d3).trans e9);have d7:eG K (upd (upd (upd (upd a7 ul (.lst (map ref R))) p1 (.tup [.int 1,.int 1])) p2 (.lst [.ref p1])) c6 (.lst (map ref R++[.ref p1]))) (R++[p1]) (adq un G ns z).fb:=eG.snoc (hu.same (((h4.trans c5).trans d3).trans e9)) (SqT.of (e9 _ _ (d3 _ _ aI)));have d8:(upd (upd (upd (upd a7 ul (.lst (map ref R))) p1 (.tup [.int 1,.int 1])) p2 (.lst [.ref p1])) c6 (.lst (map ref R++[.ref p1]))) c6=some (.lst (map ref (R++[p1]))):=by rw[aI,aY];rfl
 generalize upd (upd (upd (upd a7 ul (.lst (map ref R))) p1 (.tup [.int 1,.int 1])) p2 (.lst [.ref p1])) c6 (.lst (map ref R++[.ref p1]))=l2 at a5 d7 d8;have c7:=b4.trans a5;refine#[b5,cs,_,-1,(fQ ns ns.length).length+1,rfl,SqL.of (c7 _ _ c4),c3.same c7,#[],λfs e7=>?_,λgp ws l3 c8 j2 hws=>?_]
 .obtain⟨q,_,rfl⟩:=dD.mp e7;have e:=d4 q;exact qR (by rw[aA,e,aX,aP,show(fQ ns ns.length).length+2-1=(fQ ns ns.length).length+1 by lia,aD #[]];rfl)
 rw[List.map_map]at hws;have B:=I.beo mn;have o1:BB 9000 (1:Int):=by show(1:Int).natAbs<2^9000;exact Nat.one_lt_two_pow (by decide)
 have j3:∀f∈(adq un G ns z).fb,f=(0,1)∨f=(1,1):=λf hf=>by
  rcases cW.mp hf with hf |hf
  .obtain⟨_,_,rfl⟩:=dD.mp hf;exact .inl rfl
  .exact .inr (bZ.mp hf)
 refine#[rl,c6,gp,a9,R++[p1],ws,(adq un G ns z).frs,(adq un G ns z).fb,(adq un G ns z).fg,rfl,#[(a5.trans c8) _ _ d6,d5.same (a5.trans c8),c8 _ _ d8,d7.same c8,j2,hws,B.gb],λf hf=>by rcases j3 f hf with rfl |rfl<;>decide,B,by rw[AdQ.frs_length];lia,by rw[AdQ.fg_length];exact q1,λv fl s o x w xp wp j4 j5 _ _ O=>?_];have a3:=c7.trans (c8.trans j5);have a4:=a1.trans a3;cases o with
 |some c=>exact(AdQ.no_way_ B ok O.ok O.io O.un).elim
 |none=>
  have T:=I.told mn O.ok O.io O.un;have d9:=a4 _ _ c2;have f3:=O.hxs.length;rw[bI,AdQ.fg_length]at f3;have f3:xp.length=(dM ns.reverse).length:=f3;(dsimp?[Jp,vN]);intro pd f4;(dsimp?[Jq,gI,iZip3]);have su:=aQ.upd (o:=HO.dT []) f4;refine#[_,SqT.of (su _ _ O.hv),_,iB,x,rfl,#[_,SqL.of (su _ _ d9)],#[_,SqL.of (su _ _ (a3 _ _ c4))],#[_,SqL.of (su _ _ O.hx)],jVW (K:=K) (xs:=ps) (ys:=map ref cs) (zs:=map ref xp) (g:=zQ K) (D:={ nx:=zP K (eQ Q),rt:=Q }) (jYz (dM ns.reverse) j4 pd [some (.ref t),some (.ref g),some (.ref p),some (.ref l),some (.ref gl),some (.ref lf),some (.ref b5),some (.ref rl),some (.ref v)] ((adq un G ns z).P fl s)) ?_ ?_ ?_ ?_ ?_ ?_]
  .exact#[[],none,none,none,rfl,su,aI,rfl,λq J=>by simp at J]
  .rintro i Z h5 _ ⟨_,_,_,_,_,a0,_⟩;exact#[SqL.of (a0 _ _ d9),SqL.of (a0 _ _ (a3 _ _ c4)),SqL.of (a0 _ _ O.hx)]
  .rw[aA];lia
  .rw[aA];lia
  .rintro i x1 y1 z1 pp Z h5 hx d hz ⟨kv,j6,j7,j8,rfl,a0,f5,hk,hP⟩ e6;obtain⟨q,a,eq,rfl,ha⟩:=(e0.same (a4.trans a0)).get hx;obtain⟨c,rfl,j9⟩:=eU d;obtain⟨xa,rfl,k0⟩:=eU hz;have J:=aL eq;have sp:=aQ.upd (o:=tup [ref a,ref c,ref xa]) e6;have b0:=a0.trans sp;obtain⟨_,k1,_⟩:=(c3.same (a3.trans b0)).2 i c _ j9 (by rw[aX,eq];rfl);obtain⟨f,ef,k2⟩:=(O.hxs.same b0).get k0;obtain⟨_,rfl⟩:=gA ef;have ex:(adq un G ns z).x fl s q=xF fl (adq un G ns z).frs (adq un G ns z).fb (adq un G ns z).fg s i:=by unfold AdQ.x;rw[show(adq un G ns z).qs.idxOf q=i from AdQ.idx (mJ _) eq]
   have xb:=T.xb q J;rw[ex]at xb;have L0:=ok.lp J;have Lb:BB 202 (lc ((adq un G ns z).col q)):=by
    obtain⟨D,b,B⟩:=I.bu;have l0:b<=190:=by rcases B.sz with h |h<;>lia
    exact((I.bb B mn J).lc_bb (by have:=B.d0;lia) (vQ B.bd (c:=2520) (k:=12) (by decide))).mono #[]
   (dsimp?[zQ,zS,Cb]);refine#[_,SqT.of aI,rfl,_,_,rfl,_,_,rfl,_,_,rfl,rfl,?_];(dsimp?[zS,Cb]);refine#[_,rfl,_,SqT.of k1,_,iR,sz2,λr1 k3=>?_];have b3:=aQ.upd (o:=tup [int (lc ((adq un G ns z).col q)),int 1]) k3;refine#[xa,r1,_,_,_,1,rfl,#[b3.tup k2,SqT.of aI,xb.2.1.mono (by decide),xb.2.2.mono (by decide),Lb.mono (by decide),o1.mono (by decide)],xb.1,by decide,by rw[dR];exact xb.2.2,λr f6 a2 hr=>?_];have f7:=(b0.trans b3).trans a2;have h6:=a2 _ _ (b3 _ _ (sp _ _ f5));have h7:f6 a=some (.tup ((tk q).map kV)):=by rw[tU];exact a2 _ _ (b3 _ _ (sp _ _ ha))
   have n0:kY kv (tk q)=none:=jYJ (by rw[hk];exact λm=>Ec (wE (mJ ns.reverse)) (by rw[aX,eq];rfl) (by rw[←map_take];exact m));have kl:kv.length<=100:=by
    have:kv.length=(kv.map (·.1)).length:=(aA ..).symm;rw[hk,aA,dO]at this;lia
   refine#[_,.inr #[kv,tk q,a,h6,rfl,h7,by rw[sizeLine_eq];lia,rfl],kv++[(tk q,.ref r)],_,_,_,rfl,f7.put f4,by rw[aI,nF _ n0],by rw[aY,hk,dI eq,aY];rfl,λq' c1=>?_];have up:∀c F,f6 c=some (.tup F)->(upd f6 pd (.dT (Bp kv (tk q) (.ref r)))) c=some (.tup F):=λc F hc=>by
    rw[bY (λe=>by rw[e,h6]at hc;cases hc)];exact hc
   rw[←nF (.ref r) n0,Ey];by_cases e:q'=q
   .subst e;refine#[r,by rw[aJ rfl],up _ _ ?_];unfold AdQ.P;rw[ex];exact hr
   .rw[dI eq]at c1;rcases cW.mp c1 with c1 |c1
    .obtain⟨a',f1,f2⟩:=hP q' c1;exact#[a',by rw[aF λz=>e (yJ z)];exact f1,up _ _ (a2 _ _ (b3 _ _ (sp _ _ f2)))]
    .exact absurd (bZ.mp c1) e
  .rintro Z h5 ⟨kv,j6,j7,j8,rfl,a0,f5,hk,hP⟩;rw[pl,cB]at hk hP;have c9:=O.hws.same a0;have h8:=c9.length;have k4:(wayO fl (adq un G ns z).frs (adq un G ns z).fb (adq un G ns z).fg s none).length=(fQ ns ns.length).length+1:=by show(ofF _ _).length=_;rw[bI,AdQ.frs_length];rfl
   rw[k4]at h8;have k5:=a0 _ _ (a3 _ _ (a1 _ _ hl));have h9:=pb.same (a4.trans a0);obtain⟨bp,rfl⟩:∃bp:List Addr,bs=map ref bp:=Ps.refs pb;rw[aA]at bl;(dsimp?[zP,tDZip,Lca,Lna]);refine#[_,SqT.of (a0 _ _ O.hv),_,atI2,w,rfl,(fQ ns ns.length).map tk,bp,SqL.of k5,map ref wp,SqL.of (a0 _ _ O.hw),by rw[aA];exact bl,by rw[aA,aA];lia,λi q kk e1 C=>?_,wE nb,λwd i0=>?_]
   .rw[aX]at C;cases eb:(fQ ns ns.length)[i]? with
    |none=>rw[eb]at C;cases C
    |some b=>
     rw[eb]at C;obtain rfl:=aV C;obtain⟨a,ea,ha⟩:=h9.2 i b eb;rw[aX,e1]at ea;obtain rfl:q=a:=by simpa using ea
     rw[tU];exact ha
   have sw:=aQ.upd (o:=HO.dT (((fQ ns ns.length).map tk).zip (map ref wp))) i0;have f8:(map ref wp)[(map ref wp).length-1]?=some (ref (wp.getD (fQ ns ns.length).length 0)):=by rw[aA,h8,aX,aP,show(fQ ns ns.length).length+1-1=(fQ ns ns.length).length by lia,aD #[]];rfl
   obtain⟨f,ef,k6⟩:=c9.get (i:=(fQ ns ns.length).length) (p:=wp.getD (fQ ns ns.length).length 0) (by rw[aP,aD #[]];rfl);have ef:f=yF fl (adq un G ns z).frs (adq un G ns z).fb (adq un G ns z).fg s (fQ ns ns.length).length:=(gA ef).2;have ym:0<f.2/\BB 9240 f.1/\BB 9000 f.2:=by rw[ef];exact T.ym
   refine#[_,SqT.of (sw _ _ (a0 _ _ O.hv)),_,atI2,_,rfl,_,SqL.of (sw _ _ (a0 _ _ O.hw)),_,qR f8,_,lf,_,_,_,1,rfl,#[sw.tup k6,SqT.of (sw _ _ ((a3.trans a0) _ _ g6)),ym.2.1.mono (by decide),ym.2.2.mono (by decide),bz.mono (by decide),o1.mono (by decide)],ym.1,by decide,by rw[dR];exact ym.2.2,λwa l4 b3 k7=>#[sz3,λk8 i1=>?_]];have a2:=b3.trans (aQ.upd (o:=tup [ref pd,ref wd,ref wa]) i1);have i2:=(a8.trans (a4.trans a0)).trans (sw.trans a2);have zp:((fQ ns ns.length).map tk).length<=(map ref wp).length:=by rw[aA,aA];lia
   have z1:0<f.2*1:=by have:=ym.1;rw[dR];exact this
   have lo:=dZ (t:=f.1*1-(1-z)*f.2) z1;refine k k8 pd wd wa ((adq un G ns z).P fl s) ((adq un G ns z).y fl s) _ _ i2 ((a8.trans a4).free f4) ((a8.trans (a4.trans a0)).free i0) #[aI,#[kv,(sw.trans a2) _ _ f5,hk,λq J=>let⟨a,e1,C⟩:=hP q J;#[a,e1,SqT.of ((sw.trans a2) _ _ C)]],#[_,a2 _ _ aI,List.map_fst_zip zp,λb hb=>?_],aQ.upd i1 _ _ k7,T.P,T.Y,#[lo.pos,lo.cop,?_],?_]
   .obtain⟨i,eb⟩:=cJ hb;have il:=(aK.mp eb).1;have ew:wp[i]?=some (wp.getD i 0):=by rw[aP,aD #[]];rfl
    obtain⟨f',ef,k9⟩:=(c9.same (sw.trans a2)).get ew;obtain⟨_,rfl⟩:=gA ef;refine#[wp.getD i 0,Uu (by rw[List.map_fst_zip zp];exact wE nb) i (by rw[List.getElem?_zip_eq_some];exact#[by rw[aX,eb];rfl,by rw[aX,ew];rfl]),?_];unfold AdQ.y;rw[show(adq un G ns z).bs.idxOf b=i from AdQ.idx nb eb];exact k9
   .have b1:BB 9241 (f.1*1-(1-z)*f.2):=by
     rw[dR];exact BB.sub (n:=9240) ym.2.1 ((bz.mul ym.2.2).mono (by decide))
    have:=lo.bb (b1.mono (n:=9300) (by decide)) (by rw[dR];exact ym.2.2.mono (n:=9300) (by decide));exact this
   .have ev:=va_sub (f:=f) (g:=(1-z,1)) ym.1 Int.zero_lt_one;rw[va_int,ef]at ev;rw[ef,show va (lo2 _ _)=_ from ev];exact T.adv
def Cz:LS:=["sizes","size"]
def rF(K:aR):Sp:=λvs H Q _=>∃l ns,vs=[.ref l]/\SqL K H l (tv ns)/\2<=ns.length/\Sz ns/\Q .non H
def Qf(l:Addr)(H:Hp):NS:=λ_ Z U=>U=H/\∃o,Z=[some (.ref l),o]
def uQ(K:aR):TS:=(fS (tOr (cV (tOp kH (aE 1) (tC (.int 1)))) (cV (tOp tT (aE 1) (tC (.int 6))))) jL eJ)
def sZ(K:aR):TS:=(cC (fS (tOr (cV (tOp kH (tCB (jE K) (aH (aE 0) bE)) (tC (.int 2)))) (cV (tOp tT (tCB (jE K) (aH (aE 0) bE)) (tC (.int 3))))) jL eJ) (gI (dC K (aE 0)) (aZ 1) (uQ K)))
def Pk{K}:RdS K rF sZ Cz:=by
 rintro m H Q E ⟨l,ns,rfl,P,h2,sz,q⟩;have h3:=sz.len;rw[show start Cz [ref l]=[some (.ref l),none]from rfl];(dsimp?[sZ,gI,dC]);refine#[_,.inl P,?_];rw[mU,aF #[]];refine#[_,.inl P,?_];rw[mU,aF #[]];refine#[#[_,P],iU (K:=K) (a:=l) (xs:=tv ns) (g:=aZ 1) (D:=(eQ Q)) (Qf l H) ?_ ?_ ?_ ?_]
 .exact#[rfl,none,rfl]
 .rintro i Z U _ ⟨rfl,_⟩;exact P
 .rintro i x Z U hi ⟨rfl,o,rfl⟩;obtain⟨n,R,rfl⟩:=Gy hi;have N:=sz.ge n (aL R);have g2:=sz.le n (aL R);(dsimp?[uQ]);rw[aF #[],aF #[]];exact#[rfl,_,rfl]
 .rintro Z U ⟨rfl,o,rfl⟩;exact q
def Da:LS:=["cells","plays","hands","play"]
def rG(K:aR):Sp:=λvs H Q _=>∃c p kvs xs qs d A,vs=[.ref c,.ref p,.int (d:Nat)]/\H c=some (.dT kvs)/\H p=some (.lst xs)/\Ps H xs qs/\(∀q∈qs,sD H kvs A q)/\(∀q∈qs,(A q).length=d)/\kvs.length=qs.length/\Q .non H
def Qg(c p:Addr)(d:Nat)(H:Hp):NS:=λ_ Z U=>U=H/\∃o,Z=[some (.ref c),some (.ref p),some (.int d),o]
def oH(K:aR):TS:=(fS (cV (tOp rNe (tCB Qy (aH (aE 0) bE)) (tCB (jE K) (aH (aE 1) bE)))) jL eJ)
def uS(K:aR):TS:=(cC (fS (tB (Eo (aE 3) (aE 0))) jL eJ) (fS (cV (tOp rNe (tCB (jE K) (aH (jW (aE 0) (aE 3)) bE)) (aE 2))) jL eJ))
def tD(K:aR):TS:=(cC (gI (dC K (aE 1)) (aZ 3) (uS K)) (oH K))
def Pl{K}:RdS K rG tD Da:=by
 rintro m H Q E ⟨c,p,n,F,qs,d,A,rfl,hc,hp,J,ok,e,Y,q⟩;rw[show start Da [ref c,ref p,int d]=[some (.ref c),some (.ref p),some (.int d),none]from rfl];(dsimp?[tD,gI,dC]);refine#[#[_,SqL.of hp],iU (K:=K) (a:=p) (xs:=F) (g:=aZ 3) (D:={ nx:=oH K _,rt:=Q }) (Qg c p d H) ?_ ?_ ?_ ?_]
 .exact#[rfl,none,rfl]
 .rintro i Z U _ ⟨rfl,_⟩;exact SqL.of hp
 .rintro i x Z U hi ⟨rfl,o,rfl⟩;obtain⟨b,a,hb,rfl,ha⟩:=J.get hi;obtain⟨l,hv,C⟩:=ok b (aL hb);have f:=e b (aL hb);have y:U a=some (.tup ((tk b).map kV)):=by rw[tU];exact ha
  (dsimp?[uS,Eo,jW]);refine#[_,Lz.t hc y,?_];rw[hv];refine sR ?_;refine#[_,by rw[←hv];exact Lz.t hc y,?_];exact#[l,rfl,_,.inl (SqL.of C),iteNS (by rw[f]) #[rfl,_,rfl]]
 .rintro Z U ⟨rfl,o,rfl⟩;(dsimp?[oH,Qy]);refine#[_,hc,_,.inl (SqL.of hp),?_];rw[Y,J.1];refine iteNS rfl q
def Gv:LS:=["self","sizes","cells","plays","play"]
def tP(K:aR):Sp:=λvs H Q _=>∃t f s c ns kvs A,vs=[.ref t,.ref s,.ref c]/\H t=some (.ins (eI K "Table") f [])/\SqL K H s (tv ns)/\2<=ns.length/\Sz ns/\H c=some (.dT kvs)/\(∀q∈dM ns.reverse,sD H kvs A q)/\(∀q∈dM ns.reverse,(A q).length=ns.length)/\kvs.length=(dM ns.reverse).length/\
 ∀H',Sb t H H'->xJ K H' t ns A->Q .non H'
def Qt(K:aR)(t f s c p m d:Addr)(ns:List Nat)(A:List Nat->List V)(H:Hp)(xs:List V):NS:=λi Z U=>∃kvs o,Z=[some (.ref t),some (.ref s),some (.ref c),some (.ref p),o]/\Sb t H U/\U t=some (.ins (eI K "Table") f (Dg m d))/\U m=some (.lst (tv ns))/\U p=some (.lst xs)/\Ps U xs (dM ns.reverse)/\
 H d=none/\U d=some (.dT kvs)/\kvs.length<=i/\∀q∈(dM ns.reverse).take i,sD U kvs A q
def xL(K:aR):TS:=(Cb (gS K (aE 0) "cells") (aE 4) (tCB (pT K) (aH (jW (aE 2) (aE 4)) bE)))
def wZ(K:aR):TS:=(cC (oU (cD (rF K) [] E0 (aH (aE 1) bE))) (cC (cT (cD (sJ K) [] E0 (aH (aE 1) bE)) (aZ 3)) (cC (oU (cD (rG K) [] E0 (aH (aE 2) (aH (aE 3) (aH (tCB (jE K) (aH (aE 1) bE)) bE))))) (cC (xX K (aE 0) (tCB (pT K) (aH (aE 1) bE)) "many") (cC (xX K (aE 0) vN "cells") (gI (dC K (aE 3)) (aZ 4) (xL K)))))))
def Sb.keepT{t f:Addr}{fs:List (Str×V)}(s:Sb t H H')(h:H t=some (.ins C f fs)):Cf H H':=λa F e=>s a _ e (kS e h (by intro z;cases z))
def Sb.put{t d:Addr}(s:Sb t H G)(h:H d=none):Sb t H (upd G d o):=λb u e hb=>by rw[bY (dE e h)];exact s b u e hb
def Qp{K vs H Q E}(T:TabK K)(h:tP K vs H Q E):wZ K (eQ Q) (start Gv vs) H:=by
 obtain⟨t,f,s,c,ns,n,A,rfl,y,P,h2,sz,hc,ok,oh,Y,q⟩:=h;rw[show start Gv [ref t,ref s,ref c]=[some (.ref t),some (.ref s),some (.ref c),none,none]from rfl];(dsimp?[wZ,oU,xX,vN,pT,gI,dC]);refine#[s,ns,rfl,P,h2,sz,s,ns,rfl,P,sz,λp F S O hp N ps=>?_];refine#[_,.inl (O.seq P),?_];rw[mU];refine#[c,p,n,F,dM ns.reverse,ns.length,A,rfl,O _ _ hc,N,ps,λq J=>(ok q J).same O,oh,Y,?_];refine#[_,.inl (O.seq P),λm hm=>?_];have s2:aQ S (upd S m (.lst (tv ns))):=aQ.upd hm;generalize C:upd S m (.lst (tv ns))=M at s2;have m2:M m=some (.lst (tv ns)):=by rw[←C];exact aI
 have v:M t=some (.ins (eI K "Table") f []):=s2 _ _ (O _ _ y);refine#[_,f,[],v,T.cl,T.nM,by show 0<1000;decide,λd hd=>?_];have t3:(upd M t (.ins (eI K "Table") f (hJ "many" (.ref m) []))) t=some (.ins (eI K "Table") f (hJ "many" (.ref m) [])):=aI;have a0:t≠d:=dE t3 hd;refine#[_,f,_,(by rw[bY a0];exact t3),T.cl,T.nC,by show 1<1000;decide,?_];have b1:Sb t M (upd (upd (upd M t (.ins (eI K "Table") f (hJ "many" (.ref m) []))) d (.dT [])) t (.ins (eI K "Table") f (Dg m d))):=(Sb.at.trans (Sb.of (aQ.upd hd))).trans Sb.at;have d5:(upd (upd (upd M t (.ins (eI K "Table") f (hJ "many" (.ref m) []))) d (.dT [])) t (.ins (eI K "Table") f (Dg m d))) d=some (.dT []):=by rw[bY a0.symm];exact aI
 have U:(upd (upd (upd M t (.ins (eI K "Table") f (hJ "many" (.ref m) []))) d (.dT [])) t (.ins (eI K "Table") f (Dg m d))) t=some (.ins (eI K "Table") f (Dg m d)):=aI;have a3:H d=none:=Sb.free ((Sb.of (O.trans s2)).trans Sb.at) hd a0.symm;rw[show hJ "cells" (ref d) (hJ "many" (ref m) [])=Dg m d from rfl];generalize (upd (upd (upd M t (.ins (eI K "Table") f (hJ "many" (.ref m) []))) d (.dT [])) t (.ins (eI K "Table") f (Dg m d)))=I at b1 d5 U;have b0:Sb t H I:=(Sb.of (O.trans s2)).trans b1;have mt:m≠t:=kS m2 v (by intro z;cases z);have pt:p≠t:=kS (s2 _ _ N) v (by intro z;cases z);have r:I p=some (.lst F):=b1 _ _ (s2 _ _ N) pt;have k:Ps I F (dM ns.reverse):=(ps.same s2).keep (b1.keepT v);have a7:(dM ns.reverse).length<=216:=sz.rev.ord;refine#[p,rfl,#[_,SqL.of r],iU (K:=K) (a:=p) (xs:=F) (g:=aZ 4) (D:=(eQ Q)) (Qt K t f s c p m d ns A H F) ?_ ?_ ?_ ?_]
 .exact#[[],none,rfl,b0,U,b1 _ _ m2 mt,r,k,a3,d5,aM _,λq J=>(by simp at J)]
 .rintro i Z G _ ⟨_,_,_,_,_,_,hp,_⟩;exact SqL.of hp
 .rintro i x Z G hi ⟨B,o,rfl,R,tG,mG,pG,a1,hd,dG,hk,X⟩;obtain⟨b,a,hb,rfl,ha⟩:=a1.get hi;have j:i<(dM ns.reverse).length:=(aK.mp hb).1;obtain⟨l,hv,hL⟩:=ok b (aL hb);have cG:G c=some (.dT n):=R _ _ hc (kS hc y (by intro z;cases z));have lG:G l=some (.lst (A b)):=R _ _ hL (kS hL y (by intro z;cases z));have aG:G a=some (.tup ((tk b).map kV)):=by rw[tU];exact ha
  (dsimp?[xL,Cb,jW,gS,pT]);refine#[_,by rw[←hv];exact Lz.t cG aG,?_];refine#[l,rfl,_,.inl (SqL.of lG),λw u=>?_];have s6:aQ G (upd G w (.lst (A b))):=aQ.upd u;have d6:(upd G w (.lst (A b))) d=some (.dT B):=s6 _ _ dG;refine#[_,_,_,s6 _ _ tG,T.cl,T.nC,_,Ox _ _,d,rfl,_,DPut.t d6 (s6 _ _ aG) (small' #[]),?_];refine#[_,_,rfl,(R.trans (Sb.of s6)).put hd,?_,?_,?_,?_,hd,aI,?_,?_]
  .rw[bY (kS (s6 _ _ tG) d6 (by intro z;cases z))];exact s6 _ _ tG
  .rw[bY (kS (s6 _ _ mG) d6 (by intro z;cases z))];exact s6 _ _ mG
  .rw[bY (kS (s6 _ _ pG) d6 (by intro z;cases z))];exact s6 _ _ pG
  .exact(a1.same s6).keep λb F e=>by rw[bY (kS e d6 (by intro z;cases z))];exact e
  .have:=Ab B (tk b) (ref w);lia
  .intro q J;rw[dI hb]at J;have a4:w≠d:=kS aI d6 (by intro z;cases z);by_cases e:q=b
   .subst e;exact#[w,by rw[Ey,aJ rfl],by rw[bY a4];exact aI]
   .have a5:q∈(dM ns.reverse).take i:=by
     rcases cW.mp J with h |h
     .exact h
     .exact absurd (bZ.mp h) e
    obtain⟨l2,a6,a2⟩:=X q a5;exact#[l2,by rw[Ey,aF (λz=>e (yJ z))];exact a6,by rw[bY (kS (s6 _ _ a2) d6 (by intro z;cases z))];exact s6 _ _ a2]
 .rintro Z G ⟨B,o,rfl,R,tG,mG,_,_,_,dG,_,X⟩;rw[show F.length=(dM ns.reverse).length from ps.1,cB]at X;exact q G R #[f,m,d,B,tG,mG,dG,X]
def Cw:LS:=["_law_cells","_law_found","_law_play"]
def rE(_:aR):Sp:=λvs H Q _=>∃(d:Addr)(qs:fW)(A:List Nat->List V)(B:List (List Key×V)),vs=[.ref d]/\H d=some (.dT B)/\B.map (·.1)=qs.map tk/\(∀q∈qs,sD H B A q)/\qs.Nodup/\qs.length<=100/\(∀q,(A q).length<=100)/\∀p M H',aQ H H'->H' p=some (.dT M)->M.map (·.1)=qs.reverse.map tk->(∀q∈qs,sD H' M A q)->Q (.ref p) H'
def Qe(d p l:Addr)(X:List Addr)(C:Hp)(qs:fW)(A:List Nat->List V):NS:=λi Z U=>∃M o,Z=[some (.ref d),some (.ref p),o]/\aQ C U/\U l=some (.lst (X.map ref))/\U p=some (.dT M)/\M.map (·.1)=(qs.reverse.take i).map tk/\∀q∈qs.reverse.take i,sD U M A q
def uP(K:aR):TS:=(Cb (aE 1) (aE 2) (tCB (pT K) (aH (jW (aE 0) (aE 2)) bE)))
def sX(K:aR):TS:=(cC (cT vN (aZ 1)) (cC (gI (iRev K (tKeys (aE 0))) (aZ 2) (uP K)) (cQ (aE 1))))
def Pi{K}:RdS K rE sX Cw:=by
 rintro vs H Q E ⟨d,qs,A,B,rfl,hd,hk,hc,nd,R,Y,k⟩;rw[show start Cw [ref d]=[some (.ref d),none,none]from rfl];(dsimp?[sX,vN,gI,iRev,tKeys]);intro p hp;have dp:d≠p:=λe=>by rw[e,hp]at hd;cases hd
 refine#[B,.inl (by rw[bY dp];exact hd),λl X I b a2=>#[_,SqL.of aI,?_]];have kl:B.length=qs.length:=by rw[←aA (f:=(·.1)),hk,aA]
 have ks:∀(j:Nat)(r:Addr)(q:List Nat),X[j]?=some r->qs[j]?=some q->H r=some (.tup ((tk q).map kV)):=λj r q e1 C=>by
  have O:(B.map (·.1))[j]?=some (tk q):=by rw[hk,aX,C];rfl
  rw[aX]at O;cases ev:B[j]? with
  |none=>rw[ev]at O;cases O
  |some w=>
   rw[ev]at O;have t:w.1=tk q:=by simpa using O
   have S:=a2 j r w e1 ev;rw[t]at S;by_cases e:r=p
   .rw[e,aI]at S;cases S
   .rwa [bY e]at S
 have s0:aQ H (upd (upd H p (.dT [])) l (.lst (X.map ref))):=(aQ.upd hp).trans (aQ.upd I);have lp:p≠l:=λe=>by rw[←e,aI]at I;cases I
 refine for_rev (K:=K) (a:=l) (xs:=map ref X) (g:=aZ 2) (D:={ nx:=cQ (aE 1) (eQ Q),rt:=Q }) (Qe d p l X H qs A) #[[],none,rfl,s0,aI,by rw[bY lp];exact aI,rfl,λq J=>nomatch J] ?_ ?_ ?_
 .rintro i Z U _ ⟨_,_,_,_,h3,_⟩;exact SqL.of h3
 .rintro i x Z U hi hx ⟨M,o,rfl,s3,h3,u,s,a0⟩;rw[aA]at hi hx;obtain⟨r,rfl,hr⟩:=eU hx;have P:X.length-1-i<qs.length:=#[];have eq:=aD P;have rv:qs.reverse[i]?=some qs[X.length-1-i]:=by rw[List.getElem?_reverse #[],←eq];congr 1;lia
  generalize qs[X.length-1-i]=q at eq rv;have J:q∈qs:=aL eq;have a1:=s3 _ _ (ks _ r q hr eq);obtain⟨l',e1,C⟩:=hc q J;have N:kY M (tk q)=none:=by
   cases e:kY M (tk q)with
   |none=>rfl
   |some v=>
    obtain⟨w,hw,O,_⟩:=Mu e;have m:tk q∈M.map (·.1):=dD.mpr #[w,hw,O];rw[s]at m;obtain⟨q',n,t⟩:=dD.mp m;have S:=yJ t;subst S;obtain⟨j,T⟩:=cJ n;have jl:j<i:=by have:=(aK.mp T).1;rw[dO]at this;lia
    rw[List.getElem?_take_of_lt jl]at T;have:=(List.getElem?_inj (l:=qs.reverse) (by rw[cU];lia) (List.pairwise_reverse.mpr (nd.imp λh=>h.symm))).mp (T.trans rv.symm);lia
  (dsimp?[uP,jW,pT,Cb]);refine#[_,.inr #[B,tk q,r,.inl (s3 _ _ hd),rfl,a1,e1.symm],_,rfl,_,.inl (SqL.of (s3 _ _ C)),λm hm=>?_];have G:aQ U (upd U m (.lst (A q))):=aQ.upd hm;have a4:M.length<=100:=by
   have:M.length=(M.map (·.1)).length:=(aA ..).symm;rw[s,aA,dO,cU]at this;lia
  have a3:l≠p:=λe=>by rw[e,u]at h3;cases h3
  refine#[_,.inr #[M,tk q,r,G _ _ u,rfl,G _ _ a1,by rw[sizeLine_eq];lia,rfl],?_];rw[nF _ N];refine#[_,_,rfl,λc o hc=>?_,by rw[bY a3];exact G _ _ h3,aI,?_,λq' n=>?_]
  .rw[bY (λe=>by rw[e,hp]at hc;cases hc)];exact G _ _ (s3 _ _ hc)
  .rw[aY,s,dI rv,aY];rfl
  .rw[dI rv]at n;have up:∀c F,(upd U m (.lst (A q))) c=some (.lst F)->(upd (upd U m (.lst (A q))) p (.dT (M++[(tk q,.ref m)]))) c=some (.lst F):=λc F hc=>by
    rw[bY (λe=>by rw[e,G _ _ u]at hc;cases hc)];exact hc
   rw[←nF (.ref m) N];unfold sD;rw[Ey];by_cases e:q'=q
   .subst e;exact#[m,by rw[aJ rfl],by rw[nF _ N];exact up _ _ aI]
   .rcases cW.mp n with n |n
    .obtain⟨l2,f1,y⟩:=a0 q' n;exact#[l2,by rw[aF λz=>e (yJ z)];exact f1,by rw[nF _ N];exact up _ _ (G _ _ y)]
    .exact absurd (bZ.mp n) e
 .rintro Z U ⟨M,o,rfl,s3,h3,u,s,a0⟩;(dsimp![aE,tC,tOp,rI0,rNe,gT,cQ,cV]);rw[aA,b,kl,←cU,cB]at s a0;exact k p M U s3 u s λq J=>a0 q (List.mem_reverse.mpr J)
def Yj:LS:=["_law_sizes","_law_found","_law_hand","_law_told"]
def Ia(K:aR):Sp:=λvs H Q _=>∃z ns,vs=[.ref z]/\SqL K H z (tv ns)/\Sz ns/\∀p xs H',aQ H H'->H' p=some (.lst xs)->Ps H' xs (fQ ns ns.length)->Q (.ref p) H'
def Ij(z:Addr)(C:Hp)(ns:List Nat):NS:=λi Z U=>∃l ys S A,Z=[some (.ref z),some (.ref l),S,A]/\aQ C U/\U l=some (.lst ys)/\Ps U ys (fQ ns i)
def jZU(z:Addr)(C:Hp)(ns:List Nat)(h n:Nat):NS:=λc Z U=>∃l ys A,Z=[some (.ref z),some (.ref l),some (.int h),A]/\aQ C U/\U l=some (.lst ys)/\Ps U ys (fQ ns h++(range c).flatMap (vL h n))
def zL(K:aR):TE:=(iA (aH (aE 1) (aH (aE 2) (aH (aE 0) bE))))
def zN(K:aR):TS:=(cT (tOp qJ (aE 1) (jX (hV (aH (tOp (fX K) (aE 0) (aE 2)) bE)) [2,3] (cV (tOp rNe (aE 0) (aE 2))) (zL K))) (aZ 1))
def zM(K:aR):TS:=(gI (hV (aH (tOp (fX K) (aE 0) (aE 2)) bE)) (aZ 3) (zN K))
def Ji(K:aR):TS:=(cC (gI (hV (aH (tCB (jE K) (aH (aE 0) bE)) bE)) (aZ 2) (zM K)) (cQ (aE 1)))
def Nd(K:aR):TS:=(cC (cT (kQ bE) (aZ 1)) (Ji K))
def jYe{K}:RdS K Ia Nd Yj:=by
 rintro vs H Q E ⟨z,ns,rfl,M,sz,q⟩;rw[show start Yj [ref z]=[some (.ref z),none,none,none]from rfl];have n3:=sz.len;have d:(tv ns).length=ns.length:=aA ..;(dsimp?[Nd,Ji,gI,hV]);refine#[sz0,λl Y=>?_];have O:aQ H (upd H l (.lst [])):=aQ.upd Y;have P:(upd H l (.lst [])) l=some (.lst []):=aI;generalize upd H l (.lst [])=S at O P;refine#[_,.inl (O.seq M),#[],#[],?_];rw[show((tv ns).length:Int).toNat=ns.length by rw[d];rfl];refine uF (lo:=0) (n:=ns.length) (g:=aZ 2) (D:={ nx:=cQ (aE 1) (eQ Q),rt:=Q }) (Ij z H ns) #[l,[],none,none,rfl,O,P,Ps.nil] ?_ ?_
 .rintro i Z U F ⟨l,T,x,A,rfl,s3,j,b⟩;have R:ns[i]?=some ns[i]:=aD F;have a:=sz.le ns[i] (cO F);have y:(tv ns)[i]?=some (.int (ns[i]:Nat)):=by unfold tv;rw[aX,R];rfl
  generalize hN:ns[i]=n at R a y;(dsimp?[zM,gI,hV];try simp_arith[zM,gI,hV,eP])
  refine#[_,s3.seq M,_,gU y,_,rfl,#[],#[],?_];rw[show((n:Nat):Int).toNat=n from rfl];refine uF (lo:=0) (n:=n) (g:=aZ 3) (D:={ nx:=Ij z H ns (i+1),rt:=Q,ct:=Ij z H ns (i+1),bk:=cQ (aE 1) (eQ Q) }) (jZU z H ns i n) #[l,T,_,rfl,s3,j,by rw[List.range_zero,List.flatMap_nil,cA];exact b] ?_ ?_
  .rintro c Z w hc ⟨l,T,J,rfl,X,s,b⟩;(dsimp?[zN,jX,hV];try simp_arith[zN,jX,hV,eP])
   refine#[_,X.seq M,_,gU y,_,rfl,#[],#[],?_];rw[show((n:Nat):Int).toNat=n from rfl];refine Ke (lo:=0) (n:=n) (λk N I=>aQ w I/\Ps I N (((range k).filter λo=>decide (o≠c)).map λo=>[i,c,o])) (pS #[]) #[aQ.refl _,Ps.nil] ?_ ?_
   .rintro k N I hk _ ⟨u,B⟩;(dsimp?[cN,bR,cR,zL];try simp_arith[cN,bR,cR,eP,zL])
    rw[gW,List.filter_append];refine#[rfl,?_];by_cases e:k=c
    .subst e;rw[aF (by simp),gQ (by simp),List.filter_nil,cA];exact#[u,B]
    .rw[aJ (by simp;lia),gP (by simpa using e),List.filter_nil];refine And.intro (sz3) (λr hr=>⟨u.trans (aQ.upd hr),?_⟩);rw[aY];exact(B.same (aQ.upd hr)).app (Ps.one (by rw[aI];rfl))
   .rintro N I ⟨u,B⟩ r hr;have v:aQ I (upd I r (.lst N)):=aQ.upd hr;have G:Ps I N (vL i n c):=B;have e1:=Yc sz (i:=i) #[];have C:=yV (f:=vL i n) (m:=6) (l:=range c) λc _=>cK yZ a;have e3:=@yZ i n c;have t:T.length=(fQ ns i++(range c).flatMap (vL i n)).length:=b.1;rw[bC]at t;rw[gX]at C;have e5:N.length=(vL i n c).length:=G.1;refine#[l,r,T,N,rfl,rfl,v _ _ (u _ _ s),aI,pS #[],λp hp=>#[p,T++N,_,rfl,((X.trans u).trans v).trans (aQ.upd hp),aI,?_]];rw[gW,List.flatMap_append,List.flatMap_singleton,←List.append_assoc];exact((b.same (u.trans v)).app (G.same v)).same (aQ.upd hp)
  .rintro Z w ⟨l,T,J,rfl,X,s,b⟩;refine#[l,T,_,_,rfl,X,s,?_];have e:fQ ns (i+1)=fQ ns i++(range n).flatMap (vL i n):=by
    unfold fQ;rw[gW,List.flatMap_append,List.flatMap_singleton,show ns.getD i 0=n by rw[aP,R];rfl];rfl
   rw[e];exact b
 .rintro Z U ⟨l,T,x,A,rfl,s3,j,b⟩;(dsimp![aE,tC,tOp,rI0,rNe,gT,cQ,cV]);exact q l T U s3 j b
def Tn:LS:=["_law_found"]
def lA(_:aR):Sp:=λvs H Q _=>∃i,vs=[.int i]/\Q (.bl true) H
def Bd(K:aR):TS:=(cQ (rY (tCB Kt (aH (aE 0) (aH (tC (.ty "int")) bE))) (yB (tCB Kt (aH (aE 0) (aH (tC (.ty "bool")) bE))))))
def jJn{K}:RdS K lA Bd Tn:=by
 rintro m H Q E ⟨i,rfl,q⟩;rw[show start Tn [int i]=[some (.int i)]from rfl]
 (try dsimp only[Bd,aE,tC,cQ,aH,bE,tCB,Kt,rY,yB,Lq0,fJ,fK,fH];try simp only[Bd,aE,tC,cQ,aH,bE,tCB,Kt,rY,yB,Lq0,Option.some.injEq,exists_eq_left',V.bl.injEq,V.ty.injEq,List.cons.injEq,and_true,exists_and_left,and_assoc,exists_eq_left,V.int.injEq,V.ref.injEq,true_and,fJ,fK,fH,hE,jZ,iQ])
 exact#[true,.inl #[rfl,rfl],iteT #[false,.inr #[rfl,rfl],q]]
def Yi:LS:=["_law_found","_law_due","_law_key","_law_one"]
def DueK(K:aR)(H:Hp)(l:Addr)(qs:fW):Prop:=(∃B,H l=some (.dT B)/\B.map (·.1)=qs.map tk)∨∃xs,SqL K H l xs/\Ps H xs qs
def Bi(K:aR):Sp:=λvs H Q _=>∃f l qs P,vs=[.ref f,.ref l]/\FrD K H f qs P/\(∀q∈qs,Ud (P q))/\DueK K H l qs/\qs.length<=100/\Q (.bl true) H
def oY(K:aR):TS:=(cQ (tC (.bl true)))
def zH(K:aR):TS:=(fS (tOr (cV (tOp kH (tOp (dU K) (aE 3) (tC (.int 1))) (tC (.int 1)))) (tOr (cV (tOp kH (tOp (dU K) (aE 3) (tC (.int 0))) (tC (.int 0)))) (cV (tOp rNe (cD (jH K) [] E0 (aH (tOp (dU K) (aE 3) (tC (.int 0))) (aH (tOp (dU K) (aE 3) (tC (.int 1))) bE))) (tC (.int 1)))))) (cQ (tC (.bl false))) eJ)
def zG(K:aR):TS:=(cC (fS (tOr (vJ (tB (tCB (cIsT K) (aH (aE 3) (aH (tC (.ty "tuple")) bE))))) (tOr (cV (tOp rNe (tCB (jE K) (aH (aE 3) bE)) (tC (.int 2)))) (tOr (vJ (tB (cD (lA K) [] E0 (aH (tOp (dU K) (aE 3) (tC (.int 0))) bE)))) (vJ (tB (cD (lA K) [] E0 (aH (tOp (dU K) (aE 3) (tC (.int 1))) bE))))))) (cQ (tC (.bl false))) eJ) (zH K))
def Jh(K:aR):TS:=(cC (cT (jW (aE 0) (aE 2)) (aZ 3)) (zG K))
def zI(K:aR):TS:=(cC (fS (tB (Eo (aE 2) (aE 0))) (cQ (tC (.bl false))) eJ) (Jh K))
def zF(K:aR):TS:=(cC (Lw (gI (Ly K (aE 1)) (aZ 2) (zI K))) (oY K))
def Nc(K:aR):TS:=(cC (fS (tOr (vJ (tB (tCB cIsD (aH (aE 0) (aH (tC (.ty "dict")) bE))))) (cV (tOp rNe (tCB Qy (aH (aE 0) bE)) (tCB (cLenA K) (aH (aE 1) bE))))) (cQ (tC (.bl false))) eJ) (zF K))
def SqT.offD{p r:Addr}{B:List (List Key×V)}(h:SqT K H p xs)(hr:Rd H r (.dT B)):SqT K (upd H r o) p xs:=by
 have n:∀{u:HO},H p=some u->(u=.tup xs∨∃o,u=.frz o (.tup xs))->p≠r:=λhp R e=>by
  subst e;rcases hr with hr |⟨o,hr⟩<;>rw[hp]at hr<;>cases hr<;>rcases R with R |⟨_,R⟩<;>cases R
 rcases h with(h |⟨o,h⟩)|h
 .exact .inl (.inl (by rw[bY (n h (.inl rfl))];exact h))
 .exact .inl (.inr #[o,by rw[bY (n h (.inr #[_,rfl]))];exact h])
 .exact .inr h
def Sf{D:rW}{f l b:Addr}{o:Option V}{U:Hp}{d:List (List Key×V)}{p:Int×Int}(rd:Rd U f (.dT d))(hb:U b=some (.tup ((tk q).map kV)))(i:kY d (tk q)=some (.ref a))(ha:SqT K U a [.int p.1,.int p.2])(ok:Ud p)(nx:D.nx [some (.ref f),some (.ref l),some (.ref b),some (.ref a)] U):zI K D [some (.ref f),some (.ref l),some (.ref b),o] U:=by
 (dsimp?[zI,Eo]);refine#[_,.inr #[d,tk q,b,rd,rfl,hb,rfl],?_];rw[i,aF (by simp)];(dsimp?[Jh,jW]);refine#[_,.inr #[d,tk q,b,rd,rfl,hb,i.symm],?_];(dsimp?[zG,cIsT];try simp_arith[zG,cIsT,lA])
 refine#[_,ha,sR #[_,.inr ha,sR #[_,ha,_,iR,_,rfl,sR #[_,ha,_,iB,_,rfl,sR ?_]]]];(dsimp?[zH];try simp_arith[zH,jH])
 have p:=ok.p;have n:=ok.n;refine#[_,ha,_,iB,_,rfl,kX (λz=>by lia) λ_=>#[_,ha,_,iR,_,rfl,kX (λz=>by lia) λ_=>#[_,ha,_,iR,_,ha,_,iB,_,rfl,_,rfl,?_]]];rw[ok.c,aF (by decide)];exact nx
def jYd{K}:RdS K Bi Nc Yi:=by
 rintro m H Q E ⟨f,l,qs,P,rfl,⟨B,hf,hk,hv⟩,ok,r,t,k⟩;rw[show start Yi [ref f,ref l]=[some (.ref f),some (.ref l),none,none]from rfl];have kl:B.length=qs.length:=by rw[←aA (f:=(·.1)),hk,aA]
 (dsimp?[Nc,cIsD,Qy,cLenA]);have go:zF K { nx:=λx d=>Q V.non d,rt:=Q } [some (ref f),some (ref l),none,none] H:=by
  (dsimp?[zF,Lw,gI,Ly]);intro n G;rcases r with⟨c,hd,p⟩|⟨F,Y,J⟩
  .have s:c.length=qs.length:=by rw[←aA (f:=(·.1)),p,aA]
   refine .inr #[c,.inl #[hd,λob=>?_]];have rd:Rd (upd H l (.frz ob (.dT c))) f (.dT B):=by
    by_cases e:f=l
    .subst e;rw[hf]at hd;cases hd;exact .inr #[ob,aI]
    .exact .inl (by rw[bY e];exact hf)
   refine Xz (a:=l) (ob:=ob) (kvs:=c) (g:=aZ 2) (D:=mayE n { nx:=oY K (eQ Q),rt:=Q }) (λi Z U=>∃S A,Z=[some (.ref f),some (.ref l),S,A]/\U=upd H l (.frz ob (.dT c))) #[none,none,rfl,rfl] ?_ ?_ ?_
   .rintro i Z U _ ⟨_,_,_,rfl⟩;exact aI
   .rintro i M C Z U hi ⟨S,A,rfl,rfl⟩ j;have v:=(aK.mp hi).1;obtain⟨q,eq⟩:∃q,qs[i]?=some q:=#[_,aD #[]];have e:M.1=tk q:=by
     have e1:(c.map (·.1))[i]?=some M.1:=by rw[aX,hi];rfl
     rw[p,aX,eq]at e1;exact(aV e1).symm
    rw[e]at j;obtain⟨a,e1,ha⟩:=hv q (aL eq)
    (try dsimp only[cC,cT,aZ,aE,tC,tOp,tUn,rI0,rI,rU,iF,kZ,eT,kR,Ja,gR,tV,iK,kH,Zl,tT,Ty,rEq,rNe,gT,cQ,fS,cV,tB,vJ,eJ,cD,aH,bE,iA,kQ,tCB,Dh,jE,Kt,tSl,lX,iC,xS,fX,dU,rY,Zk,Ek,tOr,yB,Qh,jL,jN,eK,jO,Lq0,Lq1,Ls0,Ls1,Lca,Lna,fJ,fK,fH];try simp only[cC,cT,aZ,aE,tC,tOp,tUn,rI0,rI,rU,iF,kZ,eT,kR,Ja,gR,tV,iK,kH,Zl,tT,Ty,rEq,rNe,gT,cQ,fS,cV,tB,vJ,eJ,cD,aH,bE,iA,kQ,tCB,Dh,jE,Kt,tSl,lX,iC,xS,fX,dU,rY,Zk,Ek,tOr,yB,Qh,jL,jN,eK,jO,Lq0,Lq1,Ls0,Ls1,Option.some.injEq,exists_eq_left',exists_eq_left,V.int.injEq,V.ref.injEq,V.bl.injEq,V.ty.injEq,List.cons.injEq,and_true,true_and,cA,exists_and_left,cP,Lca,Lna,and_assoc,fJ,fK,fH,hE,jZ,iQ])
    exact Sf rd j e1 (SqT.offD ha (.inl hd)) (ok q (aL eq)) #[_,_,rfl,rfl]
   .rintro Z U ⟨S,A,rfl,rfl⟩;refine .inr #[l,c,ob,(G l λo u z=>by rw[hd]at z;cases z),aI,?_];rw[show upd (upd H l (.frz ob (.dT c))) l (.dT c)=H from funext λb=>by
     by_cases e:b=l
     .rw[e,aI,hd]
     .rw[bY e,bY e]]
    (dsimp?[oY]);exact k
  .refine .inl #[#[_,Y],iU (K:=K) (a:=l) (xs:=F) (g:=aZ 2) (D:=mayE n { nx:=oY K (eQ Q),rt:=Q }) (λi Z U=>∃S A,Z=[some (.ref f),some (.ref l),S,A]/\U=H) #[none,none,rfl,rfl] ?_ ?_ ?_]
   .rintro i Z U _ ⟨_,_,_,rfl⟩;exact Y
   .rintro i x Z U hi ⟨S,A,rfl,rfl⟩;obtain⟨q,b,eq,rfl,hb⟩:=J.get hi;obtain⟨a,e1,ha⟩:=hv q (aL eq)
    (try dsimp only[cC,cT,aZ,aE,tC,tOp,tUn,rI0,rI,rU,iF,kZ,eT,kR,Ja,gR,tV,iK,kH,Zl,tT,Ty,rEq,rNe,gT,cQ,fS,cV,tB,vJ,eJ,cD,aH,bE,iA,kQ,tCB,Dh,jE,Kt,tSl,lX,iC,xS,fX,dU,rY,Zk,Ek,tOr,yB,Qh,jL,jN,eK,jO,Lq0,Lq1,Ls0,Ls1,Lca,Lna,fJ,fK,fH];try simp only[cC,cT,aZ,aE,tC,tOp,tUn,rI0,rI,rU,iF,kZ,eT,kR,Ja,gR,tV,iK,kH,Zl,tT,Ty,rEq,rNe,gT,cQ,fS,cV,tB,vJ,eJ,cD,aH,bE,iA,kQ,tCB,Dh,jE,Kt,tSl,lX,iC,xS,fX,dU,rY,Zk,Ek,tOr,yB,Qh,jL,jN,eK,jO,Lq0,Lq1,Ls0,Ls1,Option.some.injEq,exists_eq_left',exists_eq_left,V.int.injEq,V.ref.injEq,V.bl.injEq,V.ty.injEq,List.cons.injEq,and_true,true_and,cA,exists_and_left,cP,Lca,Lna,and_assoc,fJ,fK,fH,hE,jZ,iQ])
    exact Sf (.inl hf) (by rw[tU];exact hb) e1 ha (ok q (aL eq)) #[_,_,rfl,rfl]
   .rintro Z U ⟨S,A,rfl,rfl⟩;refine .inl ?_;(dsimp?[oY]);exact k
 refine#[B,hf,sR #[B,hf,?_]];rcases r with⟨c,hd,p⟩|⟨F,Y,J⟩
 .refine .inl #[c,hd,?_];have s:c.length=qs.length:=by rw[←aA (f:=(·.1)),p,aA]
  rw[aF (by simp [kl,s])];exact go
 .refine .inr #[F,.inl Y,?_];rw[aF (by simp [kl,J.1])];exact go
def Tr:LS:=["_law_pairs","_law_top","_law_bottom","_law_one","_law_other"]
def PF(K:aR)(H:Hp)(xs:List V)(n:Nat)(f g:Nat->Int×Int):Prop:=xs.length=n/\∀i,i<n->∃a p q,xs[i]?=some (.ref a)/\SqT K H a [.ref p,.ref q]/\SqT K H p [.int (f i).1,.int (f i).2]/\SqT K H q [.int (g i).1,.int (g i).2]
def lB(K:aR):Sp:=λvs H Q _=>∃l xs,∃n:Nat,∃f g:Nat->Int×Int,vs=[.ref l]/\SqL K H l xs/\PF K H xs n f g/\n<=100/\(∀k,k<n->G4 (f k)/\G4 (g k))/\∀p H',aQ H H'->H' p=some (.tup [.int (jV n f g).1,.int (jV n f g).2])->Q (.ref p) H'
def jZQ(l:Addr)(f g:Nat->Int×Int)(C:Hp):NS:=λi Z U=>∃S A,Z=[some (.ref l),some (.int (jV i f g).1),some (.int (jV i f g).2),S,A]/\U=C
def wU(K:aR):TS:=(cQ (iA (aH (aE 1) (aH (aE 2) bE))))
def wT(K:aR):TS:=(cT (tOp eT (tOp eT (aE 2) (tOp (dU K) (aE 3) (tC (.int 1)))) (tOp (dU K) (aE 4) (tC (.int 1)))) (aZ 2))
def wW(K:aR):TS:=(cC (cT (tOp iF (tOp eT (tOp eT (aE 1) (tOp (dU K) (aE 3) (tC (.int 1)))) (tOp (dU K) (aE 4) (tC (.int 1)))) (tOp eT (tOp eT (tOp (dU K) (aE 3) (tC (.int 0))) (tOp (dU K) (aE 4) (tC (.int 0)))) (aE 2))) (aZ 1)) (wT K))
def wV(K:aR):TG:=(jN K 2 (eK (aZ 3) (eK (aZ 4) jO)))
def Gi(K:aR):TS:=(cC (gI (dC K (aE 0)) (wV K) (wW K)) (wU K))
def Gh(K:aR):TS:=(cC (cT (tC (.int 1)) (aZ 2)) (Gi K))
def Hq(K:aR):TS:=(cC (cT (tC (.int 0)) (aZ 1)) (Gh K))
def jJr{K}:RdS K lB Hq Tr:=by
 rintro m H Q E ⟨l,F,n,f,g,rfl,Y,⟨xl,hp⟩,R,hk,q⟩;rw[show start Tr [ref l]=[some (.ref l),none,none,none,none]from rfl];(dsimp?[Hq,Gh,Gi,gI,dC]);refine#[#[_,Y],iU (K:=K) (a:=l) (xs:=F) (g:=wV K) (D:={ nx:=wU K (eQ Q),rt:=Q }) (jZQ l f g H) #[none,none,rfl,rfl] ?_ ?_ ?_]
 .rintro i Z U _ ⟨_,_,_,rfl⟩;exact Y
 .rintro i x Z U hx ⟨S,A,rfl,rfl⟩;have X:i<n:=by rw[←xl];exact(aK.mp hx).1
  obtain⟨a,p,r,e,ha,c,o⟩:=hp i X;rw[hx]at e;cases e;obtain⟨⟨t,y⟩,⟨N,g2⟩⟩:=hk i X;obtain⟨j,d⟩:=Vi (f:=f) (g:=g) (q:=40000) (n:=i) λk s=>by have:=hk k #[];exact#[this.1.1,this.1.2,this.2.1,this.2.2]
  have j:=j.mono (show(40000+40000+1)*i+1<=9000000 by lia);have d:=d.mono (show(40000+40000+1)*i+1<=9000000 by lia);(dsimp?[wV,wW,wT]);refine#[_,ha,rfl,_,_,rfl,_,_,rfl,rfl,?_];(dsimp?[wW,wT]);exact#[_,rfl,_,c,_,iB,_,rfl,.b j y,_,rfl,_,o,_,iB,_,rfl,.b (j.mul y) g2,_,rfl,_,c,_,iR,_,rfl,_,o,_,iR,_,rfl,_,rfl,.b t N,.b (t.mul N) d,_,rfl,_,c,_,iB,_,rfl,.b d y,_,rfl,_,o,_,iB,_,rfl,.b (d.mul y) g2,_,_,rfl,rfl]
 .rintro Z U ⟨S,A,rfl,rfl⟩;(dsimp?[wU]);rw[xl];refine#[sz2,λp hp=>q p _ (aQ.upd hp) aI]
def jX4:LS:=["_law_play","_law_hand","_law_choice"]
def Ni(_:aR):Sp:=λvs H Q _=>∃a zs h c,vs=[.ref a,.int (h:Nat),.int c]/\H a=some (.tup (map int zs))/\h<zs.length/\zs.length<=100/\∀p H',aQ H H'->H' p=some (.tup (map int (zs.set h c)))->Q (.ref p) H'
def Va(K:aR):TS:=(cQ (tOp sB (tOp sB (tSl Qi (aE 0) iC (lX (aE 1))) (iA (aH (aE 2) bE))) (tSl Qi (aE 0) (lX (tOp iF (aE 1) (tC (.int 1)))) iC)))
def jWi{K}:RdS K Ni Va jX4:=by
 rintro m H Q E ⟨a,N,h,c,rfl,ha,Y,b,q⟩;rw[show start jX4 [ref a,int h,int c]=[some (.ref a),some (.int h),some (.int c)]from rfl];(dsimp?[Va,sB,Qi]);have e:=Bb (map int N) none (some (h:Int));have d:=Bb (map int N) (some ((h:Int)+1)) none;rw[aA]at e d;refine#[_,ha,λT S O h1=>#[sz1,λl j=>?_]];have F:aQ S (upd S l (.tup [.int c])):=aQ.upd j;refine#[_,F _ _ h1,_,aI,pS (by show _+1<=216;lia),λP U s3 h3=>?_];refine#[_,s3 _ _ (F _ _ (O _ _ ha)),λD w G A=>?_];refine#[_,G _ _ h3,_,A,pS (by rw[bC];show _+1+_<=216;lia),λr I X i=>q r I (O.trans (F.trans (s3.trans (G.trans X)))) ?_];rw[i,jJJ,show((h:Int)+1)=((h+1:Nat):Int) by lia,Ob,List.set_eq_take_append_cons_drop,aJ Y,aY,bR,map_take,List.map_drop,List.append_assoc];rfl
def Yh:LS:=["_law_cells","_law_play","_law_ask","_law_left","_law_right_here"]
structure CeR(H:Hp)(d:Addr)(ns:List Nat)(cont:List Nat->List V)(un:List Nat->Nat->Int):Prop where
 rd:∃kv,Rd H d (.dT kv)/\∀q∈dM ns.reverse,sD H kv cont q
 en:∀q∈dM ns.reverse,∀h,h<ns.length->∃v,(cont q)[h]?=some v/\En H v (un q h)
def CeR.same{d:Addr}{A:List Nat->List V}{un:List Nat->Nat->Int}(h:CeR H d ns A un)(s:aQ H H'):CeR H' d ns A un:=
 #[let⟨kv,r,c⟩:=h.rd;#[kv,r.imp (s _ _) λ⟨o,e⟩=>#[o,s _ _ e],λq J=>(c q J).same s],λq J i hi=>let⟨v,e,n⟩:=h.en q J i hi;#[v,e,n.keep (eN s)]]
def Bh(_:aR):Sp:=λvs H Q _=>∃d pl a ns A un q h c o n,vs=[.ref d,.ref pl,.ref a]/\CeR H d ns A un/\Sz ns/\H pl=some (.tup (tv q))/\q∈dM ns.reverse/\H a=some (.tup (tv [h,c,o]))/\ns[h]?=some n/\o<n/\
 ∀x y p H',aQ H H'->H' p=some (.tup [.int x,.int y])->0<y->BB 40 y->x*SS=(un q h-un (q.set h o) h)*y->BB 100 x->Q (.ref p) H'
def Jg(K:aR):TS:=(cQ (iA (aH (tOp kZ (tOp eT (tOp (dU K) (aE 3) (tC (.int 0))) (tOp (dU K) (aE 4) (tC (.int 1)))) (tOp eT (tOp (dU K) (aE 4) (tC (.int 0))) (tOp (dU K) (aE 3) (tC (.int 1))))) (aH (tOp eT (tOp (dU K) (aE 3) (tC (.int 1))) (tOp (dU K) (aE 4) (tC (.int 1)))) bE))))
def Jf(K:aR):TS:=(cC (cT (tOp (fX K) (jW (aE 0) (cD (Ni K) [] E0 (aH (aE 1) (aH (tOp (dU K) (aE 2) (tC (.int 0))) (aH (tOp (dU K) (aE 2) (tC (.int 2))) bE))))) (tOp (dU K) (aE 2) (tC (.int 0)))) (aZ 4)) (Jg K))
def Nb(K:aR):TS:=(cC (cT (tOp (fX K) (jW (aE 0) (aE 1)) (tOp (dU K) (aE 2) (tC (.int 0)))) (aZ 3)) (Jf K))
def jYc{K}:RdS K Bh Nb Yh:=by
 rintro m H Q E ⟨d,g,a,ns,A,un,q,h,c,o,n,rfl,w,sz,hp,J,ha,R,D,k⟩;have Y:h<ns.length:=(aK.mp R).1;have ql:q.length=ns.length:=by rw[iE _ q J,cU]
 have n3:=sz.len;rw[show start Yh [ref d,ref g,ref a]=[some (.ref d),some (.ref g),some (.ref a),none,none]from rfl];have M:=Np J R D;obtain⟨B,rd,u⟩:=w.rd;obtain⟨P,e1,N⟩:=u _ J;obtain⟨v1,f1,a3⟩:=w.en _ J h Y;have a4:H g=some (.tup ((tk q).map kV)):=by rw[tU];exact hp
 (dsimp?[Nb,jW]);refine#[_,.inr #[B,tk q,g,rd,rfl,a4,e1.symm],_,SqT.of ha,_,iR,_,rfl,_,rfl,_,SqL.of N,_,gU f1,?_];(dsimp?[Jf,jW]);refine#[_,SqT.of ha,_,iR,_,SqT.of ha,_,atI2,?_];have tz:∀r:List Nat,map int (r.map λn:Nat=>(n:Int))=tv r:=λr=>by unfold tv;rw[List.map_map];rfl
 refine#[g,q.map λn:Nat=>(n:Int),h,o,rfl,by rw[tz];exact hp,by rw[aA];lia,by rw[aA];lia,λp S O h1=>?_];rw[show(q.map λn:Nat=>(n:Int)).set h (o:Int)=(q.set h o).map λn:Nat=>(n:Int) by rw[List.map_set],tz]at h1;have a0:S p=some (.tup ((tk (q.set h o)).map kV)):=by rw[tU];exact h1
 have j:=w.same O;obtain⟨Z,C,g2⟩:=u _ M;obtain⟨v2,y,x⟩:=j.en _ M h Y;refine#[_,.inr #[B,_,p,rd.imp (O _ _) λ⟨o,e⟩=>#[o,O _ _ e],rfl,a0,C.symm],_,SqT.of (O _ _ ha),_,iR,_,rfl,_,rfl,_,SqL.of (O _ _ g2),_,gU y,?_];obtain⟨a1,x1,X,rfl,k1,T,p9,f,b1⟩:=a3.keep (eN O);obtain⟨U,I,v,rfl,k2,l,p8,r2,b2⟩:=x;have s:BB 20 X:=by unfold BB;lia
 have i:BB 20 v:=by unfold BB;lia
 have t:SqT K S a1 _:=SqT.of k1;have F:SqT K S U _:=SqT.of k2;(dsimp?[Jg]);refine#[_,t,_,iR,_,F,_,iB,_,rfl,_,rfl,.b b1 i,_,F,_,iR,_,t,_,iB,_,rfl,_,rfl,.b b2 s,_,t,_,iB,_,F,_,iB,_,rfl,_,rfl,.b s i,sz2,λr hr=>?_];have z:BB 40 (X*v):=s.mul i;refine k _ _ r _ (O.trans (aQ.upd hr)) aI (bF T l) z (by grind) ?_;have q1:=b1.mul i;have G:=b2.mul s;unfold BB at*;have:=Nat.pow_lt_pow_right (show 1<2 by decide) (show 61<100 by decide);lia
def Pa:LS:=["_law_cells","_law_plan","_law_needs","_law_ask","_law_pairs"]
def aQ.thaw{d:Addr}{u:HO}(hd:H d=some u)(s:aQ (upd H d o) H'):aQ H (upd H' d u):=λb v e=>by
 by_cases z:b=d
 .rw[z,aI,←e,z,hd]
 .rw[bY z];exact s b v (by rw[bY z];exact e)
def PV(b:Nat)(K:aR)(H:Hp)(xs:List V)(r:Rat):Prop:=∃n f g,PF K H xs n f g/\(∀k,k<n->Gp b b (f k)/\Gp b b (g k))/\rsm n (λk=>va (f k)*va (g k))=r
def PV.nil{b:Nat}:PV b K H [] 0:=#[0,λ_=>(0,1),λ_=>(0,1),#[rfl,λi h=>absurd h (eO _)],λi h=>absurd h (eO _),rfl]
def PV.map{b:Nat}{r:Rat}(h:PV b K H xs r)(s:∀a T,SqT K H a T->SqT K H' a T):PV b K H' xs r:=let⟨n,f,g,⟨l,p⟩,k⟩:=h;#[n,f,g,#[l,λi hi=>let⟨a,p,q,e,h1,h2,h3⟩:=p i hi;#[a,p,q,e,s _ _ h1,s _ _ h2,s _ _ h3]],k]
def PV.same{b:Nat}{r:Rat}(h:PV b K H xs r)(s:aQ H H'):PV b K H' xs r:=h.map λ_ _ t=>s.tup t
def PV.snoc{b:Nat}{r:Rat}{p q:Addr}{g:Int×Int}(h:PV b K H xs r)(ha:SqT K H a [.ref p,.ref q])(hp:SqT K H p [.int f.1,.int f.2])(J:SqT K H q [.int g.1,.int g.2])(j:Gp b b f)(gg:Gp b b g):PV b K H (xs++[.ref a]) (r+va f*va g):=by
 obtain⟨n,D,o,⟨l,c⟩,k,e⟩:=h;refine#[n+1,λk=>if k=n then f else D k,λk=>if k=n then g else o k,#[by rw[bC,l];rfl,λi hi=>?_],λi hi=>?_,?_]
 .dsimp only;by_cases z:i=n
  .rw[aJ z,aJ z];exact#[a,p,q,by rw[z,←l,bO (aM _),gH];rfl,ha,hp,J]
  .rw[aF z,aF z];obtain⟨a,p,q,e,h1,h2,h3⟩:=c i #[];exact#[a,p,q,by rw[bV #[]];exact e,h1,h2,h3]
 .dsimp only;by_cases z:i=n
  .rw[aJ z,aJ z];exact#[j,gg]
  .rw[aF z,aF z];exact k i #[]
 .show rsm n _+va (if n=n then f else D n)*va (if n=n then g else o n)=_;rw[aJ rfl,aJ rfl,←e,fC (g:=λk=>va (D k)*va (o k)) λk hk=>by dsimp only;rw[aF #[],aF #[]]]
def PV.mono{b:Nat}{r:Rat}(h:PV b K H xs r)(hc:b<=c):PV c K H xs r:=let⟨n,f,g,p,k,e⟩:=h;#[n,f,g,p,λi hi=>let⟨⟨a1,a2,a3⟩,c1,c2,c3⟩:=k i hi;#[#[a1,a2.mono hc,a3.mono hc],c1,c2.mono hc,c3.mono hc],e]
def PV.use{b:Nat}{r:Rat}{l:Addr}{E:XK}(h:PV b K H xs r)(Y:SqL K H l xs)(hb:b<=40000)(R:xs.length<=100)(k:∀p f d,aQ H d->d p=some (.tup [.int f.1,.int f.2])->Gp ((b+b+1)*xs.length+1) ((b+b+1)*xs.length+1) f->va f=r->Q (.ref p) d):lB K [.ref l] H Q E:=by
 obtain⟨n,f,g,p,a,e⟩:=h;have P:=p.1;refine#[l,xs,n,f,g,rfl,Y,p,#[],λi hi=>let⟨⟨_,a2,a3⟩,_,c2,c3⟩:=a i hi;#[#[a2.mono hb,a3.mono hb],c2.mono hb,c3.mono hb],λp d s hp=>k p _ d s hp #[jR (λi hi=>(a i hi).1.1) λi hi=>(a i hi).2.1,?_] ?_]
 .have bb:=Vi (f:=f) (g:=g) (q:=b) (n:=n) λi hi=>#[(a i hi).1.2.1,(a i hi).1.2.2,(a i hi).2.2.1,(a i hi).2.2.2];rw[P];exact bb
 .rw[yI (λi hi=>(a i hi).1.1) λi hi=>(a i hi).2.1];exact e
def va_ge0(p:0<f.2)(h:0<=va f):0<=f.1:=by
 rw[←vT]at h;have:=(qL (by decide) p).mp h;simpa using this
structure CeD(H:Hp)(d:Addr)(ns:List Nat)(kv:List (List Key×V))(cont:List Nat->List V)(un:List Nat->Nat->Int):Prop where
 hd:H d=some (.dT kv)
 ks:kv.map (·.1)=(dM ns.reverse).map tk
 cel:∀q∈dM ns.reverse,sD H kv cont q
 cl:∀q∈dM ns.reverse,(cont q).length=ns.length
 en:∀q∈dM ns.reverse,∀h,h<ns.length->∃v,(cont q)[h]?=some v/\En H v (un q h)
 sz:Sz ns
 q8:(dM ns.reverse).length<=9
 b6:(fQ ns ns.length).length<=30
def CeD.same{d:Addr}{B:List (List Key×V)}{A:List Nat->List V}{un:List Nat->Nat->Int}(h:CeD H d ns B A un)(s:aQ H H'):CeD H' d ns B A un:=#[s _ _ h.hd,h.ks,λq J=>(h.cel q J).same s,h.cl,λq J i hi=>let⟨v,e,n⟩:=h.en q J i hi;#[v,e,n.keep (eN s)],h.sz,h.q8,h.b6]
def CeD.frz{H:Hp}{d:Addr}{ns:List Nat}{B:List (List Key×V)}{A:List Nat->List V}{un:List Nat->Nat->Int}(h:CeD H d ns B A un)(ob:Obj):CeR (upd H d (.frz ob (.dT B))) d ns A un:=by
 have hd:=h.hd;refine#[#[B,.inr #[ob,aI],λq J=>let⟨l,e1,e2⟩:=h.cel q J;#[l,e1,by rw[bY λz=>by rw[z,hd]at e2;cases e2];exact e2]],λq J i hi=>let⟨v,e,n⟩:=h.en q J i hi;#[v,e,n.keep λa F ha=>?_]];rw[bY λz=>by rw[z,hd]at ha;cases ha];exact ha
def CeD.key{d:Addr}{B:List (List Key×V)}{A:List Nat->List V}{un:List Nat->Nat->Int}(h:CeD H d ns B A un){p:List Key×V}(e:B[i]?=some p):∃q,(dM ns.reverse)[i]?=some q/\p.1=tk q:=by
 have e1:(B.map (·.1))[i]?=some p.1:=by rw[aX,e];rfl
 rw[h.ks,aX]at e1;cases eq:(dM ns.reverse)[i]? with
 |none=>rw[eq]at e1;cases e1
 |some q=>rw[eq]at e1;exact#[q,rfl,(aV e1).symm]
def CeD.len{d:Addr}{B:List (List Key×V)}{A:List Nat->List V}{un:List Nat->Nat->Int}(h:CeD H d ns B A un):B.length=(dM ns.reverse).length:=by rw[←aA (f:=(·.1)),h.ks,aA]
def zV(K:aR):Sp:=λvs H Q _=>∃d D nd ns B A un P xs,vs=[.ref d,.ref D,.ref nd]/\CeD H d ns B A un/\FrD K H D (dM ns.reverse) P/\(∀q∈dM ns.reverse,Ud (P q))/\SqL K H nd xs/\Ps H xs (fQ ns ns.length)/\D≠d/\(∀b∈fQ ns ns.length,lsm (dM ns.reverse) (λq=>va (P q)*va (mo un q b))<=0)/\∀H',aQ H H'->Q (.bl true) H'
def Zf(d D nd:Addr)(C:Hp):NS:=λ_ Z U=>∃S A,Z=[some (.ref d),some (.ref D),some (.ref nd),S,A]/\aQ C U
def sW(K:aR):TS:=(cQ (tC (.bl true)))
def Cj(K:aR):TS:=(fS (cV (tOp kH (tOp (dU K) (cD (lB K) [] E0 (aH (aE 4) bE)) (tC (.int 0))) (tC (.int 0)))) (cQ (tC (.bl false))) eJ)
def Ck(K:aR):TE:=(iA (aH (jW (aE 1) (aE 0)) (aH (cD (Bh K) [] E0 (aH (aE 2) (aH (aE 0) (aH (aE 3) bE)))) bE)))
def Cl(K:aR):TS:=(cC (Lw (cT (jX (Ly K (aE 0)) [1,0,3] (cV (tOp rEq (tOp (dU K) (aE 0) (tOp (dU K) (aE 3) (tC (.int 0)))) (tOp (dU K) (aE 3) (tC (.int 1))))) (Ck K)) (aZ 4))) (Cj K))
def Dm(K:aR):TS:=(cC (gI (dC K (aE 2)) (aZ 3) (Cl K)) (sW K))
def jZz{un:List Nat->Nat->Int}{o:Nat}{x y:Int}(J:q[h]?=some c)(p:0<y)(e:x*SS=(un q h-un (q.set h o) h)*y):va (x,y)= -(va (mo un q [h,c,o])):=by
 rw[Wr,aJ J,va_of (f:=(x,y)) p vR e];unfold uR;rw[Rat.intCast_sub,vP,vP,vP];grind
def Yr{K}:RdS K zV Dm Pa:=by
 rintro m H Q E ⟨d,pd,nd,ns,B,A,un,P,F,rfl,w,fp,ok,R,ps,ne,le,k⟩;rw[show start Pa [ref d,ref pd,ref nd]=[some (.ref d),some (.ref pd),some (.ref nd),none,none]from rfl];(dsimp?[Dm,gI,dC]);refine#[#[_,R],iU (K:=K) (a:=nd) (xs:=F) (g:=aZ 3) (D:={ nx:=sW K (eQ Q),rt:=Q }) (Zf d pd nd H) #[none,none,rfl,aQ.refl _] ?_ ?_ ?_]
 .rintro i Z U _ ⟨_,_,_,s3⟩;exact s3.seq R
 .rintro i x Z U hi ⟨S,o2,rfl,s3⟩;obtain⟨b,ba,O,rfl,hb⟩:=(ps.same s3).get hi;have bm:=aL O;obtain⟨h,c,o,n,rfl,a2,hc,ho,_⟩:=Ex bm;have Y:=(aK.mp a2).1;have a3:=w.same s3;obtain⟨kp,hp,hk,hv⟩:=fp.same s3;have hd:=a3.hd;have q8:=w.q8;have kl:=w.len;(dsimp?[Cl,Lw,jX,Ly]);intro NF nf;refine .inr #[B,.inl #[hd,λob=>?_]];have l:(upd U d (.frz ob (.dT B))) ba=some (.tup (tv [h,c,o])):=by rw[bY λz=>by rw[z,hd]at hb;cases hb];exact hb
  have a8:(upd U d (.frz ob (.dT B))) pd=some (.dT kp):=by rw[bY ne];exact hp
  have rf:=a3.frz ob;refine jZg (a:=d) (ob:=ob) (kvs:=B) (λi N I=>aQ (upd U d (.frz ob (.dT B))) I/\N.length<=i/\PV 40000 K I N (lsm (((dM ns.reverse).take i).filter λq=>decide (q[h]?=some c)) λq=>va (P q)*-(va (mo un q [h,c,o])))) (by rw[sizeLine_eq];lia) #[aQ.refl _,aM _,PV.nil] ?_ ?_ ?_
  .rintro i N I _ ⟨X,_⟩;exact X _ _ aI
  .rintro i M C N I a9 _ ⟨X,zl,G⟩ j;obtain⟨q,eq,e⟩:=w.key a9;rw[e,tU]at j;have J:=aL eq;have ql:q.length=ns.length:=by rw[iE _ q J,cU]
   have a0:=X _ _ l;have a1:q[h]?=some q[h]:=aD #[];rw[dI eq,List.filter_append];(dsimp?[Ck,jW,cN,bR,cR,bH]);refine#[_,SqT.of a0,_,iR,_,rfl,_,SqT.of j,.int q[h],gU (by unfold tv;rw[aX,a1];rfl),_,SqT.of a0,.int c,iB,rfl,?_];by_cases e:q[h]=c
   .obtain⟨a,e1,ha⟩:=hv q J;have a4:q[h]?=some c:=by rw[a1,e]
    have b0:=X.tup (SqT.offD ha (.inl hd) (o:=.frz ob (.dT B)));rw[aJ (by rw[e]),gP (by simpa using a4),List.filter_nil];refine#[_,.inr #[kp,tk q,C,.inl (X _ _ a8),rfl,by rw[tU];exact j,e1.symm],d,C,ba,ns,A,un,q,h,c,o,n,rfl,rf.same X,w.sz,j,J,a0,a2,ho,λx y r H6 s hr y0 b3 ex bx=>#[sz2,λp a5=>?_]];have s7:=s.trans (aQ.upd (o:=tup [ref a,ref r]) a5);have k:=ok q J;refine#[X.trans s7,by rw[bC];show _+1<=_;lia,?_];rw[oO];show PV 40000 K _ _ (_+(va (P q)*-(va (mo un q [h,c,o]))+0));rw[Rat.add_zero,←jZz a4 y0 ex];exact(G.same s7).snoc (SqT.of aI) (s7.tup b0) (g:=(x,y)) (SqT.of (aQ.upd a5 _ _ hr)) #[k.p,k.b1,k.b2] #[y0,bx.mono (by decide),b3.mono (by decide)]
   .rw[aF (by simp;lia),gQ (by rw[a1];simp;exact e),List.filter_nil,cA];exact#[X,#[],G]
  .rintro N I ⟨X,zl,G⟩ p a6;have s:=X.trans (aQ.upd (o:=lst N) a6);have f6:=s _ _ (aI (H:=U) (a:=d) (o:=.frz ob (.dT B)));have p6:(upd I p (.lst N)) p=some (.lst N):=aI;have a7:=G.same (aQ.upd (o:=lst N) a6);refine .inr #[d,B,ob,(nf d λo u z=>by rw[hd]at z;cases z),f6,?_];generalize upd I p (.lst N)=H6 at s f6 p6 a7;have s7:=aQ.thaw hd s;have b4:=a7.map (H':=upd H6 d (.dT B)) λa T t=>SqT.offD t (.inr #[ob,f6]);have p7:(upd H6 d (.dT B)) p=some (.lst N):=by rw[bY λz=>by rw[z,f6]at p6;cases p6];exact p6
   (dsimp?[Cj]);refine b4.use (SqL.of p7) (by decide) #[] λr f H8 v hr gf ev=>#[_,rfl,_,SqT.of hr,_,iR,_,rfl,?_];have e:lsm (((dM ns.reverse).take B.length).filter λq=>decide (q[h]?=some c)) (λq=>va (P q)*-(va (mo un q [h,c,o])))=lsm (dM ns.reverse) (λq=>va (P q)*va (mo un q [h,c,o]))*(-1):=by
    rw[kl,cB,Ed,←mY];refine iN λq _=>?_;by_cases z:q[h]?=some c
    .rw[aJ (by simpa using z)];grind
    .rw[aF (by simpa using z),Wr,aF z];grind
   rw[e]at ev;have l0:=le _ bm;have n0:=va_ge0 gf.1 (by rw[ev];grind);exact kX (λz=>by lia) λ_=>#[_,_,rfl,(s3.trans s7).trans v]
 .rintro Z U ⟨S,o2,rfl,s3⟩;(dsimp?[sW]);exact k U s3
def xO:LS:=["_law_cells","_law_weights","_law_needs","_law_goal","_law_most","_law_play","_law_pairs","_law_total"]
def SqL.offD{p r:Addr}{B:List (List Key×V)}(h:SqL K H p xs)(hr:Rd H r (.dT B)):SqL K (upd H r o) p xs:=by
 have n:∀{u:HO},H p=some u->(u=.lst xs∨∃o,u=.frz o (.lst xs))->p≠r:=λhp R e=>by
  subst e;rcases hr with hr |⟨o,hr⟩<;>rw[hp]at hr<;>cases hr<;>rcases R with R |⟨_,R⟩<;>cases R
 rcases h with(h |⟨o,h⟩)|h
 .exact .inl (.inl (by rw[bY (n h (.inl rfl))];exact h))
 .exact .inl (.inr #[o,by rw[bY (n h (.inr #[_,rfl]))];exact h])
 .exact .inr h
def Ii{r:Addr}{B:List (List Key×V)}(hr:H r=some (.dT B)):Cf H (upd H r o):=λa F h=>by rw[bY λz=>by rw[z,hr]at h;cases h];exact h
def FrD.off{d r:Addr}{P:List Nat->Int×Int}{B:List (List Key×V)}(h:FrD K H d qs P)(hr:H r=some (.dT B))(ne:d≠r):FrD K (upd H r o) d qs P:=let⟨B,a,b,c⟩:=h;#[B,by rw[bY ne];exact a,b,λq J=>let⟨a,e,t⟩:=c q J;#[a,e,SqT.offD t (.inl hr)]]
def PV.app{b:Nat}{r s:Rat}(h:PV b K H xs r)(h2:PV b K H ys s):PV b K H (xs++ys) (r+s):=by
 obtain⟨n,f,g,⟨l,c⟩,k,e⟩:=h;obtain⟨m,D,o,⟨w,j⟩,d,A⟩:=h2;have X:∀(F G:Nat->Rat)(m:Nat),rsm (n+m) (λk=>if k<n then F k else G (k-n))=rsm n F+rsm m G:=λF G m=>by
  induction m with
  |zero=>rw[Nat.add_zero,fC λk hk=>aJ hk];show _=_+(0:Rat);grind
  |succ m ih=>
   show rsm (n+m) _+(if n+m<n then _ else _)=_+(rsm m G+G m);rw[ih,aF #[],show n.add m-n=m by show n+m-n=m;lia];grind
 refine#[n+m,λk=>if k<n then f k else D (k-n),λk=>if k<n then g k else o (k-n),#[by rw[bC,l,w],λi hi=>?_],λi hi=>?_,?_]
 .dsimp only;by_cases z:i<n
  .rw[aJ z,aJ z];obtain⟨a,p,q,e,t⟩:=c i z;exact#[a,p,q,by rw[bV #[]];exact e,t]
  .rw[aF z,aF z];obtain⟨a,p,q,e,t⟩:=j (i-n) #[];exact#[a,p,q,by rw[bO #[],l];exact e,t]
 .dsimp only;by_cases z:i<n
  .rw[aJ z,aJ z];exact k i z
  .rw[aF z,aF z];exact d (i-n) #[]
 .rw[←e,←A,←X];exact fC λk _=>by dsimp only;split<;>rfl
noncomputable def frV(H:Hp):V->Int×Int
 | .ref a=>match H a with
  |some (.tup [.int x,.int y])=>(x,y)
  |_=>(0,1)
 |_=>(0,1)
def En.fr{v:V}(h:En H v u):∃a,v=.ref a/\H a=some (.tup [.int (frV H v).1,.int (frV H v).2])/\Gp 40 40 (frV H v)/\va (frV H v)=((u:Int):Rat)/((SS:Int):Rat):=by
 obtain⟨a,x,y,rfl,ha,y0,j,e,bx⟩:=h;have O:frV H (.ref a)=(x,y):=by show(match H a with |some (.tup [.int x,.int y])=>(x,y)|_=>(0,1))=_;rw[ha]
 rw[O];exact#[a,rfl,ha,#[y0,bx,(show BB 20 y by unfold BB;lia).mono (by decide)],va_of (f:=(x,y)) y0 vR e]
def zip_pv{n:Nat}{G U:Nat->Int}(hx:∀h v,xs[h]?=some v->En H v (G h))(d:∀h,h<n->∃v,ys[h]?=some v/\En H v (U h))(xl:xs.length=n)(pl:ps.length=xs.length)(c:∀(i:Nat) q x y,ps[i]?=some q->xs[i]?=some x->ys[i]?=some y->H q=some (.tup [x,y])):PV 40 K H (ps.map ref) (va (lo2 (sm n λh=>G h*U h) (SS*SS))):=by
 have ex:∀{h},h<n->xs[h]?=some (xs.getD h .non):=λ{h} t=>by rw[aP,aD #[]];rfl
 have S:∀{h},h<n->ys[h]?=some (ys.getD h .non)/\En H (ys.getD h .non) (U h):=λ{h} t=>by
  obtain⟨v,e,k⟩:=d h t;rw[aP,e];exact#[rfl,k]
 refine#[n,λh=>frV H (xs.getD h .non),λh=>frV H (ys.getD h .non),#[by rw[aA];lia,λi hi=>?_],λi hi=>?_,?_]
 .obtain⟨a,Y,ha,_⟩:=(hx i _ (ex hi)).fr;obtain⟨b,O,hb,_⟩:=(S hi).2.fr;have j:ps[i]?=some ps[i]:=aD #[];have h1:=c i _ _ _ j (ex hi) (S hi).1;refine#[ps[i],a,b,by rw[aX,j];rfl,SqT.of (by rw[h1,Y,O]),SqT.of ha,SqT.of hb]
 .exact#[let⟨_,_,_,k,_⟩:=(hx i _ (ex hi)).fr;k,let⟨_,_,_,k,_⟩:=(S hi).2.fr;k]
 .rw[show va (lo2 (sm n λh=>G h*U h) (SS*SS))=_ from Ws SS2 (dZ SS2),jZ3,vP,←oN];refine fC λi hi=>?_;obtain⟨_,_,_,_,e1⟩:=(hx i _ (ex hi)).fr;obtain⟨_,_,_,_,C⟩:=(S hi).2.fr;rw[e1,C,eY,vP,vP,show(((SS*SS:Int):Rat))⁻¹=((SS:Int):Rat)⁻¹*((SS:Int):Rat)⁻¹ by rw[eY,Rat.inv_mul_rev]];grind
def oK(K:aR):Sp:=λvs H Q _=>∃d k nd g a ns B A un Y xs l W,∃G:Nat->Int,vs=[.ref d,.ref k,.ref nd,.ref g,.ref a]/\CeD H d ns B A un/\FrD K H k (fQ ns ns.length) Y/\(∀b∈fQ ns ns.length,Ud (Y b))/\SqL K H nd xs/\Ps H xs (fQ ns ns.length)/\k≠d/\SqL K H g l/\l.length=ns.length/\(∀h v,l[h]?=some v->En H v (G h))/\SqT K H a [.int W.1,.int W.2]/\Gp 9300 9300 W/\(∀q∈dM ns.reverse,va (gF un G ns q)<=lsm (fQ ns ns.length) (λb=>va (Y b)*va (mo un q b))+va W)/\∀H',aQ H H'->Q (.bl true) H'
def Iy(d k nd g a:Addr)(C:Hp):NS:=λ_ Z U=>∃S A J,Z=[some (.ref d),some (.ref k),some (.ref nd),some (.ref g),some (.ref a),S,A,J]/\aQ C U
def mK(K:aR):TS:=(cQ (tC (.bl true)))
def rP(K:aR):TS:=(fS (cV (tOp tT (tOp eT (tOp (dU K) (aE 7) (tC (.int 0))) (tOp (dU K) (aE 4) (tC (.int 1)))) (tOp eT (tOp (dU K) (aE 4) (tC (.int 0))) (tOp (dU K) (aE 7) (tC (.int 1)))))) (cQ (tC (.bl false))) eJ)
def rO(K:aR):TS:=(cC (cT (cD (lB K) [] E0 (aH (aE 6) bE)) (aZ 7)) (rP K))
def rQ(K:aR):TE:=(iA (aH (jW (aE 1) (aE 0)) (aH (cD (Bh K) [] E0 (aH (aE 2) (aH (aE 3) (aH (aE 0) bE)))) bE)))
def rN(K:aR):TS:=(cC (cT (tOp qJ (aE 6) (jX (dC K (aE 2)) [1,0,5] (cV (tOp rEq (tOp (dU K) (aE 3) (tOp (dU K) (aE 0) (tC (.int 0)))) (tOp (dU K) (aE 0) (tC (.int 1))))) (rQ K))) (aZ 6)) (rO K))
def rR(K:aR):TS:=(cC (cT (Wt K (aH (aE 3) (aH (jW (aE 0) (aE 5)) bE))) (aZ 6)) (rN K))
def pP(K:aR):TS:=(cC (Lw (gI (Ly K (aE 0)) (aZ 5) (rR K))) (mK K))
def Iu{K}:RdS K oK pP xO:=by
 rintro m H Q E ⟨d,wd,nd,g,ma,ns,B,A,un,Y,F,gs,W,G,rfl,ce,fw,ok,R,ps,ne,hg,gl,hG,hm,gw,le,k⟩;rw[show start xO [ref d,ref wd,ref nd,ref g,ref ma]=[some (.ref d),some (.ref wd),some (.ref nd),some (.ref g),some (.ref ma),none,none,none]from rfl];(dsimp?[pP,Lw,gI,Ly]);intro NF nf;have hd:=ce.hd;have kl:=ce.len;refine .inr #[B,.inl #[hd,λob=>?_]];have rf:=ce.frz ob;have a4:=fw.off (o:=.frz ob (.dT B)) hd ne;have a5:SqL K (upd H d (.frz ob (.dT B))) nd F:=SqL.offD R (.inl hd);have a6:=ps.keep (Ii (o:=.frz ob (.dT B)) hd);have a7:SqL K (upd H d (.frz ob (.dT B))) g gs:=SqL.offD hg (.inl hd);have a8:=λh v e=>(hG h v e).keep (Ii (o:=.frz ob (.dT B)) hd);have a9:SqT K (upd H d (.frz ob (.dT B))) ma _:=SqT.offD hm (.inl hd);have d0:(upd H d (.frz ob (.dT B))) d=some (.frz ob (.dT B)):=aI;have th:∀H',aQ (upd H d (.frz ob (.dT B))) H'->aQ H (upd H' d (.dT B)):=λH' s=>aQ.thaw hd s;generalize upd H d (.frz ob (.dT B))=C at rf a4 a5 a6 a7 a8 a9 d0 th;refine Xz (a:=d) (ob:=ob) (kvs:=B) (g:=aZ 5) (D:=mayE NF { nx:=mK K (eQ Q),rt:=Q }) (Iy d wd nd g ma C) #[none,none,none,rfl,aQ.refl _] ?_ ?_ ?_
 .rintro i Z H3 _ ⟨_,_,_,_,s3⟩;exact s3 _ _ d0
 .rintro i c9 ka Z H3 hi ⟨S,o2,o3,rfl,s3⟩ j;obtain⟨q,eq,e⟩:=ce.key hi;have J:=aL eq;have ql:q.length=ns.length:=by rw[iE _ q J,cU]
  have n3:=ce.sz.len;have b6:=ce.b6;rw[e]at j;have a2:=rf.same s3;obtain⟨c3,rd,cs⟩:=a2.rd;obtain⟨P,e1,g1⟩:=cs q J;have cl:=ce.cl q J;(dsimp?[rR,Wt,jW]);refine#[_,.inr #[c3,tk q,ka,rd,rfl,j,e1.symm],_,rfl,_,s3.seq a7,_,SqL.of g1,#[],λzl N w _ M s4 zn zt=>?_];have s4:aQ H3 w:=s4;have a0:=s3.trans s4;have pz:PV 40 K w (N.map ref) (va (gF un G ns q)):=zip_pv (U:=un q) (λh v e=>(a8 h v e).keep (eN a0)) (λh t=>let⟨v,e,n⟩:=a2.en q J h t;#[v,e,n.keep (eN s4)]) gl zn zt;have c4:=a2.same s4;rw[tU]at j;have b0:=s4 _ _ j;have b3:=a0.seq a5;have c5:=a6.same a0;obtain⟨kw,hw,d1,hv⟩:=a4.same a0;have pl:=ps.1;(dsimp?[rN,jX,dC]);refine#[#[_,b3],Ef (K:=K) (a:=nd) (xs:=F) (λi T I=>aQ w I/\T.length<=i/\PV 40000 K I T (lsm (((fQ ns ns.length).take i).filter λb=>decide (q[b.getD 0 0]?=some (b.getD 1 0))) λb=>va (Y b)*-(va (mo un q b)))) (by rw[sizeLine_eq];lia) #[aQ.refl _,aM _,PV.nil] ?_ ?_ ?_]
  .rintro i T I _ ⟨X,_⟩;exact X.seq b3
  .rintro i x T I hx _ ⟨X,yl,pv⟩;obtain⟨b,ba,O,rfl,hb⟩:=(c5.same X).get hx;have bm:=aL O;obtain⟨h,c,o,n,rfl,b4,hc,ho,_⟩:=Ex bm;have hl:=(aK.mp b4).1;have a3:q[h]?=some q[h]:=aD #[];have a1:=X _ _ b0;rw[dI O,List.filter_append];(dsimp?[rQ,jW,cN,bR,cR,bH]);refine#[_,SqT.of hb,_,iR,_,rfl,_,SqT.of a1,.int q[h],gU (by unfold tv;rw[aX,a3];rfl),_,SqT.of hb,.int c,iB,rfl,?_];by_cases e:q[h]=c
   .obtain⟨a,e1,ha⟩:=hv _ bm;have b5:q[h]?=some c:=by rw[a3,e]
    have c6:=X.tup ha;rw[aJ (by rw[e]),gP (by show decide (q[h]?=some c)=true;simpa using b5),List.filter_nil];refine#[_,.inr #[kw,tk [h,c,o],ba,.inl (X _ _ hw),rfl,by rw[tU];exact hb,e1.symm],d,ka,ba,ns,A,un,q,h,c,o,n,rfl,c4.same X,ce.sz,a1,J,hb,b4,ho,λx y r H6 s6 hr y0 c7 ex bx=>#[sz2,λp b7=>?_]];have s7:=s6.trans (aQ.upd (o:=tup [ref a,ref r]) b7);have k:=ok _ bm;refine#[X.trans s7,by rw[bC];show _+1<=_;lia,?_];rw[oO];show PV 40000 K _ _ (_+(va (Y [h,c,o])*-(va (mo un q [h,c,o]))+0));rw[Rat.add_zero,←jZz b5 y0 ex];exact(pv.same s7).snoc (SqT.of aI) (s7.tup c6) (g:=(x,y)) (SqT.of (aQ.upd b7 _ _ hr)) #[k.p,k.b1,k.b2] #[y0,bx.mono (by decide),c7.mono (by decide)]
   .rw[aF (by simp;lia),gQ (by show ¬decide (q[h]?=some c)=true;rw[a3];simp;exact e),List.filter_nil,cA];exact#[X,#[],pv]
  rintro T I ⟨X,yl,pv⟩ p b8;have s6:=X.trans (aQ.upd (o:=lst T) b8);refine#[zl,p,_,_,rfl,rfl,s6 _ _ M,aI,by rw[aA,sizeLine_eq];lia,λl c8=>?_];have s7:=aQ.upd (o:=lst (N.map ref++T)) c8;have b9:=s6.trans s7;have pt:=((pz.mono (c:=40000) (by decide)).same b9).app (pv.same ((aQ.upd (o:=lst T) b8).trans s7));(dsimp?[rO]);have tl:(N.map ref++T).length<=33:=by rw[bC,aA];lia
  refine pt.use (SqL.of aI) (by decide) #[] λr f H8 s8 hr gf ev=>?_;have c1:=(a0.trans b9).trans s8;have c2:=c1.tup a9;have fb:Gp 9000000 9000000 f:=#[gf.1,gf.2.1.mono #[],gf.2.2.mono #[]];(dsimp?[rP]);refine#[_,SqT.of hr,_,iR,_,c2,_,iB,_,rfl,_,rfl,.b fb.2.1 gw.2.2,_,c2,_,iR,_,SqT.of hr,_,iB,_,rfl,_,rfl,.b gw.2.1 fb.2.2,?_];have e:lsm (((fQ ns ns.length).take F.length).filter λb=>decide (q[b.getD 0 0]?=some (b.getD 1 0))) (λb=>va (Y b)*-(va (mo un q b)))=lsm (fQ ns ns.length) (λb=>va (Y b)*va (mo un q b))*(-1):=by
   rw[pl,cB,Ed,←mY];refine iN λb hb=>?_;obtain⟨h,c,o,n,rfl,_⟩:=Ex hb;show(if decide (q[h]?=some c)=true then _ else _)=_;by_cases z:q[h]?=some c
   .rw[aJ (by simpa using z)];grind
   .rw[aF (by simpa using z),Wr,aF z];grind
  rw[e]at ev;have l0:=le q J;have P:=(qL gf.1 gw.1).mp (by rw[ev];grind);exact kX (λz=>by lia) λ_=>#[_,_,_,rfl,c1]
 .rintro Z H3 ⟨S,o2,o3,rfl,s3⟩;refine .inr #[d,B,ob,(nf d λo u z=>by rw[hd]at z;cases z),s3 _ _ d0,?_];(dsimp?[mK]);exact k _ (th _ s3)
def To:LS:=["_law_found","_law_sizes","_law_cells","_law_goal","_law_needs","_law_plan","_law_weights","_law_most","_law_total","_law_goals"]
def Dw(K:aR):Sp:=λvs H Q _=>∃f s c g ns B A un l D k a P Y W,∃G:Nat->Int,vs=[.ref f,.ref s,.ref c,.ref g]/\AdO K H f ns un G D k a P Y W/\SqL K H s (tv ns)/\CeD H c ns B A un/\SqL K H g l/\l.length=ns.length/\(∀h v,l[h]?=some v->En H v (G h))/\D≠c/\k≠c/\∀H',aQ H H'->Q (.bl true) H'
def Fx(K:aR):TS:=(cQ (rY (cD (zV K) [] E0 (aH (aE 2) (aH (aE 5) (aH (aE 4) bE)))) (cD (oK K) [] E0 (aH (aE 2) (aH (aE 6) (aH (aE 4) (aH (aE 3) (aH (aE 7) bE))))))))
def Fw(K:aR):TS:=(cC (fS (tOr (cV (tOp rNe (tOp (dU K) (aE 8) (tC (.int 0))) (tOp (dU K) (aE 8) (tC (.int 1))))) (cV (tOp rNe (tOp eT (tOp (dU K) (aE 9) (tC (.int 0))) (tOp (dU K) (aE 7) (tC (.int 1)))) (tOp eT (tOp (dU K) (aE 7) (tC (.int 0))) (tOp (dU K) (aE 9) (tC (.int 1))))))) (cQ (tC (.bl false))) eJ) (Fx K))
def Fz(K:aR):TE:=(iA (aH (jW (aE 1) (aE 0)) (aH (cD (lB K) [] E0 (aH (Wt K (aH (aE 2) (aH (jW (aE 3) (aE 0)) bE))) bE)) bE)))
def Fv(K:aR):TS:=(cC (Lw (cT (cD (lB K) [] E0 (aH (dQ (Ly K (aE 2)) [5,3,2] (Fz K)) bE)) (aZ 9))) (Fw K))
def Fy(K:aR):TE:=(iA (aH (jW (aE 1) (aE 0)) (aH (iA (aH (tC (.int 1)) (aH (tC (.int 1)) bE))) bE)))
def Fu(K:aR):TS:=(cC (Lw (cT (cD (lB K) [] E0 (aH (dQ (Ly K (aE 2)) [5] (Fy K)) bE)) (aZ 8))) (Fv K))
def wI(K:aR):TS:=(cC (fS (tOr (vJ (tB (cD (lA K) [] E0 (aH (tOp (dU K) (aE 7) (tC (.int 0))) bE)))) (tOr (vJ (tB (cD (lA K) [] E0 (aH (tOp (dU K) (aE 7) (tC (.int 1))) bE)))) (tOr (cV (tOp kH (tOp (dU K) (aE 7) (tC (.int 1))) (tC (.int 1)))) (cV (tOp rNe (cD (jH K) [] E0 (aH (tOp (dU K) (aE 7) (tC (.int 0))) (aH (tOp (dU K) (aE 7) (tC (.int 1))) bE))) (tC (.int 1))))))) (cQ (tC (.bl false))) eJ) (Fu K))
def Ft(K:aR):TS:=(cC (cT (aE 0) (jN K 3 (eK (aZ 5) (eK (aZ 6) (eK (aZ 7) jO))))) (cC (fS (tOr (vJ (tB (cD (Bi K) [] E0 (aH (aE 5) (aH (aE 2) bE))))) (tOr (vJ (tB (cD (Bi K) [] E0 (aH (aE 6) (aH (aE 4) bE))))) (tOr (vJ (tB (tCB Xb (aH (aE 7) (aH (tC (.ty "tuple")) bE))))) (cV (tOp rNe (tCB (jE K) (aH (aE 7) bE)) (tC (.int 2))))))) (cQ (tC (.bl false))) eJ) (wI K)))
def Fs(K:aR):TS:=(cC (fS (tOr (vJ (tB (tCB Xb (aH (aE 0) (aH (tC (.ty "tuple")) bE))))) (cV (tOp rNe (tCB (jE K) (aH (aE 0) bE)) (tC (.int 3))))) (cQ (tC (.bl false))) eJ) (Ft K))
def Hm(K:aR):TS:=(cC (cT (cD (Ia K) [] E0 (aH (aE 1) bE)) (aZ 4)) (Fs K))
def AdO.same{v:Addr}{un:List Nat->Nat->Int}{G:Nat->Int}{D k:Addr}{P Y:List Nat->Int×Int}{W:Int×Int}(h:AdO K H v ns un G D k a P Y W)(s:aQ H H'):AdO K H' v ns un G D k a P Y W:=#[s _ _ h.hv,h.hp.same s,h.hw.same s,s _ _ h.ha,h.op,h.oy,h.ow,h.adv]
def jJo{K}:RdS K Dw Hm To:=by
 rintro m H Q E ⟨f,s,c,g,ns,B,A,un,gs,D,wd,wa,P,Y,W,G,rfl,ad,hs,ce,hg,gl,hG,b7,d4,k⟩;rw[show start To [ref f,ref s,ref c,ref g]=[some (.ref f),some (.ref s),some (.ref c),some (.ref g),none,none,none,none,none,none]from rfl];(dsimp?[Hm]);refine#[s,ns,rfl,hs,ce.sz,λnd F S O R ps=>?_];have a0:=ad.same O;have a6:=ce.same O;have q8:=ce.q8;have b6:=ce.b6;have kl:=ce.len;have n3:=ce.sz.len;obtain⟨w0,wc,c3,c4⟩:=ad.ow;(dsimp?[Fs,Xb]);refine#[true,.inl #[rfl,rfl,_,a0.hv],sR #[_,.inr (SqT.of a0.hv),sR ?_]];(dsimp?[Ft,Xb]);refine#[_,SqT.of a0.hv,rfl,_,_,rfl,_,_,rfl,_,_,rfl,rfl,?_];refine#[D,c,dM ns.reverse,P,rfl,a0.hp,ad.op,.inl #[B,a6.hd,a6.ks],#[],true,rfl,sR ?_];refine#[wd,nd,fQ ns ns.length,Y,rfl,a0.hw,ad.oy,.inr #[F,SqL.of R,ps],#[],true,rfl,sR ?_];refine#[true,.inl #[rfl,rfl,_,a0.ha],sR #[_,rfl,_,.inr (SqT.of a0.ha),sR ?_]];have a4:SqT K S wa _:=SqT.of a0.ha;(dsimp?[wI];try simp_arith[wI,lA,jH])
 refine#[_,a4,_,iR,_,rfl,sR #[_,a4,_,iB,_,rfl,sR #[_,a4,_,iB,_,rfl,kX (λz=>by lia) λ_=>#[_,a4,_,iR,_,a4,_,iB,_,rfl,_,rfl,?_]]]];rw[wc,aF (by decide)];have a7:=a6.hd;(dsimp?[Fu,Lw,dQ,Ly]);intro NF nf;refine .inr #[B,.inl #[a7,λob=>?_]];obtain⟨kp,hp,hk,hv⟩:=a0.hp;have a8:(upd S c (.frz ob (.dT B))) D=some (.dT kp):=by rw[bY b7];exact hp
 refine Su (a:=c) (ob:=ob) (kvs:=B) (λi N I=>aQ (upd S c (.frz ob (.dT B))) I/\N.length=i/\PV 40000 K I N (lsm ((dM ns.reverse).take i) λq=>va (P q)*va (1,1))) (by rw[sizeLine_eq];lia) #[aQ.refl _,rfl,PV.nil] ?_ ?_ ?_
 .rintro i N I _ ⟨X,_⟩;exact X _ _ aI
 .rintro i d5 ka N I hi _ ⟨X,Z,pv⟩ j;obtain⟨q,eq,e⟩:=ce.key hi;have J:=aL eq;rw[e]at j;obtain⟨a,e1,ha⟩:=hv q J;have b8:=X.tup (SqT.offD ha (.inl a7) (o:=.frz ob (.dT B)));(dsimp?[Fy,jW,cN,bR,cR,bH]);refine#[_,.inr #[kp,tk q,ka,.inl (X _ _ a8),rfl,j,e1.symm],sz2,λr hr=>#[sz2,λp a5=>?_]];have s6:=aQ.upd (o:=tup [int 1,int 1]) hr;have s7:=s6.trans (aQ.upd (o:=tup [ref a,ref r]) a5);have k:=ad.op q J;refine#[X.trans s7,by rw[bC,Z];rfl,?_];rw[dI eq,oO];show PV 40000 K _ _ (_+(va (P q)*va (1,1)+0));rw[Rat.add_zero];have o1:BB 40000 (1:Int):=by show(1:Int).natAbs<2^40000;exact Nat.one_lt_two_pow (by decide)
  exact(pv.same s7).snoc (SqT.of aI) (s7.tup b8) (g:=(1,1)) (SqT.of (aQ.upd a5 _ _ aI)) #[k.p,k.b1,k.b2] #[by decide,o1,o1]
 rintro N I ⟨X,Z,pv⟩ p y;have s6:=X.trans (aQ.upd (o:=lst N) y);rw[kl,cB]at pv;refine(pv.same (aQ.upd (o:=lst N) y)).use (SqL.of aI) (by decide) #[] λta ft T s7 a9 gt et=>?_;have d:=s6.trans s7;have f6:=d _ _ (aI (H:=S) (a:=c) (o:=.frz ob (.dT B)));refine .inr #[c,B,ob,(nf c λo u z=>by rw[a7]at z;cases z),f6,?_];have s8:=aQ.thaw a7 d;have b4:(upd T c (.dT B)) ta=some (.tup [.int ft.1,.int ft.2]):=by rw[bY λz=>by rw[z,f6]at a9;cases a9];exact a9
 generalize upd T c (.dT B)=x at s8 b4;clear nf NF a8 d f6 s6 s7 a9 pv X y;have c5:va ft=1:=by rw[et,vM,mY,ad.adv.one];grind
 have b9:=a6.same s8;have c6:=a0.same s8;have a3:=b9.hd;have c7:=O.trans s8;(dsimp?[Fv,Lw,dQ,Ly]);intro NF nf;refine .inr #[B,.inl #[a3,λob=>?_]];obtain⟨kp,hp,hk,hv⟩:=c6.hp;have a8:(upd x c (.frz ob (.dT B))) D=some (.dT kp):=by rw[bY b7];exact hp
 have rf:=b9.frz ob;have d6:SqL K (upd x c (.frz ob (.dT B))) g gs:=SqL.offD (c7.seq hg) (.inl a3);have d7:=λh v e=>((hG h v e).keep (eN c7)).keep (Ii (o:=.frz ob (.dT B)) a3);refine Su (a:=c) (ob:=ob) (kvs:=B) (λi N I=>aQ (upd x c (.frz ob (.dT B))) I/\N.length=i/\PV 40000 K I N (lsm ((dM ns.reverse).take i) λq=>va (P q)*va (gF un G ns q))) (by rw[sizeLine_eq];lia) #[aQ.refl _,rfl,PV.nil] ?_ ?_ ?_
 .rintro i N I _ ⟨X,_⟩;exact X _ _ aI
 .rintro i d5 ka N I hi _ ⟨X,Z,pv⟩ j;obtain⟨q,eq,e⟩:=ce.key hi;have J:=aL eq;rw[e]at j;obtain⟨a,e1,ha⟩:=hv q J;have b8:=X.tup (SqT.offD ha (.inl a3) (o:=.frz ob (.dT B)));have c8:=rf.same X;obtain⟨d8,rd,cs⟩:=c8.rd;obtain⟨l1,C,g1⟩:=cs q J;have cl:=ce.cl q J;(dsimp?[Fz,Wt,jW,cN,bR,cR,bH]);refine#[_,.inr #[kp,tk q,ka,.inl (X _ _ a8),rfl,j,e1.symm],_,.inr #[d8,tk q,ka,rd,rfl,j,C.symm],_,rfl,_,X.seq d6,_,SqL.of g1,#[],λe3 c9 w _ M s4 zn zt=>?_];have s4:aQ I w:=s4;have d9:=X.trans s4;have pz:PV 40 K w (c9.map ref) (va (gF un G ns q)):=zip_pv (U:=un q) (λh v e=>(d7 h v e).keep (eN d9)) (λh t=>let⟨v,e,n⟩:=c8.en q J h t;#[v,e,n.keep (eN s4)]) gl zn zt;have zm:(c9.map ref).length<=3:=by rw[aA];lia
  refine pz.use (SqL.of M) (by decide) #[] λr fr T s6 hr gr er=>#[sz2,λp a5=>?_];have s7:=(s4.trans s6).trans (aQ.upd (o:=tup [ref a,ref r]) a5);have k:=ad.op q J;refine#[X.trans s7,by rw[bC,Z];rfl,?_];rw[dI eq,oO];show PV 40000 K _ _ (_+(va (P q)*va (gF un G ns q)+0));rw[Rat.add_zero,←er];exact(pv.same s7).snoc (SqT.of aI) (s7.tup b8) (SqT.of (aQ.upd a5 _ _ hr)) #[k.p,k.b1,k.b2] #[gr.1,gr.2.1.mono #[],gr.2.2.mono #[]]
 rintro N I ⟨X,Z,pv⟩ p y;have s6:=X.trans (aQ.upd (o:=lst N) y);rw[kl,cB]at pv;refine(pv.same (aQ.upd (o:=lst N) y)).use (SqL.of aI) (by decide) #[] λga fg T s7 c1 gg eg=>?_;have d:=s6.trans s7;have f6:=d _ _ (aI (H:=x) (a:=c) (o:=.frz ob (.dT B)));refine .inr #[c,B,ob,(nf c λo u z=>by rw[a3]at z;cases z),f6,?_];have s9:=aQ.thaw a3 d;have a1:(upd T c (.dT B)) ga=some (.tup [.int fg.1,.int fg.2]):=by rw[bY λz=>by rw[z,f6]at c1;cases c1];exact c1
 generalize upd T c (.dT B)=H9 at s9 a1;rw[ad.adv.wo]at eg;have b5:SqT K H9 ta _:=SqT.of (s9 _ _ b4);have b0:=c6.same s9;have d1:SqT K H9 wa _:=SqT.of b0.ha;have a1:SqT K H9 ga _:=SqT.of a1;have d2:Gp 9000000 9000000 fg:=#[gg.1,gg.2.1.mono #[],gg.2.2.mono #[]];have t1:ft.1=ft.2:=by
  have a:=(qL (g:=(1,1)) gt.1 Int.zero_lt_one).mp (by rw[c5,vM];exact Rat.le_refl);have b:=(qL (f:=(1,1)) Int.zero_lt_one gt.1).mp (by rw[c5,vM];exact Rat.le_refl);simp only[dR,fB]at a b;lia
 have t2:fg.1*W.2=W.1*fg.2:=by
  have a:=(qL gg.1 w0).mp (by rw[eg];exact Rat.le_refl);have b:=(qL w0 gg.1).mp (by rw[eg];exact Rat.le_refl);lia
 (dsimp?[Fw]);refine#[_,b5,_,iR,_,b5,_,iB,rfl,?_];rw[aF (by rw[t1];simp)];refine#[_,a1,_,iR,_,d1,_,iB,_,rfl,_,rfl,.b d2.2.1 c4,_,d1,_,iR,_,a1,_,iB,_,rfl,_,rfl,.b c3 d2.2.2,?_];rw[aF (by simp [t2])];have c2:=s8.trans s9;have d3:=b9.same s9;(dsimp?[Fx]);refine#[c,D,nd,ns,B,A,un,P,F,rfl,d3,b0.hp,ad.op,SqL.of (c2 _ _ R),ps.same c2,b7,ad.adv.gl,λe4 b3=>?_];refine#[true,rfl,?_];rw[aJ rfl];have a2:=c2.trans b3;exact#[c,wd,nd,g,wa,ns,B,A,un,Y,F,gs,W,G,rfl,d3.same b3,(b0.same b3).hw,ad.oy,SqL.of (a2 _ _ R),ps.same a2,d4,(O.trans a2).seq hg,gl,λh v e=>(hG h v e).keep (eN (O.trans a2)),SqT.of (b0.same b3).ha,#[w0,c3,c4],ad.adv.nb,λe0 l=>k e0 ((O.trans a2).trans l)]
def N_law:LS:=["_law_script","_law_sizes","_law_cells","_law_goal","_law_handed","_law_found"]
def Mc(K:aR):Sp:=λvs H Q _=>∃a ns,vs=[.ref a]/\SqL K H a (map int ns)/\ns.length<=63/\∀H',Q (.bl true) H'
def Xf(K:aR):TS:=(cQ (rY (cD (Dw K) [] E0 (aH (aE 5) (aH (aE 1) (aH (aE 2) (aH (aE 3) bE))))) (tOp (rEqD K 1) (aE 4) (aE 3))))
def Xe(K:aR):TS:=(cC (cT (cD (Ic K) [] E0 (aH (Ca (eI K "Table") (tP K) [] E0 (aH (tCB (pT K) (aH (aE 1) bE)) (aH (cD (rE K) [] E0 (aH (aE 2) bE)) bE))) (aH (aE 4) bE))) (aZ 5)) (Xf K))
def t_law(K:aR):TS:=(cC (cT (cD (Dy K) [] E0 (aH (aE 0) bE)) (jN K 3 (eK (aZ 1) (eK (aZ 2) (eK (aZ 3) jO))))) (cC (cT (tCB (pT K) (aH (aE 3) bE)) (aZ 4)) (Xe K)))
def rd_law{K}:RdS K Mc t_law N_law:=by
 rintro m H Q E ⟨a,ns,rfl,hS,R,q⟩;rw[show start N_law [ref a]=[some (.ref a),none,none,none,none,none]from rfl];(dsimp?[t_law]);refine#[a,ns,rfl,hS,R,λr s c g C B A F S s1 O=>?_];refine#[r,rfl,_,SqT.of O.hr,rfl,_,_,rfl,_,_,rfl,_,_,rfl,rfl,?_];(dsimp?[pT]);refine#[F,.inl (SqL.of O.hg),λhl b0=>?_];have s2:=aQ.upd (o:=lst F) b0;have a2:(upd S hl (.lst F)) hl=some (.lst F):=aI;generalize upd S hl (.lst F)=M at s2 a2;have nd:=mJ C.reverse;obtain⟨_,b6,q8,_,p,N⟩:=O.s3.all;(dsimp?[Xe,Ca,pT]);refine#[tv C,.inl (SqL.of (s2 _ _ O.hs)),λsl b3=>?_];have s3:=aQ.upd (o:=lst (tv C)) b3;have a0:=s2.trans s3;have a3:(upd M sl (.lst (tv C))) sl=some (.lst (tv C)):=aI;have a4:=s3 _ _ a2;generalize upd M sl (.lst (tv C))=U at s3 a0 a3 a4;have a5:=O.kc.same a0;refine#[c,dM C.reverse,A,B,rfl,a0 _ _ O.hc,a5.keys,a5.cells nd,nd,#[],λq=>by rw[O.cl];decide,λbd kb w G b4 b5 cb=>?_];have b7:kb.length=(dM C.reverse).length:=by rw[←aA (f:=(·.1)),b5,aA,cU]
 intro t dx ht b8 ne;have X:aQ w (upd (upd w dx (.own t)) t (.ins (eI K "Table") dx [])):=(aQ.upd b8).put ht;have t5:(upd (upd w dx (.own t)) t (.ins (eI K "Table") dx [])) t=some (.ins (eI K "Table") dx []):=aI;generalize (upd (upd w dx (.own t)) t (.ins (eI K "Table") dx []))=H5 at X t5;refine#[t,dx,sl,bd,C,kb,A,rfl,t5,SqL.of (X _ _ (G _ _ a3)),#[],O.sz,X _ _ b4,λq J=>(cb q J).same X,λq _=>by rw[O.cl,p],b7,λT b9 tab=>#[rfl,?_]];have a6:aQ w T:=λb u e=>b9 b u (X b u e) (dE e ht);have a1:=(a0.trans G).trans a6;have a7:∀q∈dM C.reverse,∀h,h<C.length->∃v,(A q)[h]?=some v/\En S v (enU S ((A q).getD h .non)):=λq J h hh=>by
  have e:=aD (l:=A q) (i:=h) (by rw[O.cl];lia);refine#[_,e,?_];rw[aP,e];exact((O.en q J _ (aL e)).1.mono (by decide)).en
 have gen:∀h v,F[h]?=some v->En S v (enU S (F.getD h .non)):=λh v e=>by
  rw[aP,e];exact((O.xe v (aL e)).v.mono (by decide)).en
 have te:TbE K T t C A λq h=>enU S ((A q).getD h .non):=#[tab,O.sz,λq J h hh=>let⟨v,e,n⟩:=a7 q J h hh;#[v,e,n.keep (eN a1)]];have a8:=a6 _ _ (G _ _ a4);have gl:F.length=C.length:=by rw[O.xl,p]
 have a9:∀q∈dM C.reverse,∀h,h<C.length->EnP (dM C.reverse).length S ((A q).getD h .non):=λq J h hh=>by
  have e:=aD (l:=A q) (i:=h) (by rw[O.cl];lia);rw[aP,e];exact O.en q J _ (aL e)
 have I:AdI C (λq h=>enU S ((A q).getD h .non)) λh=>enU S (F.getD h .non):=by
  refine#[O.s3,?_,λh hh=>?_]
  .by_cases n4:(dM C.reverse).length<=4
   .exact#[_,_,jVg p n4 (N n4) λq J h hh=>(a9 q J h hh).1]
   .exact#[_,_,jY9 λq J h hh=>(a9 q J h hh).2 #[]]
  .have e:=aD (l:=F) (i:=h) #[];rw[aP,e];exact(O.xe _ (aL e)).g
 refine#[t,hl,C,A,_,F,λh=>enU S (F.getD h .non),rfl,te,I,SqL.of a8,gl,λq _=>by rw[O.cl,p],λh v e=>(gen h v e).keep (eN a1),λv D k wa P Y W H7 s7 pn wn ad=>?_];have Z:=a1.trans s7;have c6:=a1 _ _ O.hc;have ce:CeD H7 c C B A λq h=>enU S ((A q).getD h .non):=#[Z _ _ O.hc,O.kc.keys,λq J=>(O.kc.cells nd q J).same Z,λq _=>by rw[O.cl,p],λq J h hh=>let⟨v,e,n⟩:=a7 q J h hh;#[v,e,n.keep (eN Z)],O.sz,q8,b6];(dsimp?[Xf,rEqD]);refine#[v,s,c,g,C,B,A,_,F,D,k,wa,P,Y,W,_,rfl,ad,SqL.of (Z _ _ O.hs),ce,SqL.of (Z _ _ O.hg),gl,λh v e=>(gen h v e).keep (eN Z),λz=>(by rw[z,c6]at pn;cases pn),λz=>(by rw[z,c6]at wn;cases wn),λH8 s8=>#[true,rfl,?_]];rw[aJ rfl];refine#[true,#[hl,g,F,F,rfl,rfl,.inl #[SqL.of (s8 _ _ (s7 _ _ a8)),SqL.of (s8 _ _ (Z _ _ O.hg)),.inr #[rfl,λ_=>true,λj x y hx d=>?_,by simp]]],q H8];rw[hx]at d;cases d;obtain⟨a,_,_,rfl,_⟩:=O.xe x (aL hx);exact .inl (.inl #[rfl,#[a,rfl],rfl])
def top(i:Nat):Stmt:=PySem.Challenge.pw_mixplay_k52_whole_best_advice.main.body.getD i (.Pass #[0,0,0,0])
set_option genInjectivity false in
set_option genSizeOf false in
structure Tx(K:aR)(mg:Str->Option Value):Prop where
 f61:Df K mg "_law_numbers" (top 61)
 f65:Df K mg "_law_plays" (top 65)
 f62:Df K mg "_law_divisor" (top 62)
 f63:Df K mg "_law_earning" (top 63)
 f64:Df K mg "_law_way" (top 64)
 f67:Df K mg "_law_drawn" (top 67)
 f16:Df K mg "one_of_each" (top 16)
 f17:Df K mg "in_order" (top 17)
 f20_2:Mf K "Table" "plays" "Table.plays" (jP (top 20) 2)
 f20_1:Mf K "Table" "sizes" "Table.sizes" (jP (top 20) 1)
 f52:Df K mg "breaches" (top 52)
 f7:Df K mg "divisor" (top 7)
 f8:Df K mg "ratio" (top 8)
 f9:Df K mg "plus" (top 9)
 f14:Df K mg "summed" (top 14)
 f11:Df K mg "times" (top 11)
 f20_3:Mf K "Table" "earned" "Table.earned" (jP (top 20) 3)
 f54:Df K mg "goal_of" (top 54)
 f48:Df K mg "least_whole" (top 48)
 f49:Df K mg "lift_of" (top 49)
 f27:Df K mg "cleared" (top 27)
 f10:Df K mg "minus" (top 10)
 f22:Df K mg "joined" (top 22)
 f23:Df K mg "earned_with" (top 23)
 f53:Df K mg "more_by" (top 53)
 f21:Df K mg "rest_of" (top 21)
 f55:Df K mg "more_in" (top 55)
 f56:Df K mg "column_for" (top 56)
 f50:Df K mg "lifted" (top 50)
 f57:Df K mg "row_at" (top 57)
 f13:Df K mg "below" (top 13)
 f25:Df K mg "shared" (top 25)
 f26:Df K mg "plain" (top 26)
 f33:Df K mg "whole" (top 33)
 f37:Df K mg "longest" (top 37)
 f35:Df K mg "column_of" (top 35)
 f36:Df K mg "span" (top 36)
 f34:Df K mg "unit" (top 34)
 f43_0:Mf K "Corner" "__init__" "Corner.__init__" (jP (top 43) 0)
 f38:Df K mg "bits_beyond" (top 38)
 f39:Df K mg "stretched" (top 39)
 f40:Df K mg "shortened" (top 40)
 f41:Df K mg "rounded" (top 41)
 f28:Df K mg "products" (top 28)
 f43_3:Mf K "Corner" "entering" "Corner.entering" (jP (top 43) 3)
 f43_2:Mf K "Corner" "numbers" "Corner.numbers" (jP (top 43) 2)
 f29:Df K mg "is_ahead" (top 29)
 f30:Df K mg "leaving" (top 30)
 f43_4:Mf K "Corner" "leaving_by" "Corner.leaving_by" (jP (top 43) 4)
 f43_1:Mf K "Corner" "bottom" "Corner.bottom" (jP (top 43) 1)
 f43_5:Mf K "Corner" "step_in" "Corner.step_in" (jP (top 43) 5)
 f44:Df K mg "unstopped" (top 44)
 f42:Df K mg "turned_round" (top 42)
 f43_6:Mf K "Corner" "comes_to" "Corner.comes_to" (jP (top 43) 6)
 f43_7:Mf K "Corner" "ends_with" "Corner.ends_with" (jP (top 43) 7)
 f45:Df K mg "last_corner" (top 45)
 f12:Df K mg "over" (top 12)
 f43_8:Mf K "Corner" "spread" "Corner.spread" (jP (top 43) 8)
 f43_9:Mf K "Corner" "xs" "Corner.xs" (jP (top 43) 9)
 f43_11:Mf K "Corner" "ways" "Corner.ways" (jP (top 43) 11)
 f43_10:Mf K "Corner" "ys" "Corner.ys" (jP (top 43) 10)
 f46:Df K mg "best" (top 46)
 f58:Df K mg "advice" (top 58)
 f18:Df K mg "check_sizes" (top 18)
 f19:Df K mg "check_cells" (top 19)
 f20_0:Mf K "Table" "__init__" "Table.__init__" (jP (top 20) 0)
 f75:Df K mg "_law_backwards" (top 75)
 f70:Df K mg "_law_asks" (top 70)
 f60:Df K mg "_law_whole" (top 60)
 f68:Df K mg "_law_list" (top 68)
 f69:Df K mg "_law_added" (top 69)
 f66:Df K mg "_law_put" (top 66)
 f71:Df K mg "_law_lost" (top 71)
 f72:Df K mg "_law_gladly" (top 72)
 f73:Df K mg "_law_none_better" (top 73)
 f74:Df K mg "_law_right" (top 74)
 n_abs:mg "abs"=none
 n_bool:mg "bool"=none
 n_dict:mg "dict"=none
 n_enumerate:mg "enumerate"=none
 n_int:mg "int"=none
 n_isinstance:mg "isinstance"=none
 n_len:mg "len"=none
 n_list:mg "list"=none
 n_max:mg "max"=none
 n_min:mg "min"=none
 n_range:mg "range"=none
 n_reversed:mg "reversed"=none
 n_sum:mg "sum"=none
 n_tuple:mg "tuple"=none
 n_zip:mg "zip"=none
 c_Corner:mg "Corner"=some (.ref (eI K "Corner"))
 c_Table:mg "Table"=some (.ref (eI K "Table"))
 mk_Corner:PySem.W.makesIn K (eI K "Corner")=true/\W.keepIn K (.ref (eI K "Corner"))=true
 ct:xW K
 mk_Table:PySem.W.makesIn K (eI K "Table")=true/\W.keepIn K (.ref (eI K "Table"))=true
 tt:TabK K
 g_BITS:∃t,mg "BITS"=some (.int 40 t)
section
variable{P:Program}{w:World}{K:aR}{mg:Str->Option Value}{base:Heap}
def Wh(T:Tx K mg):Ok P w K mg base CX0 1 "_law_numbers" (xC K):=T.f61.ok λR h=>#[zE K,Vy h,(aT (sK R (gL rfl T.n_range (aB pV aN)) (λ_ _ _ _=>aO)) (aT (fA R (gL rfl T.n_range (aB (cS (Ta rfl) rfl T.n_max Mo (aB pV (aB (cS (Sx rfl) rfl T.n_min Mn (aB (cS cX rfl T.n_len gE (aB pV aN)) (aB aO aN))) aN))) aN)) (gN R) (aT (sA R aO) (aT (fT (cM Cd (cS cX rfl T.n_len gE (aB pV aN)) aO (cZ _)) (bA (sA R (bW gZ (iL pV (bW gZ pV (cS (Sx rfl) rfl T.n_min Mn (aB (cS cX rfl T.n_len gE (aB pV aN)) (aB aO aN))))) (bW iZ (bW Um aO aO) aO)))) dW) (aT (sA R (bW gZ pV pV)) (bA (yQ (bW gZ (bW iZ (bW iZ (bW eE (iL pV pV) aO) pV) (bW eE pV pV)) (bW iZ (bW Um aO aO) aO)) (Hb pV pV uC))))))) (bA (cE pV))))]
def jJ6(T:Tx K mg):Ok P w K mg base CX0 1 "_law_plays" (Dx K):=T.f65.ok λR h=>#[Hn K,jJp h,(aT (sA R (iG (aB (fL aN) aN))) (aT (fA R (eC pV) (gN R) (aT (sA R (iG aN)) (aT (fA R (eC pV) (gN R) (bA (sA R (bW nU pV (kA R (gL rfl T.n_range (aB pV aN)) (λ_ _ _ _=>(bW vX pV (fL (aB pV aN))))))))) (bA (sA R pV))))) (bA (cE pV))))]
def xG(T:Tx K mg):Ok P w K mg base CX0 1 "_law_divisor" (jH K):=T.f62.ok λR h=>#[zK K,Wa h,(aT (sA R (cS yY rfl T.n_abs Mp (aB pV aN))) (aT (sA R (cS yY rfl T.n_abs Mp (aB pV aN))) (aT (wA (cM Cd pV aO (cZ _)) (bA (ps_par (i:=0) (j:=1) rfl (by rw[R.nn];exact R.nd) rfl rfl (by decide) rfl rfl (aB pV (aB (bW gZ pV pV) aN)) rfl))) (bA (cE pV)))))]
def Gr(T:Tx K mg):Ok P w K mg base CX0 2 "_law_earning" (qE K):=T.f63.ok λR h=>#[zJ K,Vz h,(aT (fT (cM sC pV aO (cZ _)) (bA (cE (fL (aB (bW mX (bW gZ (bW gZ (bW eE pV aO) aO) aO) aO) (aB aO aN))))) dW) (aT (fT (cM sC pV aO (cZ _)) (bA (cE (fL (aB (bW mX (bW gZ (bW gZ (bW eE pV aO) aO) aO) aO) (aB aO aN))))) dW) (aT (sA R (bW mX (bW gZ pV (bW iZ (bW eE aO (bW Um aO aO)) aO)) (bW Um aO aO))) (aT (fT (cM sC pV aO (cZ _)) (bA (sA R (bW mX (bW gZ (bW gZ (bW eE pV aO) aO) aO) aO))) dW) (aT (sA R (bW iZ aO (bW gZ (bW gZ (bW eE pV aO) aO) aO))) (aT (fT (cM sC pV aO (cZ _)) (bA (sA R (bW iZ aO (bW gZ (bW eE pV aO) aO)))) dW) (aT (sA R (c0 (xG T) R.r (aB pV (aB pV aN)))) (bA (cE (fL (aB (bW nH pV pV) (aB (bW nH pV pV) aN))))))))))))]
def jWt(T:Tx K mg):Ok P w K mg base CX0 1 "_law_way" (Nh K):=T.f64.ok λR h=>#[Uz K,jWh h,(aT (fT (cM Cd pV aO (cZ _)) (bA (cE aO)) dW) (aT (fT (PW.pt (Ui (cM sC (bW gZ pV aO) aO (cZ _)) (Lj (cM Cd pV aO (cZ _))))) (bA (cE aO)) dW) (aT (fT (cM sC (bW gZ pV aO) aO (cZ _)) (bA (cE (iL (iG (aB aO (aB aO aN))) (bW gZ (bW op_fdiv pV aO) aO)))) dW) (bA (cE (bW gZ pV aO))))))]
def jJ7(T:Tx K mg):Ok P w K mg base CX0 3 "_law_drawn" (Dy K):=T.f67.ok λR h=>#[Ho K,jJq h,(aT (sA R (c0 (Wh T) R.r (aB pV (aB aO aN)))) (aT (sA R (iG (aB (bW iZ aO (bW gZ (iL pV aO) aO)) (aB (bW iZ aO (bW gZ (iL pV aO) aO)) aN)))) (aT (fT (cM sC (bW gZ (iL pV aO) aO) aO (cZ _)) (bA (yQ (bW iZ aO (bW gZ (iL pV aO) aO)) (Hb pV aO uC))) dW) (aT (fT (cM sC (bW gZ (iL pV aO) aO) aO (cZ _)) (bA (sA R (iL (iG (aB (iG (aB aO (aB aO aN))) (aB (iG (aB aO (aB aO aN))) (aB (iG (aB aO (aB aO aN))) (aB (iG (aB aO (aB aO aN))) aN))))) (bW gZ (iL pV aO) aO)))) dW) (aT (fT (cM sC (bW gZ (iL pV aO) aO) aO (cZ _)) (bA (sA R (iG (aB (iL pV aO) (aB (iL pV aO) aN))))) dW) (aT (sA R (c0 (jJ6 T) R.r (aB pV aN))) (aT (sA R Fd) (aT (fA R (gL rfl T.n_range (aB (cS cX rfl T.n_len gE (aB pV aN)) aN)) (gN R) (bA (Lk (mT R.r) pV (iL pV pV) (kA R (gL rfl T.n_range (aB aO aN)) (λ_ _ _ _=>(c0 (Gr T) R.r (aB (iL pV (bW iZ (bW iZ aO (bW eE aO pV)) pV)) (aB (c0 (jWt T) R.r (aB (iL pV aO) (aB (cS cX rfl T.n_len gE (aB pV aN)) aN))) aN))))) rfl))) (aT (sK R (gL rfl T.n_range (aB aO aN)) (λ_ _ _ _=>(c0 (Gr T) R.r (aB (iL pV (bW iZ aO pV)) (aB (iL (iG (aB aO (aB aO (aB aO aN)))) (bW gZ (iL pV aO) aO)) aN))))) (bA (cE (fL (aB pV (aB pV (aB pV aN)))))))))))))))]
def Pr(T:Tx K mg):Ok P w K mg base CX0 1 "one_of_each" (rB K):=T.f16.ok λR h=>#[sT K,Pf h,(aT (sA R (iG (aB (fL aN) aN))) (aT (fA R (eC pV) (gN R) (aT (sA R (iG aN)) (aT (fA R (eC pV) (gN R) (bA (sF (jZo PySem.F.plainAttrs_list PySem.F.slot_list_extend PySem.F.type_list_extend Sc pV (aB (kA R (eC pV) (λ_ _ _ _=>(bW vX pV (fL (aB pV aN))))) aN))))) (bA (sA R pV))))) (bA (cE pV))))]
def Ka(T:Tx K mg):Ok P w K mg base CX0 2 "in_order" (sJ K):=T.f17.ok λR h=>#[Dp K,Yt h,(bA (cE (c0 (Pr T) R.r (aB (kA R (eC pV) (λ_ _ _ _=>(jZ7 rfl T.n_list rfl T.n_range rfl pV))) aN))))]
def Qb(T:Tx K mg):OkM P w K mg base CX0 3 (eI K "Table") "plays" (rK K):=T.f20_2.ok λR h=>#[tJ K,Po T.tt h,(bA (cE (c0 (Ka T) R.r (aB (gC pV rfl) aN))))]
def Qa(T:Tx K mg):OkM P w K mg base CX0 1 (eI K "Table") "sizes" (rJ K):=T.f20_1.ok λR h=>#[tI K,Pn T.tt h,(bA (cE (mO jI rfl T.n_list nB (aB (gC pV rfl) aN))))]
def Zb(T:Tx K mg):Ok P w K mg base CX0 2 "breaches" (zX K):=T.f52.ok λR h=>#[vY K,Yw h,(aT (sA R (iG aN)) (aT (fA R (Es rfl T.n_enumerate (m0 pV T.tt.cl (Qa T) R.r)) (gN2 R) (bA (fA R (gL rfl T.n_range (aB pV aN)) (gN R) (bA (sF (jZo PySem.F.plainAttrs_list PySem.F.slot_list_extend PySem.F.type_list_extend Sc pV (aB (kI R (gL rfl T.n_range (aB pV aN)) (λ_ _ _ _=>(cM oW pV pV (cZ _))) (λ_ _ _ _=>(fL (aB pV (aB pV (aB pV aN)))))) aN))))))) (bA (cE pV))))]
def Eb(T:Tx K mg):Ok P w K mg base CX0 1 "divisor" (lC K):=T.f7.ok λR h=>#[Hr K,jJt h,(aT (sA R (cS yY rfl T.n_abs Mp (aB pV aN))) (aT (sA R (cS yY rfl T.n_abs Mp (aB pV aN))) (aT (wA (cM oW pV aO (cZ _)) (aT (sA R (bW gZ pV pV)) (aT (sA R pV) (bA (sA R pV))))) (bA (cE pV)))))]
def qP(T:Tx K mg):Ok P w K mg base CX0 2 "ratio" (nD K):=T.f8.ok λR h=>#[La K,jWe h,(aT (fT (cM sC pV aO (cZ _)) (bA nG) dW) (aT (sA R (c0 (Eb T) R.r (aB pV (aB pV aN)))) (aT (fT (cM lP pV aO (cZ _)) (bA (sA R (lY jK pV))) dW) (bA (cE (fL (aB (bW nH pV pV) (aB (bW nH pV pV) aN))))))))]
def jXY(T:Tx K mg):Ok P w K mg base CX0 3 "plus" (Ld K):=T.f9.ok λR h=>#[Zs K,rd_plus h,(bA (cE (c0 (qP T) R.r (aB (bW iZ (bW eE (iT pV aO) (iT pV aO)) (bW eE (iT pV aO) (iT pV aO))) (aB (bW eE (iT pV aO) (iT pV aO)) aN)))))]
def jYk(T:Tx K mg):Ok P w K mg base CX0 4 "summed" (Hy K):=T.f14.ok λR h=>#[Mv K,jYU h,(aT (sA R (fL (aB aO (aB aO aN)))) (aT (fA R (eC pV) (gN R) (bA (sA R (c0 (jXY T) R.r (aB pV (aB pV aN)))))) (bA (cE pV))))]
def Ff(T:Tx K mg):Ok P w K mg base CX0 3 "times" (uB K):=T.f11.ok λR h=>#[Uw K,jWd h,(bA (cE (c0 (qP T) R.r (aB (bW eE (iT pV aO) (iT pV aO)) (aB (bW eE (iT pV aO) (iT pV aO)) aN)))))]
def xN(T:Tx K mg):OkM P w K mg base CX0 1 (eI K "Table") "earned" (mF K):=T.f20_3.ok λR h=>#[rA K,Kw T.tt h,(aT (fA R (Es rfl T.n_enumerate (gC pV rfl)) (gN2 R) (bA (fT (PW.pt (mS (cM lP (iT pV pV) aO (cZ _)) (pN (cM op_ge (iT pV pV) pV (cZ _))))) (bA nG) dW))) (bA (cE (mO jI rfl T.n_list nB (aB (lK (mT R.r) (gC pV rfl) pV (λ_ _=>rfl)) aN)))))]
def jJ8(T:Tx K mg):Ok P w K mg base CX0 5 "goal_of" (Dz K):=T.f54.ok λR h=>#[Be K,jJs h,(bA (cE (c0 (jYk T) R.r (aB (kG R (nT rfl T.n_zip (aB pV (aB (m1 pV T.tt.cl (xN T) R.r (aB pV aN)) aN))) (λ_ _ _ _=>(c0 (Ff T) R.r (aB pV (aB pV aN))))) aN))))]
def Pt(T:Tx K mg):Ok P w K mg base CX0 1 "least_whole" (rC K):=T.f48.ok λR h=>#[sU K,Pg h,(bA (cE (cS (Iq rfl) rfl T.n_min Mn (aB (kA R (eC pV) (λ_ _ _ _=>(bW nH (iT pV aO) (iT pV aO)))) aN))))]
def jJ3(T:Tx K mg):Ok P w K mg base CX0 2 "lift_of" (Du K):=T.f49.ok λR h=>#[Hk K,jJj h,(bA (cE (fL (aB (bW mX aO (cS (Iq rfl) rfl T.n_min Mn (aB (kA R (eC pV) (λ_ _ _ _=>(c0 (Pt T) R.r (aB pV aN)))) aN))) (aB aO aN)))))]
def Oo(T:Tx K mg):Ok P w K mg base CX0 2 "cleared" (wB K):=T.f27.ok λR h=>#[Hs K,jJu h,(aT (sA R aO) (aT (fA R (eC pV) (gN R) (bA (sA R (bW eE pV (bW nH (iT pV aO) (c0 (Eb T) R.r (aB pV (aB (iT pV aO) aN)))))))) (bA (cE (fL (aB pV (aB (kA R (eC pV) (λ_ _ _ _=>(bW eE (iT pV aO) (bW nH pV (iT pV aO))))) aN)))))))]
def Xk(T:Tx K mg):Ok P w K mg base CX0 3 "minus" (Fb K):=T.f10.ok λR h=>#[Uy K,jWg h,(bA (cE (c0 (qP T) R.r (aB (bW mX (bW eE (iT pV aO) (iT pV aO)) (bW eE (iT pV aO) (iT pV aO))) (aB (bW eE (iT pV aO) (iT pV aO)) aN)))))]
def jYn(T:Tx K mg):Ok P w K mg base CX0 1 "joined" (Ib K):=T.f22.ok λR h=>#[Nf K,jYf h,(bA (cE (bW vX (bW vX (kM Au pV mC (mB pV)) (fL (aB pV aN))) (kM Au pV (mB pV) mC))))]
def Am(T:Tx K mg):Ok P w K mg base CX0 2 "earned_with" (nK K):=T.f23.ok λR h=>#[oR K,Pj h,(bA (cE (iL (m1 pV T.tt.cl (xN T) R.r (aB (c0 (jYn T) R.r (aB pV (aB pV (aB pV aN)))) aN)) pV)))]
def jJ2(T:Tx K mg):Ok P w K mg base CX0 4 "more_by" (Dt K):=T.f53.ok λR h=>#[Hi K,jJh h,(aT (sA R (iT pV aO)) (bA (cE (c0 (Xk T) R.r (aB (c0 (Am T) R.r (aB pV (aB pV (aB pV (aB (iT pV aO) aN))))) (aB (c0 (Am T) R.r (aB pV (aB pV (aB pV (aB (iT pV aO) aN))))) aN))))))]
def jJ0(T:Tx K mg):Ok P w K mg base CX0 1 "rest_of" (Dr K):=T.f21.ok λR h=>#[Hg K,jJf h,(bA (cE (bW vX (kM Au pV mC (mB pV)) (kM Au pV (mB (bW iZ pV aO)) mC))))]
def jJ1(T:Tx K mg):Ok P w K mg base CX0 5 "more_in" (Ds K):=T.f55.ok λR h=>#[Hh K,jJg h,(aT (fT (cM oW (iT pV (iT pV aO)) (iT pV aO) (cZ _)) (bA (cE (fL (aB aO (aB aO aN))))) dW) (bA (cE (c0 (jJ2 T) R.r (aB pV (aB (c0 (jJ0 T) R.r (aB pV (aB (iT pV aO) aN))) (aB pV aN)))))))]
def Qr(T:Tx K mg):Ok P w K mg base CX0 6 "column_for" (tO K):=T.f56.ok λR h=>#[wX K,Qo h,(bA (cE (c0 (Oo T) R.r (aB (bW nU (kA R (eC pV) (λ_ _ _ _=>(c0 (jJ1 T) R.r (aB pV (aB pV (aB pV aN)))))) (iG (aB (fL (aB aO (aB aO aN))) (aB pV aN)))) aN))))]
def jYl(T:Tx K mg):Ok P w K mg base CX0 4 "lifted" (Hz K):=T.f50.ok λR h=>#[Na K,jYb h,(bA (cE (kA R (eC pV) (λ_ _ _ _=>(c0 (jXY T) R.r (aB pV (aB pV aN)))))))]
def Ry(T:Tx K mg):Ok P w K mg base CX0 1 "row_at" (Bg K):=T.f57.ok λR h=>#[Mz K,jYa h,(bA (cE (kA R (eC pV) (λ_ _ _ _=>(fL (aB (iL (iT pV aO) pV) (aB aO aN)))))))]
def jWv(T:Tx K mg):Ok P w K mg base CX0 1 "below" (Nj K):=T.f13.ok λR h=>#[Vb K,jWj h,(bA (cE (vW lP (bW eE (iT pV aO) (iT pV aO)) (bW eE (iT pV aO) (iT pV aO)) (cZ _))))]
def Rx(T:Tx K mg):Ok P w K mg base CX0 2 "shared" (Bf K):=T.f25.ok λR h=>#[Mw K,jYQ h,(aT (sA R aO) (aT (fA R (eC pV) (gN R) (aT (sA R (c0 (Eb T) R.r (aB pV (aB pV aN)))) (bA (fT (cM sC pV aO (cZ _)) (bA (cE pV)) dW)))) (bA (cE pV))))]
def jWs(T:Tx K mg):Ok P w K mg base CX0 3 "plain" (Ng K):=T.f26.ok λR h=>#[Ux K,jWf h,(aT (sA R (c0 (Rx T) R.r (aB pV aN))) (aT (fT (cM lP pV aO (cZ _)) (bA (cE (mO jI rfl T.n_list nB (aB pV aN)))) dW) (bA (cE (kA R (eC pV) (λ_ _ _ _=>(bW nH pV pV)))))))]
def Nq(T:Tx K mg):Ok P w K mg base CX0 4 "whole" (yT K):=T.f33.ok λR h=>#[Uv K,jWc h,(aT (sA R (c0 (Oo T) R.r (aB pV aN))) (bA (cE (fL (aB (c0 (qP T) R.r (aB (iT pV aO) (aB (cS (Ta rfl) rfl T.n_max Mo (aB (c0 (Rx T) R.r (aB (iT pV aO) aN)) (aB aO aN))) aN))) (aB (c0 (jWs T) R.r (aB (iT pV aO) aN)) aN))))))]
def On(T:Tx K mg):Ok P w K mg base CX0 1 "longest" (vZ K):=T.f37.ok λR h=>#[Hj K,jJi h,(bA (cE (cS (Sy rfl) rfl T.n_max Mo (aB (kA R (eC pV) (λ_ _ _ _=>(pe_bm0 PySem.F.plainAttrs_int PySem.F.slot_int_bit_length PySem.F.type_int_bit_length jXc pV))) aN))))]
def nI(T:Tx K mg):Ok P w K mg base CX0 1 "column_of" (kE K):=T.f35.ok λR h=>#[zO K,Wb h,(bA (cE (kA R (eC pV) (λ_ _ _ _=>(iL pV pV)))))]
def jXX(T:Tx K mg):Ok P w K mg base CX0 1 "span" (Lc K):=T.f36.ok λR h=>#[Zr K,rd_span h,(bA (cE (bW iZ aO (cS (Sw rfl) rfl T.n_sum bt_sum (aB (kA R (eC pV) (λ_ _ _ _=>(cS yY rfl T.n_abs Mp (aB pV aN)))) aN)))))]
def ok_unit(T:Tx K mg):Ok P w K mg base CX0 1 "unit" (Vd K):=T.f34.ok λR h=>#[Zq K,rd_unit h,(bA (cE (kA R (gL rfl T.n_range (aB pV aN)) (λ_ _ _ _=>(Nn (cM sC pV pV (cZ _)) aO aO)))))]
def rM(T:Tx K mg):OkM P w K mg base CX0 2 (eI K "Corner") "__init__" (jU K):=T.f43_0.ok λR h=>#[tL K,Pq T.ct h,(aT (yO pV (kA R (gL rfl T.n_range (aB (bW mX (cS cX rfl T.n_len gE (aB (iL pV aO) aN)) aO) aN)) (λ_ _ _ _=>(c0 (nI T) R.r (aB pV (aB pV aN))))) rfl) (aT (yO pV (bW nU (kA R (eC (gC pV rfl)) (λ_ _ _ _=>(c0 (jXX T) R.r (aB (kM Av pV mC (mB (lY jK aO))) aN)))) (kA R (eC (kM Av pV mC (mB (lY jK aO)))) (λ_ _ _ _=>(c0 (jXX T) R.r (aB (iG (aB aO aN)) aN))))) rfl) (aT (yO pV (kG R (Es rfl T.n_enumerate pV) (λ_ _ _ _=>(bW nU (c0 (ok_unit T) R.r (aB (cS cX rfl T.n_len gE (aB pV aN)) (aB pV aN))) (iG (aB (iL pV (lY jK aO)) aN))))) rfl) (bA (yO pV (kA R (gL rfl T.n_range (aB (bW mX (cS cX rfl T.n_len gE (aB pV aN)) aO) aN)) (λ_ _ _ _=>(bW iZ (cS cX rfl T.n_len gE (aB (gC pV rfl) aN)) pV))) rfl)))))]
def Pz(T:Tx K mg):Ok P w K mg base CX0 1 "bits_beyond" (rH K):=T.f38.ok λR h=>#[tH K,Pm h,(bA (cE (pe_maxD rfl rfl T.n_max (aB (jYj (N:=tS) (xs:=["number","long"]) (ys:=[]) (caps:=[]) #[by decide+kernel,rfl,by decide+kernel,by decide+kernel,rfl,by decide+kernel,rfl] R.sc R.nn R.calm (nT rfl T.n_zip (aB pV (aB pV aN))) (λ_ _ _ _=>Ha (n:=2) rfl (jA (oX (i:=0) (by decide+kernel) rfl (by decide+kernel)) (jA (oX (i:=1) (by decide+kernel) rfl (by decide+kernel)) Ax))) (λ_ _ _ _=>(cM oW pV aO (cZ _))) (λ_ _ _ _=>(bW mX (pe_bm0 PySem.F.plainAttrs_int PySem.F.slot_int_bit_length PySem.F.type_int_bit_length jXc pV) pV))) aN) aO)))]
def Qq(T:Tx K mg):Ok P w K mg base CX0 1 "stretched" (tM K):=T.f39.ok λR h=>#[wF K,Qn h,(aT (fT (cM lP pV aO (cZ _)) (bA nG) dW) (bA (cE (Nn (cM Cd pV aO (cZ _)) (bW jXJ pV pV) (bW jZ9 pV (lY jK pV))))))]
def Wf(T:Tx K mg):Ok P w K mg base CX0 2 "stretched" (xA K):=T.f39.ok λR h=>#[zB K,Vw h,(aT (fT (cM lP pV aO (cZ _)) (bA (cE (lY jK (c0 (Qq T) R.r (aB (lY jK pV) (aB pV aN)))))) dW) (bA (cE (Nn (cM Cd pV aO (cZ _)) (bW jXJ pV pV) (bW jZ9 pV (lY jK pV))))))]
def Wg(T:Tx K mg):Ok P w K mg base CX0 3 "shortened" (xB K):=T.f40.ok λR h=>#[zC K,Vx h,(bA (cE (kG R (nT rfl T.n_zip (aB pV (aB pV aN))) (λ_ _ _ _=>(c0 (Wf T) R.r (aB pV (aB (bW mX pV pV) aN)))))))]
def jJz(T:Tx K mg):Ok P w K mg base CX0 4 "rounded" (Dq K):=T.f41.ok λR h=>#[Hf K,jJe h,(aT (sA R (kA R (eC pV) (λ_ _ _ _=>(c0 (On T) R.r (aB (kM Av pV mC (mB (lY jK aO))) aN))))) (aT (sA R (kA R (gL rfl T.n_range (aB (cS cX rfl T.n_len gE (aB (iL pV aO) aN)) aN)) (λ_ _ _ _=>(c0 (Pz T) R.r (aB (c0 (nI T) R.r (aB pV (aB pV aN))) (aB pV aN)))))) (bA (cE (kG R (nT rfl T.n_zip (aB pV (aB pV aN))) (λ_ _ _ _=>(c0 (Wg T) R.r (aB pV (aB (bW mX pV pV) (aB pV aN))))))))))]
def Jz(T:Tx K mg):Ok P w K mg base CX0 1 "products" (sI K):=T.f28.ok λR h=>#[Dl K,Yq h,(bA (cE (cS (Sw rfl) rfl T.n_sum bt_sum (aB (kG R (nT rfl T.n_zip (aB pV (aB pV aN))) (λ_ _ _ _=>(bW eE pV pV))) aN))))]
def mN(T:Tx K mg):OkM P w K mg base CX0 2 (eI K "Corner") "entering" (jB K):=T.f43_3.ok λR h=>#[nO K,Eh T.ct h,(aT (sA R (iL (gC pV rfl) (lY jK aO))) (aT (sA R (bW nU (kA R (eC (gC pV rfl)) (λ_ _ _ _=>(c0 (Jz T) R.r (aB pV (aB pV aN))))) (kM Av pV mC (mB (cS cX rfl T.n_len gE (aB (gC pV rfl) aN)))))) (aT (sA R qO) (aT (fA R (Es rfl T.n_enumerate pV) (gN2 R) (bA (fT (PW.pt (Ui (cM lP pV aO (cZ _)) (Lj (PW.pt (mS (cM Hc pV qO (cZ _)) (pN (cM lP (bW eE pV (iL (gC pV rfl) pV)) (bW eE (iL pV pV) (iL (gC pV rfl) pV)) (cZ _)))))))) (bA (sA R pV)) dW))) (bA (cE pV))))))]
def kW(T:Tx K mg):OkM P w K mg base CX0 2 (eI K "Corner") "numbers" (iP K):=T.f43_2.ok λR h=>#[oJ K,Gx T.ct h,(aT (fT (cM lP pV (cS cX rfl T.n_len gE (aB (gC pV rfl) aN)) (cZ _)) (bA (cE (kA R (eC (gC pV rfl)) (λ_ _ _ _=>(c0 (Jz T) R.r (aB (iL (gC pV rfl) pV) (aB pV aN))))))) dW) (bA (cE (c0 (nI T) R.r (aB (gC pV rfl) (aB (bW mX pV (cS cX rfl T.n_len gE (aB (gC pV rfl) aN))) aN))))))]
def Za(T:Tx K mg):Ok P w K mg base CX0 1 "is_ahead" (zW K):=T.f29.ok λR h=>#[Dn K,Ys h,(aT (fA R (eC pV) (gN R) (aT (sA R (bW eE (iL pV pV) (iL pV pV))) (aT (sA R (bW eE (iL pV pV) (iL pV pV))) (bA (fT (cM oW pV pV (cZ _)) (bA (cE (vW lP pV pV (cZ _)))) dW))))) (bA (cE qM)))]
def jJ4(T:Tx K mg):Ok P w K mg base CX0 2 "leaving" (Dv K):=T.f30.ok λR h=>#[Hl K,jJk h,(aT (sA R qO) (aT (fA R (Es rfl T.n_enumerate pV) (gN2 R) (bA (fT (PW.pt (Ui (cM Cd (iL pV pV) aO (cZ _)) (Lj (PW.pt (mS (cM Hc pV qO (cZ _)) (pN (mW (c0 (Za T) R.r (aB pV (aB (iL pV pV) (aB pV (aB pV aN)))))))))))) (bA (sA R pV)) dW))) (bA (cE pV))))]
def pM(T:Tx K mg):OkM P w K mg base CX0 3 (eI K "Corner") "leaving_by" (jJ K):=T.f43_4.ok λR h=>#[lV K,Ap T.ct h,(aT (sG R (nT rfl T.n_zip (aB (gC pV rfl) (aB pV aN))) (λ_ _ _ _=>(bW nU pV (iG (aB pV aN))))) (aT (sA R (cS cX rfl T.n_len gE (aB (gC pV rfl) aN))) (bA (cE (c0 (jJ4 T) R.r (aB pV (aB (bW iZ pV aO) (aB (bW nU (iG (aB (bW iZ pV aO) aN)) (jZ7 rfl T.n_list rfl T.n_range rfl pV)) aN))))))))]
def lO(T:Tx K mg):OkM P w K mg base CX0 1 (eI K "Corner") "bottom" (iY K):=T.f43_1.ok λR h=>#[pR K,Iw T.ct h,(bA (cE (iL (iL (gC pV rfl) (lY jK aO)) (lY jK aO))))]
def sO(T:Tx K mg):OkM P w K mg base CX0 2 (eI K "Corner") "step_in" (kU K):=T.f43_5.ok λR h=>#[oI K,Gw T.ct h,(aT (sA R (m0 pV T.ct.cl (lO T) R.r)) (aT (sA R (iL (gC pV rfl) pV)) (aT (sA R (iG aN)) (aT (fA R (nT rfl T.n_zip (aB (gC pV rfl) (aB pV aN))) (gN2 R) (bA (sF (jZo PySem.F.plainAttrs_list PySem.F.slot_list_append PySem.F.type_list_append jYr pV (aB (kG R (nT rfl T.n_zip (aB pV (aB pV aN))) (λ_ _ _ _=>(bW nH (bW mX (bW eE pV (iL pV pV)) (bW eE pV pV)) pV))) aN))))) (aT (yQ pV (Hb pV pV uC)) (aT (yO pV pV rfl) (bA (yQ pV (Hb (gC pV rfl) pV uC)))))))))]
def Gq(T:Tx K mg):Ok P w K mg base CX0 4 "unstopped" (qD K):=T.f44.ok λR h=>#[zA K,Vv h,(aT (sA R (m0 pV T.ct.cl (mN T) R.r)) (aT (wA (cM jXZ pV qO (cZ _)) (aT (sA R (m1 pV T.ct.cl (kW T) R.r (aB pV aN))) (aT (sA R (m1 pV T.ct.cl (pM T) R.r (aB pV aN))) (aT (fT (cM Hc pV qO (cZ _)) (bA (cE pV)) dW) (aT (sF (m1 pV T.ct.cl (sO T) R.r (aB pV (aB pV (aB pV aN))))) (bA (sA R (m0 pV T.ct.cl (mN T) R.r)))))))) (bA (cE qO))))]
def xM(T:Tx K mg):Ok P w K mg base CX0 1 "turned_round" (mE K):=T.f42.ok λR h=>#[qX K,Kv h,(bA (cE (kA R (eC pV) (λ_ _ _ _=>(lY jK pV)))))]
def Ej(T:Tx K mg):OkM P w K mg base CX0 3 (eI K "Corner") "comes_to" (mM K):=T.f43_6.ok λR h=>#[nP K,Ei T.ct h,(aT (sA R (cS cX rfl T.n_len gE (aB (gC pV rfl) aN))) (aT (sKI R (gL rfl T.n_range (aB (cS cX rfl T.n_len gE (aB pV aN)) aN)) (λ_ _ _ _=>(cM We (bW iZ pV pV) pV (by with_unfolding_all rfl))) (λ_ _ _ _=>pV)) (aT (fA R (eC (kI R (eC pV) (λ_ _ _ _=>(cM lP pV pV (cZ _))) (λ_ _ _ _=>pV))) (gN R) (aT (sA R (m1 pV T.ct.cl (kW T) R.r (aB pV aN))) (aT (sKI R (eC pV) (λ_ _ _ _=>(cM oW (iL pV pV) aO (cZ _))) (λ_ _ _ _=>pV)) (aT (fT (qN (jWl pV (λ_=>rfl))) (bA (cE qM)) dW) (aT (sF (m1 pV T.ct.cl (sO T) R.r (aB pV (aB pV (aB (iL pV aO) aN))))) (bA (sF (jZo PySem.F.plainAttrs_list PySem.F.slot_list_remove PySem.F.type_list_remove jYq pV (aB (iL pV aO) aN))))))))) (aT (fT (cM lP (m0 pV T.ct.cl (lO T) R.r) aO (cZ _)) (bA (yO pV (kA R (eC (gC pV rfl)) (λ_ _ _ _=>(c0 (xM T) R.r (aB pV aN)))) rfl)) dW) (bA (cE (vW op_ge (cS (Iq rfl) rfl T.n_min Mn (aB (c0 (nI T) R.r (aB (kM Av (gC pV rfl) mC (mB (lY jK aO))) (aB (lY jK aO) aN))) aN)) aO (cZ _))))))))]
def Bz(T:Tx K mg):OkM P w K mg base CX0 4 (eI K "Corner") "ends_with" (lW K):=T.f43_7.ok λR h=>#[kF K,Bx T.ct h,(aT (fT (cM Hc pV qO (cZ _)) (bA (cE (vW Hc (m0 pV T.ct.cl (mN T) R.r) qO (cZ _)))) dW) (aT (sA R (m1 pV T.ct.cl (kW T) R.r (aB pV aN))) (bA (cE (Ul (vW lP (iL pV (lY jK aO)) aO (cZ _)) (Uk (vW Hc (m1 pV T.ct.cl (pM T) R.r (aB pV aN)) qO (cZ _))))))))]
def Pu(T:Tx K mg):Ok P w K mg base CX0 5 "last_corner" (rD K):=T.f45.ok λR h=>#[sV K,Ph T.ct h,(aT (sA R (jWp rfl T.g_BITS)) (aT (wA (cM lP pV (cS (Sy rfl) rfl T.n_max Mo (aB (kA R (eC pV) (λ_ _ _ _=>(c0 (On T) R.r (aB pV aN)))) aN)) (cZ _)) (aT (sA R (mk0 T.mk_Corner (rM T) R.r T.c_Corner (aB (c0 (jJz T) R.r (aB pV (aB pV aN))) aN))) (aT (sA R (c0 (Gq T) R.r (aB pV aN))) (aT (sA R (mk0 T.mk_Corner (rM T) R.r T.c_Corner (aB pV aN))) (aT (fT (PW.pt (Ui (mW (m1 pV T.ct.cl (Ej T) R.r (aB (gC pV rfl) aN))) (Lj (mW (m1 pV T.ct.cl (Bz T) R.r (aB pV aN)))))) (bA (cE (fL (aB pV (aB pV aN))))) dW) (bA (sA R (bW eE aO pV)))))))) (aT (sA R (mk0 T.mk_Corner (rM T) R.r T.c_Corner (aB pV aN))) (aT (sA R (c0 (Gq T) R.r (aB pV aN))) (bA (cE (fL (aB pV (aB pV aN)))))))))]
def jXW(T:Tx K mg):Ok P w K mg base CX0 3 "over" (Le K):=T.f12.ok λR h=>#[Zt K,rd_over h,(bA (cE (c0 (qP T) R.r (aB (bW eE (iT pV aO) (iT pV aO)) (aB (bW eE (iT pV aO) (iT pV aO)) aN)))))]
def vG(T:Tx K mg):OkM P w K mg base CX0 3 (eI K "Corner") "spread" (lN K):=T.f43_8.ok λR h=>#[pQ K,Iv T.ct h,(aT (sK R (eC (gC pV rfl)) (λ_ _ _ _=>(fL (aB aO (aB aO aN))))) (aT (fA R (nT rfl T.n_zip (aB pV (aB (gC pV rfl) aN))) (gN2 R) (bA (fT (cM lP pV (cS cX rfl T.n_len gE (aB pV aN)) (cZ _)) (bA (yQ (c0 (qP T) R.r (aB pV (aB (m0 pV T.ct.cl (lO T) R.r) aN))) (Hb pV pV uC))) dW))) (bA (cE pV))))]
def Wj(T:Tx K mg):OkM P w K mg base CX0 4 (eI K "Corner") "xs" (xE K):=T.f43_9.ok λR h=>#[zU K,Wd T.ct h,(bA (cE (m1 pV T.ct.cl (vG T) R.r (aB (c0 (nI T) R.r (aB (gC pV rfl) (aB (lY jK aO) aN))) aN))))]
def Qc(T:Tx K mg):OkM P w K mg base CX0 4 (eI K "Corner") "ways" (rL K):=T.f43_11.ok λR h=>#[tK K,Pp T.ct h,(aT (sA R (m1 pV T.ct.cl (vG T) R.r (aB (kA R (eC (m1 pV T.ct.cl (kW T) R.r (aB pV aN))) (λ_ _ _ _=>(lY jK pV))) aN))) (aT (fT (cM lP pV (cS cX rfl T.n_len gE (aB pV aN)) (cZ _)) (bA (yQ (fL (aB aO (aB aO aN))) (Hb pV pV uC))) dW) (bA (cE pV))))]
def Wi(T:Tx K mg):OkM P w K mg base CX0 3 (eI K "Corner") "ys" (xD K):=T.f43_10.ok λR h=>#[zT K,Wc T.ct h,(bA (cE (kA R (eC (kM Av (iL (gC pV rfl) (lY jK aO)) mC (mB (cS cX rfl T.n_len gE (aB (gC pV rfl) aN))))) (λ_ _ _ _=>(c0 (qP T) R.r (aB pV (aB (m0 pV T.ct.cl (lO T) R.r) aN)))))))]
def ok_best(T:Tx K mg):Ok P w K mg base CX0 6 "best" (Ve K):=T.f46.ok λR h=>#[Zu K,rd_best h,(aT (fA R (eC pV) (gN R) (bA (fT (mW (c0 (jWv T) R.r (aB pV (aB (fL (aB aO (aB aO aN))) aN)))) (bA nG) dW))) (aT (sK R (eC pV) (λ_ _ _ _=>(c0 (Nq T) R.r (aB pV aN)))) (aT (sA R (c0 (Nq T) R.r (aB (kG R (nT rfl T.n_zip (aB pV (aB pV aN))) (λ_ _ _ _=>(c0 (Ff T) R.r (aB pV (aB (iT pV aO) aN))))) aN))) (aT (sA R (c0 (Nq T) R.r (aB pV aN))) (aT (sG R (nT rfl T.n_zip (aB pV (aB (iT pV aO) aN))) (λ_ _ _ _=>(bW nU (iT pV aO) (iG (aB pV aN))))) (aT (sA R (c0 (Pu T) R.r (aB (bW nU pV (iG (aB (bW nU (c0 (xM T) R.r (aB (iT pV aO) aN)) (iG (aB aO aN))) aN))) aN))) (aT (sK R (eC (m0 (iT pV aO) T.ct.cl (Wj T) R.r)) (λ_ _ _ _=>(c0 (jXW T) R.r (aB pV (aB (iT pV aO) aN))))) (aT (fT (cM jXZ (iT pV aO) qO (cZ _)) (bA (cE (fL (aB pe_str (aB pV (aB (m1 (iT pV aO) T.ct.cl (Qc T) R.r (aB (iT pV aO) aN)) aN)))))) dW) (bA (cE (fL (aB pe_str (aB pV (aB (kG R (nT rfl T.n_zip (aB (m0 (iT pV aO) T.ct.cl (Wi T) R.r) (aB pV aN))) (λ_ _ _ _=>(c0 (jXW T) R.r (aB (c0 (Ff T) R.r (aB pV (aB (iT pV aO) aN))) (aB (iT pV aO) aN))))) aN))))))))))))))]
def jYo(T:Tx K mg):Ok P w K mg base CX0 7 "advice" (Ic K):=T.f58.ok λR h=>#[Ez K,jYg h,(aT (sA R (m0 pV T.tt.cl (Qb T) R.r)) (aT (sA R (c0 (Zb T) R.r (aB pV aN))) (aT (sK R (eC pV) (λ_ _ _ _=>(c0 (jJ8 T) R.r (aB pV (aB pV (aB pV aN)))))) (aT (sA R (c0 (jJ3 T) R.r (aB (iG (aB pV aN)) aN))) (aT (sA R (kG R (nT rfl T.n_zip (aB pV (aB (c0 (jYl T) R.r (aB pV (aB pV aN))) aN))) (λ_ _ _ _=>(c0 (Qr T) R.r (aB pV (aB pV (aB pV (aB pV aN)))))))) (aT (sK R (gL rfl T.n_range (aB (bW iZ (cS cX rfl T.n_len gE (aB pV aN)) aO) aN)) (λ_ _ _ _=>(c0 (Ry T) R.r (aB pV (aB pV aN))))) (aT (sA R (c0 (ok_best T) R.r (aB pV (aB (bW nU (kA R (eC pV) (λ_ _ _ _=>(fL (aB aO (aB aO aN))))) (iG (aB (fL (aB aO (aB aO aN))) aN))) (aB (c0 (Ry T) R.r (aB pV (aB (lY jK aO) aN))) aN))))) (aT (sA R Fd) (aT (fA R (pi_zip3 rfl T.n_zip (aB pV (aB pV (aB (iT pV aO) aN)))) (Ha (n:=3) rfl (jA (gN R) (jA (gN R) (jA (gN R) Ax)))) (bA (Lk (mT R.r) pV pV (c0 (Ff T) R.r (aB pV (aB (fL (aB (iT pV aO) (aB aO aN))) aN))) rfl))) (bA (cE (fL (aB pV (aB (pe_dzip R.r.units rfl T.n_dict rfl T.n_zip rfl (aB pV (aB (iT pV aO) aN))) (aB (c0 (Xk T) R.r (aB (iL (iT pV aO) (lY jK aO)) (aB pV aN))) aN)))))))))))))))]
def Px(T:Tx K mg):Ok P w K mg base CX0 1 "check_sizes" (rF K):=T.f18.ok λR h=>#[sZ K,Pk h,(aT (fT (PW.pt (mS (cM lP (cS cX rfl T.n_len gE (aB pV aN)) aO (cZ _)) (pN (cM Cd (cS cX rfl T.n_len gE (aB pV aN)) aO (cZ _))))) (bA nG) dW) (bA (fA R (eC pV) (gN R) (bA (fT (PW.pt (mS (cM lP pV aO (cZ _)) (pN (cM Cd pV aO (cZ _))))) (bA nG) dW)))))]
def Py(T:Tx K mg):Ok P w K mg base CX0 1 "check_cells" (rG K):=T.f19.ok λR h=>#[tD K,Pl h,(aT (fA R (eC pV) (gN R) (aT (fT (pt_cmp (Rw (mT R.r) pV pV)) (bA nG) dW) (bA (fT (cM oW (cS cX rfl T.n_len gE (aB (lK (mT R.r) pV pV (λ_ _=>rfl)) aN)) pV (cZ _)) (bA nG) dW)))) (bA (fT (cM oW (cS Ir rfl T.n_len gE (aB pV aN)) (cS cX rfl T.n_len gE (aB pV aN)) (cZ _)) (bA nG) dW)))]
def Qs(T:Tx K mg):OkM P w K mg base CX0 3 (eI K "Table") "__init__" (tP K):=T.f20_0.ok λR h=>#[wZ K,Qp T.tt h,(aT (sF (c0 (Px T) R.r (aB pV aN))) (aT (sA R (c0 (Ka T) R.r (aB pV aN))) (aT (sF (c0 (Py T) R.r (aB pV (aB pV (aB (cS cX rfl T.n_len gE (aB pV aN)) aN))))) (aT (yO pV (mO jI rfl T.n_list nB (aB pV aN)) rfl) (aT (yO pV Fd rfl) (bA (fA R (eC pV) (gN R) (bA (Lk (mT R.r) (gC pV rfl) pV (mO jI rfl T.n_list nB (aB (lK (mT R.r) pV pV (λ_ _=>rfl)) aN)) rfl)))))))))]
def Pw(T:Tx K mg):Ok P w K mg base CX0 1 "_law_backwards" (rE K):=T.f75.ok λR h=>#[sX K,Pi h,(aT (sA R Fd) (aT (fA R (pi_rev rfl T.n_reversed (pe_keys rfl T.n_list rfl pV)) (gN R) (bA (Lk (mT R.r) pV pV (mO jI rfl T.n_list nB (aB (lK (mT R.r) pV pV (λ_ _=>rfl)) aN)) rfl))) (bA (cE pV))))]
def jYm(T:Tx K mg):Ok P w K mg base CX0 1 "_law_asks" (Ia K):=T.f70.ok λR h=>#[Nd K,jYe h,(aT (sA R (iG aN)) (aT (fA R (gL rfl T.n_range (aB (cS cX rfl T.n_len gE (aB pV aN)) aN)) (gN R) (bA (fA R (gL rfl T.n_range (aB (iL pV pV) aN)) (gN R) (bA (sA R (bW nU pV (kI R (gL rfl T.n_range (aB (iL pV pV) aN)) (λ_ _ _ _=>(cM oW pV pV (cZ _))) (λ_ _ _ _=>(fL (aB pV (aB pV (aB pV aN)))))))))))) (bA (cE pV))))]
def wC(T:Tx K mg):Ok P w K mg base CX0 1 "_law_whole" (lA K):=T.f60.ok λR h=>#[Bd K,jJn h,(bA (cE (Ul (cS Oc rfl T.n_isinstance kP (aB pV (aB (Ay rfl T.n_int bt_int rfl) aN))) (Uk (pe_not (cS Oc rfl T.n_isinstance kP (aB pV (aB (Ay rfl T.n_bool bt_bool rfl) aN))))))))]
def Sa(T:Tx K mg):Ok P w K mg base CX0 2 "_law_list" (Bi K):=T.f68.ok λR h=>#[Nc K,jYd h,(aT (fT (PW.pt (mS (qN (mW (cS jVf rfl T.n_isinstance kP (aB pV (aB (Ay rfl T.n_dict jXu rfl) aN))))) (pN (cM oW (cS Ir rfl T.n_len gE (aB pV aN)) (cS jY8 rfl T.n_len gE (aB pV aN)) (cZ _))))) (bA (cE qM)) dW) (aT (Md (fA R (Me pV) (gN R) (aT (fT (pt_cmp (Rw (mT R.r) pV pV)) (bA (cE qM)) dW) (aT (sA R (lK (mT R.r) pV pV (λ_ _=>rfl))) (aT (fT (PW.pt (mS (qN (mW (cS jVe rfl T.n_isinstance kP (aB pV (aB (Ay rfl T.n_tuple Od rfl) aN))))) (mS (cM oW (cS cX rfl T.n_len gE (aB pV aN)) aO (cZ _)) (mS (qN (mW (c0 (wC T) R.r (aB (iT pV aO) aN)))) (pN (qN (mW (c0 (wC T) R.r (aB (iT pV aO) aN))))))))) (bA (cE qM)) dW) (bA (fT (PW.pt (mS (cM lP (iT pV aO) aO (cZ _)) (mS (cM lP (iT pV aO) aO (cZ _)) (pN (cM oW (c0 (xG T) R.r (aB (iT pV aO) (aB (iT pV aO) aN))) aO (cZ _)))))) (bA (cE qM)) dW))))))) (bA (cE qM))))]
def qU(T:Tx K mg):Ok P w K mg base CX0 1 "_law_added" (lB K):=T.f69.ok λR h=>#[Hq K,jJr h,(aT (sA R aO) (aT (sA R aO) (aT (fA R (eC pV) (gN2 R) (aT (sA R (bW iZ (bW eE (bW eE pV (iT pV aO)) (iT pV aO)) (bW eE (bW eE (iT pV aO) (iT pV aO)) pV))) (bA (sA R (bW eE (bW eE pV (iT pV aO)) (iT pV aO)))))) (bA (cE (fL (aB pV (aB pV aN))))))))]
def jWu(T:Tx K mg):Ok P w K mg base CX0 1 "_law_put" (Ni K):=T.f66.ok λR h=>#[Va K,jWi h,(bA (cE (bW vX (bW vX (kM Au pV mC (mB pV)) (fL (aB pV aN))) (kM Au pV (mB (bW iZ pV aO)) mC))))]
def Rz(T:Tx K mg):Ok P w K mg base CX0 2 "_law_lost" (Bh K):=T.f71.ok λR h=>#[Nb K,jYc h,(aT (sA R (iL (lK (mT R.r) pV pV (λ_ _=>rfl)) (iT pV aO))) (aT (sA R (iL (lK (mT R.r) pV (c0 (jWu T) R.r (aB pV (aB (iT pV aO) (aB (iT pV aO) aN)))) (λ_ _=>rfl)) (iT pV aO))) (bA (cE (fL (aB (bW mX (bW eE (iT pV aO) (iT pV aO)) (bW eE (iT pV aO) (iT pV aO))) (aB (bW eE (iT pV aO) (iT pV aO)) aN)))))))]
def Yz(T:Tx K mg):Ok P w K mg base CX0 3 "_law_gladly" (zV K):=T.f72.ok λR h=>#[Dm K,Yr h,(aT (fA R (eC pV) (gN R) (aT (Md (sKI R (Me pV) (λ_ _ _ _=>(cM sC (iT pV (iT pV aO)) (iT pV aO) (cZ _))) (λ_ _ _ _=>(fL (aB (lK (mT R.r) pV pV (λ_ _=>rfl)) (aB (c0 (Rz T) R.r (aB pV (aB pV (aB pV aN)))) aN)))))) (bA (fT (cM lP (iT (c0 (qU T) R.r (aB pV aN)) aO) aO (cZ _)) (bA (cE qM)) dW)))) (bA (cE qM)))]
def Ix(T:Tx K mg):Ok P w K mg base CX0 3 "_law_none_better" (oK K):=T.f73.ok λR h=>#[pP K,Iu h,(aT (Md (fA R (Me pV) (gN R) (aT (sA R (jZ6 rfl T.n_list rfl T.n_zip rfl (aB pV (aB (lK (mT R.r) pV pV (λ_ _=>rfl)) aN)))) (aT (sA R (bW nU pV (kI R (eC pV) (λ_ _ _ _=>(cM sC (iT pV (iT pV aO)) (iT pV aO) (cZ _))) (λ_ _ _ _=>(fL (aB (lK (mT R.r) pV pV (λ_ _=>rfl)) (aB (c0 (Rz T) R.r (aB pV (aB pV (aB pV aN)))) aN))))))) (aT (sA R (c0 (qU T) R.r (aB pV aN))) (bA (fT (cM Cd (bW eE (iT pV aO) (iT pV aO)) (bW eE (iT pV aO) (iT pV aO)) (cZ _)) (bA (cE qM)) dW))))))) (bA (cE qM)))]
def jJ5(T:Tx K mg):Ok P w K mg base CX0 4 "_law_right" (Dw K):=T.f74.ok λR h=>#[Hm K,jJo h,(aT (sA R (c0 (jYm T) R.r (aB pV aN))) (aT (fT (PW.pt (mS (qN (mW (cS Tb rfl T.n_isinstance kP (aB pV (aB (Ay rfl T.n_tuple Od rfl) aN))))) (pN (cM oW (cS cX rfl T.n_len gE (aB pV aN)) aO (cZ _))))) (bA (cE qM)) dW) (aT (yQ pV (Ha (n:=3) rfl (jA (gN R) (jA (gN R) (jA (gN R) Ax))))) (aT (fT (PW.pt (mS (qN (mW (c0 (Sa T) R.r (aB pV (aB pV aN))))) (mS (qN (mW (c0 (Sa T) R.r (aB pV (aB pV aN))))) (mS (qN (mW (cS Tb rfl T.n_isinstance kP (aB pV (aB (Ay rfl T.n_tuple Od rfl) aN))))) (pN (cM oW (cS cX rfl T.n_len gE (aB pV aN)) aO (cZ _))))))) (bA (cE qM)) dW) (aT (fT (PW.pt (mS (qN (mW (c0 (wC T) R.r (aB (iT pV aO) aN)))) (mS (qN (mW (c0 (wC T) R.r (aB (iT pV aO) aN)))) (mS (cM lP (iT pV aO) aO (cZ _)) (pN (cM oW (c0 (xG T) R.r (aB (iT pV aO) (aB (iT pV aO) aN))) aO (cZ _))))))) (bA (cE qM)) dW) (aT (Md (sA R (c0 (qU T) R.r (aB (kA R (Me pV) (λ_ _ _ _=>(fL (aB (lK (mT R.r) pV pV (λ_ _=>rfl)) (aB (fL (aB aO (aB aO aN))) aN))))) aN)))) (aT (Md (sA R (c0 (qU T) R.r (aB (kA R (Me pV) (λ_ _ _ _=>(fL (aB (lK (mT R.r) pV pV (λ_ _=>rfl)) (aB (c0 (qU T) R.r (aB (jZ6 rfl T.n_list rfl T.n_zip rfl (aB pV (aB (lK (mT R.r) pV pV (λ_ _=>rfl)) aN))) aN)) aN))))) aN)))) (aT (fT (PW.pt (mS (cM oW (iT pV aO) (iT pV aO) (cZ _)) (pN (cM oW (bW eE (iT pV aO) (iT pV aO)) (bW eE (iT pV aO) (iT pV aO)) (cZ _))))) (bA (cE qM)) dW) (bA (cE (Ul (c0 (Yz T) R.r (aB pV (aB pV (aB pV aN)))) (Uk (c0 (Ix T) R.r (aB pV (aB pV (aB pV (aB pV (aB pV aN))))))))))))))))))]
def law_fn(T:Tx K mg){f:Addr}{fd:FuncData}(F:Bv K "law" "law" (top 76) .none f fd):Bw P w K mg base CX0 8 f fd ["_law_script"] (Mc K):=F.fn λR h=>#[t_law K,rd_law h,(aT (yQ (c0 (jJ7 T) R.r (aB pV aN)) (Ha (n:=3) rfl (jA (gN R) (jA (gN R) (jA (gN R) Ax))))) (aT (sA R (mO jI rfl T.n_list nB (aB pV aN))) (aT (sA R (c0 (jYo T) R.r (aB (mk0 T.mk_Table (Qs T) R.r T.c_Table (aB (mO jI rfl T.n_list nB (aB pV aN)) (aB (c0 (Pw T) R.r (aB pV aN)) aN))) (aB pV aN)))) (bA (cE (Ul (c0 (jJ5 T) R.r (aB pV (aB pV (aB pV (aB pV aN))))) (Uk (vW (op_eqD 1 (fU (Nat.add_le_add_left (by decide) _) R.r.units)) pV pV (cZ _)))))))))]
end
def CorK_mk(y:W.nsIn K mainGlobals "Corner"=some (some (.ref C)))(pg:PySem.W.plainGet K C Str.empty=true)(hd:PySem.W.hasDictIn K C=true)(po:PySem.W.plainOver K C=true)(sa:W.findIn K (.ref C) "__setattr__"=some (some (.builtin "object.__setattr__")))(b:W.findIn K (.ref C) "begun"=some none)(c:W.findIn K (.ref C) "spans"=some none)(d:W.findIn K (.ref C) "kept"=some none)(a:W.findIn K (.ref C) "inside"=some none):xW K:=
 #[by rw[mZ y];exact#[pg,hd,po,sa],by rw[mZ y];exact b,by rw[mZ y];exact c,by rw[mZ y];exact d,by rw[mZ y];exact a]
def TabK_mk(y:W.nsIn K mainGlobals "Table"=some (some (.ref C)))(pg:PySem.W.plainGet K C Str.empty=true)(hd:PySem.W.hasDictIn K C=true)(po:PySem.W.plainOver K C=true)(sa:W.findIn K (.ref C) "__setattr__"=some (some (.builtin "object.__setattr__")))(b:W.findIn K (.ref C) "many"=some none)(a:W.findIn K (.ref C) "cells"=some none):TabK K:=
 #[by rw[mZ y];exact#[pg,hd,po,sa],by rw[mZ y];exact b,by rw[mZ y];exact a]
def fin{l:PySem.W.OpenLaw}{w:World}{mg:Str->Option Value}{y:Addr}(b:mg "law"=some (.ref y))(T:Tx K mg)(Z:∃f fd,Bv K "law" "law" (top 76) .none f fd/\mg "law"=some (.ref f)):
  ∃fd:FuncData,(∀(s:Shared)(v:Value),BindsTo s fd #[[v],[]] [("_law_script",v)])/\∀base:Heap,K.In base->base.Ns mainGlobals mg->Bw l.prog w K mg base CX0 8 y fd ["_law_script"] (Mc K):=by
 obtain⟨f,fd,F,hf⟩:=Z;rw[b]at hf;cases hf;have c:=F;obtain⟨X,M,kV,i,z,C,a,ct,G,rfl,d,p⟩:=F.ex;exact#[_,λs v=>.of_eq rfl,λbase _ _=>law_fn T c]
def walk{l:PySem.W.OpenLaw}{q:Program}{j:List Str}{v:(Str->Option Value)->Heap->Prop}{Q:World->Heap->Prop}{d:DefRec}{K:Params->aR}(R:l.most=some 63)(I:d.params.defaults=[])
  (Z:∀(w:World)(h:Heap),Q w h->(K w.params).In h)
  (F:∀(w:World)(mg:Str->Option Value)(y:Addr)(h:Heap),(K w.params).In h->h.Ns mainGlobals mg->mg d.name=some (.ref y)->
   ∃fd:FuncData,(∀(s:Shared)(u:Value),BindsTo s fd #[[u],[]] [("_law_script",u)])/\∀base:Heap,(K w.params).In base->base.Ns mainGlobals mg->Bw l.prog w (K w.params) mg base CX0 8 y fd ["_law_script"] (Mc (K w.params))):
  PySem.W.WalkO q j v Q l.row.toRowW d [] (λf m=>PySem.call f m):=
 L2.walk_of (n:=63) (k:=8) (x:="_law_script") (CX:=λ_=>CX0) (sp:=λw=>Mc (K w.params)) R (by decide) I #[rfl,by decide,by decide] Z F (λ_ _ a ns Y _ P=>#[a,ns,rfl,P,Y,λ_=>rfl]) λ_ _ _ _ _ z=>z
end My
end
set_option Elab.async true
namespace PySem.Challenge.cw_mixplay_k52_whole_best_advice_holds
def tw8470173863887068714:=0
def tw11683205675135318468:=0
def tw4826962632003278465:=0
def tw11734910714962219207:=0
def tw11034365213221758473:=0
def tw18441072188125426866:=0
def tw9925914963603066856:=0
def tw13593712179934056684:=0
def tw2068880669683001954:=0
def tw4449752449126314677:=0
def tw11345637137261358337:=0
def tw7006464607587797294:=0
def tw11222419077859468886:=0
def tw11910681847076552449:=0
def tw1880906327608255753:=0
def tw10671883278444548188:=0
def tw552020656012613163:=0
def tw7978533088651441603:=0
def tw9790046605050474702:=0
def tw3050992740744637791:=0
def tw2387222842344005709:=0
def tw13660538112329822639:=0
def tw4019725555246265860:=0
def tw16551484156686442919:=0
def tw5590529425983182287:=0
def tw4746547683848119067:=0
def tw762653981852577775:=0
def tw14648805047995637902:=0
def tw7898693739722846960:=0
def tw2524903029985328854:=0
def tw15795959718558650215:=0
def tw2171233753054854868:=0
def tw11428048281249572552:=0
def tw17852161103769626632:=0
def tw6613017219620502303:=0
def tw8900736905664915967:=0
def tw11413859824676528964:=0
def tw2180350462643808442:=0
def tw14883503470741163445:=0
def tw4698397572346622705:=0
def tw1936031537802073347:=0
def tw9042411500330324752:=0
def tw3558685024145674580:=0
def tw15293706478126511130:=0
def tw9962167844733534234:=0
def tw623015297848421762:=0
def tw9125665387518173527:=0
def tw17759457036737956174:=0
def tw3406378085779085560:=0
def tw7457387554195266610:=0
def tw8537059807560917163:=0
def tw17113124660041492677:=0
def tw16356050442331205020:=0
def tw8056213692273061061:=0
def tw1942142910102064209:=0
def tw13939164354992968026:=0
def tw12059533994606185107:=0
def tw5144872349068699413:=0
def tw1277926612192689292:=0
def tw15805862829761957514:=0
def tw10246729653722030930:=0
def tw9659261599230079458:=0
def tw4351452856176126532:=0
def tw2505625842053718327:=0
def tw18031229243933632117:=0
def tw1267944912585856260:=0
def tw8983729008340118248:=0
def tw4854683335126769170:=0
def tw745819776912931581:=0
def tw8988725697040886091:=0
def tw14793764279374572267:=0
def tw6826347976825187906:=0
def tw3936712778604212561:=0
def tw2760744352078511592:=0
def tw17042894488975829115:=0
def tw9984607858820397111:=0
def tw12125056321875159859:=0
def tw1741470363101073957:=0
def tw3919405781259756462:=0
def tw5154627239248787126:=0
def tw13252264482886185973:=0
def tw441813929310587441:=0
def tw16430796993507108731:=0
def tw6478507668755582412:=0
def tw15639317040991202344:=0
def tw7615100117341397325:=0
def tw794798135240874233:=0
def tw16037869749521632577:=0
def tw7335710302344088539:=0
def tw10234516123643401718:=0
def tw11968207876919777707:=0
def tw7117826246699190852:=0
def tw2721439395702412539:=0
def tw8809465607877424571:=0
def tw18039478778739723751:=0
def tw5151554192933676228:=0
def tw14263821126951947861:=0
def tw5941918607869015374:=0
def tw13829090676234205276:=0
def tw15261641780537958618:=0
def tw2186076551569384459:=0
def tw1537455029311064911:=0
def tw16019837679343821455:=0
def tw16473798017130622759:=0
def tw9783176959069545479:=0
def tw2814429945975080541:=0
def tw7562167026819394586:=0
def tw5414478083919877565:=0
def tw15892266870766607650:=0
def tw8165494825013290491:=0
def tw11355122461615338676:=0
def tw9118207269516214099:=0
def tw14861144798169122947:=0
def tw17440196067707639181:=0
def tw16263470222390454926:=0
def tw12585193743769830424:=0
def tw9796947937671234897:=0
def tw17734631294002120138:=0
def tw15210145628569372838:=0
def tw14584041038246596093:=0
def tw14613307569804683451:=0
def tw7764573489690432959:=0
def tw12028364142027340863:=0
def tw18433486611348452575:=0
def tw4560585734430662590:=0
def tw9544298308765572323:=0
def tw8991645155884756348:=0
def tw13597936212065079012:=0
def tw5997773561235228364:=0
def tw2666193704463820444:=0
def tw14395670297360251256:=0
def tw1667232555849680856:=0
def tw14657779919089055825:=0
def tw10365595438214502173:=0
def tw13905492239779941048:=0
def tw11886487596758255763:=0
def tw3089805794959291228:=0
def tw13631502052060557199:=0
def tw13066961770119133943:=0
def tw13914073092811572944:=0
def tw11752362600213730970:=0
def tw926986752176303431:=0
def tw287424475032695368:=0
def tw5853891102522701846:=0
def tw13887213038321926688:=0
def tw6887875478997949623:=0
def tw17789548091623307548:=0
def tw8409167783728367759:=0
def tw12396405435183542486:=0
def tw11130943110540438391:=0
def tw14630550745053175820:=0
def tw13516737379763631550:=0
def tw17238942179089855326:=0
def tw13497997486241103974:=0
def tw1215182849284742374:=0
def tw11308177095275070861:=0
def tw6423008907267740677:=0
def tw9606012413196318408:=0
def tw1629899000633166553:=0
def tw5668017453107722643:=0
def tw6426798689966041626:=0
def tw17945721069243299061:=0
def tw15564494254596301932:=0
def tw13995629252099483042:=0
def tw17516344294575474703:=0
def tw10831185941879859251:=0
def tw8653270720605717300:=0
def tw13738559561832821977:=0
def tw16298960753605724434:=0
def tw16686262266485744797:=0
def tw15268854522313611912:=0
def tw16946094013015120691:=0
def tw13992632473626812386:=0
def tw15015195899525081219:=0
def tw3302555891197563924:=0
def tw8499113835615517360:=0
def tw16358622806861508524:=0
def tw14044916175623022916:=0
def tw12695912147434202391:=0
def tw79015547211992478:=0
def tw7899447578461294433:=0
def tw16753587031930306169:=0
def tw15415581045929075838:=0
def tw994970285243561169:=0
def tw11225069401739043750:=0
def tw1658438865535576747:=0
def tw6639669068082991099:=0
def tw18037843852554078090:=0
def tw11097421418447761977:=0
def tw15539557614900075907:=0
def tw10317720743357133027:=0
def tw7321691701975023153:=0
def tw11844911686566932189:=0
def tw1946879368540134825:=0
def tw5062266344551973310:=0
def tw17664426164327129723:=0
def tw16191692572422234562:=0
def tw13507672358451098838:=0
def tw16934622100491309256:=0
def tw12508910551153657577:=0
def tw7456246848059641436:=0
def tw10556309752468703328:=0
def tw11729451027635866051:=0
def tw17857911906383556434:=0
def tw4644153932644845453:=0
def tw11321511314131978773:=0
def tw4461567335952597389:=0
def tw12266452137555302812:=0
def tw2224977300370351414:=0
def tw12097694250713339452:=0
def tw3041702371768635038:=0
def tw18378189337164054646:=0
def tw2070824050528687224:=0
def tw6340598804743914405:=0
def tw17813826238449573613:=0
def tw6193299971970707178:=0
def tw3517123323830733463:=0
def tw10029307430637895819:=0
def tw11942019762596279502:=0
def tw14408110386515590665:=0
def tw4223614978543473229:=0
def tw7313691785811830724:=0
def tw9096527256780445355:=0
def tw17666363431884384477:=0
def tw5710368431568812207:=0
def tw17392900616292407081:=0
def tw4078090458872839370:=0
def tw16581607997136602051:=0
def tw15819310546922669346:=0
def tw15628250788562734977:=0
end PySem.Challenge.cw_mixplay_k52_whole_best_advice_holds
open PySem PySem.W PyProof.Rows
set_option maxRecDepth 100000 in
set_option maxHeartbeats 0 in
theorem PySem.Challenge.cw_mixplay_k52_whole_best_advice_holds : PySem.Challenge.rw_mixplay_k52_whole_best_advice.Holds := by
  w_on; o_law; z_head; (case hw => w_witness2)
  k_fill
  refine L2.walk_x (fun _ => rfl) (My.walk (l := PySem.Challenge.rw_mixplay_k52_whole_best_advice) rfl rfl (fun w h Y => Y) ?F)
  case F =>
    intro w mg fa h KX G hmg
    refine' My.fin hmg ?T (L2.law_mk KX G ?z1 ?z2 ?z3 ?z4)
    (case z1 => k_is)
    (case z2 => k_is)
    (case z3 => k_is)
    (case z4 => k_is)
    constructor
    all_goals first
      | (refine' L2.Df.mk' KX G ?a ?l ?c ?k; (case a => k_is); (case l => k_is); (case c => k_is); (case k => k_is))
      | (refine' L2.Df.mkD KX G ?a ?l ?c ?k ?d ?e ?b; (case a => k_is); (case l => k_is); (case c => k_is); (case k => k_is); (case d => k_is); (case e => rfl); (case b => first | exact fun _ _ _ _ _ _ => L2.ar4 fun _ _ _ _ => ⟨_, rfl, rfl⟩ | exact fun _ _ _ _ _ _ => L2.ar2 fun _ _ => ⟨_, rfl, rfl⟩))
      | (refine' L2.Mf.mk' ?y ?a ?i ?l ?c ?k; (case y => k_is); (case a => k_is); (case i => k_is); (case l => k_is); (case c => k_is); (case k => k_is))
      | (refine' PySem.W.mg_none_of KX G ?z; (case z => k_is))
      | (refine' L2.cls_mk KX G ?y; (case y => k_is))
      | (refine' L2.mkc_mk ?y ?a ?b; (case y => k_is); (case a => k_is); (case b => k_is))
      | (refine' L2.gi_mk KX G ?z; (case z => k_is))
      | (refine' My.CorK_mk ?y ?g ?d ?o ?s ?n0 ?n1 ?n2 ?n3; (case y => k_is); (case g => k_is); (case d => k_is); (case o => k_is); (case s => k_is); (case n0 => k_is); (case n1 => k_is); (case n2 => k_is); (case n3 => k_is))
      | (refine' My.TabK_mk ?y ?g ?d ?o ?s ?n0 ?n1; (case y => k_is); (case g => k_is); (case d => k_is); (case o => k_is); (case s => k_is); (case n0 => k_is); (case n1 => k_is))

