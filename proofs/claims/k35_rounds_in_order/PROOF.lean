import PyProof.Rows.All
import Wide.All
import OpenK.AllK
import Wide.FinOn
import Lean
import PyProof.EqAt
import PyProof.EqKinds
import PyProof.TupleCall
import PySem.Challenge.RW_mixplay_k35_rounds_in_order
set_option Elab.async false
set_option linter.all false
set_option maxRecDepth 100000
section
set_option compiler.extract_closed false
abbrev sL'(p:Lean.Name)(s:String):Array Lean.Ident:=s.splitOn.toArray.map λs=>Lean.mkIdent (p++s.toName)
local macro_rules|`(command|def$i$b:bracketedBinder*:$t$v:declVal)=>`(command|theorem$i$b*:$t$v)
local macro_rules|`(command|def$i$b:bracketedBinder*:$t:ident$v:declVal)=>`(command|noncomputable def$i$b*:$t$v)
local macro_rules|`(command|def$i$b:bracketedBinder*:Prop$v:declVal)=>`(command|noncomputable def$i$b*:Prop$v)
local macro_rules|`(#[$xs,*])=>`(⟨$xs,*⟩)
local macro_rules|`(#[])=>`(by lia)
namespace L2
open PySem PySem.Spec PyProof.Rows
variable{A:Around}{C a:Addr}{E Q:Value->Shared->Prop}{H:Hp}{K:aR}{M:Model}{N ps:List Str}{O:St}{P:Program}{X:Cx}{base h:Heap}{c e:Expr}{d:Type}{f:Value->Value->Sem Value}{g:TG}{i j k t':Nat}{mg:Str->Option Value}{o:HO}{op:CmpOp}{pl:Sem Bool}{pos:Pos}{s:Shared}{tb:TS}{u:Value}{us:List Value}{v:V}{vs xs:List V}{x:Str}
noncomputable abbrev LS:=List Str
noncomputable abbrev hJ:=List (List (Int×Int))
noncomputable abbrev eF:=List (Int×Int)
noncomputable abbrev eG:=List (List Nat)
noncomputable abbrev aR:=PySem.W.Frag
abbrev aC:=@List.getElem?_eq_getElem
abbrev aN:=@List.getD_eq_getElem?_getD
abbrev aJ:=@List.mem_of_getElem?
abbrev aU:=@Option.some.inj
abbrev bA:=@Heap.get?_push_of_some
abbrev aA:=@List.length_map
abbrev aD:=@wpAny_bind
abbrev aT:=@wpAny_pure
abbrev aP:=@Nat.le_refl
abbrev aV:=@List.map_append
abbrev aF:=@if_neg
abbrev aK:=@if_pos
abbrev bC:=@Heap.lt_size
abbrev bG:=@List.size_toArray
abbrev bF:=@List.length_append
abbrev aX:=@List.getElem?_map
abbrev bJ:=@Option.join_some
abbrev cS:=@List.append_nil
abbrev bP:=@List.getElem?_append_right
abbrev bV:=@List.getElem?_append_left
abbrev bK:=@Int.mul_pos
abbrev cY:=@List.map_nil
abbrev cA:=@List.map_cons
abbrev bL:=@Nat.ne_of_lt
abbrev cK:=@List.length_reverse
abbrev cH:=@Nat.lt_of_lt_of_le
abbrev bI:=@List.mem_cons_of_mem
abbrev bX:=@Bool.false_ne_true
abbrev bT:=@Int.le_of_lt
abbrev bQ:=@List.mem_cons_self
abbrev bU:=@List.getElem?_eq_none
abbrev dE:=@Nat.le_trans
abbrev cQ:=@Int.natAbs_mul
abbrev bY:=@List.take_length
abbrev cF:=@List.getElem?_of_mem
abbrev cP:=@List.length_cons
abbrev cE:=@Heap.get?_push_size
abbrev eW:=@Heap.get?_update_other
abbrev cT:=@decide_eq_true_eq
abbrev cU:=@Int.mul_zero
abbrev bW:=@Int.toNat_natCast
abbrev cD:=@List.getElem_mem
abbrev eJ:=@Nat.two_pow_pos
abbrev aI:=@List.getElem?_eq_some_iff
abbrev cM:=@List.mem_map
abbrev cW:=@List.mem_append
abbrev eK:=@List.mem_cons
abbrev cJ:=@List.mem_singleton
abbrev gF:=@List.mem_range
abbrev cR:=@List.length_take
abbrev fZ:=@List.length_set
abbrev eP:=@List.map_congr_left
abbrev dB:=@List.mem_append_right
abbrev iF:=@List.mem_append_left
abbrev dI:=@PyProof.Rows.callWith_type1
abbrev fW:=@Int.mul_comm
abbrev fE:=@Int.mul_one
abbrev fV:=@Int.zero_mul
abbrev fP:=@Int.one_mul
abbrev gO:=@Int.mul_assoc
abbrev eS:=@Int.zero_add
abbrev jB:=@Nat.le_of_lt
abbrev eO:=@Nat.lt_irrefl
abbrev eU:=@Nat.not_lt_zero
abbrev fB:=@Nat.mul_le_mul
abbrev iR:=@Nat.mul_le_mul_right
abbrev gH:=@Nat.add_le_add_left
abbrev fK:=@Nat.pow_le_pow_right
abbrev jG:=@Int.dvd_trans
abbrev dU:=@Int.mul_nonneg
abbrev dN:=@Int.eq_of_mul_eq_mul_right
abbrev gT:=@Rat.intCast_mul
abbrev fS:=@Rat.mul_le_mul_of_nonneg_right
abbrev iW:=@List.mem_flatMap
abbrev hE:=@List.length_drop
abbrev gL:=@List.length_range
abbrev gU:=@Nat.min_eq_left
abbrev kB:=@Nat.sub_self
abbrev dW:=@Nat.zero_le
abbrev fY:=@Nat.lt_of_le_of_lt
abbrev jC:=@Nat.le_add_right
abbrev fX:=@Nat.lt_succ_self
noncomputable abbrev Key:=Sum Int Str
noncomputable def Rt:Key->Value->Bool
 | .inl k,v=>Value.isInt k v
 | .inr x,v=>Value.isStrOf x v
noncomputable def keyH(w:World):Key->Int
 | .inl k=>hashInt k
 | .inr x=>hashStr w x
def jK:∀{k:Key}{v:Value},Rt k v=true->(∃i t,k=Sum.inl i/\v=Value.int i t)∨(∃x t,k=Sum.inr x/\v=Value.str x t)
 | .inl i,v,h=>by
  obtain⟨t,e⟩:=Value.isInt_shape (k:=i) (v:=v) h;exact .inl #[i,t,rfl,e]
 | .inr x,v,h=>by
  obtain⟨t,e⟩:=Value.isStrOf_shape (x:=x) (v:=v) h;exact .inr #[x,t,rfl,e]
def jVW(i:Int)(t:Tok):Rt (.inl i) (.int i t)=true:=by simp [Rt,Value.isInt]
def jVY(x:Str)(t:Tok):Rt (.inr x) (.str x t)=true:=by simp [Rt,Value.isStrOf]
def key_ll(a b:Int):decide ((Sum.inl a:Key)=Sum.inl b)=(a==b):=by
 by_cases e:a=b
 .subst e;simp
 .have h:¬(Sum.inl a:Key)=Sum.inl b:=λq=>e (Sum.inl.inj q);rw[decide_eq_false h];exact(beq_eq_false_iff_ne.mpr e).symm
def key_rr(a b:Str):decide ((Sum.inr a:Key)=Sum.inr b)=decide (a=b):=by
 by_cases e:a=b
 .subst e;simp
 .have h:¬(Sum.inr a:Key)=Sum.inr b:=λq=>e (Sum.inr.inj q);rw[decide_eq_false h,decide_eq_false e]
def key_lr(a:Int)(b:Str):decide ((Sum.inl a:Key)=Sum.inr b)=false:=decide_eq_false (λq=>nomatch q)
def key_rl(a:Str)(b:Int):decide ((Sum.inr a:Key)=Sum.inl b)=false:=decide_eq_false (λq=>nomatch q)
noncomputable def jT(prog:Program)(w:World):PySem.KeyKind prog w Key where
 is:=Rt
 hash:=keyH w
 inj:=λv a b ha hb=>by
  rcases jK ha with⟨i,t,rfl,rfl⟩|⟨x,t,rfl,rfl⟩
  .rcases jK hb with⟨j,u,rfl,e⟩|⟨y,u,rfl,e⟩
   .injection e with e1 _;rw[e1]
   .exact nomatch e
  .rcases jK hb with⟨j,u,rfl,e⟩|⟨y,u,rfl,e⟩
   .exact nomatch e
   .injection e with e1 _;rw[e1]
 byValue:=λk v h=>by
  rcases jK h with⟨i,t,rfl,rfl⟩|⟨x,t,rfl,rfl⟩<;>rfl
 pyHash:=λhv h=>by
  rcases jK hv with⟨i,t,rfl,rfl⟩|⟨x,t,rfl,rfl⟩
  .exact wpAny_pyHash_int h
  .exact wpAny_pyHash_str h
 eqBool:=λhu hv h=>by
  rcases jK hu with⟨i,t,rfl,rfl⟩|⟨x,t,rfl,rfl⟩
  .rcases jK hv with⟨j,u,rfl,rfl⟩|⟨y,u,rfl,rfl⟩
   .rw[key_ll]at h;exact wpAny_eqBool_int h
   .rw[key_lr]at h;exact SeqAt.EqAt.int_str i t y u _ _ _ _ h
  .rcases jK hv with⟨j,u,rfl,rfl⟩|⟨y,u,rfl,rfl⟩
   .rw[key_rl]at h;exact SeqAt.EqAt.str_int x t j u _ _ _ _ h
   .rw[key_rr]at h;exact wpAny_eqBool_str h
 «strs»:=λk x t v h=>by
  rcases jK h with⟨i,u,rfl,e⟩|⟨y,u,rfl,e⟩
  .exact nomatch e
  .injection e with e1 _;subst e1;cases v<;>rfl
def jJr(prog:Program)(w:World)(i:Int)(t:Tok):(jT prog w).is (.inl i) (.int i t)=true:=jVW i t
def jJq(prog:Program)(w:World)(x:Str)(t:Tok):(jT prog w).is (.inr x) (.str x t)=true:=jVY x t
inductive V where
 |non |bl (b:Bool)|int (i:Int)|str (x:Str)|byt (b:Array UInt8)|flt (b:UInt64)|ref (a:Addr)|ty (n:String)
 deriving DecidableEq
noncomputable def fO:V->Value->Prop
 | .non,u=>u=Value.none
 | .bl b,u=>u=Value.bool b
 | .int i,u=>∃t,u=Value.int i t
 | .str x,u=>∃t,u=Value.str x t
 | .byt b,u=>∃t,u=Value.bytes b t
 | .flt b,u=>∃t,u=Value.float b t
 | .ref a,u=>u=Value.ref a
 | .ty n,u=>u=Value.type n
noncomputable abbrev fF:List V->List Value->Prop:=Paired fO
def fF.length(r:fF xs us):xs.length=us.length:=Paired.length r
def fF.get:∀{xs:List V}{us:List Value}{i:Nat}{x:V},fF xs us->xs[i]?=some x->∃u,us[i]?=some u/\fO x u
 |_,_,_,_,.nil,e=>by simp at e
 |_,_,0,_,.cons r _,e=>by simp at e;subst e;exact#[_,rfl,r]
 |_,_,i+1,x,.cons _ t,e=>by
  obtain⟨u,h1,h2⟩:=fF.get (i:=i) (x:=x) t (by simpa using e);exact#[u,by simpa using h1,h2]
def fF.set{x:V}(r:fO x u):∀{xs:List V}{us:List Value}(i:Nat),fF xs us->fF (xs.set i x) (us.set i u)
 |_,_,_,.nil=>.nil
 |_,_,0,.cons _ t=>.cons r t
 |_,_,i+1,.cons q t=>.cons q (fF.set r i t)
def fF.append:∀{xs ys:List V}{us d:List Value},fF xs us->fF ys d->fF (xs++ys) (us++d)
 |_,_,_,_,.nil,s=>s
 |_,_,_,_,.cons r t,s=>.cons r (fF.append t s)
def fF.take:∀{xs:List V}{us:List Value}(n:Nat),fF xs us->fF (xs.take n) (us.take n)
 |_,_,0,_=>.nil
 |_,_,_+1,.nil=>.nil
 |_,_,n+1,.cons r t=>.cons r (fF.take n t)
def fF.drop:∀{xs:List V}{us:List Value}(n:Nat),fF xs us->fF (xs.drop n) (us.drop n)
 |_,_,0,r=>r
 |_,_,_+1,.nil=>.nil
 |_,_,n+1,.cons _ t=>fF.drop n t
noncomputable def Ay:Option V->Option Value->Prop
 |some v,some u=>fO v u
 |none,none=>True
 |_,_=>False
noncomputable def KV{d:Type}:List (d×V)->List (d×Value)->Prop:=Paired fun(p:d×V)(q:d×Value)=>p.1=q.1/\fO p.2 q.2
noncomputable def kV:Key->V
 | .inl i=>.int i
 | .inr x=>.str x
inductive HO where
 /--a list -/
 |lst (xs:List V)
 /--a tuple (never changes)-/
 |tup (xs:List V)
 /--a dict whose keys are ints and texts;one whose keys are tuples of ints and texts (the empty one is both)-/
 |dK (kvs:List (Key×V))|dT (kvs:List (List Key×V))
 /--a set of ints:its members,its size -/
 |set (S:Int->Bool) (n:Nat)
 /--an instance of the class at C,its dict at dx,its attributes -/
 |ins (C dx:Addr) (fs:List (Str×V))
 /--the dict of the instance at x -/
 |own (x:Addr)
 /--the dict of an exception -/
 |xd (fs:List (Str×V))
 /--a bound method,f of x -/
 |met (f x:Addr)
 /--a range object lo,lo+1,.. below hi -/
 |rng (lo hi:Int)
 /--a thing that is known to the object (the script;a dict while a loop walks it):read,never written while it is so -/
 |frz (o:Obj) (u:HO)
 /--a code object's table -/
 |tbl (ps:Array Value)
 /--any other thing,by what is true of its one object (a def of one's own:SetO a S n:=HO.ext λh=>..)-/
 |ext (φ:Heap->Prop)
noncomputable abbrev Hp:=Addr->Option HO
def upd(H:Hp)(a:Addr)(o:HO):Hp:=λb=>if b=a then some o else H b
def aL:upd H a o a=some o:=by unfold upd;rw[aK rfl]
def bZ{b:Addr}(h:b≠a):upd H a o b=H b:=by unfold upd;rw[aF h]
def kT{b:Addr}{u:HO}(h:H a=some o)(h':H b=some u)(d:o≠u):a≠b:=by
 intro e;subst e;rw[h]at h';exact d (aU h')
def dJ{b:Addr}(h:H a=some o)(h':H b=none):a≠b:=by
 intro e;subst e;rw[h]at h';cases h'
section
variable(P:Program)(w:World)
noncomputable def jV(H:Hp)(h:Heap)(a:Addr):HO->Prop
 | .lst xs=>xs.length<=sizeLine/\∃(G:List Value)(n:Nat),fF xs G/\h.get? a=some { cls:=.type "list",data:=.seq G.toArray n }
 | .tup xs=>xs.length<=sizeLine/\∃G:List Value,fF xs G/\IsTup h a G.toArray
 | .dK kvs=>kvs.length<=sizeLine/\(a==sysModules)=false/\∃vs,KV kvs vs/\h.DictOf (jT P w) a vs
 | .dT kvs=>kvs.length<=sizeLine/\(a==sysModules)=false/\∃xs:List (List Key×Addr×Value),
   Paired (fun(p:List Key×V)(q:List Key×Addr×Value)=>p.1=q.1/\H q.2.1=some (.tup (p.1.map kV))/\fO p.2 q.2.2) kvs xs/\
   ∃o es ep,h.get? a=some o/\o.ExactDict/\o.data=.dict es ep/\es.toList=xs.map (entryOfKey (tupleKind (jT P w)))/\(xs.map (·.1)).Nodup
 | .set S n=>h.SetOf (intKind P w) a S n
 | .ins C dx fs=>H dx=some (.own a)/\fs.length<=1000/\dx≠a/\h.get? a=some (PySem.W.instObj C dx)/\
   ∃i,h.Ns1 dx i/\(∀f,Ay (fs.lookup f) (i f))/\PySem.Within i (fs.map (·.1))
 | .own _=>∃o,h.get? a=some o
 | .xd fs=>∃i,h.Ns1 a i/\∀f,Ay (fs.lookup f) (i f)
 | .rng lo hi=>∃t u v,h.get? a=some { cls:=.type "range",data:=.fields (List.toArray [.int lo t,.int hi u,.int 1 v]) }
 | .frz o u=>h.get? a=some o/\jV H h a u
 | .tbl ps=>h.get? a=some { cls:=.none,data:=.fields ps }
 | .met f x=>h.get? a=some (PySem.W.methodObj (.ref f) (.ref x))
 | .ext φ=>φ h/\(∃o,h.get? a=some o)/\∀h1 h2:Heap,φ h1->(∀o,h1.get? a=some o->h2.get? a=some o)->φ h2
def HOk(H:Hp)(h:Heap):Prop:=∀a o,H a=some o->jV P w H h a o
end
section
variable{P:Program}{w:World}{H H':Hp}{h h':Heap}{a:Addr}{o:HO}
def jV.lt(x:jV P w H h a o):a<h.objs.size:=by
 cases o with
 |lst xs=>obtain⟨_,_,_,_,e⟩:=x;exact bC e
 |tup xs=>obtain⟨_,_,_,p⟩:=x;exact p.lt
 |dK kvs=>obtain⟨_,_,_,_,o,_,_,e,_⟩:=x;exact bC e
 |dT kvs=>obtain⟨_,_,_,_,o,_,_,e,_⟩:=x;exact bC e
 |set S n=>obtain⟨o,_,_,_,e,_⟩:=x;exact bC e
 |ins C dx fs=>obtain⟨_,_,_,e,_⟩:=x;exact bC e
 |own y=>obtain⟨_,e⟩:=x;exact bC e
 |xd fs=>obtain⟨_,⟨_,_,_,e,_⟩,_⟩:=x;exact bC e
 |rng lo hi=>obtain⟨_,_,_,e⟩:=x;exact bC e
 |frz ob u=>obtain⟨e,_⟩:=x;exact bC e
 |tbl ps=>exact bC (show h.get? a=some _ from x)
 |met f y=>exact bC (show h.get? a=some _ from x)
 |ext φ=>obtain⟨_,⟨_,e⟩,_⟩:=x;exact bC e
def Paired.mapP{c:Type}{F G:d->c->Prop}:∀{e:List d}{g:List c},Paired F e g->(∀a b,F a b->G a b)->Paired G e g
 |_,_,.nil,_=>.nil
 |_,_,.cons r t,f=>.cons (f _ _ r) (Paired.mapP t f)
def jV.stay(x:jV P w H h a o)(k:∀b u,(b=a∨H b=some (.own a))->h.get? b=some u->h'.get? b=some u)
  (ho:∀b,H b=some (.own a)->H' b=some (.own a)) (g:∀b T,H b=some (.tup T)->H' b=some (.tup T)):jV P w H' h' a o:=by
 induction o with
 |lst T=>obtain⟨z,G,n,r,e⟩:=x;exact#[z,G,n,r,k _ _ (.inl rfl) e]
 |tup T=>obtain⟨z,G,r,ob,e,c⟩:=x;exact#[z,G,r,ob,k _ _ (.inl rfl) e,c]
 |dK kvs=>obtain⟨z,y,j,r,ob,J,U,e,c⟩:=x;exact#[z,y,j,r,ob,J,U,k _ _ (.inl rfl) e,c]
 |dT kvs=>
  obtain⟨z,y,T,r,ob,J,U,e,c⟩:=x;exact#[z,y,T,Paired.mapP r λp q z=>#[z.1,g _ _ z.2.1,z.2.2],ob,J,U,k _ _ (.inl rfl) e,c]
 |set S n=>obtain⟨ob,J,U,t,e,c⟩:=x;exact#[ob,J,U,t,k _ _ (.inl rfl) e,c]
 |ins C dx fs=>
  obtain⟨d,z,ne,e,i,⟨D,J,U,l,c⟩,r⟩:=x;exact#[ho _ d,z,ne,k _ _ (.inl rfl) e,i,#[D,J,U,k _ _ (.inr d) l,c],r]
 |own y=>obtain⟨ob,e⟩:=x;exact#[ob,k _ _ (.inl rfl) e]
 |xd fs=>obtain⟨i,⟨D,J,U,e,c⟩,r⟩:=x;exact#[i,#[D,J,U,k _ _ (.inl rfl) e,c],r]
 |rng lo hi=>obtain⟨t,u,v,e⟩:=x;exact#[t,u,v,k _ _ (.inl rfl) e]
 |frz ob u ih=>obtain⟨e,q⟩:=x;exact#[k _ _ (.inl rfl) e,ih q]
 |tbl ps=>
  have e:h.get? a=some { cls:=.none,data:=.fields ps }:=x;show h'.get? a=some { cls:=.none,data:=.fields ps };exact k a _ (.inl rfl) e
 |met f y=>
  have e:h.get? a=some (PySem.W.methodObj (.ref f) (.ref y)):=x;show h'.get? a=some (PySem.W.methodObj (.ref f) (.ref y));exact k a _ (.inl rfl) e
 |ext φ=>obtain⟨p,⟨o,e⟩,st⟩:=x;exact#[st _ _ p λo q=>k _ _ (.inl rfl) q,#[o,k _ _ (.inl rfl) e],st]
def HOk.lt(x:HOk P w H h)(e:H a=some o):a<h.objs.size:=(x a o e).lt
def HOk.fresh(x:HOk P w H h)(e:h.objs.size<=a):H a=none:=by
 cases q:H a with
 |none=>rfl
 |some u=>exact absurd (cH (x.lt q) e) (eO _)
def HOk.kept(x:HOk P w H h)(k:∀b u,h.get? b=some u->h'.get? b=some u):HOk P w H h':=λa o e=>
 (x a o e).stay (λb u _ q=>k b u q) (λ_ q=>q) λ_ _ q=>q
def HOk.laid(x:HOk P w H h)(k:∀b u,h.get? b=some u->h'.get? b=some u)(hp:h.objs.size<=a)(new:jV P w (upd H a o) h' a o):HOk P w (upd H a o) h':=λb u e=>by
 have hn:=x.fresh hp;by_cases hb:b=a
 .subst hb;rw[aL]at e;cases e;exact new
 .rw[bZ hb]at e;exact(x b u e).stay (λc v _ q=>k c v q) (λc q=>by rw[bZ (dJ q hn)];exact q) λc T q=>by rw[bZ (dJ q hn)];exact q
end
def Rd(H:Hp)(a:Addr)(u:HO):Prop:=H a=some u∨∃o,H a=some (.frz o u)
def Rd.ok{w:World}{u:HO}(r:Rd H a u)(x:HOk P w H h):jV P w H h a u:=by
 rcases r with r |⟨o,r⟩
 .exact x a u r
 .obtain⟨_,q⟩:=x a _ r;exact q
noncomputable def Mut:Option HO->Prop
 |some (.lst _)=>True
 |some (.dK _)=>True
 |some (.dT _)=>True
 |some (.set _ _)=>True
 |some (.ins _ _ _)=>True
 |some (.ext _)=>True
 |_=>False
section
variable{P:Program}{w:World}{H:Hp}{h h':Heap}{x e:Addr}{o':HO}
def HOk.write(ok:HOk P w H h)(mu:Mut (H x))(D:e=x∨H e=some (.own x))(k:∀b u,b≠e->h.get? b=some u->h'.get? b=some u)(f:∃u,h'.get? e=some u)
  (new:jV P w (upd H x o') h' x o'):HOk P w (upd H x o') h':=λb u q=>by
 have a:∀c y,H c=some (.own y)->c≠x:=λc y r z=>by subst z;rw[r]at mu;exact mu
 have g:∀c T,H c=some (.tup T)->c≠x:=λc T r z=>by subst z;rw[r]at mu;exact mu
 by_cases hb:b=x
 .subst hb;rw[aL]at q;cases q;exact new
 .rw[bZ hb]at q;by_cases d:b=e
  .have S:H b=some (.own x):=by
    rcases D with z |z
    .exact absurd (d.trans z) hb
    .rw[d];exact z
   rw[q]at S;cases S;obtain⟨v,hv⟩:=f;exact#[v,by rw[d];exact hv]
  .refine(ok b u q).stay (λc v hc r=>k c v ?_ r) (λc r=>by rw[bZ (a c b r)];exact r) λc T r=>by rw[bZ (g c T r)];exact r
   rcases hc with rfl |hc
   .exact d
   .rintro rfl;rcases D with z |z
    .exact a c b hc z
    .rw[hc]at z;cases z;exact hb rfl
end
structure Un(fs ex:List Addr)(H H':Hp)(h h':Heap):Prop where
 keep:∀b o,h.get? b=some o->H b=none->b∉fs->b∉ex->h'.get? b=some o
 slot:∀b o,h.get? b=some o->H b=none->b∈fs->b∉ex->∃sl,h'.get? b=some { o with slots:=sl }
 free:∀b o,h.get? b=some o->H b=none->b∉ex->H' b=none
 there:∀b o,h.get? b=some o->b∉ex->∃o',h'.get? b=some o'
 tups:∀b xs,H b=some (.tup xs)->H' b=some (.tup xs)
 frzs:∀b o u,H b=some (.frz o u)->H' b=some (.frz o u)
 tbls:∀b ps,H b=some (.tbl ps)->∃Mu,H' b=some (.tbl (ps++Mu))
section
variable{fs fs' ex ex':List Addr}{H H1 H2:Hp}{h h1 h2 h':Heap}{a x e:Addr}{o:HO}
def Un.any(u:Un fs ex H H1 h h1){b:Addr}{ob:Obj}(q:h.get? b=some ob)(n:H b=none)(hx:b∉ex):∃sl,h1.get? b=some { ob with slots:=sl }:=by
 by_cases hb:b∈fs
 .exact u.slot b ob q n hb hx
 .exact#[ob.slots,u.keep b ob q n hb hx]
def Un.kept(k:∀b u,h.get? b=some u->h'.get? b=some u):Un fs ex H H h h':=
 #[λb ob q _ _ _=>k b ob q,λb ob q _ _ _=>#[ob.slots,k b ob q],λ_ _ _ n _=>n,λb ob q _=>#[ob,k b ob q],λ_ _ q=>q,λ_ _ _ q=>q,λ_ A q=>#[(List.toArray []),by rw[q];simp]]
def Un.refl:Un fs ex H H h h:=Un.kept λ_ _ q=>q
def Un.laid(k:∀b u,h.get? b=some u->h'.get? b=some u)(hp:h.objs.size<=a)(hn:H a=none):Un fs ex H (upd H a o) h h' where
 keep:=λb u q _ _ _=>k b u q
 slot:=λb u q _ _ _=>#[u.slots,k b u q]
 free:=λb u q n _=>by rw[bZ (bL (cH (bC q) hp))];exact n
 there:=λb u q _=>#[u,k b u q]
 tups:=λb T q=>by rw[bZ (dJ q hn)];exact q
 frzs:=λb u T q=>by rw[bZ (dJ q hn)];exact q
 tbls:=λb A q=>#[(List.toArray []),by rw[bZ (dJ q hn),q];simp]
def Un.write(mu:Mut (H x))(D:e=x∨H e=some (.own x))(k:∀b u,b≠e->h.get? b=some u->h'.get? b=some u)(f:∃u,h'.get? e=some u):Un fs ex H (upd H x o) h h':=by
 have hx:∀b,H b=none->b≠x:=λb n z=>by subst z;rw[n]at mu;exact mu
 have hb:∀b,H b=none->b≠e:=λb n z=>by
  subst z;rcases D with r |r
  .exact hx b n r
  .rw[n]at r;cases r
 have hm:∀b u,H b=some u->¬Mut (some u)->b≠x:=λb u q y z=>by subst z;rw[q]at mu;exact y mu
 refine#[λb u q n _ _=>k b u (hb b n) q,λb u q n _ _=>#[u.slots,k b u (hb b n) q],λb u q n _=>by rw[bZ (hx b n)];exact n,λb u q _=>?_,
  λb T q=>by rw[bZ (hm b _ q λz=>z)];exact q,λb u T q=>by rw[bZ (hm b _ q λz=>z)];exact q,λb A q=>#[(List.toArray []),by rw[bZ (hm b _ q λz=>z),q];simp]]
 by_cases d:b=e
 .subst d;exact f
 .exact#[u,k b u d q]
end
noncomputable def trk(h:Heap)(H:Hp):List Addr:=(List.range h.objs.size).filter λa=>(H a).isSome
def Vb(h:Heap)(H:Hp):Heap:=PySem.W.hideAll h (trk h H)
def jVc(h:Heap)(H:Hp):(Vb h H).objs.size=h.objs.size:=PySem.W.hideAll_size _ _
def jUg{b:Addr}{o:Obj}(e:h.get? b=some o)(n:H b=none):(Vb h H).get? b=some o:=
 PySem.W.hideAll_get _ e λhm=>by
  have q:(H b).isSome=true:=(List.mem_filter.mp hm).2;rw[n]at q;simp at q
def of_hidT{b:Addr}{o:Obj}(e:(Vb h H).get? b=some o):h.get? b=some o/\H b=none:=by
 have g:h.get? b=some o:=PySem.W.of_hideAll (trk h H) e;refine#[g,?_];cases q:H b with
 |none=>rfl
 |some x=>
  have hm:b∈trk h H:=List.mem_filter.mpr #[gF.mpr (bC g),by simp [q]];have z:(Vb h H).get? b=none:=PySem.W.hideAll_none (trk h H) hm;rw[z]at e;cases e
structure Mod(K:aR)(mg:Str->Option Value)(base:Heap):Prop where
 kin:K.In base
 glob:base.Ns mainGlobals mg
 blt:∃mb,base.Ns builtinsNs mb/\∀x:Str,x≠ "__name__"->mb x=bootBuiltins x
 nolimit:base.NoLimit
structure Cx where
 prog:Program
 w:World
 K:aR
 mg:Str->Option Value
 base:Heap
 A:Around
 N:List Str
 s₀:Shared
 H₀:Hp
 env:Env
 outer:List Env
 stack:List Env
 ex:List Addr
 fn:Str->Bool
 calm:Bool
 pn:List (Addr×Obj)
 xe:Value->Shared->Prop
noncomputable def frs(l:List Env):List Addr:=l.filterMap (·.frame)
noncomputable abbrev Cx.fs(X:Cx):List Addr:=frs X.outer
def Vis(sc:Scope)(x:Str):Prop:=sc.names.lookup x=some .local∨sc.names.lookup x=some .cell∨sc.names.lookup x=some .free
def Loc(sc:Scope)(x:Str):Prop:=sc.names.lookup x=some .local∨sc.names.lookup x=some .cell
def Look(env:Env)(h:Heap)(m:Str->Option Value)(x:Str)(u:Value):Prop:=
 (env.kindOf x=some .local/\m x=some u)∨((env.kindOf x=some .cell∨env.kindOf x=some .free)/\∃c,env.cells.lookup x=some c/\h.IsCell c (some u))
structure Cx.Ok(X:Cx):Prop where
 mod:Mod X.K X.mg X.base
 kind:X.env.scope.kind=.function
 glob:X.env.globals=mainGlobals
 blt:X.env.builtins=builtinsNs
 above:X.s₀.heap.objs.size<=X.env.locals
 inj:∀x y c,X.env.cells.lookup x=some c->X.env.cells.lookup y=some c->x=y
 has:∀x,(X.env.kindOf x=some .cell∨X.env.kindOf x=some .free)->∃c,X.env.cells.lookup x=some c
 cab:∀x c,X.fn x=true->X.env.cells.lookup x=some c->X.s₀.heap.objs.size<=c
 hd:X.calm=true->X.A.handled=none
 frames:X.A.frames=some X.stack
 stk:X.stack=X.outer∨(X.stack=X.env::X.outer/\X.env.frame=some X.env.locals)
 exf:∀b∈X.ex,b≠X.env.locals/\∀x c,X.env.cells.lookup x=some c->c≠b
 bs:∀b o,X.base.get? b=some o->X.s₀.heap.get? b=some o/\X.H₀ b=none
 bsz:X.base.objs.size<=X.s₀.heap.objs.size
 noex:∀b o,X.base.get? b=some o->b∉X.ex
 exfs:∀b∈X.ex,b∉X.fs
 funs:X.s₀.heap.FunFrames X.base X.outer
 frf:∀b∈X.fs,X.H₀ b=none
structure Inv(X:Cx)(pins:List (Addr×Obj))(σ:List (Option V))(H:Hp)(s:Shared):Prop where
 ok:X.Ok
 os:s.os=X.s₀.os
 bare:AllBare s.gens
 base:Un X.fs X.ex X.H₀ H X.s₀.heap s.heap
 loc:∃m,s.heap.Ns X.env.locals m/\∀(i:Nat)(x:Str)(v:V),X.N[i]?=some x->σ[i]?=some (some v)->Vis X.env.scope x->∃u,fO v u/\Look X.env s.heap m x u
 cell:∀x c,X.env.cells.lookup x=some c->∃v,s.heap.IsCell c v
 free:H X.env.locals=none
 freeC:∀x c,X.env.cells.lookup x=some c->H c=none
 pin:∀p∈X.pn++pins,s.heap.get? p.1=some p.2/\H p.1=none/\p.1≠X.env.locals/\p.1∉X.fs/\∀v,p.2.data≠.cell v
 hok:HOk X.prog X.w H s.heap
 len:σ.length=X.N.length
section
variable{X:Cx}{pins:List (Addr×Obj)}{σ:List (Option V)}{H H':Hp}{s:Shared}{h':Heap}
def Cx.Ok.nofr(ok:X.Ok){b:Addr}{o:Obj}(e:X.base.get? b=some o):b∉X.fs:=λhb=>by
 have:=(ok.funs.mem hb).1;rw[e]at this;cases this
def Inv.bs(I:Inv X pins σ H s):∀b o,X.base.get? b=some o->s.heap.get? b=some o/\H b=none:=λb o e=>
 #[I.base.keep b o (I.ok.bs b o e).1 (I.ok.bs b o e).2 (I.ok.nofr e) (I.ok.noex b o e),I.base.free b o (I.ok.bs b o e).1 (I.ok.bs b o e).2 (I.ok.noex b o e)]
def Inv.bk(I:Inv X pins σ H s):∀b o,X.base.get? b=some o->s.heap.get? b=some o:=λb o e=>(I.bs b o e).1
def Inv.mod(I:Inv X pins σ H s):Mod X.K X.mg X.base:=I.ok.mod
def Inv.kIn(I:Inv X pins σ H s):X.K.In s.heap:=I.ok.mod.kin.keeps I.bk
def Inv.lt(I:Inv X pins σ H s):X.env.locals<s.heap.objs.size:=let⟨_,hn,_⟩:=I.loc;hn.lt
def Inv.sz(I:Inv X pins σ H s):X.s₀.heap.objs.size<=s.heap.objs.size:=dE I.ok.above (jB I.lt)
def Inv.nofs(I:Inv X pins σ H s)(h:s.heap.objs.size<=a):a∉X.fs:=λhb=>by
 obtain⟨_,o,ho,_⟩:=I.ok.funs.mem hb;exact absurd (cH (bC ho) (dE I.sz h)) (eO _)
def Inv.cne(I:Inv X pins σ H s):∀x c,X.env.cells.lookup x=some c->c≠X.env.locals:=λx c e z=>by
 obtain⟨v,o,ho,hd⟩:=I.cell x c e;obtain⟨m,⟨f,J,U,Z,t,_⟩,_⟩:=I.loc;rw[z,Z]at ho;cases ho;rw[t]at hd;cases hd
def Inv.funs(I:Inv X pins σ H s):s.heap.FunFrames X.base X.outer:=by
 have all:∀(l:List Env),(∀b∈frs l,b∈X.fs)->X.s₀.heap.FunFrames X.base l->s.heap.FunFrames X.base l:=by
  intro l
  induction l with
  |nil=>intro _ _;trivial
  |cons env r ih=>
   rintro hs ⟨hk,⟨L,o,hf,hn,ho,hd⟩,hr⟩;have P:L∈X.fs:=hs L (by unfold frs;rw[List.filterMap_cons,hf];exact bQ);obtain⟨sl,e⟩:=I.base.slot L o ho (I.ok.frf L P) P λz=>I.ok.exfs L z P;exact#[hk,#[L,_,hf,hn,e,hd],ih (λb hb=>hs b (by unfold frs;rw[List.filterMap_cons,hf];exact bI _ hb)) hr]
 exact all X.outer (λ_ hb=>hb) I.ok.funs
def Inv.stack(I:Inv X pins σ H s):s.heap.FunFrames X.base X.stack:=by
 rcases I.ok.stk with e |⟨e,hf⟩
 .rw[e];exact I.funs
 .rw[e];obtain⟨m,hn,_⟩:=I.loc;refine .cons (by rw[I.ok.kind];decide) hf hn ?_ I.funs;exact Heap.get?_none_of_le (dE I.ok.bsz I.ok.above)
def Inv.stkSub(I:Inv X pins σ H s):∀b∈frs X.stack,b∈X.env.locals::X.fs:=λb hb=>by
 rcases I.ok.stk with e |⟨e,hf⟩
 .rw[e]at hb;exact bI _ hb
 .rw[e]at hb;unfold frs at hb;rw[List.filterMap_cons,hf]at hb;exact hb
def Inv.stkFree(I:Inv X pins σ H s):∀b∈frs X.stack,H b=none:=λb hb=>by
 rcases eK.mp (I.stkSub b hb)with e |hb
 .rw[e];exact I.free
 .obtain⟨_,o,ho,_⟩:=I.ok.funs.mem hb;exact I.base.free b o ho (I.ok.frf b hb) λz=>I.ok.exfs b z hb
def Inv.step{g':Array GenState}{d':Drawn}{ch:List Addr}(I:Inv X pins σ H s)
  (a:∀b∈ch,(b∈X.ex∨X.s₀.heap.objs.size<=b)/\b≠X.env.locals/\(∀x c,X.env.cells.lookup x=some c->c≠b)/\∀p∈X.pn++pins,p.1≠b)
  (keep:∀b o,b≠X.env.locals->b∉X.fs->b∉ch->s.heap.get? b=some o->H b=none->h'.get? b=some o)
  (slot:∀b o,b≠X.env.locals->b∈X.fs->b∉ch->s.heap.get? b=some o->H b=none->∃sl,h'.get? b=some { o with slots:=sl }) (free:∀b o,b∉ch->s.heap.get? b=some o->H b=none->H' b=none)
  (there:∀b o,b∉ch->s.heap.get? b=some o->∃f,h'.get? b=some f)
  (tups:∀b T,H b=some (.tup T)->H' b=some (.tup T)) (frzs:∀b o u,H b=some (.frz o u)->H' b=some (.frz o u)) (tbls:∀b A,H b=some (.tbl A)->∃Mu,H' b=some (.tbl (A++Mu)))
  (ns:∀m,s.heap.Ns X.env.locals m->h'.Ns X.env.locals m) (hok:HOk X.prog X.w H' h') (hg:AllBare g'):
  Inv X pins σ H' { s with heap:=h',gens:=g',drawn:=d',toks:=t' }:=by
 have B:∀b o,X.s₀.heap.get? b=some o->b≠X.env.locals:=λb o e=>bL (cH (bC e) I.ok.above);have t:∀b o,X.s₀.heap.get? b=some o->b∉X.ex->b∉ch:=λb o e hx hb=>by
  rcases(a b hb).1 with z |z
  .exact hx z
  .exact absurd (cH (bC e) z) (eO _)
 have h:∀x c,X.env.cells.lookup x=some c->∀v,s.heap.IsCell c v->h'.IsCell c v:=λx c e v#[o,ho,hd]=>by
  have j:c∉ch:=λz=>(a c z).2.2.1 x c e rfl;by_cases hc:c∈X.fs
  .obtain⟨sl,q⟩:=slot c o (I.cne x c e) hc j ho (I.freeC x c e);exact#[_,q,hd]
  .exact#[o,keep c o (I.cne x c e) hc j ho (I.freeC x c e),hd]
 refine#[I.ok,I.os,hg,#[λb o e n hb hx=>?_,λb o e n hb hx=>?_,λb o e n hx=>?_,λb o e hx=>?_,λb T e=>tups b T (I.base.tups b T e),λb o T e=>frzs b o T (I.base.frzs b o T e),λb A e=>?_],?_,λx c e=>?_,?_,λx c e=>?_,λp hp=>?_,hok,I.len]
 .exact keep b o (B b o e) hb (t b o e hx) (I.base.keep b o e n hb hx) (I.base.free b o e n hx)
 .obtain⟨sl,e1⟩:=I.base.slot b o e n hb hx;obtain⟨y,C⟩:=slot b _ (B b o e) hb (t b o e hx) e1 (I.base.free b o e n hx);exact#[y,C]
 .obtain⟨f,e1⟩:=I.base.there b o e hx;exact free b f (t b o e hx) e1 (I.base.free b o e n hx)
 .obtain⟨f,e1⟩:=I.base.there b o e hx;exact there b f (t b o e hx) e1
 .obtain⟨m1,e1⟩:=I.base.tbls b A e;obtain⟨m2,C⟩:=tbls b _ e1;exact#[m1++m2,by rw[C,Array.append_assoc]]
 .obtain⟨m,hn,S⟩:=I.loc;refine#[m,ns m hn,λi x v e1 C P=>?_];obtain⟨u,r,l⟩:=S i x v e1 C P;refine#[u,r,?_];rcases l with l |⟨k,c,e,z⟩
  .exact .inl l
  .exact .inr #[k,c,e,h x c e _ z]
 .obtain⟨v,z⟩:=I.cell x c e;exact#[v,h x c e v z]
 .obtain⟨m,⟨o,_,_,ho,_⟩,_⟩:=I.loc;exact free _ o (λz=>(a _ z).2.1 rfl) ho I.free
 .obtain⟨v,o,ho,hd⟩:=I.cell x c e;exact free c o (λz=>(a c z).2.2.1 x c e rfl) ho (I.freeC x c e)
 .obtain⟨e,n,ne,g,d⟩:=I.pin p hp;have j:p.1∉ch:=λz=>(a p.1 z).2.2.2 p hp rfl;exact#[keep p.1 p.2 ne g j e n,free p.1 p.2 j e n,ne,g,d]
def Inv.un(I:Inv X pins σ H s)(u:Un X.fs [] H H' s.heap h')(hok:HOk X.prog X.w H' h'):Inv X pins σ H' { s with heap:=h',toks:=t' }:=by
 obtain⟨m,⟨o,J,U,ho,r⟩,_⟩:=id I.loc;obtain⟨sl,P⟩:=u.any ho I.free (by simp);exact I.step (g':=s.gens) (d':=s.drawn) (ch:=[]) (λ_ z=>nomatch z) (λb o _ hb _ e n=>u.keep b o e n hb (by simp)) (λb o _ hb _ e n=>u.slot b o e n hb (by simp)) (λb o _ e n=>u.free b o e n (by simp)) (λb o _ e=>u.there b o e (by simp)) u.tups u.frzs u.tbls (λk hm=>by
  obtain⟨f,d,g,Z,t⟩:=hm;rw[ho]at Z;cases Z;exact#[_,d,g,P,t]) hok I.bare
def Inv.call{g':Array GenState}{d':Drawn}{ch:List Addr}(I:Inv X pins σ H s)(u:Un (frs X.stack) ch H H' s.heap h')(hok:HOk X.prog X.w H' h')(hg:AllBare g')
  (a:∀b∈ch,(b∈X.ex∨X.s₀.heap.objs.size<=b)/\b≠X.env.locals/\(∀x c,X.env.cells.lookup x=some c->c≠b)/\∀p∈X.pn++pins,p.1≠b):
  Inv X pins σ H' { s with heap:=h',gens:=g',drawn:=d',toks:=t' }:=by
 obtain⟨m,⟨o,J,U,ho,r⟩,_⟩:=id I.loc;obtain⟨sl,P⟩:=u.any ho I.free λz=>(a _ z).2.1 rfl;exact I.step (ch:=ch) a (λb o P hb hc e n=>u.keep b o e n (λz=>(eK.mp (I.stkSub b z)).elim P hb) hc) (λb o _ _ hc e n=>u.any e n hc) (λb o hc e n=>u.free b o e n hc) (λb o hc e=>u.there b o e hc) u.tups u.frzs u.tbls (λk hm=>by
  obtain⟨f,d,g,Z,t⟩:=hm;rw[ho]at Z;cases Z;exact#[_,d,g,P,t]) hok hg
def Inv.turned{l:Addr}(I:Inv X pins σ H s)(k:∀b o,b≠l->s.heap.get? b=some o->h'.get? b=some o)(hn:H l=none)(P:l≠X.env.locals)
  (h1:l∈X.ex∨X.s₀.heap.objs.size<=l) (h2:∀x c,X.env.cells.lookup x=some c->c≠l) (d:∀p∈X.pn++pins,p.1≠l):Inv X pins σ H { s with heap:=h',toks:=t' }:=by
 have a:∀b u,H b=some u->b≠l:=λb u e z=>by rw[z,hn]at e;cases e
 refine I.step (g':=s.gens) (d':=s.drawn) (ch:=[l]) (λb hb=>?_) (λb o _ _ hc e _=>k b o (λz=>hc (by simp [z])) e) (λb o _ _ hc e _=>#[o.slots,k b o (λz=>hc (by simp [z])) e]) (λ_ _ _ _ n=>n)
  (λb o hc e=>#[o,k b o (λz=>hc (by simp [z])) e]) (λ_ _ e=>e) (λ_ _ _ e=>e) (λb A e=>#[(List.toArray []),by rw[e];simp]) (λm hm=>?_) (λb u e=>?_) I.bare
 .have e:b=l:=by simpa using hb
  subst e;exact#[h1,P,h2,d]
 .obtain⟨o,J,U,ho,r⟩:=hm;exact#[o,J,U,k _ o (Ne.symm P) ho,r]
 .refine(I.hok b u e).stay (λc v hc q=>k c v ?_ q) (λ_ q=>q) λ_ _ q=>q;rcases hc with z |z
  .rw[z];exact a b u e
  .exact a c _ z
def Inv.tok(I:Inv X pins σ H s)(t:Nat):Inv X pins σ H { s with toks:=t }:=I.un (h':=s.heap) (t':=t) Un.refl I.hok
def Inv.kept(I:Inv X pins σ H s)(k:∀b u,s.heap.get? b=some u->h'.get? b=some u):Inv X pins σ H { s with heap:=h',toks:=t' }:=I.un (Un.kept k) (I.hok.kept k)
def Inv.laid(I:Inv X pins σ H s)(k:∀b u,s.heap.get? b=some u->h'.get? b=some u)(hp:s.heap.objs.size<=a)(new:jV X.prog X.w (upd H a o) h' a o):
  Inv X pins σ (upd H a o) { s with heap:=h',toks:=t' }:=I.un (Un.laid k hp (I.hok.fresh hp)) (I.hok.laid k hp new)
def Inv.write{x e:Addr}(I:Inv X pins σ H s)(mu:Mut (H x))(D:e=x∨H e=some (.own x))(k:∀b u,b≠e->s.heap.get? b=some u->h'.get? b=some u)(f:∃u,h'.get? e=some u)
  (new:jV X.prog X.w (upd H x o) h' x o):Inv X pins σ (upd H x o) { s with heap:=h',toks:=t' }:=I.un (Un.write mu D k f) (I.hok.write mu D k f new)
def Inv.pins_of{a:List (Addr×Obj)}(I:Inv X pins σ H s)(h:∀p∈a,s.heap.get? p.1=some p.2/\H p.1=none/\p.1≠X.env.locals/\p.1∉X.fs/\∀v,p.2.data≠.cell v):Inv X a σ H s:=
 #[I.ok,I.os,I.bare,I.base,I.loc,I.cell,I.free,I.freeC,λp hp=>(cW.mp hp).elim (λz=>I.pin p (iF _ z)) (h p),I.hok,I.len]
def Zi(K:N.Nodup)(a:N[i]?=some x)(b:N[j]?=some x):i=j:=by
 obtain⟨h1,e1⟩:=aI.mp a;obtain⟨h2,C⟩:=aI.mp b;exact(List.getElem_inj K).mp (e1.trans C.symm)
def Ss{Q:Unit->Shared->Prop}(I:Inv X pins σ H s)(K:X.N.Nodup)(hi:X.N[i]?=some x)(hx:Loc X.env.scope x)(r:fO v u)
  (h:∀R,Inv X pins (σ.set i (some v)) H R->(∃a,Heap.SameBut a s.heap R.heap/\(a=X.env.locals∨X.env.cells.lookup x=some a))->Q () R) (hf:X.fn x=true∨X.env.scope.names.lookup x=some .local:=by first |exact .inl rfl |exact .inr rfl |assumption):wpAny M A (storeName X.env x u) Q E s:=by
 obtain⟨m,hn,S⟩:=id I.loc;have a3:(X.env.scope.kind== .class||(X.env.scope.kind== .module&&X.env.locals !=X.env.globals))=false:=by rw[I.ok.kind];rfl
 have a1:i<σ.length:=by rw[I.len];exact(aI.mp hi).1
 have cne:=I.cne;have l:∀{a:Addr}{h':Heap},(∃o,s.heap.get? a=some o/\H a=none)->Heap.SameBut a s.heap h'->HOk X.prog X.w H h':=fun{a h'} ha hs b ob e=>by
  obtain⟨_,_,B⟩:=ha;refine(I.hok b ob e).stay (λc F hc q=>(hs.2 c ?_).trans q) (λ_ q=>q) λ_ _ q=>q;rintro rfl;rcases hc with rfl |hc
  .rw[B]at e;cases e
  .rw[B]at hc;cases hc
 rcases hx with hk |hk
 .refine wpAny_storeName_local hk hn (λh' a7 hs=>?_) a3;obtain⟨oL,_,_,J,_⟩:=id hn;refine h _ #[I.ok,I.os,I.bare,#[λb o e n hb hx=>?_,λb o e n hb hx=>?_,I.base.free,λb o e hx=>?_,I.base.tups,I.base.frzs,I.base.tbls],#[_,a7,λj y O e1 C P=>?_],λy c e=>?_,I.free,I.freeC,λp hp=>?_,l #[oL,J,I.free] hs,by simpa using I.len] #[_,hs,.inl rfl]
  .exact(hs.2 b (bL (cH (bC e) I.ok.above))).trans (I.base.keep b o e n hb hx)
  .obtain⟨sl,e1⟩:=I.base.slot b o e n hb hx;exact#[sl,(hs.2 b (bL (cH (bC e) I.ok.above))).trans e1]
  .obtain⟨f,e1⟩:=I.base.there b o e hx;exact#[f,(hs.2 b (bL (cH (bC e) I.ok.above))).trans e1]
  .by_cases Z:j=i
   .subst Z;rw[hi]at e1;cases e1;rw[List.getElem?_set_self a1]at C;cases C;exact#[u,r,.inl #[hk,by simp]]
   .rw[List.getElem?_set_ne (Ne.symm Z)]at C;obtain⟨U,t,q⟩:=S j y O e1 C P;refine#[U,t,?_];rcases q with⟨k,e⟩|⟨k,c,e,z⟩
    .refine .inl #[k,?_];have:y≠x:=λe=>Z (Zi K e1 (e▸hi));simp [this,e]
    .exact .inr #[k,c,e,z.sameBut hs (cne y c e)]
  .obtain⟨F,z⟩:=I.cell y c e;exact#[F,z.sameBut hs (cne y c e)]
  .obtain⟨e,n,ne,g,d⟩:=I.pin p hp;exact#[(hs.2 p.1 ne).trans e,n,ne,g,d]
 .have a2:X.fn x=true:=by
   rcases hf with z |z
   .exact z
   .rw[z]at hk;cases hk
  obtain⟨c,hc⟩:=I.ok.has x (.inl hk);obtain⟨F,z⟩:=I.cell x c hc;refine wpAny_storeName_cell I.ok.kind hk hc z (λh' D hs=>?_);obtain⟨Y,a4,a5⟩:=id z;refine h { s with heap:=h' } #[I.ok,I.os,I.bare,#[λb o e n hb hx=>?_,λb o e n hb hx=>?_,I.base.free,λb o e hx=>?_,I.base.tups,I.base.frzs,I.base.tbls],#[m,hn.sameBut hs (Ne.symm (cne x c hc)),λj y O e1 C P=>?_],λy c' e=>?_,I.free,I.freeC,λp hp=>?_,l #[Y,a4,I.freeC x c hc] hs,by simpa using I.len] #[c,hs,.inr hc]
  .exact(hs.2 b (bL (cH (bC e) (I.ok.cab x c a2 hc)))).trans (I.base.keep b o e n hb hx)
  .obtain⟨sl,e1⟩:=I.base.slot b o e n hb hx;exact#[sl,(hs.2 b (bL (cH (bC e) (I.ok.cab x c a2 hc)))).trans e1]
  .obtain⟨f,e1⟩:=I.base.there b o e hx;exact#[f,(hs.2 b (bL (cH (bC e) (I.ok.cab x c a2 hc)))).trans e1]
  .by_cases Z:j=i
   .subst Z;rw[hi]at e1;cases e1;rw[List.getElem?_set_self a1]at C;cases C;exact#[u,r,.inr #[.inl hk,c,hc,D]]
   .rw[List.getElem?_set_ne (Ne.symm Z)]at C;obtain⟨U,t,q⟩:=S j y O e1 C P;refine#[U,t,?_];rcases q with q |⟨k,c',e,z'⟩
    .exact .inl q
    .refine .inr #[k,c',e,z'.sameBut hs ?_];rintro rfl;exact Z (Zi K e1 (I.ok.inj _ _ _ e hc▸hi))
  .by_cases a6:c'=c
   .subst a6;exact#[_,D]
   .obtain⟨G,T⟩:=I.cell y c' e;exact#[G,T.sameBut hs a6]
  .obtain⟨e,n,ne,g,d⟩:=I.pin p hp;refine#[(hs.2 p.1 ?_).trans e,n,ne,g,d];intro q;rw[q,a4]at e;have q':Y=p.2:=aU e;exact d F (by rw[←q'];exact a5)
def Ex{Q:Unit->Shared->Prop}(I:Inv X pins σ H s)(K:X.N.Nodup)(hi:X.N[i]?=some x)(hx:Loc X.env.scope x)(r:fO v u)
  (h:∀R,Inv X pins (σ.set i (some v)) H R->Q () R) (hf:X.fn x=true∨X.env.scope.names.lookup x=some .local:=by first |exact .inl rfl |exact .inr rfl |assumption):wpAny M A (storeName X.env x u) Q E s:=
 Ss I K hi hx r (λR c _=>h R c) hf
def Inv.call'{R:Shared}{ch:List Addr}(I:Inv X pins σ H s)(ho:R.os=s.os)(u:Un (frs X.stack) ch H H' s.heap R.heap)(hok:HOk X.prog X.w H' R.heap)(hg:AllBare R.gens)
  (a:∀b∈ch,(b∈X.ex∨X.s₀.heap.objs.size<=b)/\b≠X.env.locals/\(∀x c,X.env.cells.lookup x=some c->c≠b)/\∀p∈X.pn++pins,p.1≠b):Inv X pins σ H' R:=by
 obtain⟨h',d,A,U,f⟩:=R;have e:f=s.os:=ho;subst e;exact I.call (g':=d) (t':=U) (d':=A) u hok hg a
end
noncomputable abbrev XK:=Value->Option Addr->Hp->Prop
noncomputable abbrev St:=List (Option V)
noncomputable abbrev VK:=V->Hp->Prop
noncomputable abbrev TE:=St->Hp->VK->Prop
noncomputable abbrev TT:=St->Hp->(Bool->Hp->Prop)->Prop
noncomputable abbrev TA:=St->Hp->(List V->Hp->Prop)->Prop
structure xI where
 nx:St->Hp->Prop
 rt:VK
 bk:St->Hp->Prop:=λ_ _=>False
 ct:St->Hp->Prop:=λ_ _=>False
noncomputable abbrev TS:=xI->St->Hp->Prop
def EP(X:Cx)(B:List (Addr×Obj))(O:St)(Q:VK)(u:Value)(R:Shared):Prop:=∃v Z,Inv X B O Z R/\fO v u/\Q v Z
def TP(X:Cx)(B:List (Addr×Obj))(O:St)(Q:Bool->Hp->Prop)(b:Bool)(R:Shared):Prop:=∃Z,Inv X B O Z R/\Q b Z
def AP(X:Cx)(B:List (Addr×Obj))(O:St)(Q:List V->Hp->Prop)(us:List Value)(R:Shared):Prop:=∃vs Z,Inv X B O Z R/\fF vs us/\Q vs Z
def SP(X:Cx)(B:List (Addr×Obj))(D:xI)(f:Flow)(R:Shared):Prop:=
 match f with
 | .next=>∃G Z,Inv X B G Z R/\D.nx G Z
 | .brk=>∃G Z,Inv X B G Z R/\D.bk G Z
 | .cont=>∃G Z,Inv X B G Z R/\D.ct G Z
 | .ret u=>∃v G Z,Inv X B G Z R/\fO v u/\D.rt v Z
def PE(X:Cx)(e:Expr)(t:TE):Prop:=
 ∀(B:List (Addr×Obj))(s:Shared)(O:St)(H:Hp)(Q:VK),Inv X B O H s->t O H Q->wpAny (model X.prog X.w) X.A (eval e X.env) (EP X B O Q) X.xe s
def PT(X:Cx)(e:Expr)(t:TT):Prop:=
 ∀(B:List (Addr×Obj))(s:Shared)(O:St)(H:Hp)(Q:Bool->Hp->Prop),Inv X B O H s->t O H Q->wpAny (model X.prog X.w) X.A (isTrue e X.env (eval e X.env)) (TP X B O Q) X.xe s
def PW(X:Cx)(e:Expr)(t:TT):Prop:=
 ∀(f:Sem Value)(B:List (Addr×Obj))(s:Shared)(O:St)(H:Hp)(Q:Bool->Hp->Prop),Inv X B O H s->t O H Q->wpAny (model X.prog X.w) X.A (isTrue e X.env f) (TP X B O Q) X.xe s
def PW.pt{t:TT}(h:PW X e t):PT X e t:=h _
def PA(X:Cx)(es:List Expr)(t:TA):Prop:=
 ∀(pos:Pos)(B:List (Addr×Obj))(s:Shared)(O:St)(H:Hp)(Q:List V->Hp->Prop),Inv X B O H s->t O H Q->wpAny (model X.prog X.w) X.A (spliced (backTo pos (starEach es X.env))) (AP X B O Q) X.xe s
def PS(X:Cx)(st:Stmt)(t:TS):Prop:=
 ∀(B:List (Addr×Obj))(s:Shared)(O:St)(H:Hp)(D:xI),Inv X B O H s->t D O H->wpAny (model X.prog X.w) X.A (exec st X.env) (SP X B D) X.xe s
def PSs(X:Cx)(st:List Stmt)(t:TS):Prop:=
 ∀(B:List (Addr×Obj))(s:Shared)(O:St)(H:Hp)(D:xI),Inv X B O H s->t D O H->wpAny (model X.prog X.w) X.A (execs st X.env) (SP X B D) X.xe s
def thn{t:Sem d}{Q g:d->Shared->Prop}(h:wpAny M A t Q E s)(f:∀a s,Q a s->g a s):wpAny M A t g E s:=wpAny_mono h f λ_ _ x=>x
def thE{t:Sem Value}{B:List (Addr×Obj)}{Q:VK}{g:Value->Shared->Prop}(h:wpAny M A t (EP X B O Q) E s)(f:∀v s x Z,Inv X B O Z s->fO x v->Q x Z->g v s):wpAny M A t g E s:=thn h λv s ⟨x,Z,p,q,r⟩=>f v s x Z p q r
def thF{t:Sem (List Value)}{B:List (Addr×Obj)}{Q:List V->Hp->Prop}{g:List Value->Shared->Prop}(h:wpAny M A t (AP X B O Q) E s)(f:∀v s x Z,Inv X B O Z s->fF x v->Q x Z->g v s):wpAny M A t g E s:=thn h λv s ⟨x,Z,p,q,r⟩=>f v s x Z p q r
def thT{t:Sem Bool}{B:List (Addr×Obj)}{Q:Bool->Hp->Prop}{g:Bool->Shared->Prop}(h:wpAny M A t (TP X B O Q) E s)(f:∀v s Z,Inv X B O Z s->Q v Z->g v s):wpAny M A t g E s:=thn h λv s ⟨Z,p,r⟩=>f v s Z p r
section
variable{X:Cx}
def exI(x:V)(k:Int->Prop):Prop:=match x with
 | .int i=>k i
 |x=>∃i,x=.int i/\k i
def exB(x:V)(k:Bool->Prop):Prop:=match x with
 | .bl i=>k i
 |x=>∃i,x=.bl i/\k i
def exR(x:V)(k:Addr->Prop):Prop:=match x with
 | .ref i=>k i
 |x=>∃i,x=.ref i/\k i
def gD{i:Int}{k:Int->Prop}:exI (.int i) k=k i:=rfl
def gE{i:Bool}{k:Bool->Prop}:exB (.bl i) k=k i:=rfl
def gC{i:Addr}{k:Addr->Prop}:exR (.ref i) k=k i:=rfl
def iA{x:V}{k:Int->Prop}:exI x k=∃i,x=.int i/\k i:=by
 cases x<;>first |rfl |exact propext #[λh=>#[_,rfl,h],fun⟨_,e,h⟩=>by cases e;exact h]
def lB{x:V}{k:Bool->Prop}:exB x k=∃i,x=.bl i/\k i:=by
 cases x<;>first |rfl |exact propext #[λh=>#[_,rfl,h],fun⟨_,e,h⟩=>by cases e;exact h]
def iZ{x:V}{k:Addr->Prop}:exR x k=∃i,x=.ref i/\k i:=by
 cases x<;>first |rfl |exact propext #[λh=>#[_,rfl,h],fun⟨_,e,h⟩=>by cases e;exact h]
def jUm{x:V}{k n:Int->Prop}(h:exI x k)(m:∀i,k i->n i):exI x n:=by
 rw[iA]at h⊢;obtain⟨i,e,h⟩:=h;exact#[i,e,m i h]
def aE(i:Nat):TE:=λO H Q=>match O[i]? with |some (some v)=>Q v H |_=>False
def tC(v:V):TE:=λ_ H Q=>Q v H
def pe_var(K:X.N[i]?=some x)(hv:Vis X.env.scope x)(hd:(x==("__debug__":Str))=false:=by decide)(p:(x==("__classdict__":Str))=false:=by decide):PE X (.Name x pos) (aE i):=by
 intro B s O H Q I h;have h:∃v,O[i]?=some (some v)/\Q v H:=by
  unfold aE at h;split at h
  .exact#[_,‹_›,h]
  .exact h.elim
 obtain⟨v,e,h⟩:=h;obtain⟨m,hn,S⟩:=I.loc;obtain⟨u,r,l⟩:=S i x v K e hv;have fin:EP X B O Q u s:=#[v,H,I,r,h];rcases l with⟨hk,hm⟩|⟨hk,c,hc,d⟩
 .exact wpAny_Name (wpAny_loadName_local I.ok.kind hk hn hm fin) hd
 .rcases hk with hk |hk
  .exact wpAny_Name (wpAny_loadName_cell I.ok.kind hk hc d fin) hd
  .exact wpAny_Name (wpAny_loadName_free I.ok.kind hk hc d fin p) hd
def aW{i j pos}:PE X (.Constant (.int i) j pos) (tC (.int i)):=λ_ _ _ H _ I h=>wpAny_Constant_int #[.int i,H,I.tok _,#[_,rfl],h]
def pe_bl{b j pos}:PE X (.Constant (.bool b) j pos) (tC (.bl b)):=λ_ _ _ H _ I h=>Constant_bool #[.bl b,H,I,rfl,h]
def nS{j pos}:PE X (.Constant .none j pos) (tC .non):=λ_ _ _ H _ I h=>Constant_none #[.non,H,I,rfl,h]
def Ib{x j pos}:PE X (.Constant (.str x) j pos) (tC (.str x)):=λ_ _ _ H _ I h=>Calls.Constant_str #[.str x,H,I.tok _,#[_,rfl],h]
def Gl(X:Cx)(x:Str):Prop:=X.env.kindOf x=some .globalImplicit
def Wl{B:List (Addr×Obj)}(I:Inv X B O H s)(hg:Gl X x)(hm:X.mg x=some u)(h:Q u s)
  (hd:(x==("__debug__":Str))=false:=by decide):wpAny (model X.prog X.w) X.A (eval (.Name x pos) X.env) Q E s:=
 Calls.Name_function_global I.ok.kind hg (Calls.loadGlobal_global (by rw[I.ok.glob];exact I.mod.glob.keeps I.bk) hm h) hd
def qF{B:List (Addr×Obj)}(I:Inv X B O H s)(hg:Gl X x)(hm:X.mg x=none)(hv:bootBuiltins x=some u)(h:Q u s)
  (hn:x≠ "__name__":=by decide) (hd:(x==("__debug__":Str))=false:=by decide):wpAny (model X.prog X.w) X.A (eval (.Name x pos) X.env) Q E s:=by
 obtain⟨M,h1,h2⟩:=I.mod.blt;exact Calls.Name_function_global I.ok.kind hg (Calls.loadGlobal_builtin (by rw[I.ok.glob];exact I.mod.glob.keeps I.bk) hm (by rw[I.ok.blt];exact h1.keeps I.bk) ((h2 x hn).trans hv) h) hd
def pe_glob(hg:Gl X x)(hm:X.mg x=some u)(r:fO v u)(hd:(x==("__debug__":Str))=false:=by decide):PE X (.Name x pos) (tC v):=
 λ_ _ _ H _ I h=>Wl I hg hm #[v,H,I,r,h] hd
variable{a b:Expr}{ta tb:TE}{pos:Pos}
def PC(X:Cx)(op:CmpOp)(a b:Expr)(t:TE):Prop:=
 ∀(B:List (Addr×Obj))(s:Shared)(O:St)(H:Hp)(Q:VK),Inv X B O H s->t O H Q->
  wpAny (model X.prog X.w) X.A (eval a X.env) (λv D=>wpAny (model X.prog X.w) X.A (eval b X.env) (λu g=>wpAny (model X.prog X.w) X.A (compareOp op v u) (EP X B O Q) X.xe g) X.xe D) X.xe s
def tB(t:TE):TT:=λO H Q=>t O H λx U=>∃c,x=.bl c/\Q c U
def pt_cmp{t:TE}(h:PC X op a b t)(h1:behindInMarks op b=false:=by first |exact nobehind _ (by decide) (by decide)|rfl):PT X (.Compare a [op] [b] pos) (tB t):=by
 intro B s O H Q I hw;refine wpAny_isTrue_Compare1 (thn (h B s O H _ I hw) λv M h1=>thn h1 λu e h2=>thn h2 λc N#[x,U,P,Z,q1]=>?_) h1;obtain⟨d,rfl,q⟩:=q1;cases Z;exact wpAny_truthy_bool #[U,P,q]
def Ck{t:TE}(h:PE X e t)(D:∀f,isTrue e X.env f=(do let v ←f;standAt e.pos;holding [v] (truthy v)):=by intro _;rfl):PT X e (tB t):=by
 intro B s O H Q I hw;refine isTrue_plain (thE (h B s O H _ I hw) λv M x U P Z q1=>?_) (D _);obtain⟨d,rfl,q⟩:=q1;cases Z;exact wpAny_truthy_bool #[U,P,q]
variable{tA tB':TT}{rest:List Expr}
def Mt(t u:TT):TT:=λO H Q=>t O H λc U=>if c=true then u O U Q else Q false U
def tOr(t u:TT):TT:=λO H Q=>t O H λc U=>if c=true then Q true U else u O U Q
def Xv(t:TT):TT:=λO H Q=>t O H λc U=>Q (!c) U
def We(ha:PT X a tA):PW X (.BoolOp .And [a] pos) tA:=by
 intro d B s O H Q I h;refine isTrue_and (thn (ha B s O H Q I h) λc M e=>?_);cases c with
 |true=>exact isTrue_and_nil e
 |false=>exact e
def Ia(ha:PT X a tA):PW X (.BoolOp .Or [a] pos) tA:=by
 intro d B s O H Q I h;refine isTrue_or (thn (ha B s O H Q I h) λc M e=>?_);cases c with
 |false=>exact isTrue_or_nil e
 |true=>exact e
def jZZ(ha:PT X a tA)(hb:PW X (.BoolOp .And (b::rest) pos) tB'):PW X (.BoolOp .And (a::b::rest) pos) (Mt tA tB'):=by
 intro d B s O H Q I h;refine isTrue_and (thT (ha B s O H _ I h) λc M U P q1=>?_);cases c with
 |true=>exact hb d B M O U Q P q1
 |false=>exact#[U,P,q1]
def Rs(ha:PT X a tA)(hb:PW X (.BoolOp .Or (b::rest) pos) tB'):PW X (.BoolOp .Or (a::b::rest) pos) (tOr tA tB'):=by
 intro d B s O H Q I h;refine isTrue_or (thT (ha B s O H _ I h) λc M U P q1=>?_);cases c with
 |true=>exact#[U,P,q1]
 |false=>exact hb d B M O U Q P q1
def pt_not(ha:PT X a tA):PT X (.UnaryOp .Not a pos) (Xv tA):=by
 intro B s O H Q I h;exact isTrue_not (ha B s O H (λc U=>Q (!c) U) I h)
def Ed(ta tb:TE):TE:=λO H Q=>ta O H λx U=>∃c,x=.bl c/\if c=true then tb O U Q else Q (.bl false) U
def tOrV(ta tb:TE):TE:=λO H Q=>ta O H λx U=>∃c,x=.bl c/\if c=true then Q (.bl true) U else tb O U Q
def Ya(ta:TE):TE:=λO H Q=>ta O H λx U=>∃c,x=.bl c/\Q (.bl (!c)) U
def jZY{op}{t:TE}(h:PE X a t):PE X (.BoolOp op [a] pos) t:=λB s O H Q I hw=>BoolOp_one (h B s O H Q I hw)
def jZW(ha:PE X a ta)(hb:PE X (.BoolOp .And (b::rest) pos) tb):PE X (.BoolOp .And (a::b::rest) pos) (Ed ta tb):=by
 intro B s O H Q I h;refine BoolOp_and (thE (ha B s O H _ I h) λv M x U P Z q1=>?_);obtain⟨c,rfl,q1⟩:=q1;cases Z;refine wpAny_truthy_bool ?_;cases c with
 |true=>exact hb B M O U Q P q1
 |false=>exact#[.bl false,U,P,rfl,q1]
def tIf(t:TT)(ta tb:TE):TE:=λO H Q=>t O H λc U=>if c=true then ta O U Q else tb O U Q
def Oq(hc:PT X c tA)(ha:PE X a ta)(hb:PE X b tb):PE X (.IfExp c a b pos) (tIf tA ta tb):=by
 intro B s O H Q I h;refine wpAny_IfExp (thT (hc B s O H _ I h) λd M U P q1=>?_);cases d with
 |true=>exact ha B M O U Q P q1
 |false=>exact hb B M O U Q P q1
end
def SqL(K:aR)(H:Hp)(a:Addr)(xs:List V):Prop:=
 Rd H a (.lst xs)∨
  ∃(o:Obj)(G:Array Value)(n:Nat),K.lookup a=some o/\o.cls=.type "list"/\o.dict=none/\o.data=.seq G n/\G.size<=sizeLine/\fF xs G.toList
def SqT(K:aR)(H:Hp)(a:Addr)(xs:List V):Prop:=
 Rd H a (.tup xs)∨
  ∃(o:Obj)(G:Array Value)(n:Nat),K.lookup a=some o/\o.cls=.type "tuple"/\o.data=.seq G n/\G.size<=sizeLine/\fF xs G.toList
noncomputable def absV:Value->Option V
 | .none=>some .non
 | .bool b=>some (.bl b)
 | .int i _=>some (.int i)
 | .str x _=>some (.str x)
 | .bytes b _=>some (.byt b)
 | .float b _=>some (.flt b)
 | .ref a=>some (.ref a)
 | .type n=>some (.ty n)
 |_=>none
def fO.abs{x:V}(r:fO x u):absV u=some x:=by
 cases x with
 |non=>cases r;rfl
 |bl _=>cases r;rfl
 |int _=>obtain⟨t,rfl⟩:=r;rfl
 |str _=>obtain⟨t,rfl⟩:=r;rfl
 |byt _=>obtain⟨t,rfl⟩:=r;rfl
 |flt _=>obtain⟨t,rfl⟩:=r;rfl
 |ref _=>cases r;rfl
 |ty _=>cases r;rfl
def fO.inj{x y:V}{u:Value}(r:fO x u)(q:fO y u):x=y:=aU (r.abs.symm.trans q.abs)
def fF.inj:∀{xs ys:List V}{us:List Value},fF xs us->fF ys us->xs=ys
 |_,_,_,.nil,.nil=>rfl
 |_,_,_,.cons r t,.cons r' t'=>by rw[r.inj r',fF.inj t t']
section
variable{X:Cx}{pins:List (Addr×Obj)}{σ:St}{H:Hp}{s:Shared}{a:Addr}{xs ys:List V}
def SqL.of(h:H a=some (.lst xs)):SqL K H a xs:=.inl (.inl h)
def SqT.of(h:H a=some (.tup xs)):SqT K H a xs:=.inl (.inl h)
def Inv.list(I:Inv X pins σ H s)(h:SqL X.K H a xs):∃G:List Value,fF xs G/\PlainL s.heap a G.toArray/\xs.length<=sizeLine:=by
 rcases h with h |⟨o,G,n,hk,hc,hd,hs,f,r⟩
 .obtain⟨z,G,n,r,e⟩:=h.ok I.hok;exact#[G,r,#[_,n,e,rfl,rfl,rfl],z]
 .refine#[G.toList,r,#[o,n,I.kIn a o hk,hc,hd,by simpa using hs],?_];have e:=r.length;simp only[Array.length_toList]at e;lia
def Inv.tuple(I:Inv X pins σ H s)(h:SqT X.K H a xs):∃G:List Value,fF xs G/\IsTup s.heap a G.toArray/\xs.length<=sizeLine:=by
 rcases h with h |⟨o,G,n,hk,hc,hs,f,r⟩
 .obtain⟨z,G,r,p⟩:=h.ok I.hok;exact#[G,r,p,z]
 .refine#[G.toList,r,#[o,I.kIn a o hk,hc,n,by simpa using hs],?_];have e:=r.length;simp only[Array.length_toList]at e;lia
def Inv.list_inj(I:Inv X pins σ H s)(h:SqL X.K H a xs)(h':SqL X.K H a ys):xs=ys:=by
 obtain⟨G,r,⟨o,n,e,_,_,d⟩,_⟩:=I.list h;obtain⟨b,t,⟨f,l,g,_,_,A⟩,_⟩:=I.list h';rw[e]at g;cases g;rw[d]at A;injection A with d1 _;have:G=b:=by simpa using congrArg Array.toList d1
 subst this;exact r.inj t
end
noncomputable abbrev Cx.wish(X:Cx)(E:Value->Shared->Prop):Cx:={ X with xe:=E }
noncomputable abbrev Cx.nox(X:Cx):Cx:=X.wish λ_ _=>False
def Cx.Ok.wish(ok:X.Ok)(E:Value->Shared->Prop):(X.wish E).Ok:=
 #[ok.mod,ok.kind,ok.glob,ok.blt,ok.above,ok.inj,ok.has,ok.cab,ok.hd,ok.frames,ok.stk,ok.exf,ok.bs,ok.bsz,ok.noex,ok.exfs,ok.funs,ok.frf]
theorem Cx.Ok.unwish(ok:(X.wish E).Ok):X.Ok:=
 #[ok.mod,ok.kind,ok.glob,ok.blt,ok.above,ok.inj,ok.has,ok.cab,ok.hd,ok.frames,ok.stk,ok.exf,ok.bs,ok.bsz,ok.noex,ok.exfs,ok.funs,ok.frf]
section
variable{X:Cx}{pins:List (Addr×Obj)}{σ:St}{H:Hp}{s:Shared}{E:Value->Shared->Prop}
def Inv.wish(I:Inv X pins σ H s)(E:Value->Shared->Prop):Inv (X.wish E) pins σ H s:=#[I.ok.wish E,I.os,I.bare,I.base,I.loc,I.cell,I.free,I.freeC,I.pin,I.hok,I.len]
def Inv.unwish(I:Inv (X.wish E) pins σ H s):Inv X pins σ H s:=#[I.ok.unwish,I.os,I.bare,I.base,I.loc,I.cell,I.free,I.freeC,I.pin,I.hok,I.len]
def SP.unwish{D:xI}{f:Flow}{R:Shared}(h:SP (X.wish E) pins D f R):SP X pins D f R:=by
 cases f with
 |next=>obtain⟨G,Z,I,q⟩:=h;exact#[G,Z,I.unwish,q]
 |brk=>obtain⟨G,Z,I,q⟩:=h;exact#[G,Z,I.unwish,q]
 |cont=>obtain⟨G,Z,I,q⟩:=h;exact#[G,Z,I.unwish,q]
 |ret u=>obtain⟨v,G,Z,I,r,q⟩:=h;exact#[v,G,Z,I.unwish,r,q]
def PSs.nox{st:List Stmt}{t:TS}(h:PSs X.nox st t):PSs X st t:=λpins s σ H D I hw=>
 wpAny_mono (h pins s σ H D (I.wish _) hw) (λ_ _ q=>q.unwish) λ_ _ z=>False.elim z
end
section
variable{X:Cx}{st:Stmt}{rest:List Stmt}{t u:TS}{e:Expr}{te:TE}{pos:Pos}
def eL:TS:=λD O H=>D.nx O H
def cB(t u:TS):TS:=λD O H=>t { D with nx:=u D } O H
def dR:PSs X [] eL:=λ_ _ O H _ I h=>wpAny_execs_nil #[O,H,I,h]
def aQ(h1:PS X st t)(h2:PSs X rest u):PSs X (st::rest) (cB t u):=by
 intro B s O H D I h;refine wpAny_execs_cons (thn (h1 B s O H { D with nx:=u D } I h) λf M q=>?_);cases f with
 |next=>
  obtain⟨G,Z,c,q⟩:=q;exact h2 B M G Z D c q
 |ret v=>exact q
 |brk=>exact q
 |cont=>exact q
def aZ(h1:PS X st t):PSs X [st] t:=by
 intro B s O H D I h;refine wpAny_execs_cons (thn (h1 B s O H D I h) λf M q=>?_);cases f with
 |next=>exact wpAny_execs_nil q
 |ret v=>exact q
 |brk=>exact q
 |cont=>exact q
def Inv.quiet{B:List (Addr×Obj)}(I:Inv X B O H s):interactive X.env=false:=by simp [interactive,I.ok.kind]
def iS(te:TE):TS:=λD O H=>te O H λ_ U=>D.nx O U
def kE(a:PE X e te)(hs:swapsWith e none pos.line X.env=pure false:=by rfl):PS X (.Expr e pos) (iS te):=by
 intro B s O H D I h;exact wpAny_Expr_any (thE (a B s O H _ I h) λv M x U P Z q1=>#[O,U,P,q1]) I.quiet hs
def cX(te:TE):TS:=λD O H=>te O H D.rt
def cL(a:PE X e te):PS X (.Return (some e) pos) (cX te):=by
 intro B s O H D I h;exact wpAny_Return_some (thE (a B s O H _ I h) λv M x U P Z q1=>#[x,O,U,P,Z,q1])
def gA(c:TT)(t u:TS):TS:=λD O H=>c O H λb U=>if b=true then t D O U else u D O U
def fT{a b:List Stmt}{g:TT}(hc:PT X c g)(ha:PSs X a t)(hb:PSs X b u):PS X (.If c a b pos) (gA g t u):=by
 intro B s O H D I h;refine wpAny_If (thT (hc B s O H _ I h) λd M U P q1=>?_);cases d with
 |true=>exact ha B M O U D P q1
 |false=>exact hb B M O U D P q1
def iN:TS:=λ_ _ _=>False
def mZ:PS X st iN:=λ_ _ _ _ _ _ h=>h.elim
def Jm{a:List Stmt}:PSs X a iN:=λ_ _ _ _ _ _ h=>h.elim
end
noncomputable abbrev TG:=V->St->Hp->(St->Hp->Prop)->Prop
noncomputable abbrev TGs:=List V->St->Hp->(St->Hp->Prop)->Prop
def PG(X:Cx)(a:Expr)(t:TG):Prop:=
 ∀(B:List (Addr×Obj))(s:Shared)(O:St)(H:Hp)(v:V)(u:Value)(Q:St->Hp->Prop),Inv X B O H s->fO v u->t v O H Q->
  wpAny (model X.prog X.w) X.A (assign a X.env u) (λ_ R=>∃G Z,Inv X B G Z R/\Q G Z) X.xe s
def PGs(X:Cx)(a:List Expr)(t:TGs):Prop:=
 ∀(B:List (Addr×Obj))(s:Shared)(O:St)(H:Hp)(vs:List V)(us:List Value)(Q:St->Hp->Prop),Inv X B O H s->fF vs us->t vs O H Q->
  wpAny (model X.prog X.w) X.A (assignInOrder ((assignEach a X.env).map (·.2)) us) (λ_ R=>∃G Z,Inv X B G Z R/\Q G Z) X.xe s
noncomputable abbrev TSet:=V->V->V->Hp->(Hp->Prop)->Prop
def PSet(X:Cx)(t:TSet):Prop:=
 ∀(B:List (Addr×Obj))(s:Shared)(O:St)(H:Hp)(o i v:V)(G l u:Value)(Q:Hp->Prop),Inv X B O H s->fO o G->fO i l->fO v u->t o i v H Q->
  wpAny (model X.prog X.w) X.A (setItem G l u) (λ_ R=>∃Z,Inv X B O Z R/\Q Z) X.xe s
section
variable{X:Cx}{pos:Pos}
def aY(i:Nat):TG:=λv O H Q=>Q (O.set i (some v)) H
def jYi(K:X.N.Nodup)(hi:X.N[i]?=some x)(hx:Loc X.env.scope x)(hf:X.fn x=true∨X.env.scope.names.lookup x=some .local:=by first |exact .inl rfl |exact .inr rfl |assumption):PG X (.Name x pos) (aY i):=by
 intro B s O H v u Q I r h;exact wpAny_assign_Name (Ex I K hi hx r (λR c=>#[_,H,c,h]) hf)
def jS:TGs:=λvs O H Q=>vs=[]/\Q O H
def dZ(t:TG)(u:TGs):TGs:=λvs O H Q=>∃v r,vs=v::r/\t v O H λG Z=>u r G Z Q
def Wg:PGs X [] jS:=by
 rintro B s O H j g Q I r ⟨e,h⟩;subst e;cases r;exact assignInOrder_nil #[O,H,I,h]
def sY{es:List Expr}{t:TG}{u:TGs}(h1:PG X e t)(h2:PGs X es u)
  (hs:(assignEach (e::es) X.env).map (·.2)=assign e X.env::(assignEach es X.env).map (·.2):=by rfl):PGs X (e::es) (dZ t u):=by
 rintro B s O H j g Q I r ⟨v,a,e1,h⟩;subst e1;cases r with
 |cons r rr=>
  rw[hs];refine assignInOrder_cons (thn (h1 B s O H _ _ _ I r h) λ_ M#[i,U,P,q1]=>?_);exact h2 B M i U _ _ Q P rr q1
def jR(K:aR)(n:Nat)(t:TGs):TG:=λv O H Q=>∃a xs,v=.ref a/\SqT K H a xs/\xs.length=n/\t xs O H Q
def jZX{es:List Expr}{t:TGs}{n:Nat}(hc:X.calm=true)(h:PGs X es t)
  (hn:(assignEach es X.env).length=n:=by rfl) (c:(assignEach es X.env).findIdx? (·.1)=none:=by rfl):PG X (.Tuple es k pos) (jR X.K n t):=by
 rintro B s O H v u Q I r ⟨a,T,e1,F,S,hw⟩;subst e1;cases r;obtain⟨G,N,y,f⟩:=I.tuple F;refine assign_Tuple_tuple (I.ok.hd hc) y (by simp [hn,←S,N.length]) c λY hx=>?_;have P:Inv X B O H { s with heap:=Y }:=I.kept (t':=s.toks) λb o e=>hx b o (bL (bC e)) e;exact h B _ O H T _ Q P (by simpa using N) hw
def xL(c ti:TE)(t:TSet):TG:=λv O H Q=>c O H λo U=>ti O U λi j=>t o i v j λY=>Q O Y
def xW{o i:Expr}{c ti:TE}{t:TSet}(ho:PE X o c)(hi:PE X i ti)(hs:PSet X t)
  (ha:∀v,assign (.Subscript o i pos) X.env v=(do
   let G ←holding [v] (eval o X.env);let l ←holding [v,G] (eval i X.env)
   standAt pos
   holding [v,G,l] (setItem G l v)
   release [v,G,l] []):=by intro _;rfl):PG X (.Subscript o i pos) (xL c ti t):=by
 intro B s O H v u Q I r h;rw[ha];refine aD (wpAny_holding (thE (ho B s O H _ I h) λG M x U P Z q1=>?_));refine aD (wpAny_holding (thE (hi B M O U _ P q1) λl d y j a b p=>?_));refine aD (wpAny_standAt (aD (wpAny_holding (thn (hs B d O j x y v G l u _ a Z b r p) λ_ N#[Y,z,q]=>?_))));exact wpAny_release #[O,Y,z,q]
def cN(l:TE)(g:TG):TS:=λD O H=>l O H λx U=>g x O U D.nx
def rY{r:Expr}{l:TE}(a:PE X e l)(hg:PG X r g)(hs:swapsWithSole [r] e pos.line X.env=pure false:=by rfl)(hw:swappedStores [r] e X.env=pure none:=by rfl)
  (h1:(assignEach [r] X.env).map (·.2)=[assign r X.env]:=by rfl):PS X (.Assign [r] e pos) (cN l g):=by
 intro B s O H D I h;refine wpAny_Assign_stores (thE (a B s O H _ I h) λv M x U P Z q1=>?_) hs hw;rw[h1];exact thn (hg B M O U x v _ P Z q1) λ_ d q=>q
def ps_set{l:TE}{a:Pos}(K:X.N.Nodup)(hi:X.N[i]?=some x)(hx:Loc X.env.scope x)(b:PE X e l)(hs:swapsWith e (some (.Name x a)) pos.line X.env=pure false:=by rfl)(hf:X.fn x=true∨X.env.scope.names.lookup x=some .local:=by first |exact .inl rfl |exact .inr rfl |assumption):
  PS X (.Assign [.Name x a] e pos) (cN l (aY i)):=by
 intro B s O H D I h;refine wpAny_Assign_Name (thE (b B s O H _ I h) λv M y U P Z q1=>?_) hs;exact Ex P K hi hx Z (λd t=>#[_,U,t,q1]) hf
def Xu(i j:Nat)(c:TA):TS:=λD O H=>c O H λvs U=>∃v w,vs=[v,w]/\D.nx ((O.set i (some v)).set j (some w)) U
def ps_par{y:Str}{a b:Expr}{c:TA}{m F pt:Pos}{kt k2 pt2}(hc:X.calm=true)(K:X.N.Nodup)(hi:X.N[i]?=some x)(Z:X.N[j]?=some y)(r:i≠j)
  (hx:X.env.scope.names.lookup x=some .local) (hy:X.env.scope.names.lookup y=some .local) (ha:PA X [a,b] c)
  (hw:swappedStores [.Tuple [.Name x m,.Name y F] kt pt] (.Tuple [a,b] k2 pt2) X.env=pure (some [x,y]))
  (hs:swapsWithSole [.Tuple [.Name x m,.Name y F] kt pt] (.Tuple [a,b] k2 pt2) pos.line X.env=pure false:=by rfl):
  PS X (.Assign [.Tuple [.Name x m,.Name y F] kt pt] (.Tuple [a,b] k2 pt2) pos) (Xu i j c):=by
 intro B s O H D I h;rw[exec_Assign_arm];refine aD (wpAny_standAt ?_);rw[hs];refine aD (aT ?_);rw[aF (by decide)];refine aD (Tuple_ (thF (ha _ B s O H _ I h) λg M Q U P G q1=>?_));obtain⟨v,w,e1,q1⟩:=q1;subst e1;obtain⟨f,k,rfl,J,n⟩:∃f k,g=[f,k]/\fO v f/\fO w k:=by
  cases G with
  |cons p q=>
   cases q with
   |cons p' q'=>
    cases q';exact#[_,_,rfl,p,p']
 refine wpAny_newObj_type ?_ (by show 2<=sizeLine;decide);have t:Inv X B O U { M with heap:=M.heap.push { cls:=.type "tuple",data:=.seq [f,k].toArray } }:=P.kept (t':=M.toks) λb o e=>bA _ e;rw[hw];refine aD (aT ?_);show wpAny (model X.prog X.w) X.A (do rule "assign.swapped-stores";let u ←unpackItems (.ref M.heap.objs.size) 2 none;assignInOrder [λv=>bindName X.env y v,λv=>bindName X.env x v] u.reverse;pure Flow.next) _ _ _;refine aD (wpAny_rule (aD (unpackItems_tuple (items:=(List.toArray [f,k])) (I.ok.hd hc) (IsTup.new M.heap _) λY C=>?_)));have z:=t.kept (h':=Y) (t':=M.toks) λb o e=>C b o (bL (bC e)) e;show wpAny _ _ (assignInOrder [λv=>bindName X.env y v,λv=>bindName X.env x v] [k,f]>>=λ_=>pure Flow.next) _ _ _;refine aD (assignInOrder_cons (wpAny_bindName (Ex z K Z (.inl hy) n (λd S=>?_) (.inr hy))));refine assignInOrder_cons (wpAny_bindName (Ex S K hi (.inl hx) J (λR l=>assignInOrder_nil (aT ?_)) (.inr hx)));rw[List.set_comm _ _ (Ne.symm r)]at l;exact#[_,U,l,q1]
end
section
variable{X:Cx}{pos:Pos}
def qE(c:TT)(tb:TS):TS:=λD O H=>∃W:Nat->St->Hp->Prop,(∃m,W m O H)/\∀m O H,W m O H->
 c O H λb U=>if b=true then ∃N:St->Hp->Prop,(∀G Z,N G Z->∃k,k<m/\W k G Z)/\tb { D with nx:=N,ct:=N,bk:=D.nx } O U else D.nx O U
def jV5{a:List Stmt}{g:TT}(hp:PassesOwn (model X.prog X.w) X.A X.env X.xe)(hc:PT X c g)(hb:PSs X a tb):PS X (.While c a [] pos) (qE g tb):=by
 rintro B s O H D I ⟨W,⟨m0,r⟩,turn⟩;refine wpAny_While (codeAny_whileLoop (λn R=>∃G Z,Inv X B G Z R/\W n G Z) ?_ m0 #[O,H,I,r]);rintro n M ⟨i,U,P,x⟩;refine wpAny_passesOwn hp (thn (hc B M i U _ P (turn n i U x)) λb d#[j,t,p]=>?_);cases b with
 |true=>
  obtain⟨N,K,p⟩:=p;rw[aK rfl];refine wpAny_passesOwn hp (thn (hb B d i j _ t p) λf l q=>?_);cases f with
  |next=>
   obtain⟨F,Y,z,C⟩:=q;obtain⟨k,hm,e⟩:=K F Y C;exact#[k,hm,F,Y,z,e]
  |cont=>
   obtain⟨F,Y,z,C⟩:=q;obtain⟨k,hm,e⟩:=K F Y C;exact#[k,hm,F,Y,z,e]
  |brk=>exact q
  |ret v=>exact q
 |false=>
  rw[aF bX];exact wpAny_execs_nil #[i,j,t,p]
end
structure It where
 go:Nat->Hp->Prop
 yld:Nat->Hp->V->Hp->Prop
 stop:Nat->Hp->Prop
def Vf(X:Cx)(B:List (Addr×Obj))(H:Hp)(b:Addr):Prop:=
 H b=none/\b≠X.env.locals/\b∉X.fs/\(b∈X.ex∨X.s₀.heap.objs.size<=b)/\(∀x c,X.env.cells.lookup x=some c->c≠b)/\∀p∈X.pn++B,p.1≠b
def Inv.fpOk{B:List (Addr×Obj)}{Z:Hp}{b:Addr}(I:Inv X B O H s)(hb:s.heap.objs.size<=b)(hn:Z b=none):Vf X B Z b:=by
 refine#[hn,Nat.ne_of_gt (cH I.lt hb),I.nofs hb,.inr (dE I.sz hb),λx c e z=>?_,λp hp z=>?_]
 .obtain⟨v,q⟩:=I.cell x c e;exact absurd (cH q.lt (by rw[z];exact hb)) (eO _)
 .exact absurd (cH (bC (I.pin p hp).1) (by rw[z];exact hb)) (eO _)
structure Xx(P:Program)(w:World)(K:aR)(tg:Expr)(J:It)(fp:List Addr)(it:Addr)(tn:Nat->Heap->Prop):Prop where
 mem:it∈fp
 obj:∀i h,tn i h->∀b∈fp,∃o,h.get? b=some o/\∀v,o.data≠.cell v
 keep:∀i h h',tn i h->(∀b∈fp,∀o,h.get? b=some o->h'.get? b=some o)->tn i h'
 item:∀(X:Cx),X.prog=P->X.w=w->X.K=K->X.calm=true->∀(i:Nat)(pins:List (Addr×Obj))(s:Shared)(σ:St)(H:Hp)(E:Value->Shared->Prop),Inv X pins σ H s->(∀b∈fp,Vf X pins H b)->tn i s.heap->J.go i H->
  wpAny (model P w) X.A (pyNext (.ref it)) (λr s1=>∃u,r=some u/\
   wpAny (model P w) X.A (letOwnedTupleGo tg (.ref it) u) (λ_ s2=>∃x H',Inv X pins σ H' s2/\fO x u/\J.yld i H x H'/\tn (i+1) s2.heap/\∀b∈fp,H' b=none) E s1) E s
 done:∀(X:Cx),X.prog=P->X.w=w->X.K=K->X.calm=true->∀(i:Nat)(pins:List (Addr×Obj))(s:Shared)(σ:St)(H:Hp)(E:Value->Shared->Prop),Inv X pins σ H s->(∀b∈fp,Vf X pins H b)->tn i s.heap->J.stop i H->
  wpAny (model P w) X.A (pyNext (.ref it)) (λr s1=>r=none/\Inv X pins σ H s1) E s
 self:∀(A:Around)(i:Nat)(s:Shared)(Q:Value->Shared->Prop)(E:Value->Shared->Prop),tn i s.heap->Q (.ref it) s->wpAny (model P w) A (pyIter (.ref it)) Q E s
noncomputable abbrev TI:=St->Hp->(It->Hp->Prop)->Prop
def PIE(X:Cx)(B:List (Addr×Obj))(O:St)(r:Expr)(R:It->Hp->Prop)(e:Value)(d:Shared):Prop:=
 ∃(l:Addr)(a:List Addr)(c:Nat->Heap->Prop)(J:It)(Z:Hp),e=.ref l/\Inv X B O Z d/\Xx X.prog X.w X.K r J a l c/\c 0 d.heap/\(∀b∈a,Vf X B Z b)/\R J Z
def PI(X:Cx)(r Q:Expr)(q:TI):Prop:=
 ∀(B:List (Addr×Obj))(s:Shared)(O:St)(H:Hp)(R:It->Hp->Prop),Inv X B O H s->q O H R->
  wpAny (model X.prog X.w) X.A (eval Q X.env) (λv M=>wpAny (model X.prog X.w) X.A (pyIter v) (PIE X B O r R) X.xe M) X.xe s
def go_of{r:Expr}{l:Addr}{o:Obj}{n:String}{vs:Array Value}{Q:Unit->Shared->Prop}(ho:s.heap.get? l=some o)(hc:o.cls=.type n)(hd:o.data=.fields vs)
  (hn:["enumerate","zip","dict_itemiterator","dict_reverseitemiterator","odict_iterator","itertools.zip_longest","itertools.pairwise"].contains n=false) (f:Q () s):wpAny M A (letOwnedTupleGo r (.ref l) u) Q E s:=by
 unfold letOwnedTupleGo;cases r<;>first
  |exact aT f
  | (cases u<;>first
    |exact aT f
    | (refine aD (wpAny_load ho ?_)
       rw[hc,hd];show wpAny M A (if(["enumerate","zip","dict_itemiterator","dict_reverseitemiterator","odict_iterator","itertools.zip_longest","itertools.pairwise"].contains n&&vs[0]?==some (rawInt _))=true then _ else _) Q E s;rw[aF (by intro h;rw[hn,Bool.false_and]at h;cases h)];exact aT f))
def Itl(K:aR)(a:Addr):It:=
 #[λi H=>∃xs x,SqL K H a xs/\xs[i]?=some x,λi H x Z=>Z=H/\∀xs,SqL K H a xs->xs[i]?=some x,λi H=>∃xs,SqL K H a xs/\xs.length<=i]
def Itr(lo:Int)(n:Nat):It:=#[λi _=>i<n,λi H x Z=>Z=H/\x=.int (lo+i),λi _=>n<=i]
def jWj{w:World}{r:Expr}(a l:Addr):Xx P w K r (Itl K a) [l] l (λi h=>h.IsListIter l a i) where
 mem:=by simp
 obj:=λi h st b hb=>by
  have e:b=l:=by simpa using hb
  subst e;obtain⟨o,e,c,d⟩:=st;exact#[o,e,λv z=>by rw[d]at z;cases z]
 keep:=λi h Y st k=>st.at λo e=>k l (by simp) o e
 item:=by
  intro X n hw j hc i B s O H E I hf st hg;subst n hw j;obtain⟨T,x,F,hx⟩:=hg;obtain⟨G,N,p,f⟩:=I.list F;obtain⟨u,hu,t⟩:=N.get hx;obtain⟨f0,m,U,y,Q,g⟩:=hf l (by simp);refine wpAny_pyNext_list_item st p.isList (x:=u) (by simpa using hu) λY q sb=>?_;have A:Inv X B O H { s with heap:=Y }:=I.turned (t':=s.toks) (λb o hb e=>(sb.2 b hb).trans e) f0 m y Q g;obtain⟨o,e,c,d⟩:=id q;exact#[u,rfl,go_of (s:={ s with heap:=Y }) e c d (by decide) #[x,H,A,t,#[rfl,λM hy=>by rw[I.list_inj hy F];exact hx],q,λb hb=>(hf b hb).1]]
 done:=by
  intro X n hw j hc i B s O H E I hf st hg;subst n hw j;obtain⟨T,F,hx⟩:=hg;obtain⟨G,N,p,f⟩:=I.list F;obtain⟨f0,m,U,y,Q,g⟩:=hf l (by simp);have S:=N.length;exact wpAny_pyNext_list_end (I.ok.hd hc) st p.isList (by simp;lia) λY C=>#[rfl,I.turned (t':=s.toks) (λb o hb e=>C b o hb e) f0 m y Q g]
 self:=λ_ _ _ _ _ st h=>wpAny_pyIter_listiter st h
def jZp{w:World}{r:Expr}(l:Addr)(lo:Int)(n:Nat):Xx P w K r (Itr lo n) [l] l (λi h=>IsRangeIter h l (lo+(i:Nat)*1) ((n:Int)-(i:Nat)) 1) where
 mem:=by simp
 obj:=λi h st b hb=>by
  have e:b=l:=by simpa using hb
  subst e;exact#[_,st,λv z=>by
   have c:Data.fields _=Data.cell v:=z;cases c]
 keep:=λi h Y st k=>k l (by simp) _ st
 item:=by
  intro X F hw j hc i B s O H E I hf st hg;subst F hw j;obtain⟨f0,m,U,y,Q,g⟩:=hf l (by simp);have W:=Walks.range (prog:=X.prog) (w:=X.w) (I.ok.hd hc) l lo 1 n;refine W.item i s _ _ hg st λv Y tk hv q a=>?_;obtain⟨t,rfl⟩:=hv;have d:Inv X B O H { s with heap:=Y,toks:=tk }:=I.turned (λb o hb e=>a b o (by simpa using hb) e) f0 m y Q g;refine#[_,rfl,go_of (s:={ s with heap:=Y,toks:=tk }) (n:="range_iterator") q rfl rfl (by decide) #[.int (lo+i),H,d,#[t,?_],#[rfl,rfl],q,λb hb=>(hf b hb).1]];rw[fE]
 done:=by
  intro X F hw j hc i B s O H E I hf st hg;subst F hw j;obtain⟨f0,m,U,y,Q,g⟩:=hf l (by simp);exact wpAny_pyNext_range_end (I.ok.hd hc) st (by have:n<=i:=hg;lia) λY C=>#[rfl,I.turned (t':=s.toks) (λb o hb e=>C b o hb e) f0 m y Q g]
 self:=λ_ _ _ _ _ st h=>wpAny_pyIter_rangeiter st h
section
variable{X:Cx}{tg:Expr}
def cZ(K:aR)(w:TE):TI:=λO H R=>w O H λx U=>exR x λa=>(∃xs,SqL K U a xs)/\R (Itl K a) U
def dL{l:Expr}{w:TE}(S:PE X l w):PI X tg l (cZ X.K w):=by
 intro B s O H R I h;refine thE (S B s O H _ I h) λv M x U P Z q1=>?_;obtain⟨a,e,⟨T,F⟩,q⟩:=Eq.mp iZ q1;subst e;cases Z;obtain⟨G,N,p,f⟩:=P.list F;refine wpAny_pyIter_list p.isList ?_;refine#[M.heap.objs.size,[M.heap.objs.size],_,_,U,rfl,P.kept (t':=M.toks) λb o e=>bA _ e,jWj a _,#[_,cE _ rfl,rfl,rfl],λb hb=>?_,q];have e:b=M.heap.objs.size:=by simpa using hb
 subst e;exact P.fpOk (aP _) (P.hok.fresh (aP _))
def jV3{B:List (Addr×Obj)}{R:It->Hp->Prop}{lo hi:Int}{t u v:Tok}{tk:Nat}(I:Inv X B O H s)(h1:-(2^62)<=lo)(h2:lo<2^62)(a:-(2^62)<=hi)(y:hi<2^62)
  (q:R (Itr lo (hi-lo).toNat) H):wpAny (model X.prog X.w) X.A (pyIter (.ref s.heap.objs.size)) (PIE X B O tg R) E { s with heap:=s.heap.push { cls:=.type "range",data:=.fields (List.toArray [.int lo t,.int hi u,.int 1 v]) },toks:=tk }:=by
 refine wpAny_pyIter_range (IsRange.new ..) (small_one h1 h2 a y) ?_;have P:Inv X B O H { s with heap:=s.heap.push { cls:=.type "range",data:=.fields (List.toArray [.int lo t,.int hi u,.int 1 v]) },toks:=tk }:=I.kept λb o e=>bA _ e;refine#[(s.heap.push { cls:=.type "range",data:=.fields (List.toArray [.int lo t,.int hi u,.int 1 v]) }).objs.size,[(s.heap.push { cls:=.type "range",data:=.fields (List.toArray [.int lo t,.int hi u,.int 1 v]) }).objs.size],_,_,H,rfl,
  P.kept (t':=tk) λb o e=>bA _ e,jZp _ lo (hi-lo).toNat,?_,λb hb=>?_,q]
 .have e1:lo+((0:Nat):Int)*1=lo:=by simp
  have C:(((hi-lo).toNat:Nat):Int)-((0:Nat):Int)=Builtin.Range.rangeSize lo hi 1:=by rw[rangeSize_one];split<;>lia
  show IsRangeIter _ _ (lo+((0:Nat):Int)*1) ((((hi-lo).toNat:Nat):Int)-((0:Nat):Int)) 1;rw[e1,C];exact cE _ rfl
 .have e:b=(s.heap.push { cls:=.type "range",data:=.fields (List.toArray [.int lo t,.int hi u,.int 1 v]) }).objs.size:=by simpa using hb
  subst e;exact P.fpOk (aP _) (P.hok.fresh (aP _))
def iJ(c:TA):TI:=λO H R=>c O H λvs U=>∃j:Int,vs=[.int j]/\-(2^62)<=j/\j<2^62/\R (Itr 0 j.toNat) U
def gZ{a:Expr}{c:TA}{p:Pos}(hg:Gl X "range")(hm:X.mg "range"=none)(ha:PA X [a] c)(hs:starEach [a] X.env=[(false,eval a X.env)]:=by rfl):PI X tg (.Call (.Name "range" p) [a] [] pos) (iJ c):=by
 intro B s O H R I h;refine Call_ (qF I hg hm boot_range (dI (thF (ha pos B s O H _ I h) λg M d U P Z q1=>?_) hs rfl));obtain⟨j,e,q1,b,q⟩:=q1;subst e;cases Z with
 |cons r rr=>
  cases rr;obtain⟨t,rfl⟩:=r;exact call_range_1 (jV3 P #[] #[] q1 b (by simpa using q))
def gP(q:TI)(g:TG)(tb:TS):TS:=λD O H=>q O H λJ U=>∃W:Nat->Nat->St->Hp->Prop,(∃m,W 0 m O U)/\∀i m O H,W i m O H->
 (J.stop i H/\D.nx O H)∨(J.go i H/\∃N:St->Hp->Prop,(∀G Z,N G Z->∃k,k<m/\W (i+1) k G Z)/\∀x Z,J.yld i H x Z->g x O Z λc j=>tb { D with nx:=N,ct:=N,bk:=D.nx } c j)
noncomputable def Vk(a:List Addr)(h:Heap):List (Addr×Obj):=a.filterMap λb=>(h.get? b).map λo=>(b,o)
def nW{a:List Addr}{b:Addr}{o:Obj}(hb:b∈a)(e:h.get? b=some o):(b,o)∈Vk a h:=List.mem_filterMap.mpr #[b,hb,by rw[e];rfl]
def jVJ{a:List Addr}{p:Addr×Obj}(hp:p∈Vk a h):p.1∈a/\h.get? p.1=some p.2:=by
 obtain⟨b,hb,e⟩:=List.mem_filterMap.mp hp;cases q:h.get? b with
 |none=>rw[q]at e;cases e
 |some o=>
  rw[q]at e;have g:(b,o)=p:=aU e;subst g;exact#[hb,q]
def Inv.pinned{B:List (Addr×Obj)}{a:List Addr}(I:Inv X B O H s)(hf:∀b∈a,Vf X B H b)(ho:∀b∈a,∃o,s.heap.get? b=some o/\∀v,o.data≠.cell v):Inv X (B++Vk a s.heap) O H s:=
 I.pins_of λp hp=>(cW.mp hp).elim (λz=>I.pin p (dB _ z)) λz=>by
  obtain⟨hb,e⟩:=jVJ z;obtain⟨f0,m,U,_⟩:=hf p.1 hb;obtain⟨o,g,d⟩:=ho p.1 hb;rw[e]at g;cases g;exact#[e,f0,m,U,d]
def Inv.unpinned{B pl:List (Addr×Obj)}(I:Inv X (B++pl) O H s):Inv X B O H s:=I.pins_of λp hp=>I.pin p (dB _ (iF _ hp))
def ps_for{Q:Expr}{a3:List Stmt}{q:TI}(hp:PassesOwn (model X.prog X.w) X.A X.env X.xe)(hc:X.calm=true)(hi:PI X tg Q q)(hg:PG X tg g)(hb:PSs X a3 tb)
  (hs:∀x,foldedSetIterable Q X.env x=pure x:=by intro _;rfl):PS X (.For tg Q a3 [] pos) (gP q g tb):=by
 intro B s O H D I h;refine wpAny_For (thn (hi B s O H _ I h) λv M h1=>thn h1 λb0 s2 h2=>?_) hs;obtain⟨l,a,tn,J,j,e,t,T,a6,U,W,⟨m0,w0⟩,turn⟩:=h2;subst e
 --what stays true of the iterator's objects through the loop
 have a1:∀{Z:Hp},(∀b∈a,Z b=none)->∀b∈a,Vf X B Z b:=λhn b hb=>#[hn b hb,(U b hb).2];refine codeAny_forLoop_any (λn R=>∃i G Z,Inv X B G Z R/\tn i R.heap/\(∀b∈a,Z b=none)/\W i n G Z) ?_ m0 #[0,O,j,t,a6,λb hb=>(U b hb).1,w0];rintro n s3 ⟨i,F,Y,z,a4,a5,w3⟩;rcases turn i n F Y w3 with⟨stop,qn⟩|⟨go,N,K,step⟩
 .refine wpAny_passesOwn hp (thn (T.done X rfl rfl rfl hc i B s3 F Y X.xe z (a1 a5) a4 stop) λr s4#[hr,S]=>?_);subst hr;exact wpAny_execs_nil #[F,Y,S,qn]
 .refine wpAny_passesOwn hp (thn (T.item X rfl rfl rfl hc i B s3 F Y X.xe z (a1 a5) a4 go) λr s4#[u,hr,y]=>?_);subst hr;refine wpAny_passesOwn hp (thn y λ_ s5#[x,H5,I5,r5,y5,p,a7]=>?_);have a8:=I5.pinned (a1 a7) (T.obj _ _ p);refine wpAny_passesOwn hp (thn (hg _ s5 F H5 x u _ a8 r5 (step x H5 y5)) λ_ s6#[a9,C,I6,q6]=>?_);refine wpAny_passesOwn hp (thn (hb _ s6 a9 C _ I6 q6) λf s7 q7=>?_);have a2:∀{c:St}{P:Hp},Inv X (B++Vk a s5.heap) c P s7->N c P->∃m,m<n/\∃i G Z,Inv X B G Z s7/\tn i s7.heap/\(∀b∈a,Z b=none)/\W i m G Z:=fun{c P} I7 n7=>by
   obtain⟨k,hm,w7⟩:=K c P n7;refine#[k,hm,i+1,c,P,I7.unpinned,T.keep _ _ _ p λb hb o e=>(I7.pin (b,o) (dB _ (dB _ (nW hb e)))).1,λb hb=>?_,w7];obtain⟨o,e,d⟩:=T.obj _ _ p b hb;exact(I7.pin (b,o) (dB _ (dB _ (nW hb e)))).2.1
  cases f with
  |next=>obtain⟨c,P,I7,n7⟩:=q7;exact a2 I7 n7
  |cont=>obtain⟨c,P,I7,n7⟩:=q7;exact a2 I7 n7
  |brk=>obtain⟨c,P,I7,q7⟩:=q7;exact#[c,P,I7.unpinned,q7]
  |ret v=>obtain⟨x7,c,P,I7,r7,q7⟩:=q7;exact#[x7,c,P,I7.unpinned,r7,q7]
end
def jI{D:xI}(d:Nat->St->Hp->Prop)(h0:d 0 O H)(S:∀i O H,i<=xs.length->d i O H->SqL K H a xs)
  (hs:∀i x O H,xs[i]?=some x->d i O H->g x O H λc j=>tb { D with nx:=d (i+1),ct:=d (i+1),bk:=D.nx } c j) (hd:∀O H,d xs.length O H->D.nx O H):
  ∃W:Nat->Nat->St->Hp->Prop,(∃m,W 0 m O H)/\∀i m O H,W i m O H->
   ((Itl K a).stop i H/\D.nx O H)∨((Itl K a).go i H/\∃N:St->Hp->Prop,(∀G Z,N G Z->∃k,k<m/\W (i+1) k G Z)/\∀x Z,(Itl K a).yld i H x Z->g x O Z λc j=>tb { D with nx:=N,ct:=N,bk:=D.nx } c j):=by
 refine#[λi m O H=>m=xs.length-i/\i<=xs.length/\d i O H,#[xs.length,by simp,dW _,h0],?_];rintro i m O H ⟨rfl,hi,p⟩;have q:=S i O H hi p;by_cases R:i<xs.length
 .refine .inr #[#[xs,xs[i],q,by simp [R]],d (i+1),λG Z u=>#[xs.length-(i+1),#[],rfl,R,u],λx Z y=>?_];obtain⟨e,y⟩:=y;subst e;exact hs i x O _ (y xs q) p
 .have e:i=xs.length:=#[];subst e;exact .inl #[#[xs,q,aP _],hd O H p]
def tI{lo:Int}{n:Nat}{D:xI}(d:Nat->St->Hp->Prop)(h0:d 0 O H)
  (hs:∀i O H,i<n->d i O H->g (.int (lo+i)) O H λc j=>tb { D with nx:=d (i+1),ct:=d (i+1),bk:=D.nx } c j) (hd:∀O H,d n O H->D.nx O H):
  ∃W:Nat->Nat->St->Hp->Prop,(∃m,W 0 m O H)/\∀i m O H,W i m O H->
   ((Itr lo n).stop i H/\D.nx O H)∨((Itr lo n).go i H/\∃N:St->Hp->Prop,(∀G Z,N G Z->∃k,k<m/\W (i+1) k G Z)/\∀x Z,(Itr lo n).yld i H x Z->g x O Z λc j=>tb { D with nx:=N,ct:=N,bk:=D.nx } c j):=by
 refine#[λi m O H=>m=n-i/\i<=n/\d i O H,#[n,by simp,dW _,h0],?_];rintro i m O H ⟨rfl,hi,p⟩;by_cases R:i<n
 .refine .inr #[R,d (i+1),λG Z u=>#[n-(i+1),#[],rfl,R,u],λx Z y=>?_];obtain⟨e,y⟩:=y;subst e y;exact hs i O _ R p
 .have e:i=n:=#[];subst e;exact .inl #[aP _,hd O H p]
def Nu{c:TT}{D:xI}(d:St->Hp->Prop)(j:St->Hp->Nat)(h0:d O H)
  (hs:∀O H,d O H->c O H λb U=>if b=true then tb { D with nx:=λG Z=>d G Z/\j G Z<j O H,ct:=λG Z=>d G Z/\j G Z<j O H,bk:=D.nx } O U else D.nx O U)
  (mono:∀O H Q g,(∀b U,Q b U->g b U)->c O H Q->c O H g):qE c tb D O H:=by
 refine#[λm O H=>m=j O H/\d O H,#[_,rfl,h0],?_];rintro m O H ⟨rfl,p⟩;refine mono O H _ _ (λb U q=>?_) (hs O H p);cases b with
 |true=>exact#[_,λG Z#[u,l]=>#[_,l,rfl,u],q]
 |false=>exact q
noncomputable abbrev R2:=V->V->Hp->VK->Prop
def OpR(X:Cx)(f:Value->Value->Sem Value)(r:R2):Prop:=
 ∀(B:List (Addr×Obj))(s:Shared)(O:St)(H:Hp)(x y:V)(v u:Value)(Q:VK),Inv X B O H s->fO x v->fO y u->r x y H Q->
  wpAny (model X.prog X.w) X.A (f v u) (EP X B O Q) X.xe s
def UnR(X:Cx)(f:Value->Sem Value)(r:V->Hp->VK->Prop):Prop:=
 ∀(B:List (Addr×Obj))(s:Shared)(O:St)(H:Hp)(x:V)(v:Value)(Q:VK),Inv X B O H s->fO x v->r x H Q->
  wpAny (model X.prog X.w) X.A (f v) (EP X B O Q) X.xe s
def wX(X:Cx)(f:Value)(r:List V->Hp->VK->Prop):Prop:=
 ∀(B:List (Addr×Obj))(s:Shared)(O:St)(H:Hp)(xs:List V)(us:List Value)(Q:VK),Inv X B O H s->fF xs us->r xs H Q->
  wpAny (model X.prog X.w) X.A (call f us) (EP X B O Q) X.xe s
def TruR(X:Cx)(r:V->Hp->(Bool->Hp->Prop)->Prop):Prop:=
 ∀(B:List (Addr×Obj))(s:Shared)(O:St)(H:Hp)(x:V)(v:Value)(Q:Bool->Hp->Prop),Inv X B O H s->fO x v->r x H Q->
  wpAny (model X.prog X.w) X.A (truthy v) (TP X B O Q) X.xe s
def tOp(r:R2)(c tb:TE):TE:=λO H Q=>c O H λx U=>tb O U λy j=>r x y j Q
def tUn(r:V->Hp->VK->Prop)(c:TE):TE:=λO H Q=>c O H λx U=>r x U Q
def rI(C:Int->Int->Prop)(g:Int->Int->V):R2:=λx y H Q=>exI x λi=>exI y λj=>C i j/\Q (g i j) H
def rI0(g:Int->Int->V):R2:=λx y H Q=>exI x λi=>exI y λj=>Q (g i j) H
noncomputable def rU(g:Int->V):V->Hp->VK->Prop:=λx H Q=>exI x λi=>Q (g i) H
section
variable{X:Cx}{a b c:Expr}{ta tb tc:TE}{pos:Pos}
def binT(ha:PE X a ta)(hb:PE X b tb){B:List (Addr×Obj)}{R:V->V->Hp->Prop}(I:Inv X B O H s)
  (h:ta O H λx U=>tb O U λy j=>R x y j)
  (hf:∀v u d x y j,Inv X B O j d->fO x v->fO y u->R x y j->wpAny (model X.prog X.w) X.A (f v u) Q X.xe d):
  wpAny (model X.prog X.w) X.A (eval a X.env) (λv D=>wpAny (model X.prog X.w) X.A (eval b X.env) (λu g=>wpAny (model X.prog X.w) X.A (f v u) Q X.xe g) X.xe D) X.xe s:=by
 refine thE (ha B s O H _ I h) λv M x U P Z q1=>?_;refine thE (hb B M O U _ P q1) λu d y j t Y p=>?_;exact hf v u d x y j t Z Y p
def bR{op:Operator}{r:R2}(ho:OpR X (binaryOp op) r)(ha:PE X a ta)(hb:PE X b tb):PE X (.BinOp a op b pos) (tOp r ta tb):=by
 intro B s O H Q I h;exact wpAny_BinOp (binT ha hb I h λv u d x y j t J m q=>ho B d O j x y v u Q t J m q)
def mR{op:UnaryOp}{r:V->Hp->VK->Prop}(ho:UnR X (unaryOp op) r)(ha:PE X a ta):PE X (.UnaryOp op a pos) (tUn r ta):=by
 intro B s O H Q I h;exact UnaryOp_ (thE (ha B s O H _ I h) λv M x U P Z q1=>ho B M O U x v Q P Z q1)
def opI{C:Int->Int->Prop}{g:Int->Int->Int}
  (d:∀(i j:Int)(t u:Tok)(s:Shared)(Q:Value->Shared->Prop)(E:Value->Shared->Prop),C i j->Q (.int (g i j) s.toks) { s with toks:=s.toks+1 }->wpAny (model X.prog X.w) X.A (f (.int i t) (.int j u)) Q E s):
  OpR X f (rI C λi j=>.int (g i j)):=by
 intro B s O H x y v u Q I J m h;obtain⟨i,rfl,h1⟩:=Eq.mp iA h;obtain⟨j,rfl,hc,q⟩:=Eq.mp iA h1;obtain⟨t,rfl⟩:=J;obtain⟨U,rfl⟩:=m;exact d i j t U s _ _ hc #[.int (g i j),H,I.tok _,#[_,rfl],q]
def opI0{g:Int->Int->Int}
  (d:∀(i j:Int)(t u:Tok)(s:Shared)(Q:Value->Shared->Prop)(E:Value->Shared->Prop),Q (.int (g i j) s.toks) { s with toks:=s.toks+1 }->wpAny (model X.prog X.w) X.A (f (.int i t) (.int j u)) Q E s):
  OpR X f (rI0 λi j=>.int (g i j)):=by
 intro B s O H x y v u Q I J m h;obtain⟨i,rfl,h1⟩:=Eq.mp iA h;obtain⟨j,rfl,q⟩:=Eq.mp iA h1;obtain⟨t,rfl⟩:=J;obtain⟨U,rfl⟩:=m;exact d i j t U s _ _ #[.int (g i j),H,I.tok _,#[_,rfl],q]
def opB0{g:Int->Int->Bool}
  (d:∀(i j:Int)(t u:Tok)(s:Shared)(Q:Value->Shared->Prop)(E:Value->Shared->Prop),Q (.bool (g i j)) s->wpAny (model X.prog X.w) X.A (f (.int i t) (.int j u)) Q E s):
  OpR X f (rI0 λi j=>.bl (g i j)):=by
 intro B s O H x y v u Q I J m h;obtain⟨i,rfl,h1⟩:=Eq.mp iA h;obtain⟨j,rfl,q⟩:=Eq.mp iA h1;obtain⟨t,rfl⟩:=J;obtain⟨U,rfl⟩:=m;exact d i j t U s _ _ #[.bl (g i j),H,I,rfl,q]
def CDiv(i j:Int):Prop:=0<j/\j<1073741824
def CPow(i j:Int):Prop:=0<=j/\j<=1000000/\i.natAbs<2^64
def gX:OpR X (binaryOp .Add) (rI0 λi j=>.int (i+j)):=opI0 λ_ _ _ _ _ _ _ q=>add_int q
def jN:OpR X (binaryOp .Sub) (rI0 λi j=>.int (i-j)):=opI0 λ_ _ _ _ _ _ _ q=>sub_int q
def Ep:OpR X (binaryOp .FloorDiv) (rI CDiv λi j=>.int (i/j)):=opI λi j _ _ _ _ _ hc q=>by
 have h1:(0:Int)<j:=hc.1;have h2:j<1073741824:=hc.2;exact floordiv_int #[] (by rw[Int.fdiv_eq_ediv_of_nonneg i #[]];exact q) (.inl (PyProof.noPylong_small #[]))
def gI:OpR X (binaryOp .Mod) (rI (λ_ j=>0<j) λi j=>.int (i%j)):=opI λi j _ _ _ _ _ hc q=>by
 have h1:(0:Int)<j:=hc;exact mod_int' #[] (by rw[Int.fmod_eq_emod_of_nonneg i #[]];exact q)
def Nh:OpR X (binaryOp .Pow) (rI CPow λi j=>.int (i^j.toNat)):=opI λ_ _ _ _ _ _ _ hc q=>pow_int_small hc.1 hc.2.1 hc.2.2 q
def unI{f:Value->Sem Value}{g:Int->Int}
  (d:∀(i:Int)(t:Tok)(s:Shared)(Q:Value->Shared->Prop)(E:Value->Shared->Prop),Q (.int (g i) s.toks) { s with toks:=s.toks+1 }->wpAny (model X.prog X.w) X.A (f (.int i t)) Q E s):
  UnR X f (rU λi=>.int (g i)):=by
 intro B s O H x v Q I J h;obtain⟨i,rfl,q⟩:=Eq.mp iA h;obtain⟨t,rfl⟩:=J;exact d i t s _ _ #[.int (g i),H,I.tok _,#[_,rfl],q]
def jW:UnR X (unaryOp .USub) (rU λi=>.int (-i)):=unI λ_ _ _ _ _ q=>neg_int q
end
noncomputable def scal:V->V->Bool
 | .non,.non=>true | .non,.int _=>true | .int _,.non=>true | .non,.bl _=>true | .bl _,.non=>true | .non,.str _=>true | .str _,.non=>true
 | .int _,.int _=>true | .bl _,.bl _=>true | .str _,.str _=>true | .byt _,.byt _=>true
 | .int _,.str _=>true | .str _,.int _=>true | .bl _,.str _=>true | .str _,.bl _=>true
 |_,_=>false
def rEq:R2:=λx y H Q=>scal x y=true/\Q (.bl (decide (x=y))) H
def iO{i j:Int}:scal (.int i) (.int j)=true:=rfl
def rNe:R2:=λx y H Q=>scal x y=true/\Q (.bl (!decide (x=y))) H
def jY8{i j:Int}:decide (V.int i=V.int j)=(i==j):=by
 rw[Bool.eq_iff_iff];simp
def dec_bl{i j:Bool}:decide (V.bl i=V.bl j)=(i==j):=by
 rw[Bool.eq_iff_iff];simp
def jY7{i j:Str}:decide (V.str i=V.str j)=(i==j):=by
 rw[Bool.eq_iff_iff];simp
def jY9{i j:Array UInt8}:decide (V.byt i=V.byt j)=(i.toList==j.toList):=by
 rw[Bool.eq_iff_iff];cases i;cases j;simp
section
variable{X:Cx}{a b c:Expr}{ta tb tc:TE}{pos:Pos}
def gJ{B:List (Addr×Obj)}{Q:VK}{k n:Bool}(I:Inv X B O H s)(q:Q (.bl k) H)(e:k=n):EP X B O Q (.bool n) s:=by
 subst e;exact#[.bl k,H,I,rfl,q]
def Eh:OpR X (compareOp .Eq) rEq:=by
 rintro B s O H x y v u Q I J m ⟨hs,q⟩;cases x with
 |non=>
  cases J;cases y with
  |non=>cases m;exact PySem.EqNone.eq_none_none (gJ I q (by simp))
  |bl j=>cases m;exact PySem.EqNone.eq_none_bool (gJ I q (by simp))
  |int j=>obtain⟨U,rfl⟩:=m;exact PySem.EqNone.eq_none_int (gJ I q (by simp))
  |str j=>obtain⟨U,rfl⟩:=m;exact PySem.EqNone.eq_none_str (gJ I q (by simp))
  |_=>exact absurd (show false=true from hs) bX
 |bl i=>
  cases J;cases y with
  |non=>cases m;exact PySem.EqNone.eq_bool_none (gJ I q (by simp))
  |bl j=>cases m;exact eq_bool (gJ I q dec_bl)
  |str j=>obtain⟨U,rfl⟩:=m;exact PySem.EqMixed.eq_bool_str (gJ I q (by simp))
  |_=>exact absurd (show false=true from hs) bX
 |int i=>
  obtain⟨t,rfl⟩:=J;cases y with
  |non=>cases m;exact PySem.EqNone.eq_int_none (gJ I q (by simp))
  |int j=>obtain⟨U,rfl⟩:=m;exact eq_int (gJ I q jY8)
  |str j=>obtain⟨U,rfl⟩:=m;exact PySem.EqMixed.eq_int_str (gJ I q (by simp))
  |_=>exact absurd (show false=true from hs) bX
 |str i=>
  obtain⟨t,rfl⟩:=J;cases y with
  |non=>cases m;exact PySem.EqNone.eq_str_none (gJ I q (by simp))
  |bl j=>cases m;exact PySem.EqMixed.eq_str_bool (gJ I q (by simp))
  |int j=>obtain⟨U,rfl⟩:=m;exact PySem.EqMixed.eq_str_int (gJ I q (by simp))
  |str j=>obtain⟨U,rfl⟩:=m;exact eq_str (gJ I q jY7)
  |_=>exact absurd (show false=true from hs) bX
 |byt i=>
  obtain⟨t,rfl⟩:=J;cases y with
  |byt j=>obtain⟨U,rfl⟩:=m;exact PySem.W.eq_bytes (gJ I q jY9)
  |_=>exact absurd (show false=true from hs) bX
 |_=>cases y<;>exact absurd (show false=true from hs) bX
def Ef:OpR X (compareOp .NotEq) rNe:=by
 rintro B s O H x y v u Q I J m ⟨hs,q⟩;cases x with
 |non=>
  cases J;cases y with
  |non=>cases m;exact PySem.EqNone.ne_none_none (gJ I q (by simp))
  |bl j=>cases m;exact PySem.EqNone.ne_none_bool (gJ I q (by simp))
  |int j=>obtain⟨U,rfl⟩:=m;exact PySem.EqNone.ne_none_int (gJ I q (by simp))
  |str j=>obtain⟨U,rfl⟩:=m;exact PySem.EqNone.ne_none_str (gJ I q (by simp))
  |_=>exact absurd (show false=true from hs) bX
 |bl i=>
  cases J;cases y with
  |non=>cases m;exact PySem.EqNone.ne_bool_none (gJ I q (by simp))
  |bl j=>cases m;exact ne_bool (gJ I q (congrArg not dec_bl))
  |str j=>obtain⟨U,rfl⟩:=m;exact PySem.EqMixed.ne_bool_str (gJ I q (by simp))
  |_=>exact absurd (show false=true from hs) bX
 |int i=>
  obtain⟨t,rfl⟩:=J;cases y with
  |non=>cases m;exact PySem.EqNone.ne_int_none (gJ I q (by simp))
  |int j=>obtain⟨U,rfl⟩:=m;exact ne_int (gJ I q (congrArg not jY8))
  |str j=>obtain⟨U,rfl⟩:=m;exact PySem.EqMixed.ne_int_str (gJ I q (by simp))
  |_=>exact absurd (show false=true from hs) bX
 |str i=>
  obtain⟨t,rfl⟩:=J;cases y with
  |non=>cases m;exact PySem.EqNone.ne_str_none (gJ I q (by simp))
  |bl j=>cases m;exact PySem.EqMixed.ne_str_bool (gJ I q (by simp))
  |int j=>obtain⟨U,rfl⟩:=m;exact PySem.EqMixed.ne_str_int (gJ I q (by simp))
  |str j=>obtain⟨U,rfl⟩:=m;exact ne_str (gJ I q (congrArg not jY7))
  |_=>exact absurd (show false=true from hs) bX
 |byt i=>
  obtain⟨t,rfl⟩:=J;cases y with
  |byt j=>obtain⟨U,rfl⟩:=m;exact PySem.W.ne_bytes (gJ I q (congrArg not jY9))
  |_=>exact absurd (show false=true from hs) bX
 |_=>cases y<;>exact absurd (show false=true from hs) bX
def kS:OpR X (compareOp .Lt) (rI0 λi j=>.bl (decide (i<j))):=opB0 λ_ _ _ _ _ _ _ q=>lt_int q
def Eg:OpR X (compareOp .Gt) (rI0 λi j=>.bl (decide (j<i))):=opB0 λ_ _ _ _ _ _ _ q=>gt_int q
def op_ge:OpR X (compareOp .GtE) (rI0 λi j=>.bl (decide (j<=i))):=opB0 λ_ _ _ _ _ _ _ q=>ge_int q
def xX:OpR X (compareOp .Is) (λx y H Q=>y=.non/\Q (.bl (decide (x=.non))) H):=by
 rintro B s O H x y v u Q I J m ⟨rfl,q⟩;cases m;refine is_none_gen (gJ I q ?_);cases x<;>first
  | (cases J;rfl)
  | (obtain⟨t,rfl⟩:=J;rfl)
def jYm:OpR X (compareOp .IsNot) (λx y H Q=>y=.non/\Q (.bl (!decide (x=.non))) H):=by
 rintro B s O H x y v u Q I J m ⟨rfl,q⟩;cases m;refine isnot_none_gen (gJ I q ?_);cases x<;>first
  | (cases J;rfl)
  | (obtain⟨t,rfl⟩:=J;rfl)
def dF(b:Expr)(h:op≠.In:=by decide)(h2:op≠.NotIn:=by decide):behindInMarks op b=false:=by
 have e1:(op==CmpOp.In)=false:=by cases op<;>first |rfl |exact absurd rfl h
 have C:(op==CmpOp.NotIn)=false:=by cases op<;>first |rfl |exact absurd rfl h2
 cases b<;>simp [behindInMarks,e1,C]
def oK{r:R2}(ho:OpR X (compareOp op) r)(ha:PE X a ta)(hb:PE X b tb)(hm:behindInMarks op b=false):PE X (.Compare a [op] [b] pos) (tOp r ta tb):=by
 intro B s O H Q I h;exact wpAny_Compare1 (binT ha hb I h λv u d x y j t J m q=>ho B d O j x y v u Q t J m q) hm
def dD(t:TE):TT:=λO H Q=>t O H λx Z=>exB x λk=>Q k Z
def cV{r:R2}(ho:OpR X (compareOp op) r)(ha:PE X a ta)(hb:PE X b tb)(hm:behindInMarks op b=false):PT X (.Compare a [op] [b] pos) (dD (tOp r ta tb)):=by
 intro B s O H Q I h;refine wpAny_isTrue_Compare1 (thE (ha B s O H _ I h) λv M x U P Z q1=>thE (hb B M O U _ P q1) λu d y j t g p=>
  thn (ho B d O j x y v u _ t Z g p) λc N#[z,Y,i,f,q]=>?_) hm
 obtain⟨k,e,q⟩:=Eq.mp lB q;subst e;cases f;exact wpAny_truthy_bool #[Y,i,q]
def TruV(K:aR)(x:V)(H:Hp)(k:Bool):Prop:=
 match x with
 | .non=>k=false
 | .bl b=>k=b
 | .int i=>k=(i !=0)
 | .str y=>y.length<=sizeLine/\k=((y.length:Int) !=0)
 | .byt y=>y.size<=sizeLine/\k=((y.size:Int) !=0)
 | .ref p=>(∃xs,SqL K H p xs/\k= !xs.isEmpty)∨(∃xs,SqT K H p xs/\k= !xs.isEmpty)∨∃kvs,H p=some (.dK kvs)/\k= !kvs.isEmpty
 |_=>False
def jX0{kvs:List (d×V)}{vs:List (d×Value)}(r:KV kvs vs):(!vs.isEmpty)= !kvs.isEmpty:=by
 cases r<;>rfl
def Pu{G:List Value}(r:fF xs G):(!G.toArray.isEmpty)= !xs.isEmpty:=by
 cases r<;>simp
def Ni:(sizeLine:Nat)<2^63:=by rw[sizeLine_eq];decide
def tru_ok:TruR X (λx H Q=>∃k,TruV X.K x H k/\Q k H):=by
 rintro B s O H x v Q I J ⟨k,e,q⟩;have S:=Ni;have hs:sizeLine=16777216:=sizeLine_eq;cases x with
 |non=>
  cases J;have g:k=false:=e;subst g;exact truthy_none #[H,I,q]
 |bl b=>
  cases J;have g:k=b:=e;subst g;exact wpAny_truthy_bool #[H,I,q]
 |int i=>
  obtain⟨t,rfl⟩:=J;have g:k=(i !=0):=e;subst g;exact PySem.P.truthy_int #[H,I,q]
 |str y=>
  obtain⟨t,rfl⟩:=J;obtain⟨hy,g⟩:y.length<=sizeLine/\k=((y.length:Int) !=0):=e;subst g;exact PySem.P.truthy_str #[] #[H,I.tok _,q]
 |byt y=>
  obtain⟨t,rfl⟩:=J;obtain⟨hy,g⟩:y.size<=sizeLine/\k=((y.size:Int) !=0):=e;subst g;exact PySem.W.truthy_bytes #[] #[H,I.tok _,q]
 |ref p=>
  cases J;have g:(∃T,SqL X.K H p T/\k= !T.isEmpty)∨(∃T,SqT X.K H p T/\k= !T.isEmpty)∨∃N,H p=some (.dK N)/\k= !N.isEmpty:=e;rcases g with⟨T,hx,g⟩|⟨T,hx,g⟩|⟨N,hx,g⟩
  .subst g;obtain⟨G,r,d,f⟩:=I.list hx;have U:=r.length;exact wpAny_truthy_list d.isList (by simp only[bG];lia) #[H,I.tok _,by rw[Pu r];exact q]
  .subst g;obtain⟨G,r,d,f⟩:=I.tuple hx;have U:=r.length;exact truthy_tuple d (by simp only[bG];lia) #[H,I.tok _,by rw[Pu r];exact q]
  .subst g;obtain⟨f,l,j,r,m⟩:N.length<=sizeLine/\(p==sysModules)=false/\∃j,KV N j/\s.heap.DictOf (jT X.prog X.w) p j:=I.hok p _ hx;have U:N.length=j.length:=Paired.length r;exact wpAny_truthy_dict l m #[] #[H,I.tok _,by rw[jX0 r];exact q]
 |_=>exact(show False from e).elim
def jV4(ha:PE X a ta)(D:∀f,isTrue a X.env f=(do let v ←f;standAt a.pos;holding [v] (truthy v))):
  PT X a (λO H Q=>ta O H λx Z=>∃k,TruV X.K x Z k/\Q k Z):=by
 intro B s O H Q I h;exact isTrue_plain (thE (ha B s O H _ I h) λv M x U P d q1=>tru_ok B M O U x v Q P d q1) (D _)
def wW{x:V}(r:fF [x] us):∃u,us=[u]/\fO x u:=by
 cases r with
 |cons r1 r2=>cases r2;exact#[_,rfl,r1]
def vals2{x y:V}(r:fF [x,y] us):∃u F,us=[u,F]/\fO x u/\fO y F:=by
 cases r with
 |cons r1 r2=>
  cases r2 with
  |cons r3 r4=>cases r4;exact#[_,_,rfl,r1,r3]
def yL:wX X (.builtin "abs") (λT H Q=>∃i,T=[.int i]/\Q (.int (if i<0 then -i else i)) H):=by
 rintro B s O H T g Q I r ⟨i,rfl,q⟩;obtain⟨u,rfl,t,rfl⟩:=wW r;exact call_abs_int λu tk=>#[.int (if i<0 then -i else i),H,I.tok _,#[_,rfl],q]
def Ty(hc:X.calm=true):wX X (.builtin "max") (λT H Q=>∃i j,T=[.int i,.int j]/\Q (.int (if j>i then j else i)) H):=by
 rintro B s O H T g Q I r ⟨i,j,rfl,q⟩;obtain⟨u,F,rfl,⟨t,rfl⟩,⟨U,rfl⟩⟩:=vals2 r;refine max_two_ints (I.ok.hd hc) λY tk k=>#[_,H,I.kept k,?_,q];by_cases Z:j>i
 .rw[aK Z,aK Z];exact#[_,rfl]
 .rw[aF Z,aF Z];exact#[_,rfl]
def Tu(hc:X.calm=true):wX X (.builtin "min") (λT H Q=>∃i j,T=[.int i,.int j]/\Q (.int (if j<i then j else i)) H):=by
 rintro B s O H T g Q I r ⟨i,j,rfl,q⟩;obtain⟨u,F,rfl,⟨t,rfl⟩,⟨U,rfl⟩⟩:=vals2 r;refine min_two_ints (I.ok.hd hc) λY tk k=>#[_,H,I.kept k,?_,q];by_cases Z:j<i
 .rw[aK Z,aK Z];exact#[_,rfl]
 .rw[aF Z,aF Z];exact#[_,rfl]
end
structure ObjM(h:Heap)(x dx C:Addr)(mA:Str->Option Value):Prop where
 obj:h.get? x=some (PySem.W.instObj C dx)
 ns:h.Ns1 dx mA
 ne:dx≠x
def jVZ{w:Addr}{i:Str->Option Value}(n:h.Ns1 w i):∃D,h.get? w=some D/\∀b,PySem.W.lookIn b D=some (i b):=by
 obtain⟨o,J,U,ho,hd,hk,_,hm⟩:=n;refine#[o,ho,λb=>?_];have e:=hm b;unfold nsFind findBy at e;rw[←Array.find?_toList]at e;unfold PySem.W.lookIn;rw[hd];dsimp only;split
 .rename_i y q
  rw[q]at e;exact congrArg some e
 .rename_i q
  rw[q]at e;have a:J.toList.any (·.refKey)=false:=by
   rw[List.any_eq_false];intro y hy;obtain⟨z,t,c⟩:=hk y (Array.mem_toList_iff.mp hy);simp [DictEntry.refKey,c]
  have f:¬J.toList.any (·.refKey)=true:=by rw[a];exact bX
  rw[aF f];exact congrArg some e
def ObjM.look{x w:Addr}{i:Str->Option Value}(I:ObjM h x w C i):∃D,PySem.W.InstAt h x (PySem.W.instObj C w) C (some D)/\∀b,PySem.W.lookIn b D=some (i b):=
 let⟨D,ho,hl⟩:=jVZ I.ns
 #[D,#[I.obj,rfl,rfl,ho],hl]
section
variable{prog:Program}{w:World}{A:Around}{E:Value->Shared->Prop}{s:Shared}{K:aR}{x dx C f:Addr}{mA:Str->Option Value}{name:Str}{v:Value}
def get_map{b:Bool}(X:K.In s.heap)(I:ObjM s.heap x dx C mA)(hg:PySem.W.plainGet K C name=true)(H:PySem.W.hasDictIn K C=true)
  (ha:PySem.W.findIn K (.ref C) name=some none) (hv:mA name=some v) (a:PySem.W.handedIn v=true) (h:Q v { s with toks:=s.toks+1 }):
  wpAny (model prog w) A (getAttr (.ref x) name b) Q E s:=by
 obtain⟨D,J,S⟩:=I.look;exact PySem.W.get_value X J (PySem.W.plainGet_of hg).1 (PySem.W.findObj_own H ha rfl (by rw[S,hv])) a h
def jUi{Q:Value×List Value->Shared->Prop}(X:K.In s.heap)(I:ObjM s.heap x dx C mA)(hg:PySem.W.plainGet K C name=true)
  (hf:PySem.W.findIn K (.ref C) name=some (some (.ref f))) (y:PySem.W.isFn K (.ref f)=true) (hv:mA name=none) (h:Q (.ref f,[.ref x]) s):
  wpAny (model prog w) A (getMethod (.ref x) name pl) Q E s:=by
 obtain⟨D,J,S⟩:=I.look;exact PySem.W.method_fn X J (PySem.W.plainGet_of hg).1 (PySem.W.plainGet_of hg).2 hf (beq_iff_eq.mp y) (by show(PySem.W.lookIn name D).map (·.isSome)=some false;rw[S,hv];rfl) h
def set_map{ns:List Str}{Q:Unit->Shared->Prop}(X:K.In s.heap)(I:ObjM s.heap x dx C mA)
  (hs:PySem.W.findIn K (.ref C) "__setattr__"=some (some (.builtin "object.__setattr__"))) (hp:PySem.W.plainOver K C=true) (l:PySem.W.takerIn K C name=some none) (H:PySem.W.hasDictIn K C=true)
  (hw:PySem.Within mA ns) (hsz:ns.length<=sizeLine)
  (h:∀Y,ObjM Y x dx C (λy=>if y=name then some v else mA y)->Heap.SameBut dx s.heap Y->Q () { s with heap:=Y,toks:=s.toks+2 }):
  wpAny (model prog w) A (setAttr (.ref x) name v) Q E s:=by
 obtain⟨D,J,S⟩:=I.look;refine PySem.W.set_plain X J hs (PySem.W.osa_open (s:={ s with toks:=s.toks+1 }) (r:=none) X J hp l λb=>?_);obtain⟨m,hc,t⟩:=PySem.W.any_some H;have hx:s.heap.get? x=some #[.ref C,some dx,.plain,(List.toArray [])]:=I.obj;refine aD (aT (aD (aD (wpAny_loadPart hx (aD (PySem.W.Looks.here (s:={ s with toks:=s.toks+1 }) (PySem.W.looks_clsIn X hc) ?_))))));rw[t];refine aT (a:=some dx) (aD (aT (aD ?_)));refine wpAny_nsSet1 (s:={ s with toks:=s.toks+1 }) I.ns λY c z=>?_;obtain⟨d,j,k,e,g,i⟩:=c.count (PySem.Within.cons name v hw);refine aD (wpAny_lookBehind e (by rw[g];exact pastItsLine_dict (dE i (by rw[cP];lia))) ?_);exact aT (h _ #[(z.2 _ (Ne.symm I.ne)).trans I.obj,c,I.ne] z)
def jUQ{R:Result->Shared->Prop}{vs:List Value}{i:List (Str×Value)}(X:K.In s.heap)(hm:PySem.W.makesIn K C=true)
  (hi:PySem.W.findIn K (.ref C) "__init__"=some (some (.ref f))) (hf:PySem.W.typeIn K (.ref f)=some (.type "function"))
  (h:codeAny (model prog w) (A.under (.builtin "type.__call__" #[.ref C::vs,i])) (.call (.ref f) #[.ref (s.heap.objs.size+1)::vs,i]) (PySem.W.InitBack (s.heap.objs.size+1) R)
   { s with heap:=(s.heap.push PySem.W.emptyDict).push (PySem.W.instObj C s.heap.objs.size) }):
  codeAny (model prog w) A (.call (.ref C) #[vs,i]) R s:=by
 obtain⟨H,g,d,t,os⟩:=s;exact PySem.W.make_core (PySem.W.makes_of X hm) (PySem.W.looks_findIn X hi) (λself=>PySem.W.bind_fn X self hf) (.inl rfl) h
end
noncomputable def gY(f:Str)(v:V):List (Str×V)->List (Str×V)
 | []=>[(f,v)]
 | (g,x)::r=>if g=f then(g,v)::r else(g,x)::gY f v r
def lE(f g:Str)(v:V):∀fs:List (Str×V),(gY f v fs).lookup g=if g=f then some v else fs.lookup g
 | []=>by
  show List.lookup g [(f,v)]=_;by_cases h:g=f
  .have hb:(g==f)=true:=beq_iff_eq.mpr h;simp only[List.lookup,hb,aK h]
  .have hb:(g==f)=false:=beq_eq_false_iff_ne.mpr h;simp only[List.lookup,hb,aF h]
 | (k,x)::r=>by
  have m:=lE f g v r;rw[show gY f v ((k,x)::r)=(if k=f then(k,v)::r else(k,x)::gY f v r)from rfl];by_cases hk:k=f
  .rw[aK hk];by_cases h:g=k
   .have hb:(g==k)=true:=beq_iff_eq.mpr h;simp only[List.lookup,hb,aK (h.trans hk)]
   .have hb:(g==k)=false:=beq_eq_false_iff_ne.mpr h;simp only[List.lookup,hb,aF (λe:g=f=>h (e.trans hk.symm))]
  .rw[aF hk];by_cases h:g=k
   .have hb:(g==k)=true:=beq_iff_eq.mpr h;simp only[List.lookup,hb,aF (λe:g=f=>hk (h.symm.trans e))]
   .have hb:(g==k)=false:=beq_eq_false_iff_ne.mpr h;simp only[List.lookup,hb];exact m
def Jq(f:Str)(v:V):∀fs:List (Str×V),f∈(gY f v fs).map (·.1)/\∀g,g∈fs.map (·.1)->g∈(gY f v fs).map (·.1)
 | []=>#[by simp [gY],λg h=>by simp at h]
 | (k,x)::r=>by
  obtain⟨S,i⟩:=Jq f v r;rw[show gY f v ((k,x)::r)=(if k=f then(k,v)::r else(k,x)::gY f v r)from rfl];by_cases hk:k=f
  .rw[aK hk];subst hk;exact#[by simp,λg h=>by simpa using h]
  .rw[aF hk];refine#[?_,λg h=>?_]
   .rw[cA];exact bI _ S
   .rw[cA]at h⊢;rcases eK.mp h with e |e
    .exact eK.mpr (.inl e)
    .exact bI _ (i g e)
def Lb(f:Str)(v:V):∀fs:List (Str×V),(gY f v fs).length<=fs.length+1
 | []=>by simp [gY]
 | (k,x)::r=>by
  have m:=Lb f v r;rw[show gY f v ((k,x)::r)=(if k=f then(k,v)::r else(k,x)::gY f v r)from rfl];by_cases hk:k=f
  .rw[aK hk,cP,cP];lia
  .rw[aF hk,cP,cP];lia
def Ay.some_of{o:Option Value}(r:Ay (some v) o):∃u,o=some u/\fO v u:=by
 cases o with
 |none=>exact(show False from r).elim
 |some u=>exact#[u,rfl,r]
def Ay.none_of{o:Option Value}(r:Ay none o):o=none:=by
 cases o with
 |none=>rfl
 |some u=>exact(show False from r).elim
def jVd(r:fO v u):PySem.W.handedIn u=true:=by
 cases v with
 |non=>cases(show u=Value.none from r);rfl
 |bl b=>cases(show u=Value.bool b from r);rfl
 |int i=>obtain⟨t,e⟩:=(show ∃t,u=Value.int i t from r);cases e;rfl
 |str x=>obtain⟨t,e⟩:=(show ∃t,u=Value.str x t from r);cases e;rfl
 |byt b=>obtain⟨t,e⟩:=(show ∃t,u=Value.bytes b t from r);cases e;rfl
 |flt b=>obtain⟨t,e⟩:=(show ∃t,u=Value.float b t from r);cases e;rfl
 |ref a=>cases(show u=Value.ref a from r);rfl
 |ty n=>cases(show u=Value.type n from r);rfl
section
variable{P:Program}{w:World}{H H':Hp}{h h':Heap}{a C dx:Addr}{fs fs':List (Str×V)}
def Wq(hok:HOk P w H h)(e:H a=some (.ins C dx fs)):∃i,ObjM h a dx C i/\(∀f,Ay (fs.lookup f) (i f))/\PySem.Within i (fs.map (·.1))/\fs.length<=1000/\H dx=some (.own a):=by
 obtain⟨d,z,ne,ob,i,n,r,q⟩:=(show jV P w H h a (.ins C dx fs)from hok a _ e);exact#[i,#[ob,n,ne],r,q,z,d]
end
structure Cls(K:aR)(C:Addr):Prop where
 pg:PySem.W.plainGet K C Str.empty=true
 hd:PySem.W.hasDictIn K C=true
 po:PySem.W.plainOver K C=true
 sa:PySem.W.findIn K (.ref C) "__setattr__"=some (some (.builtin "object.__setattr__"))
def Cls.get{K:aR}{C:Addr}(c:Cls K C)(f:Str):PySem.W.plainGet K C f=true:=c.pg
def pJ(K:aR)(C:Addr)(f:Str):Prop:=PySem.W.findIn K (.ref C) f=some none
def pJ.taker{f:Str}(n:pJ K C f):PySem.W.takerIn K C f=some none:=by
 unfold PySem.W.takerIn;rw[show PySem.W.findIn K (.ref C) f=some none from n];rfl
structure Meth(K:aR)(C:Addr)(m:Str)(f:Addr):Prop where
 at_:PySem.W.findIn K (.ref C) m=some (some (.ref f))
 fn:PySem.W.isFn K (.ref f)=true
 kp:PySem.W.keepIn K (.ref f)=true
section
variable{X:Cx}{pins:List (Addr×Obj)}{σ:St}{H:Hp}{s:Shared}{a C dx:Addr}{fs:List (Str×V)}{f:Str}{v:V}{A:Around}{E:Value->Shared->Prop}
def jX1{b:Bool}(I:Inv X pins σ H s)(e:H a=some (.ins C dx fs))(c:Cls X.K C)(n:pJ X.K C f)(l:fs.lookup f=some v)
  (h:∀u R,Inv X pins σ H R->fO v u->Q u R):wpAny (model X.prog X.w) A (getAttr (.ref a) f b) Q E s:=by
 obtain⟨i,O,r,_,_,_⟩:=Wq I.hok e;obtain⟨u,hu,d⟩:=Ay.some_of (v:=v) (o:=i f) (by rw[←l];exact r f);exact get_map I.kIn O (c.get f) c.hd n hu (jVd d) (h u _ (I.tok _) d)
def Px{m:Str}{g:Addr}{Q:Value×List Value->Shared->Prop}(I:Inv X pins σ H s)(e:H a=some (.ins C dx fs))(c:Cls X.K C)(k:Meth X.K C m g)(l:fs.lookup m=none)
  (h:Q (.ref g,[.ref a]) s):wpAny (model X.prog X.w) A (getMethod (.ref a) m pl) Q E s:=by
 obtain⟨i,O,r,_,_,_⟩:=Wq I.hok e;have hn:i m=none:=Ay.none_of (by rw[←l];exact r m);exact jUi I.kIn O (c.get m) k.at_ k.fn hn h
def jZr{y:V}{Q:Unit->Shared->Prop}(I:Inv X pins σ H s)(e:H a=some (.ins C dx fs))(c:Cls X.K C)(n:pJ X.K C f)(S:fs.length<1000)(m:fO y u)
  (h:∀R,Inv X pins σ (upd H a (.ins C dx (gY f y fs))) R->Q () R):wpAny (model X.prog X.w) A (setAttr (.ref a) f u) Q E s:=by
 obtain⟨i,O,r,j,_,ho⟩:=Wq I.hok e;have k:(fs.map (·.1)).length<=sizeLine:=by rw[aA,sizeLine_eq];lia
 refine set_map I.kIn O c.sa c.po n.taker c.hd j k λY d sb=>h _ ?_;have hd:∃o,Y.get? dx=some o:=let⟨o,_,_,e',_⟩:=d.ns;#[o,e'];refine I.write (x:=a) (e:=dx) (by rw[e];exact True.intro) (.inr ho) (λb q hb z=>(sb.2 b hb).trans z) hd ?_;refine#[by rw[bZ O.ne];exact ho,?_,O.ne,d.obj,_,d.ns,λg=>?_,λg hg=>?_]
 .have:=Lb f y fs;lia
 .show Ay ((gY f y fs).lookup g) (if g=f then some u else i g);rw[lE];by_cases q:g=f
  .rw[aK q,aK q];exact m
  .rw[aF q,aF q];exact r g
 .by_cases q:g=f
  .rw[q];exact(Jq f y fs).1
  .refine(Jq f y fs).2 g (j g λz=>hg ?_);show(if g=f then some u else i g)=none;rw[aF q];exact z
def Inv.made(I:Inv X pins σ H s):Inv X pins σ (upd (upd H s.heap.objs.size (.own (s.heap.objs.size+1))) (s.heap.objs.size+1) (.ins C s.heap.objs.size []))
  { s with heap:=(s.heap.push PySem.W.emptyDict).push (PySem.W.instObj C s.heap.objs.size) }:=by
 have e1:(s.heap.push PySem.W.emptyDict).get? s.heap.objs.size=some PySem.W.emptyDict:=cE s.heap rfl;have c:((s.heap.push PySem.W.emptyDict).push (PySem.W.instObj C s.heap.objs.size)).get? (s.heap.objs.size+1)=some (PySem.W.instObj C s.heap.objs.size):=by
  have:=cE (s.heap.push PySem.W.emptyDict) (o:=PySem.W.instObj C s.heap.objs.size) rfl;rwa [Heap.size_push]at this
 have d:(s.heap.push PySem.W.emptyDict).Ns s.heap.objs.size (λ_=>none):=#[PySem.W.emptyDict,(List.toArray []),_,e1,rfl,(λe D=>absurd D (by simp)),λ_=>rfl];have P:=I.laid (a:=s.heap.objs.size) (o:=.own (s.heap.objs.size+1)) (h':=s.heap.push PySem.W.emptyDict) (t':=s.toks) (λb u q=>bA _ q) (aP _) #[_,e1];refine P.laid (a:=s.heap.objs.size+1) (o:=.ins C s.heap.objs.size []) (t':=s.toks) (λb u q=>bA _ q) (Nat.le_of_eq (Heap.size_push _ _)) ?_;have ne:s.heap.objs.size≠s.heap.objs.size+1:=bL (fX _);refine#[by rw[bZ ne,aL],dW _,ne,c,λ_=>none,(Heap.Ns1.of_empty d).at λo q=>bA _ q,λ_=>True.intro,λy hy=>absurd rfl hy]
def attr_of{prog:Program}{w:World}{env:Env}{f:Str}{s:Shared}(hb:attributeBase e f env (eval e env)=eval e env)
  (h:wpAny (model prog w) A (eval e env) (λo D=>wpAny (model prog w) A (getAttr o f true) Q E D) E s):wpAny (model prog w) A (eval (.Attribute e f pos) env) Q E s:=
 Attribute_any_ h (by rw[arm_eval_Attribute,hb])
end
def gW(K:aR)(c:TE)(f:Str):TE:=λO H Q=>c O H λx U=>exR x λa=>∃C w fs v,U a=some (.ins C w fs)/\Cls K C/\pJ K C f/\fs.lookup f=some v/\Q v U
def xK(K:aR)(c tv:TE)(f:Str):TS:=λD O H=>tv O H λy U=>c O U λx j=>exR x λa=>∃C w fs,j a=some (.ins C w fs)/\Cls K C/\pJ K C f/\fs.length<1000/\
 D.nx O (upd j a (.ins C w (gY f y fs)))
section
variable{X:Cx}{o e value:Expr}{f:Str}{pos pos' tpos:Pos}{ta tv:TE}
def gQ(D:PE X e ta)(hb:attributeBase e f X.env (eval e X.env)=eval e X.env):PE X (.Attribute e f pos) (gW X.K ta f):=by
 intro B s O H Q I h;refine attr_of hb (thE (D B s O H _ I h) λu M x U P J q0=>?_);obtain⟨a,ex,C,w,fs,v,R,c,n,l,q⟩:=Eq.mp iZ q0;subst ex;obtain rfl:u=Value.ref a:=J;exact jX1 P R c n l λg d t b=>#[v,U,t,b,q]
def xV(ha:PE X o ta)(hv:PE X value tv)(hs:swapsWith value (some (.Attribute o f pos')) pos.line X.env=pure false):PS X (.Assign [.Attribute o f pos'] value pos) (xK X.K ta tv f):=by
 intro B s O H D I h;refine plainObj_wpAny_Assign_Attribute (thE (hv B s O H _ I h) λu M y U P m q=>thE (ha B M O U _ P q) λG d x j t J q0=>?_) hs;obtain⟨a,ex,C,w,fs,R,c,n,l,p⟩:=Eq.mp iZ q0;subst ex;obtain rfl:G=Value.ref a:=J;exact jZr t R c n l m λN z=>#[O,_,z,p]
end
structure mK(k:Nat)(A:Around):Prop where
 hd:A.handled=none
 dp:A.depth+3*k+5<recursionLimit
 un:A.units+16*k+200<cLine
def mK.mono(r:mK k A)(h:j<=k):mK j A:=#[r.hd,by have:=r.dp;lia,by have:=r.un;lia]
def mK.deeper(r:mK (k+1) A)(env:Env):mK k (A.deeper env):=
 #[r.hd,by have:=r.dp;show A.depth+1+3*k+5<_;lia,by have:=r.un;show A.units+3+16*k+200<_;lia]
def jXp{i:List (Str×Value)}:(A.under (.builtin "type.__call__" #[.ref C::us,i])).depth=A.depth+1:=by
 first |rfl |simp [Around.under,Code.weight,Code.isCreation,Code.isGuard,Code.isCaller,Code.frames,Code.isFrame,guardIds]
def jXo{i:List (Str×Value)}:(A.under (.builtin "type.__call__" #[.ref C::us,i])).units=A.units+1:=by
 first |rfl |simp [Around.under,Code.cUnits,Code.frames,Code.isFrame]
def mK.make(r:mK (k+1) A)(C:Addr)(us:List Value)(i:List (Str×Value)):mK k (A.under (.builtin "type.__call__" #[.ref C::us,i])):=
 #[r.hd,by have:=r.dp;rw[jXp];lia,by have:=r.un;rw[jXo];lia]
def mK.depth(r:mK k A):A.depth<recursionLimit:=by have:=r.dp;lia
def mK.units(r:mK k A):A.units+64<cLine:=by have:=r.un;lia
def bE:TA:=λ_ H Q=>Q [] H
def aH(c:TE)(a:TA):TA:=λO H Q=>c O H λx U=>a O U λxs j=>Q (x::xs) j
section
variable{X:Cx}{e:Expr}{es:List Expr}{te:TE}{t:TA}{pos:Pos}
def aO:PA X [] bE:=λ_ _ _ _ H Q I h=>Calls.spliced_nil #[[],H,I,.nil,h]
def aB(ha:PE X e te)(hr:PA X es t)(hs:starEach (e::es) X.env=(false,eval e X.env)::starEach es X.env:=by rfl):PA X (e::es) (aH te t):=by
 intro pos B s O H Q I h;rw[hs];show wpAny _ _ (spliced ((false,eval e X.env)::backTo pos (starEach es X.env))) _ _ s;refine Calls.spliced_cons (thE (ha B s O H _ I h) λu M x U P Z q1=>?_);exact thF (hr pos B M O U _ P q1) λg d T j a Y p=>#[x::T,j,a,.cons Z Y,p]
def iX(t:TA):TE:=λO H Q=>t O H λxs U=>xs.length<=sizeLine/\∀p,U p=none->Q (.ref p) (upd U p (.tup xs))
def nO(t:TA):TE:=λO H Q=>t O H λxs U=>xs.length<=sizeLine/\∀p,U p=none->Q (.ref p) (upd U p (.lst xs))
def fU{x1}(h:PA X es t):PE X (.Tuple es x1 pos) (iX t):=by
 intro B s O H Q I F;refine wpAny_Tuple_spliced (thn (h pos B s O H _ I F) λg M#[T,U,P,r,z,q]=>#[by rw[←r.length];exact z,?_]);have hf:U M.heap.objs.size=none:=P.hok.fresh (aP _);refine#[.ref M.heap.objs.size,upd U M.heap.objs.size (.tup T),P.laid (t':=M.toks) (λb u e=>bA _ e) (aP _) ?_,rfl,q _ hf];exact#[z,g,r,#[_,cE _ rfl,rfl,_,rfl]]
def kD(h:PA X es t):PE X (.List es pos) (nO t):=by
 intro B s O H Q I F;refine wpAny_List_spliced (thn (h pos B s O H _ I F) λg M#[T,U,P,r,z,q]=>#[by rw[←r.length];exact z,?_]);have hf:U M.heap.objs.size=none:=P.hok.fresh (aP _);refine#[.ref M.heap.objs.size,upd U M.heap.objs.size (.lst T),P.laid (t':=M.toks) (λb u e=>bA _ e) (aP _) ?_,rfl,q _ hf];exact#[z,g,0,r,cE _ rfl]
end
noncomputable abbrev Sp:=List V->Hp->VK->XK->Prop
noncomputable abbrev CXT:=List Env->Hp->Shared->XK->Value->Shared->Prop
structure Env0(P:Program)(w:World)(K:aR)(mg:Str->Option Value)(base:Heap)(A:Around)(outer:List Env)(s:Shared)(H:Hp):Prop where
 frames:A.frames=some outer
 mod:Mod K mg base
 bs:∀b o,base.get? b=some o->s.heap.get? b=some o/\H b=none
 bsz:base.objs.size<=s.heap.objs.size
 funs:s.heap.FunFrames base outer
 frf:∀b∈frs outer,H b=none
 hok:HOk P w H s.heap
 bare:AllBare s.gens
def CE(outer:List Env)(P:Program)(w:World)(H:Hp)(s:Shared)(Q:VK)(u:Value)(R:Shared):Prop:=
 ∃v Z,R.os=s.os/\AllBare R.gens/\Un (frs outer) [] H Z s.heap R.heap/\HOk P w Z R.heap/\fO v u/\Q v Z
def CR(CX:CXT)(outer:List Env)(P:Program)(w:World)(H:Hp)(s:Shared)(Q:VK)(E:XK)(r:Result)(R:Shared):Prop:=
 match r with
 | .ok (.ret u)=>CE outer P w H s Q u R
 | .ok _=>False
 | .error e=>CX outer H s E e R
structure xN(P:Program)(w:World)(K:aR)(mg:Str->Option Value)(base:Heap)(CX:CXT)(k:Nat)(f:Addr)(fd:FuncData)(ps:List Str)(sp:Sp):Prop where
 len:∀vs H Q E,sp vs H Q E->vs.length=ps.length
 run:∀(A:Around)(outer:List Env)(s:Shared)(H:Hp)(args:Args)(us:List Value)(vs:List V)(Q:VK)(E:XK),mK k A->Env0 P w K mg base A outer s H->BindsTo s fd args (ps.zip us)->fF vs us->sp vs H Q E->
  codeAny (model P w) A (.call (.ref f) args) (CR CX outer P w H s Q E) s
def Env0.make{w:World}{outer:List Env}(e:Env0 P w K mg base A outer s H)(C:Addr)(us:List Value)(i:List (Str×Value)):
  Env0 P w K mg base (A.under (.builtin "type.__call__" #[.ref C::us,i])) outer s H:=#[by first |exact e.frames |(simpa [Around.under,Code.envs,Code.isFrame,pushEnvs]using e.frames),e.mod,e.bs,e.bsz,e.funs,e.frf,e.hok,e.bare]
section
variable{X:Cx}{pins:List (Addr×Obj)}{σ:St}{H:Hp}{s s':Shared}
def Inv.env0(I:Inv X pins σ H s):Env0 X.prog X.w X.K X.mg X.base X.A X.stack s H:=
 #[I.ok.frames,I.ok.mod,I.bs,dE I.ok.bsz I.sz,I.stack,I.stkFree,I.hok,I.bare]
def Inv.after{Q:VK}(I:Inv X pins σ H s)(h:CE X.stack X.prog X.w H s Q u s'):EP X pins σ Q u s':=by
 obtain⟨v,Z,os,bare,un,hok,r,q⟩:=h;obtain⟨a,g,d,t,f⟩:=s';obtain rfl:f=s.os:=os;exact#[v,Z,I.call (h':=a) (g':=g) (d':=d) (t':=t) (ch:=[]) un hok bare (λb z=>absurd z (by simp)),r,q]
end
def cC(sp:Sp)(b:List V)(E:XK)(t:TA):TE:=λO H Q=>t O H λvs U=>sp (vs++b) U Q E
def eZ(C:Addr)(m:Str)(sp:Sp)(b:List V)(E:XK)(c:TE)(t:TA):TE:=λO H Q=>c O H λx U=>exR x λa=>∃w fs,U a=some (.ins C w fs)/\fs.lookup m=none/\
 t O U λvs j=>sp (x::(vs++b)) j Q E
def Bb(C:Addr)(sp:Sp)(b:List V)(E:XK)(t:TA):TE:=λO H Q=>t O H λvs U=>∀x w,U x=none->U w=none->w≠x->
 sp (.ref x::(vs++b)) (upd (upd U w (.own x)) x (.ins C w [])) (λv j=>v=.non/\Q (.ref x) j) E
def nN(K:aR)(fd:FuncData)(ps:List Str)(a:List Value):Prop:=
 ∀(s:Shared)(us:List Value),K.In s.heap->(us++a).length=ps.length->BindsTo s fd #[us,[]] (ps.zip (us++a))
def nN.all{fd:FuncData}(h:∀g:List Value,g.length=ps.length->bindArgs fd #[g,[]]=pure (ps.zip g)):nN K fd ps []:=λs g _ S=>by
 rw[cS]at S⊢;exact .of_eq (h g S)
def Cp(CX:CXT)(X:Cx)(E:XK):Prop:=∀(B:List (Addr×Obj))(O:St)(H:Hp)(s:Shared)(e:Value)(R:Shared),Inv X B O H s->CX X.stack H s E e R->X.xe e R
section
variable{X:Cx}{CX:CXT}{k:Nat}{f C:Addr}{fd:FuncData}{ps:List Str}{sp:Sp}{dvs:List V}{ds:List Value}{E:XK}{x m:Str}{p pos apos:Pos}{e o:Expr}{es:List Expr}{ta:TE}{t:TA}
def jJ9{B:List (Addr×Obj)}{Q:VK}(F:xN X.prog X.w X.K X.mg X.base CX k f fd ps sp)(hr:mK k X.A)(hb:nN X.K fd ps ds)(hd:fF dvs ds)(hx:Cp CX X E)
  (I:Inv X B O H s) (r:fF vs us) (h:sp (vs++dvs) H Q E):wpAny (model X.prog X.w) X.A (call (.ref f) us) (EP X B O Q) X.xe s:=by
 have Y:fF (vs++dvs) (us++ds):=r.append hd;have S:(us++ds).length=ps.length:=by rw[←Y.length];exact F.len _ _ _ _ h
 refine wpAny_call (codeAny_mono (F.run X.A X.stack s H #[us,[]] (us++ds) (vs++dvs) Q E hr I.env0 (hb s us I.kIn S) Y h) λr R a=>?_);cases r with
 |error e=>exact hx B O H s e R I a
 |ok fl=>
  cases fl with
  |ret u=>exact I.after a
  |next=>exact False.elim a
  |brk=>exact False.elim a
  |cont=>exact False.elim a
def jYj(F:xN X.prog X.w X.K X.mg X.base CX k f fd ps sp)(hr:mK k X.A)(hg:Gl X x)(hm:X.mg x=some (.ref f))(hk:PySem.W.keepIn X.K (.ref f)=true)(hb:nN X.K fd ps ds)(hd:fF dvs ds)(hx:Cp CX X E)
  (ha:PA X (e::es) t) (a:(x==("__debug__":Str))=false:=by decide) (D:starEach (e::es) X.env=(false,eval e X.env)::starEach es X.env:=by rfl) (hpl:(backTo pos (starEach es X.env)).any (·.1)=false:=by rfl):
  PE X (.Call (.Name x p) (e::es) [] pos) (cC sp dvs E t):=by
 intro B s O H Q I h;refine wpAny_Call_Name_kw (Wl I hg hm ?_ a);refine PySem.W.callWith_K (h₀:=X.base) I.ok.mod.kin hk (thF (ha pos B s O H _ I h) λg M j U P r q=>#[P.kIn,?_]) D hpl;exact jJ9 F hr hb hd hx P r q
def pe_meth(D:PE X o ta)(c:Cls X.K C)(hm:Meth X.K C m f)(F:xN X.prog X.w X.K X.mg X.base CX k f fd ps sp)(hr:mK k X.A)(hb:nN X.K fd ps ds)(hd:fF dvs ds)(hx:Cp CX X E)(ha:PA X (e::es) t)
  (b:starEach (e::es) X.env=(false,eval e X.env)::starEach es X.env:=by rfl) (hpl:(backTo pos (starEach es X.env)).any (·.1)=false:=by rfl)
  (y:eval (.Call (.Attribute o m apos) (e::es) [] pos) X.env=(do
   let G ←eval o X.env
   standAt apos.atName
   let(f,first) ←holding [G] (getMethod G m pl)
   callWith pos f first (backTo pos (starEach (e::es) X.env)) (backToKw pos (keywordEach [] X.env))):=by rfl):
  PE X (.Call (.Attribute o m apos) (e::es) [] pos) (eZ C m sp dvs E ta t):=by
 intro B s O H Q I h;refine PySem.W.methodCall_KW (pl:=pl) (thE (D B s O H _ I h) λu M x U P J q0=>?_) y;obtain⟨a,ex,z,fs,R,l,q⟩:=Eq.mp iZ q0;subst ex;obtain rfl:u=Value.ref a:=J;refine Px P R c hm l ?_;refine PySem.W.callWith_K (first:=[.ref a]) (h₀:=X.base) I.ok.mod.kin hm.kp (thF (ha pos B M O U _ P q) λg d n j i r v=>#[i.kIn,?_]) b hpl
 exact jJ9 (us:=.ref a::g) (vs:=.ref a::n) F hr hb hd hx i (.cons rfl r) v
def jV7(D:PE X o ta)(c:Cls X.K C)(hm:Meth X.K C m f)(F:xN X.prog X.w X.K X.mg X.base CX k f fd ps sp)(hr:mK k X.A)(hb:nN X.K fd ps ds)(hd:fF dvs ds)(hx:Cp CX X E)
  (y:eval (.Call (.Attribute o m apos) [] [] pos) X.env=(do
   let G ←eval o X.env
   standAt apos.atName
   let(f,first) ←holding [G] (getMethod G m pl)
   callWith pos f first (backTo pos (starEach [] X.env)) (backToKw pos (keywordEach [] X.env))):=by rfl):
  PE X (.Call (.Attribute o m apos) [] [] pos) (eZ C m sp dvs E ta bE):=by
 intro B s O H Q I h;refine PySem.W.methodCall_KW (pl:=pl) (thE (D B s O H _ I h) λu M x U P J q0=>?_) y;obtain⟨a,ex,b,fs,R,l,q⟩:=Eq.mp iZ q0;subst ex;obtain rfl:u=Value.ref a:=J;refine Px P R c hm l ?_;exact PySem.W.callWith_K0 (first:=[.ref a]) P.kIn hm.kp (jJ9 (us:=[.ref a]) (vs:=[.ref a]) F hr hb hd hx P (.cons rfl .nil) q)
structure Mk(K:aR)(C f:Addr):Prop where
 makes:PySem.W.makesIn K C=true
 init:PySem.W.findIn K (.ref C) "__init__"=some (some (.ref f))
 fn:PySem.W.isFn K (.ref f)=true
 kp:PySem.W.keepIn K (.ref C)=true
def jVt{B:List (Addr×Obj)}{Q:VK}(M:Mk X.K C f)(F:xN X.prog X.w X.K X.mg X.base CX k f fd ps sp)(hr:mK (k+1) X.A)(hb:nN X.K fd ps ds)(hd:fF dvs ds)
  (hx:Cp CX X E) (I:Inv X B O H s) (r:fF vs us)
  (h:∀x b,H x=none->H b=none->b≠x->sp (.ref x::(vs++dvs)) (upd (upd H b (.own x)) x (.ins C b [])) (λv j=>v=.non/\Q (.ref x) j) E):
  wpAny (model X.prog X.w) X.A (call (.ref C) us) (EP X B O Q) X.xe s:=by
 have d:=h (s.heap.objs.size+1) s.heap.objs.size (I.hok.fresh (Nat.le_succ _)) (I.hok.fresh (aP _)) (bL (fX _));have c:=Inv.made (C:=C) I;have Y:fF (V.ref (s.heap.objs.size+1)::(vs++dvs)) (Value.ref (s.heap.objs.size+1)::(us++ds)):=.cons rfl (r.append hd);have S:(Value.ref (s.heap.objs.size+1)::us++ds).length=ps.length:=by
  have e:=Y.length;rw[F.len _ _ _ _ d]at e;exact e.symm
 refine wpAny_call (jUQ (f:=f) I.kIn M.makes M.init (beq_iff_eq.mp M.fn) (codeAny_mono (F.run _ X.stack _ _ #[Value.ref (s.heap.objs.size+1)::us,[]] (Value.ref (s.heap.objs.size+1)::(us++ds)) _ _ E (hr.make C us [])
  (c.env0.make C us []) (hb _ (Value.ref (s.heap.objs.size+1)::us) c.kIn S) Y d) λr R n=>?_))
 cases r with
 |error e=>exact hx B O _ _ e R c n
 |ok fl=>
  cases fl with
  |ret u=>
   obtain⟨v,Z,z,N,a,q⟩:=c.after n;subst a;exact#[N,#[V.ref (s.heap.objs.size+1),Z,z,rfl,q]]
  |next=>exact False.elim n
  |brk=>exact False.elim n
  |cont=>exact False.elim n
def pe_make(M:Mk X.K C f)(F:xN X.prog X.w X.K X.mg X.base CX k f fd ps sp)(hr:mK (k+1) X.A)(hg:Gl X x)(hm:X.mg x=some (.ref C))(hb:nN X.K fd ps ds)(hd:fF dvs ds)(hx:Cp CX X E)
  (ha:PA X (e::es) t) (a:(x==("__debug__":Str))=false:=by decide) (D:starEach (e::es) X.env=(false,eval e X.env)::starEach es X.env:=by rfl) (hpl:(backTo pos (starEach es X.env)).any (·.1)=false:=by rfl):
  PE X (.Call (.Name x p) (e::es) [] pos) (Bb C sp dvs E t):=by
 intro B s O H Q I h;refine wpAny_Call_Name_kw (Wl I hg hm ?_ a);refine PySem.W.callWith_K (h₀:=X.base) I.ok.mod.kin M.kp (thF (ha pos B s O H _ I h) λg b j U P r q=>#[P.kIn,?_]) D hpl;exact jVt M F hr hb hd hx P r q
end
structure uY(N P:List Str)(sc:Scope):Prop where
 kind:sc.kind=.function
 co:sc.isCoroutine=false
 gen:sc.isGenerator=false
 nd:N.Nodup
 pre:N.take P.length=P
 par:∀x∈P,sc.names.lookup x=some .local∨sc.names.lookup x=some .cell
 nofree:∀y∈sc.names,y.2≠.free
def Ua{a:Str->Option NameKind}{x:Str}:∀{binds:List (Str×Value)}{m:Str->Option Value},(∀v,(x,v)∉binds)->bindL a binds m x=m x
 | [],_,_=>rfl
 | (n,v)::r,m,h=>by
  unfold bindL;rw[Ua λw hw=>h w (bI _ hw)];split
  .have:x≠n:=by rintro rfl;exact h v bQ
   simp [this]
  .rfl
def Uc{a:Str->Option NameKind}{x:Str}:∀{binds:List (Str×Value)}{m:Str->Option Value},(∀v,(x,v)∉binds)->bindC a binds m x=m x
 | [],_,_=>rfl
 | (n,v)::r,m,h=>by
  unfold bindC;rw[Uc λw hw=>h w (bI _ hw)];split
  .rfl
  .have:x≠n:=by rintro rfl;exact h v bQ
   simp [this]
def Ub{a:Str->Option NameKind}{x:Str}{v:Value}:∀{P:List Str}{vs:List Value}{i:Nat}{m:Str->Option Value},P.Nodup->P[i]?=some x->vs[i]?=some v->a x=some .local->
  bindL a (P.zip vs) m x=some v
 | [],_,_,_,_,h,_,_=>by simp at h
 |_::_,[],_,_,_,_,h,_=>by simp at h
 |p::P,w::vs,0,m,nd,h1,h2,hk=>by
  simp at h1 h2;subst h1;subst h2;show bindL a ((p,w)::P.zip vs) m p=_;unfold bindL;rw[Ua λv hv=>(List.nodup_cons.mp nd).1 (List.of_mem_zip hv).1,aK hk];simp
 |p::P,w::vs,i+1,m,nd,h1,h2,hk=>by
  show bindL a ((p,w)::P.zip vs) m x=_;unfold bindL;exact Ub (i:=i) (List.nodup_cons.mp nd).2 (by simpa using h1) (by simpa using h2) hk
def Ud{a:Str->Option NameKind}{x:Str}{v:Value}:∀{P:List Str}{vs:List Value}{i:Nat}{m:Str->Option Value},P.Nodup->P[i]?=some x->vs[i]?=some v->a x≠some .local->
  bindC a (P.zip vs) m x=some v
 | [],_,_,_,_,h,_,_=>by simp at h
 |_::_,[],_,_,_,_,h,_=>by simp at h
 |p::P,w::vs,0,m,nd,h1,h2,hk=>by
  simp at h1 h2;subst h1;subst h2;show bindC a ((p,w)::P.zip vs) m p=_;unfold bindC;rw[Uc λv hv=>(List.nodup_cons.mp nd).1 (List.of_mem_zip hv).1,aF hk];simp
 |p::P,w::vs,i+1,m,nd,h1,h2,hk=>by
  show bindC a ((p,w)::P.zip vs) m x=_;unfold bindC;exact Ud (i:=i) (List.nodup_cons.mp nd).2 (by simpa using h1) (by simpa using h2) hk
def start(N:List Str)(vs:List V):St:=vs.map some++List.replicate (N.length-vs.length) none
noncomputable def Xw(CX:CXT)(P:Program)(w:World)(K:aR)(mg:Str->Option Value)(base:Heap)(N:List Str)(j:Str)(d:Scope)(f:Addr)(m:Value)(A:Around)(outer:List Env)(s:Shared)(H:Hp)(E:XK):Cx where
 prog:=P
 w:=w
 K:=K
 mg:=mg
 base:=base
 A:=A.deeper (envOfC j d s.heap.objs.size f m)
 N:=N
 s₀:=s
 H₀:=H
 env:=envOfC j d s.heap.objs.size f m
 outer:=outer
 stack:=envOfC j d s.heap.objs.size f m::outer
 ex:=[]
 calm:=true
 fn:=λ_=>true
 pn:=[]
 xe:=λe R=>wpAny (model P w) (A.deeper (envOfC j d s.heap.objs.size f m)) (leaving (envOfC j d s.heap.objs.size f m) e) (λ_ a=>CX outer H s E e a) (λg a=>CX outer H s E g a) R
def Zs{sc:Scope}{n:Nat}(h:sc.names.lookup x=some .cell):∃c,(cellsFrom n sc.names []).lookup x=some c:=by
 have q:=PySem.W.cellsFrom_some sc.names n [] (.inl h);exact Option.isSome_iff_exists.mp q
def jVb{CX:CXT}{w:World}{j:Str}{d:Scope}{f:Addr}{m:Value}{outer:List Env}{M:Shared}{E:XK}
  (S:uY N ps d) (hd:A.handled=none) (B:Env0 P w K mg base A outer s H) (o:vs.length=ps.length) (r:fF vs us)
  (x:InCallC s s.heap.objs.size (bindL (envOfC j d s.heap.objs.size f m).kindOf (ps.zip us) λ_=>none) (cellsFrom (s.heap.objs.size+1) d.names []) (bindC (envOfC j d s.heap.objs.size f m).kindOf (ps.zip us) λ_=>none) M):
  Inv (Xw CX P w K mg base N j d f m A outer s H E) [] (start N vs) H M:=by
 have hpl:ps.length<=N.length:=by have:=congrArg List.length S.pre;rw[cR]at this;lia
 obtain⟨h1,tk,rfl,hk⟩:=x.done;have Q:∀b:Addr,b∉(Xw CX P w K mg base N j d f m A outer s H E).ex:=λb z=>absurd (show b∈([]:List Addr)from z) (by simp);refine#[#[B.mod,S.kind,rfl,rfl,aP _,λy z c h1 h2=>?_,λy hy=>?_,λy c _ h=>?_,λ_=>hd,Around.frames_deeper B.frames,.inr #[rfl,rfl],λb z=>absurd z (Q b),B.bs,B.bsz,λb _ _=>Q b,λb z=>absurd z (Q b),B.funs,B.frf],
  rfl,B.bare,Un.kept hk,#[_,x.toInCall.ns,λi y v h1 h2 t=>?_],λy c h=>#[_,x.cell y c h],B.hok.fresh (aP _),λy c h=>?_,λp hp=>absurd (show p∈([]:List (Addr×Obj))from hp) (by simp),B.hok.kept hk,?_]
 .exact name_of_addr x.apart (PySem.mem_of_lookup h1) (PySem.mem_of_lookup h2)
 .have hy:d.names.lookup y=some .cell∨d.names.lookup y=some .free:=hy;rcases hy with hy |hy
  .exact Zs hy
  .exact absurd rfl (S.nofree _ (PySem.mem_of_lookup hy))
 .exact jB (x.above y c (PySem.mem_of_lookup h))
 .have hi:i<vs.length:=by
   unfold start at h2;by_cases hi:i<vs.length
   .exact hi
   .rw[bP (by simpa using hi)]at h2;rw[List.getElem?_replicate]at h2;split at h2<;>cases h2
  have ha:vs[i]?=some v:=by
   unfold start at h2;rw[bV (by simpa using hi),aX]at h2;cases e:vs[i]? with
   |none=>rw[e]at h2;cases h2
   |some a=>rw[e]at h2;cases h2;rfl
  obtain⟨u,hu,l⟩:=r.get ha;have hp:ps[i]?=some y:=by
   rw[←S.pre,List.getElem?_take_of_lt #[]];exact h1
  have g:ps.Nodup:=by rw[←S.pre];exact S.nd.sublist (List.take_sublist _ _)
  refine#[u,l,?_];rcases S.par y (aJ hp)with k |k
  .exact .inl #[k,Ub g hp hu k]
  .obtain⟨c,e⟩:=Zs (n:=s.heap.objs.size+1) k;refine .inr #[.inl k,c,e,?_];have q:=x.cell y c e;rw[Ud g hp hu (by show d.names.lookup y≠_;rw[k];decide)]at q;exact q
 .exact B.hok.fresh (jB (x.above y c (PySem.mem_of_lookup h)))
 .unfold start;show _=N.length;rw[bF,aA,List.length_replicate];lia
def fn_of{CX:CXT}{w:World}{f:Addr}{name j:Str}{h:Arguments}{a:List Stmt}{d:Scope}{dV kV i z cdv ct Y:Value}{C od:Option Addr}
  {m:Array (Option Value)} {sp:Sp} (U:K.lookup f=some #[Y,od,.func (PySem.W.fnOf name j h a d dV kV i z C cdv ct),m]) (p:PySem.W.codeIn K cdv j=true) (S:uY N ps d)
  (len:∀vs H Q E,sp vs H Q E->vs.length=ps.length)
  (l:∀(A:Around)(outer:List Env)(s:Shared)(H:Hp)(vs:List V)(Q:VK)(E:XK),mK k (A.deeper (envOfC j d s.heap.objs.size f cdv))->sp vs H Q E->
   ∃t,PSs (Xw CX P w K mg base N j d f cdv A outer s H E) a t/\t { nx:=λ_ Z=>Q .non Z,rt:=Q } (start N vs) H):
  xN P w K mg base CX (k+1) f (PySem.W.fnOf name j h a d dV kV i z C cdv ct) ps sp:=by
 refine#[len,λA outer s H c g vs Q E hr B hb r O=>?_];have hl:=len _ _ _ _ O;have X:K.In s.heap:=B.mod.kin.keeps λb o e=>(B.bs b o e).1;have lim:s.heap.NoLimit:=B.mod.nolimit.keeps λb o e=>(B.bs b o e).1;have T:∀y∈ps.zip g,d.names.lookup y.1=some .local∨(d.names.lookup y.1=some .cell/\((cellsFrom (s.heap.objs.size+1) d.names []).lookup y.1).isSome=true):=fun⟨n,v⟩ hy=>by
  rcases S.par n (List.of_mem_zip hy).1 with q |q
  .exact .inl q
  .exact .inr #[q,PySem.W.cellsFrom_some _ _ _ (.inl q)]
 refine codeAny_call_function hr.depth (X _ _ U) rfl S.co S.gen rfl (PySem.W.codeRec_of X p) (hb _ _ _ _ ?_);refine wpAny_newFunctionEnv_cells S.kind T λenv D M x=>?_;subst D;refine#[lim.keeps x.toInCall.keep,codeAny_func ?_];obtain⟨t,ht,F⟩:=l A outer s H vs Q E (hr.deeper _) O;have I:Inv (Xw CX P w K mg base N j d f cdv A outer s H E) [] (start N vs) H M:=jVb S hr.hd B hl r x;refine wpAny_mono (ht [] M (start N vs) H _ I F) (λfl R hs=>?_) λe R hs=>hs;have fin:∀{G:St}{Z:Hp}{v:V}{u:Value},Inv (Xw CX P w K mg base N j d f cdv A outer s H E) [] G Z R->fO v u->Q v Z->CE outer P w H s Q u R:=
  fun{G Z v u} J rv q=>#[v,Z,J.os,J.bare,J.base,J.hok,rv,q]
 cases fl with
 |ret u=>
  obtain⟨v,G,Z,J,rv,q⟩:=hs;exact fin J rv q
 |next=>
  obtain⟨G,Z,J,q⟩:=hs;exact fin (v:=V.non) (u:=Value.none) J rfl q
 |brk=>
  obtain⟨_,_,_,q⟩:=hs;exact False.elim q
 |cont=>
  obtain⟨_,_,_,q⟩:=hs;exact False.elim q
section
variable{X:Cx}{x:Str}{p pos:Pos}{e:Expr}{es:List Expr}{t:TA}{id T:String}{r:List V->Hp->VK->Prop}
def tCB(r:List V->Hp->VK->Prop)(t:TA):TE:=λO H Q=>t O H λvs U=>r vs U Q
def cO(hc:wX X (.builtin id) r)(hg:Gl X x)(hm:X.mg x=none)(hv:bootBuiltins x=some (.builtin id))(ha:PA X (e::es) t)(hn:x≠ "__name__":=by decide)(a:(x==("__debug__":Str))=false:=by decide)
  (D:starEach (e::es) X.env=(false,eval e X.env)::starEach es X.env:=by rfl) (hpl:(backTo pos (starEach es X.env)).any (·.1)=false:=by rfl):PE X (.Call (.Name x p) (e::es) [] pos) (tCB r t):=by
 intro B s O H Q I h;refine wpAny_Call_Name_kw (qF I hg hm hv ?_ hn a);exact PyProof.Rows.callWith_builtin1 (thF (ha pos B s O H _ I h) λg M j U P Z q1=>hc B M O U j g Q P Z q1) D hpl
def mS(hc:wX X (.type T) r)(hg:Gl X x)(hm:X.mg x=none)(hv:bootBuiltins x=some (.type T))(ha:PA X (e::es) t)(hn:x≠ "__name__":=by decide)(a:(x==("__debug__":Str))=false:=by decide)
  (D:starEach (e::es) X.env=(false,eval e X.env)::starEach es X.env:=by rfl) (hpl:(backTo pos (starEach es X.env)).any (·.1)=false:=by rfl):PE X (.Call (.Name x p) (e::es) [] pos) (tCB r t):=by
 intro B s O H Q I h;refine wpAny_Call_Name_kw (qF I hg hm hv ?_ hn a);exact dI (thF (ha pos B s O H _ I h) λg M j U P Z q1=>hc B M O U j g Q P Z q1) D hpl
end
end L2
namespace HT
open PySem PyProof.Rows
section
open PySem.SeqAt
open PySem.AutoSeq1 (wpAny_loadPart')
open PySem.MeetsSeq PySem.MeetsSeq2 PySem.MeetsSeq3
end
section
variable{prog:Program}{w:World}{A:Around}{E:Value->Shared->Prop}{s:Shared}
def cat_tup{t b:Addr}{vs d:List Value}{Q:Value->Shared->Prop}(y:IsTup s.heap t vs.toArray)(hb:IsTup s.heap b d.toArray)(hv:vs≠[])
  (h1:d=[]->Q (.ref t) s) (h2:d≠[]->Q (.ref s.heap.objs.size) { s with heap:=s.heap.push { cls:=.type "tuple",data:=.seq (vs++d).toArray } })
  (hsz:vs.length+d.length<=sizeLine):wpAny (model prog w) A (binaryOp .Add (.ref t) (.ref b)) Q E s:=by
 obtain⟨⟨C,G,o,sl⟩,ho,hc,n,hd⟩:=id y;obtain⟨⟨r,k,l,c⟩,j,g,n2,z⟩:=id hb;simp only at hc hd g z;subst hc hd g z;have e:vs.toArray++d.toArray=(vs++d).toArray:=by simp
 by_cases hw:d=[]
 .exact concat_meets #[_,ho,rfl] #[_,j,rfl] noFill_tuple_add seq_tuple_add PySem.F.slot_tuple_add PySem.F.entry_tuple_add (PySem.F.args_tuple_add_2 _ _)
   (tuple_addW1 t b vs.toArray d.toArray n n2 G k sl c (by simpa using hv) (by simp [hw])) #[ho,j,h1 hw]
 .refine concat_meets #[_,ho,rfl] #[_,j,rfl] noFill_tuple_add seq_tuple_add PySem.F.slot_tuple_add PySem.F.entry_tuple_add (PySem.F.args_tuple_add_2 _ _)
   (tuple_addW2 t b vs.toArray d.toArray n n2 G k sl c (by simpa using hv) (by simpa using hw) (by rw[List.size_toArray,List.size_toArray];exact hsz)) #[ho,j,?_]
  rw[e];exact h2 hw
noncomputable def sIx(n d:Nat):Option Int->Nat
 |none=>d
 |some v=>if v<0 then(v+(n:Int)).toNat else min v.toNat n
def sIx_none(n d:Nat):sIx n d none=d:=rfl
def sIx_nat(n d k:Nat):sIx n d (some (k:Int))=min k n:=by
 show(if(k:Int)<0 then((k:Int)+(n:Int)).toNat else min (k:Int).toNat n)=min k n;rw[if_neg #[],Int.toNat_natCast]
def sIx_le(n d:Nat)(hd:d<=n)(o:Option Int):sIx n d o<=n:=by
 cases o with
 |none=>exact hd
 |some v=>
  show(if v<0 then(v+(n:Int)).toNat else min v.toNat n)<=n;by_cases hv:v<0
  .rw[if_pos hv];lia
  .rw[if_neg hv];exact Nat.min_le_right _ _
def jWY(v:Int)(n d:Nat):(if v<0 then max (v+(n:Int)) 0 else min v (n:Int))=((sIx n d (some v):Nat):Int):=by
 show(if v<0 then max (v+(n:Int)) 0 else min v (n:Int))=(((if v<0 then(v+(n:Int)).toNat else min v.toNat n):Nat):Int);by_cases hv:v<0
 .simp only[if_pos hv];lia
 .simp only[if_neg hv];lia
def jYZ(lo hi:Option Int)(n:Nat):Builtin.Slice.sliceAdjust lo hi 1 (n:Int)=(((sIx n 0 lo:Nat):Int),((sIx n n hi:Nat):Int)):=by
 have h1:¬((1:Int)<0):=#[];unfold Builtin.Slice.sliceAdjust;simp only[h1,if_false];refine Prod.ext ?_ ?_
 .cases lo with
  |none=>rfl
  |some v=>exact jWY v n 0
 .cases hi with
  |none=>rfl
  |some v=>exact jWY v n n
def jXU(i j:Nat):Builtin.Slice.slicePlaces (i:Int) (j:Int) 1=j-i:=by
 unfold Builtin.Slice.slicePlaces;have h1:(1:Int)>0:=#[];simp only[h1,if_true,Int.ediv_one];split<;>lia
def Pj{v:Value}{o:Option Int}{Q:Option Int->Shared->Prop}(p:IsPart v o)(h:Q o s):wpAny (model prog w) A (Builtin.Slice.slicePartIndex v) Q E s:=by
 cases p with
 |none=>exact slicePart_none h
 |int i t=>exact slicePart_int h
def uK{sl:Addr}{c g:Value}{lo hi:Option Int}{n:Nat}{Q:Int×Int×Nat->Shared->Prop}(hs:s.heap.IsSliceOf sl c g .none)(pl:IsPart c lo)(i:IsPart g hi)
  (h:Q (((sIx n 0 lo:Nat):Int),1,sIx n n hi-sIx n 0 lo) s):wpAny (model prog w) A (Builtin.Slice.sliceApplied (.ref sl) (pure (n:Int))) Q E s:=by
 obtain⟨os,b,e,d⟩:=id hs;unfold Builtin.Slice.sliceApplied Builtin.Slice.sliceFields;refine wpAny_bind (wpAny_bind (wpAny_field b d (x:=c) rfl (wpAny_bind (wpAny_field b d (x:=g) rfl (wpAny_bind (wpAny_field b d (x:=.none) rfl (wpAny_pure ?_)))))));refine wpAny_bind (slicePart_none ?_);show wpAny _ _ (if((1:Int)==0)=true then _ else _) _ _ s;rw[if_neg (by decide)];refine wpAny_bind (Pj pl (wpAny_bind (Pj i (wpAny_bind (wpAny_pure ?_)))));show wpAny _ _ (match Builtin.Slice.sliceAdjust lo hi 1 (n:Int)with |(lo,hi)=>pure (lo,(1:Int),Builtin.Slice.slicePlaces lo hi 1)) _ _ s
 rw[jYZ lo hi n];show wpAny _ _ (pure (((sIx n 0 lo:Nat):Int),(1:Int),Builtin.Slice.slicePlaces ((sIx n 0 lo:Nat):Int) ((sIx n n hi:Nat):Int) 1)) _ _ s;rw[jXU];exact wpAny_pure h
def jV6(xs:Array Value)(i k:Nat):((List.range k).filterMap fun(m:Nat)=>xs[((i:Int)+(m:Int)*1).toNat]?).toArray=((xs.toList.drop i).take k).toArray:=by
 have e:(fun(m:Nat)=>xs[((i:Int)+(m:Int)*1).toNat]?)=λm=>xs[i+m]?:=by
  funext m
  have:((i:Int)+(m:Int)*1).toNat=i+m:=#[];rw[this]
 rw[e];have:=pick_run xs i k;rw[List.filterMap_map]at this;have C:((λx=>xs[x]?)∘λx=>i+x)=λm=>xs[i+m]?:=rfl;rw[C]at this;rw[this]
def getItem_tuple_cut{t sl:Addr}{items:Array Value}{c g:Value}{lo hi:Option Int}{Q:Value->Shared->Prop}(y:IsTup s.heap t items)(hs:s.heap.IsSliceOf sl c g .none)(pl:IsPart c lo)(i:IsPart g hi)
  (hw:¬(sIx items.size 0 lo=0/\sIx items.size items.size hi=items.size))
  (h:Q (.ref s.heap.objs.size) { s with heap:=s.heap.push { cls:=.type "tuple",data:=.seq ((items.toList.drop (sIx items.size 0 lo)).take (sIx items.size items.size hi-sIx items.size 0 lo)).toArray } })
  (hsz:items.size<=sizeLine):wpAny (model prog w) A (getItem (.ref t) (.ref sl)) Q E s:=by
 have a:sizeOk (.seq ((items.toList.drop (sIx items.size 0 lo)).take (sIx items.size items.size hi-sIx items.size 0 lo)).toArray):=by
  show((items.toList.drop (sIx items.size 0 lo)).take (sIx items.size items.size hi-sIx items.size 0 lo)).toArray.size<=sizeLine;rw[List.size_toArray,List.length_take,List.length_drop,Array.length_toList];lia
 have Z:sIx items.size items.size hi<=items.size:=sIx_le _ _ (Nat.le_refl _) hi;obtain⟨os,b,e,d⟩:=id hs;have j:s.TypeIs (.ref sl) "slice":=#[os,b,e];unfold getItem
 try with_reducible refine wpAny_holding ?_
 first |refine wpAny_bind (wpAny_pure ?_)|skip
 refine wpAny_bind (wpAny_sequenceKey y.typeIs (by decide) ?_);refine wpAny_bind (wpAny_callSpecial?_slot (name:=Str.ofString "__getitem__") y.typeIs PyProof.Rows.slot_tuple_getitem
  (wpAny_call_entry PyProof.Rows.slot_tuple_getitem y.typeIs entry_tuple_getitem ?_ (args_tuple_getitem _ _)))
 show wpAny _ _ (Builtin.Tuple.tupleItemsOf (.ref t)>>=_) _ _ s;refine wpAny_bind (tupleItemsOf_ y ?_);refine wpAny_bind (wpAny_typeOf j ?_);rw[if_pos (by decide)];refine wpAny_bind (uK hs pl i ?_);have f:¬((((sIx items.size 0 lo:Nat):Int)==0&&(1:Int)==1&&(sIx items.size items.size hi-sIx items.size 0 lo)==items.size)=true):=by
  intro q;rw[Bool.and_eq_true,Bool.and_eq_true]at q;have q1:((sIx items.size 0 lo:Nat):Int)=0:=eq_of_beq q.1.1;have p:sIx items.size items.size hi-sIx items.size 0 lo=items.size:=eq_of_beq q.2;exact hw #[#[],#[]]
 show wpAny _ _ (if(((sIx items.size 0 lo:Nat):Int)==0&&(1:Int)==1&&(sIx items.size items.size hi-sIx items.size 0 lo)==items.size)=true then _ else _) _ _ s;rw[if_neg f,jV6]
 first
  |exact wpAny_bind (m:=Builtin.Tuple.tupleExact _) (wpAny_newObj_type (wpAny_pure #[_,rfl,wpAny_pure h]) a)
  |exact wpAny_bind (m:=Builtin.Tuple.tupleExact _) (wpAny_newObj_type (wpAny_bind (wpAny_pure (wpAny_pure #[_,rfl,wpAny_pure h]))) a)
  |exact wpAny_bind (wpAny_bind (m:=Builtin.Tuple.tupleExact _) (wpAny_newObj_type (wpAny_pure (wpAny_pure #[_,rfl,wpAny_pure h])) a))
  |exact wpAny_bind (wpAny_bind (m:=Builtin.Tuple.tupleExact _) (wpAny_newObj_type (wpAny_pure #[_,rfl,wpAny_pure h]) a))
end
end HT
namespace L2
open PySem PySem.Spec PyProof.Rows
variable{G:List Value}{H:Hp}{O:St}{s:Shared}{x:V}{xs:List V}
noncomputable abbrev TO:=St->Hp->(Option Int->Hp->Prop)->Prop
def PO(X:Cx)(e:Option Expr)(t:TO):Prop:=
 ∀(B:List (Addr×Obj))(s:Shared)(O:St)(H:Hp)(Q:Option Int->Hp->Prop),Inv X B O H s->t O H Q->
  wpAny (model X.prog X.w) X.A (evalPart e X.env) (λu R=>∃o Z,Inv X B O Z R/\IsPart u o/\Q o Z) X.xe s
def iE:TO:=λ_ H Q=>Q none H
def mQ(t:TE):TO:=λO H Q=>t O H λx U=>∃i,x=.int i/\Q (some i) U
section
variable{X:Cx}{e:Expr}{te:TE}{lo hi:Option Expr}{tl th:TO}{pos p2:Pos}
def lN:PO X none iE:=by
 intro B s O H Q I h;rw[evalPart_none];exact aT #[none,H,I,.none,h]
def lM(h:PE X e te):PO X (some e) (mQ te):=by
 intro B s O H Q I hw;rw[evalPart_some];refine thE (h B s O H _ I hw) λu M x U P Z q1=>?_;obtain⟨i,rfl,q⟩:=q1;obtain⟨t,rfl⟩:=Z;exact#[some i,U,P,.int i t,q]
def SlR(X:Cx)(r:V->Option Int->Option Int->Hp->VK->Prop):Prop:=
 ∀(B:List (Addr×Obj))(s:Shared)(O:St)(H:Hp)(x:V)(v c g:Value)(lo hi:Option Int)(sl:Addr)(Q:VK),Inv X B O H s->fO x v->s.heap.IsSliceOf sl c g .none->IsPart c lo->IsPart g hi->r x lo hi H Q->
  ∃T f,typeLookup (.type T) "__getitem__"=pure (some (.builtin f))/\s.TypeIs v T/\wpAny (model X.prog X.w) X.A (getItem v (.ref sl)) (EP X B O Q) X.xe s
def tSl(r:V->Option Int->Option Int->Hp->VK->Prop)(te:TE)(tl th:TO):TE:=λO H Q=>te O H λx U=>tl O U λl j=>th O j λu Y=>r x l u Y Q
def jX{r:V->Option Int->Option Int->Hp->VK->Prop}(hr:SlR X r)(D:PE X e te)(S:PO X lo tl)(hu:PO X hi th):PE X (.Subscript e (.Slice lo hi none p2) pos) (tSl r te tl th):=by
 intro B s O H Q I h;refine Subscript_ (thn (D B s O H _ I h) λv M#[x,U,P,Z,q1]=>?_);refine wpAny_Slice (thn (S B M O U _ P q1) λc d#[l,j,t,k,p]=>thn (hu B d O j _ t p) λg N#[u,Y,z,i,a]=>?_);rw[evalPart_none];refine aT ?_;have m:Inv X B O Y { N with heap:=N.heap.push { cls:=.type "slice",data:=.fields (List.toArray [c,g,.none]) } }:=z.kept (t':=N.toks) λb ob q=>bA _ q;obtain⟨T,f,n,y,hg⟩:=hr B { N with heap:=N.heap.push { cls:=.type "slice",data:=.fields (List.toArray [c,g,.none]) } } O Y x v c g l u N.heap.objs.size Q m Z (Heap.IsSliceOf.new ..) k i a;show wpAny (model X.prog X.w) X.A (subscriptTail e (.Slice lo hi none p2) v (.ref N.heap.objs.size)) (EP X B O Q) X.xe { N with heap:=N.heap.push { cls:=.type "slice",data:=.fields (List.toArray [c,g,.none]) } };exact tail_any (ops:=[.ref N.heap.objs.size,v]) y n hg (by with_unfolding_all rfl)
noncomputable def mW(xs:List V)(lo hi:Option Int):List V:=(xs.drop (HT.sIx xs.length 0 lo)).take (HT.sIx xs.length xs.length hi-HT.sIx xs.length 0 lo)
def zO(xs:List V)(lo hi:Option Int):(mW xs lo hi).length<=xs.length:=by
 unfold mW;rw[cR,hE];lia
noncomputable def rSlT(K:aR):V->Option Int->Option Int->Hp->VK->Prop:=λx lo hi H Q=>∃a xs,x=.ref a/\SqT K H a xs/\
 ¬(HT.sIx xs.length 0 lo=0/\HT.sIx xs.length xs.length hi=xs.length)/\∀p,H p=none->Q (.ref p) (upd H p (.tup (mW xs lo hi)))
def sl_tup:SlR X (rSlT X.K):=by
 rintro B s O H x v c g lo hi sl Q I J hs k i ⟨a,T,rfl,hx,hw,q⟩;cases J;obtain⟨G,r,y,f⟩:=I.tuple hx;have U:G.toArray.size=T.length:=by rw[bG];exact r.length.symm
 refine#["tuple",_,PyProof.Rows.slot_tuple_getitem.lookup,y.typeIs,?_];refine HT.getItem_tuple_cut y hs k i (by rw[U];exact hw) ?_ (by rw[U];exact f);rw[U];refine#[.ref s.heap.objs.size,_,I.laid (t':=s.toks) (o:=.tup (mW T lo hi)) (λb ob q=>bA _ q) (aP _) ?_,rfl,q _ (I.hok.fresh (aP _))];exact#[dE (zO T lo hi) f,_,(r.drop (HT.sIx T.length 0 lo)).take (HT.sIx T.length T.length hi-HT.sIx T.length 0 lo),IsTup.new _ _]
def rCatT(K:aR):R2:=λx y H Q=>∃a b xs ys,x=.ref a/\y=.ref b/\SqT K H a xs/\SqT K H b ys/\xs≠[]/\xs.length+ys.length<=sizeLine/\
 (ys=[]->Q (.ref a) H)/\(ys≠[]->∀p,H p=none->Q (.ref p) (upd H p (.tup (xs++ys))))
def fF.nil_iff{us:List Value}(r:fF xs us):us=[]↔xs=[]:=by
 cases r with
 |nil=>simp
 |cons _ _=>simp
def op_catT:OpR X (binaryOp .Add) (rCatT X.K):=by
 rintro B s O H x y v u Q I J m ⟨a,b,T,M,rfl,rfl,ha,hb,hx,f,q1,p⟩;cases J;cases m;obtain⟨G,Z,p1,_⟩:=I.tuple ha;obtain⟨c,Y,p2,_⟩:=I.tuple hb;refine HT.cat_tup p1 p2 (λz=>hx (Z.nil_iff.mp z)) (λz=>#[.ref a,H,I,rfl,q1 (Y.nil_iff.mp z)]) (λz=>?_) (by rw[←Z.length,←Y.length];exact f);refine#[.ref s.heap.objs.size,_,I.laid (t':=s.toks) (o:=.tup (T++M)) (λb ob q=>bA _ q) (aP _) ?_,rfl,p (λw=>z (Y.nil_iff.mpr w)) _ (I.hok.fresh (aP _))];exact#[by rw[bF];exact f,_,Z.append Y,IsTup.new _ _]
end
noncomputable def ixN(n:Nat)(i:Int):Option Nat:=if 0<=i then(if i<n then some i.toNat else none)else if -(n:Int)<=i then some (i+n).toNat else none
noncomputable def atI{d:Type}(xs:List d)(i:Int):Option d:=(ixN xs.length i).bind λj=>xs[j]?
def Wo{n:Nat}{i:Int}{j:Nat}(h:ixN n i=some j):seqIndex? i n=some j/\j<n/\-(n:Int)<=i/\i<n:=by
 unfold ixN at h;by_cases D:0<=i
 .rw[aK D]at h;by_cases h1:i<n
  .rw[aK h1]at h;have e:i.toNat=j:=aU h;exact#[by rw[seqIndex_of D h1,e],#[],#[],h1]
  .rw[aF h1]at h;cases h
 .rw[aF D]at h;by_cases h1:-(n:Int)<=i
  .rw[aK h1]at h;have e:(i+n).toNat=j:=aU h;exact#[by rw[seqIndex_neg #[] h1,e],#[],h1,#[]]
  .rw[aF h1]at h;cases h
def jWV{d:Type}{xs:List d}{i:Int}{v:d}(h:atI xs i=some v):∃j,seqIndex? i xs.length=some j/\xs[j]?=some v/\j<xs.length/\-(xs.length:Int)<=i/\i<xs.length:=by
 unfold atI at h;cases e:ixN xs.length i with
 |none=>rw[e]at h;cases h
 |some j=>
  rw[e]at h;obtain⟨h1,h2,A,y⟩:=Wo e;exact#[j,h1,h,h2,A,y]
def fD{d:Type}{xs:List d}{j:Nat}{v:d}(h:xs[j]?=some v):atI xs (j:Int)=some v:=by
 have Z:j<xs.length:=(aI.mp h).1;have e:ixN xs.length (j:Int)=some j:=by
  unfold ixN;rw[aK #[],aK #[]];simp
 unfold atI;rw[e];exact h
def Wx(b:Expr):Prop:=∀o i,subscripted b false o i=operate [o,i] (getItem o i)
def IxR(X:Cx)(r:R2):Prop:=
 ∀(d c:Expr)(B:List (Addr×Obj))(s:Shared)(O:St)(H:Hp)(x y:V)(v u:Value)(Q:VK),Inv X B O H s->fO x v->fO y u->r x y H Q->
  subscripted c false v u=operate [v,u] (getItem v u)->wpAny (model X.prog X.w) X.A (subscriptTail d c v u) (EP X B O Q) X.xe s
def MtR(X:Cx)(f:String)(r:V->List V->Hp->VK->Prop):Prop:=
 ∀(B:List (Addr×Obj))(s:Shared)(O:St)(H:Hp)(x:V)(xs:List V)(v:Value)(us:List Value)(Q:VK),Inv X B O H s->fO x v->fF xs us->r x xs H Q->
  wpAny (model X.prog X.w) X.A (call (.builtin f) (v::us)) (EP X B O Q) X.xe s
section
variable{X:Cx}{a b:Expr}{ta tb:TE}{pos:Pos}
def pe_ix{r:R2}(hr:IxR X r)(ha:PE X a ta)(hb:PE X b tb)(hs:Wx b):PE X (.Subscript a b pos) (tOp r ta tb):=by
 intro B s O H Q I h;exact Subscript_ (binT ha hb I h λv u d x y j t J m q=>hr a b B d O j x y v u Q t J m q (hs _ _))
def gB(K:aR):R2:=λx y H Q=>exR x λp=>exI y λi=>∃xs,SqL K H p xs/\∃v,atI xs i=some v/\Q v H
def eY(K:aR):R2:=λx y H Q=>exR x λp=>exI y λi=>∃xs,SqT K H p xs/\∃v,atI xs i=some v/\Q v H
def ix_list:IxR X (gB X.K):=by
 intro d c B s O H x y v u Q I J m h hs;obtain⟨p,rfl,h1⟩:=Eq.mp iZ h;obtain⟨i,rfl,T,F,z,D,q⟩:=Eq.mp iA h1;cases J;obtain⟨t,rfl⟩:=m;obtain⟨G,r,k,f⟩:=I.list F;obtain⟨j,h1,h2,A,l,o⟩:=jWV D;obtain⟨w,e,n⟩:=r.get h2;have S:=r.length;have hn:=Ni;have fin:EP X B O Q w s:=#[z,H,I,n,q];by_cases g:0<=i
 .have Z:i.toNat=j:=by
   rw[seqIndex_of g o]at h1;exact aU h1
  exact item_listR k.isList g #[] (by rw[Z];simpa using e) fin hs
 .have Z:(i+(G.toArray.size:Int)).toNat=j:=by
   rw[seqIndex_neg #[] l]at h1;rw[bG,←S];exact aU h1
  exact subscriptTail_builtinR (x:=w) k.isList.typeIs slot_list_getitem.lookup
   (wpAny_getItem_list_neg (Q:=λr R=>r=w/\EP X B O Q r R) k.isList #[] (by rw[bG]<;>lia) #[] (by rw[Z];simpa using e) #[rfl,fin]) hs
def ix_tup:IxR X (eY X.K):=by
 intro d c B s O H x y v u Q I J m h hs;obtain⟨p,rfl,h1⟩:=Eq.mp iZ h;obtain⟨i,rfl,T,F,z,D,q⟩:=Eq.mp iA h1;cases J;obtain⟨t,rfl⟩:=m;obtain⟨G,r,k,f⟩:=I.tuple F;obtain⟨j,h1,h2,A,g,l⟩:=jWV D;obtain⟨w,e,n⟩:=r.get h2;have S:=r.length;have hn:=Ni;have fin:EP X B O Q w s:=#[z,H,I,n,q];exact subscriptTail_builtinR (x:=w) k.typeIs slot_tuple_getitem.lookup
  (getItem_tuple (j:=j) (Q:=λr R=>r=w/\EP X B O Q r R) k #[] #[] (by rw[bG,←S];exact h1) (by simpa using e) #[rfl,fin]) hs
def jXn(G:List Value)(n j:Nat)(u:Value):Obj.mapSeq (·.setIfInBounds j u) { cls:=.type "list",data:=.seq G.toArray n }={ cls:=.type "list",data:=.seq (G.set j u).toArray n }:=by
 simp [Obj.mapSeq]
def Inv.lst{B:List (Addr×Obj)}{p:Addr}(I:Inv X B O H s)(h:H p=some (.lst xs)):
  ∃(G:List Value)(n:Nat),fF xs G/\s.heap.get? p=some { cls:=.type "list",data:=.seq G.toArray n }/\xs.length<=sizeLine:=by
 obtain⟨z,G,n,r,e⟩:=I.hok p _ h;exact#[G,n,r,e,z]
def Inv.lstUpd{B:List (Addr×Obj)}{p:Addr}{ys:List V}{its':List Value}{n l:Nat}{f:Obj->Obj}(I:Inv X B O H s)(h:H p=some (.lst xs))
  (ho:s.heap.get? p=some { cls:=.type "list",data:=.seq G.toArray n }) (hf:f { cls:=.type "list",data:=.seq G.toArray n }={ cls:=.type "list",data:=.seq its'.toArray l }) (r:fF ys its') (hz:ys.length<=sizeLine) (t:Nat):
  Inv X B O (upd H p (.lst ys)) { s with heap:=s.heap.update p f,toks:=t }:=by
 have e:(s.heap.update p f).get? p=some { cls:=.type "list",data:=.seq its'.toArray l }:=by
  rw[Heap.get?_update_self f ho (by rw[hf]<;>rfl),hf]
 refine I.write (x:=p) (e:=p) (by rw[h];trivial) (.inl rfl) (λb u hb q=>(eW _ _ (Ne.symm hb)).trans q) #[_,e] ?_;exact#[hz,its',l,r,e]
noncomputable def oP:V->V->V->Hp->(Hp->Prop)->Prop:=λo i v H Q=>∃p xs k j,o=.ref p/\i=.int k/\H p=some (.lst xs)/\ixN xs.length k=some j/\Q (upd H p (.lst (xs.set j v)))
def oQ:PSet X oP:=by
 rintro B s O H o i v g l u Q I d e N ⟨p,T,k,j,rfl,rfl,hp,Z,q⟩;cases d;obtain⟨t,rfl⟩:=e;obtain⟨G,n,r,ho,f⟩:=I.lst hp;obtain⟨h1,h2,A,y⟩:=Wo Z;have S:=r.length;have hn:=Ni;have c:Inv X B O (upd H p (.lst (T.set j v))) { s with heap:=s.heap.update p (Obj.mapSeq (·.setIfInBounds j u)) }:=
  I.lstUpd hp ho (jXn G n j u) (r.set N j) (by rw[fZ];exact f) s.toks
 by_cases D:0<=k
 .have hk:k.toNat=j:=by
   rw[seqIndex_of D y]at h1;exact aU h1
  exact PySem.W.ki_setAt ho D #[] (by rw[bG,←S];exact y) (by rw[hk];exact#[_,c,q])
 .have hk:(k+(G.toArray.size:Int)).toNat=j:=by
   rw[seqIndex_neg #[] A]at h1;rw[bG,←S];exact aU h1
  exact PySem.W.ki_setBack ho #[] (by rw[bG,←S];exact A) #[] (by rw[hk];exact#[_,c,q])
def Xa(lo hi:Option Int)(n:Nat):(sliceBounds lo hi none n).1=((HT.sIx n 0 lo:Nat):Int)/\(sliceBounds lo hi none n).2.1=((HT.sIx n n hi:Nat):Int)/\(sliceBounds lo hi none n).2.2=1:=by
 refine#[?_,?_,rfl]
 .cases lo with
  |none=>simp [sliceBounds,HT.sIx]
  |some i=>
   simp only[sliceBounds,HT.sIx,Option.getD_none,show(1:Int)>0 by decide,if_true];by_cases h:i<0
   .simp only[h,if_true]<;>lia
   .simp only[h,if_false]<;>lia
 .cases hi with
  |none=>simp [sliceBounds,HT.sIx]
  |some i=>
   simp only[sliceBounds,HT.sIx,Option.getD_none,show(1:Int)>0 by decide,if_true];by_cases h:i<0
   .simp only[h,if_true]<;>lia
   .simp only[h,if_false]<;>lia
def Rf(G:List Value)(lo hi:Option Int):slicePick G.toArray lo hi none=((G.drop (HT.sIx G.length 0 lo)).take (HT.sIx G.length G.length hi-HT.sIx G.length 0 lo)).toArray:=by
 obtain⟨h1,h2,A⟩:=Xa lo hi G.toArray.size;unfold slicePick;rw[h1,h2,A];simp only[sliceRange_one,pick_run,bG]<;>rfl
noncomputable def uP(K:aR):V->Option Int->Option Int->Hp->VK->Prop:=λx lo hi H Q=>∃a xs,x=.ref a/\SqL K H a xs/\∀p,H p=none->Q (.ref p) (upd H p (.lst (mW xs lo hi)))
def rF:SlR X (uP X.K):=by
 rintro B s O H x v c g lo hi sl Q I J hs k i ⟨a,T,rfl,hx,q⟩;cases J;obtain⟨G,r,y,f⟩:=I.list hx;have U:=r.length;refine#["list",_,slot_list_getitem.lookup,y.isList.typeIs,?_];refine wpAny_getItem_list_slice y.isList hs k i .none (by simp) ?_ (by rw[bG]<;>lia);rw[Rf,←U];refine#[.ref s.heap.objs.size,_,I.laid (t':=s.toks) (o:=.lst (mW T lo hi)) (λb ob q=>bA _ q) (aP _) ?_,rfl,q _ (I.hok.fresh (aP _))];exact#[dE (zO T lo hi) f,_,0,(r.drop (HT.sIx T.length 0 lo)).take (HT.sIx T.length T.length hi-HT.sIx T.length 0 lo),cE _ rfl]
noncomputable def Ei:V->Bool
 | .non=>true
 | .bl _=>true
 | .int _=>true
 | .str _=>true
 |_=>false
noncomputable def eqV:V->V->Bool
 | .non,.non=>true
 | .bl a,.bl b=>a==b
 | .bl a,.int b=>(if a then 1 else 0)==b
 | .int a,.bl b=>a==(if b then 1 else 0)
 | .int a,.int b=>a==b
 | .str a,.str b=>a==b
 |_,_=>false
def eqAt_V{A:Around}{y:V}{u v:Value}(m:fO y u)(J:fO x v)(d:Ei y=true)(c:Ei x=true):SeqAt.EqAt A s u v (eqV y x):=by
 cases y with
 |non=>
  cases m;cases x with
  |non=>cases J;exact SeqAt.EqAt.same _
  |bl b=>cases J;exact SeqAt.EqAt.none_bool b
  |int b=>obtain⟨t,rfl⟩:=J;exact SeqAt.EqAt.none_int b t
  |str b=>obtain⟨t,rfl⟩:=J;exact SeqAt.EqAt.none_str b t
  |_=>exact absurd (show false=true from c) bX
 |bl a=>
  cases m;cases x with
  |non=>cases J;exact SeqAt.EqAt.bool_none a
  |bl b=>cases J;exact SeqAt.EqAt.bool_bool a b
  |int b=>obtain⟨t,rfl⟩:=J;exact SeqAt.EqAt.bool_int a b t
  |str b=>obtain⟨t,rfl⟩:=J;exact SeqAt.EqAt.bool_str a b t
  |_=>exact absurd (show false=true from c) bX
 |int a=>
  obtain⟨U,rfl⟩:=m;cases x with
  |non=>cases J;exact SeqAt.EqAt.int_none a U
  |bl b=>cases J;exact SeqAt.EqAt.int_bool a U b
  |int b=>obtain⟨t,rfl⟩:=J;exact SeqAt.EqAt.int_int a U b t
  |str b=>obtain⟨t,rfl⟩:=J;exact SeqAt.EqAt.int_str a U b t
  |_=>exact absurd (show false=true from c) bX
 |str a=>
  obtain⟨U,rfl⟩:=m;cases x with
  |non=>cases J;exact SeqAt.EqAt.str_none a U
  |bl b=>cases J;exact SeqAt.EqAt.str_bool a U b
  |int b=>obtain⟨t,rfl⟩:=J;exact SeqAt.EqAt.str_int a U b t
  |str b=>obtain⟨t,rfl⟩:=J;exact SeqAt.EqAt.str_str a U b t
  |_=>exact absurd (show false=true from c) bX
 |_=>exact absurd (show false=true from d) bX
def eqU(x:V)(u:Value):Bool:=match u with
 | .none=>eqV .non x
 | .bool b=>eqV (.bl b) x
 | .int i _=>eqV (.int i) x
 | .str z _=>eqV (.str z) x
 |_=>false
def eqU_of{y:V}{u:Value}(r:fO y u)(f:Ei y=true):eqU x u=eqV y x:=by
 cases y with
 |non=>cases r;rfl
 |bl b=>cases r;rfl
 |int i=>obtain⟨t,rfl⟩:=r;rfl
 |str z=>obtain⟨t,rfl⟩:=r;rfl
 |_=>exact absurd (show false=true from f) bX
def Ev{x:V}:∀{xs:List V}{us:List Value},fF xs us->xs.all Ei=true->us.any (eqU x)=xs.any λy=>eqV y x
 |_,_,.nil,_=>rfl
 |y::xs,u::us,.cons r t,f=>by
  rw[List.all_cons,Bool.and_eq_true]at f;rw[List.any_cons,List.any_cons,eqU_of r f.1,Ev t f.2]
def yI{A:Around}{s:Shared}{x:V}{v:Value}(J:fO x v)(c:Ei x=true):∀{xs:List V}{us:List Value},fF xs us->xs.all Ei=true->∀u∈us,SeqAt.EqAt A s u v (eqU x u)
 |_,_,.nil,_=>λu hu=>by cases hu
 |y::xs,u::us,.cons r t,f=>λU hu=>by
  rw[List.all_cons,Bool.and_eq_true]at f;rcases eK.mp hu with rfl |hu
  .rw[eqU_of r f.1];exact eqAt_V r J f.1 c
  .exact yI J c t f.2 U hu
def inV(x:V)(xs:List V):Bool:=xs.any λy=>eqV y x
def rIn(K:aR)(neg:Bool):R2:=λx y H Q=>∃p xs,y=.ref p/\(SqL K H p xs∨SqT K H p xs)/\Ei x=true/\xs.all Ei=true/\Q (.bl (if neg then !inV x xs else inV x xs)) H
def Tb:OpR X (compareOp .In) (rIn X.K false):=by
 rintro B s O H x y v u Q I J m ⟨p,T,rfl,F,c,fs,q⟩;cases m;rcases F with F |F
 .obtain⟨G,r,k,f⟩:=I.list F;refine SeqAt.in_listAt (eqU x) k.isList (λw hw=>yI J c r fs w (by simpa using hw)) #[.bl _,H,I,rfl,?_];rw[show G.toArray.any (eqU x)=G.any (eqU x) by simp,Ev r fs];exact q
 .obtain⟨G,r,k,f⟩:=I.tuple F;refine SeqAt.in_tupleAt (eqU x) k (λw hw=>yI J c r fs w (by simpa using hw)) #[.bl _,H,I,rfl,?_];rw[show G.toArray.any (eqU x)=G.any (eqU x) by simp,Ev r fs];exact q
def Hq:OpR X (compareOp .NotIn) (rIn X.K true):=by
 rintro B s O H x y v u Q I J m ⟨p,T,rfl,F,c,fs,q⟩;cases m;rcases F with F |F
 .obtain⟨G,r,k,f⟩:=I.list F;refine SeqAt.notIn_listAt (eqU x) k.isList (λw hw=>yI J c r fs w (by simpa using hw)) #[.bl _,H,I,rfl,?_];rw[show G.toArray.any (eqU x)=G.any (eqU x) by simp,Ev r fs];exact q
 .obtain⟨G,r,k,f⟩:=I.tuple F;refine SeqAt.notIn_tupleAt (eqU x) k (λw hw=>yI J c r fs w (by simpa using hw)) #[.bl _,H,I,rfl,?_];rw[show G.toArray.any (eqU x)=G.any (eqU x) by simp,Ev r fs];exact q
def cI:wX X (.builtin "len") (λT H Q=>∃p M,T=[.ref p]/\(SqL X.K H p M∨SqT X.K H p M)/\Q (.int M.length) H):=by
 rintro B s O H T g Q I r ⟨p,M,rfl,F,q⟩;obtain⟨u,rfl,J⟩:=wW r;cases J;have hn:=Ni;rcases F with F |F
 .obtain⟨G,t,k,f⟩:=I.list F;have U:=t.length;exact Calls.call_len_list k.isList (by simp only[bG]<;>lia) #[.int M.length,H,I.tok _,#[s.toks+1,by rw[bG,U]],q]
 .obtain⟨G,t,k,f⟩:=I.tuple F;have U:=t.length;exact len_tuple k (by simp only[bG]<;>lia) #[.int M.length,H,I.tok _,#[s.toks+1,by rw[bG,U]],q]
def jL:wX X (.type "list") (λT H Q=>∃p M,T=[.ref p]/\(SqL X.K H p M∨SqT X.K H p M)/\∀l,H l=none->Q (.ref l) (upd H l (.lst M))):=by
 rintro B s O H T g Q I r ⟨p,M,rfl,F,q⟩;obtain⟨u,rfl,J⟩:=wW r;cases J;have fin:∀(G:List Value),fF M G->M.length<=sizeLine->∀(Y:Heap)(m:Nat),(∀b c,s.heap.get? b=some c->Y.get? b=some c)->
   Y.get? s.heap.objs.size=some { cls:=.type "list",dict:=none,data:=.seq G.toArray m,slots:=(List.toArray []) }->EP X B O Q (.ref s.heap.objs.size) { s with heap:=Y }:=λG t f Y m kp e=>
  #[.ref s.heap.objs.size,_,I.laid (t':=s.toks) kp (aP _) (show jV X.prog X.w _ Y _ (.lst M)from#[f,G,m,t,e]),rfl,q _ (I.hok.fresh (aP _))]
 rcases F with F |F
 .obtain⟨G,t,k,f⟩:=I.list F;have U:=t.length;obtain⟨o,ho,hc,n,hd⟩:=k.isList;exact call_list_seq p (.inl rfl) ho hc hd (λY m kp e=>fin G t f Y m kp e) (by simp only[bG]<;>lia)
 .obtain⟨G,t,k,f⟩:=I.tuple F;have U:=t.length;obtain⟨o,ho,hc,n,hd⟩:=k;exact call_list_seq p (.inr rfl) ho hc hd (λY m kp e=>fin G t f Y m kp e) (by simp only[bG]<;>lia)
def tyV(K:aR)(T:String)(x:V)(H:Hp):Prop:=match x with
 | .str _=>T="str"
 | .int _=>T="int"
 | .ref p=>(T="list"/\∃xs,SqL K H p xs)∨(T="tuple"/\∃o,K.lookup p=some o/\o.cls=.type "tuple"/\o.dict=none)∨
   (T="dict"/\((∃kvs,H p=some (.dK kvs))∨∃kvs,H p=some (.dT kvs)))∨(T="set"/\∃S n,H p=some (.set S n))
 |_=>False
def tyV_is{B:List (Addr×Obj)}{T:String}{v:Value}(I:Inv X B O H s)(r:fO x v)(A:tyV X.K T x H):
  s.TypeIs v T/\∀a,v=.ref a->∃ob,s.heap.get? a=some ob/\ob.dict=none:=by
 cases x with
 |str z=>
  obtain⟨t,rfl⟩:=r;cases(show T="str" from A);exact#[typeIs_str s z t,λ_ e=>nomatch e]
 |int i=>
  obtain⟨t,rfl⟩:=r;cases(show T="int" from A);exact#[typeIs_int s i t,λ_ e=>nomatch e]
 |ref p=>
  cases r;rcases A with⟨rfl,d,F⟩|⟨rfl,o,hk,hc,hd⟩|⟨rfl,hk⟩|⟨rfl,S,n,hk⟩
  .obtain⟨G,_,k,_⟩:=I.list F;refine#[k.isList.typeIs,λa e=>?_];cases e;obtain⟨o,n,e,c,hd,_⟩:=k;exact#[o,e,hd]
  .refine#[#[o,I.kIn p o hk,hc],λa e=>?_];cases e;exact#[o,I.kIn _ o hk,hd]
  .have z:∃o,s.heap.get? p=some o/\o.ExactDict:=by
    rcases hk with⟨N,hk⟩|⟨N,hk⟩
    .obtain⟨_,_,_,_,o,_,_,e,ex,_⟩:=I.hok p _ hk;exact#[o,e,ex]
    .obtain⟨_,_,_,_,o,_,_,e,ex,_⟩:=I.hok p _ hk;exact#[o,e,ex]
   obtain⟨o,e,ex⟩:=z;refine#[#[o,e,ex.1],λa C=>?_];cases C;exact#[o,e,ex.2.1]
  .obtain⟨o,_,_,_,e,ex,_⟩:=I.hok p _ hk;refine#[#[o,e,ex.1],λa C=>?_];cases C;exact#[o,e,ex.2.1]
 |_=>exact False.elim A
def tBM0(K:aR)(T:String)(r:V->List V->Hp->VK->Prop)(c:TE):TE:=λO H Q=>c O H λx U=>tyV K T x U/\r x [] U Q
def tBM(K:aR)(T:String)(r:V->List V->Hp->VK->Prop)(c:TE)(t:TA):TE:=λO H Q=>c O H λx U=>tyV K T x U/\t O U λxs j=>r x xs j Q
variable{o e:Expr}{es:List Expr}{to:TE}{t:TA}{name:Str}{apos cpos:Pos}{T id:String}{r:V->List V->Hp->VK->Prop}
def pe_bm0(pa:PlainAttrs T)(slot:Slot T name id)(k:typeOf (.builtin id)=pure (.type "method_descriptor"))(hm:MtR X id r)(ho:PE X o to)
  (f:attributeBase o name X.env (eval o X.env)=eval o X.env:=by rfl) (i:(apos.endLine==cpos.line)=true:=by rfl):PE X (.Call (.Attribute o name apos) [] [] cpos) (tBM0 X.K T r to):=by
 intro B s O H Q I h;refine wpAny_Call_method0_late f i (thE (ho B s O H _ I h) λv M x U P Z w=>?_);obtain⟨A,q1⟩:=w;obtain⟨h1,h2⟩:=tyV_is P Z A;exact#[T,id,pa,slot,k,h1,h2,Calls.callWith_builtin rfl (PySem.evalArgs_none (hm B M O U x [] v [] Q P Z .nil q1))]
def xQ(pa:PlainAttrs T)(slot:Slot T name id)(k:typeOf (.builtin id)=pure (.type "method_descriptor"))(hm:MtR X id r)(ho:PE X o to)(ha:PA X (e::es) t)
  (f:attributeBase o name X.env (eval o X.env)=eval o X.env:=by rfl)
  (l:((backTo cpos (starEach (e::es) X.env)).all (λx=>!x.1)&&(backToKw cpos (keywordEach [] X.env)).all (λx=>x.1.isSome)
   &&decide ((e::es).length+([]:List Keyword).length+(if([]:List Keyword).isEmpty then 0 else 1)<30))=true:=by rfl)
  (i:(apos.endLine==cpos.line)=true:=by rfl) (hs:starEach (e::es) X.env=(false,eval e X.env)::starEach es X.env:=by rfl) (c:(backTo cpos (starEach es X.env)).any (·.1)=false:=by rfl):
  PE X (.Call (.Attribute o name apos) (e::es) [] cpos) (tBM X.K T r to t):=by
 intro B s O H Q I h;refine wpAny_Call_method_late f l i rfl (thE (ho B s O H _ I h) λv M x U P Z w=>?_);obtain⟨A,q1⟩:=w;obtain⟨h1,h2⟩:=tyV_is P Z A;refine#[T,id,pa,slot,k,h1,h2,?_];have G:=ha cpos B M O U _ P q1;rw[hs]at G⊢;refine Calls.callWith_builtin (by show(false||(backTo cpos (starEach es X.env)).any (·.1))=false;rw[c]<;>rfl) (Calls.evalArgs_plain ?_);exact thn G λg d#[m,j,n,Y,p]=>hm B d O j x m v g Q n Z Y p
end
def MtM(X:Cx)(f:String)(r:V->List V->Hp->VK->Prop):Prop:=
 ∀(B:List (Addr×Obj))(s:Shared)(O:St)(H:Hp)(x:V)(xs:List V)(v:Value)(us:List Value)(Q:VK),Inv X B O H s->fO x v->fF xs us->r x xs H Q->
  wpAny (model X.prog X.w) X.A (call (.builtin f) (v::us)) (EP X B O Q) X.xe s
def fF.one:∀{x:V}{us:List Value},fF [x] us->∃u,us=[u]/\fO x u
 |_,_,.cons r .nil=>#[_,rfl,r]
def fF.eraseIdx:∀{xs:List V}{us:List Value}(i:Nat),fF xs us->fF (xs.eraseIdx i) (us.eraseIdx i)
 |_,_,_,.nil=>.nil
 |_,_,0,.cons _ t=>t
 |_,_,i+1,.cons r t=>.cons r (fF.eraseIdx i t)
def Jp{d:Type}:∀(l:List d)(i:Nat),(l.eraseIdx i).length<=l.length
 | [],_=>aP _
 |_::_,0=>Nat.le_succ _
 |_::r,i+1=>Nat.succ_le_succ (Jp r i)
section
variable{X:Cx}{pins:List (Addr×Obj)}{σ:St}{H:Hp}{s:Shared}{l b:Addr}{xs ys zs:List V}
def Inv.lset{its':List Value}{n:Nat}{f:Array Value->Array Value}{t':Nat}(I:Inv X pins σ H s)(o:H l=some (.lst xs))
  (e:s.heap.get? l=some { cls:=.type "list",data:=.seq G.toArray n }) (hf:f G.toArray=its'.toArray) (hv:fF ys its') (hz:ys.length<=sizeLine):
  Inv X pins σ (upd H l (.lst ys)) { s with heap:=s.heap.update l (Obj.mapSeq f),toks:=t' }:=by
 have q:=PySem.IsL.update e f;rw[hf]at q;refine I.write (x:=l) (e:=l) (by rw[o];exact trivial) (.inl rfl) (λd u hb hu=>(eW s.heap (Obj.mapSeq f) (Ne.symm hb)).trans hu) #[_,q] ?_;exact#[hz,its',_,hv,q]
def Inv.lnew{t':Nat}(I:Inv X pins σ H s)(hv:fF ys G)(hz:ys.length<=sizeLine):
  Inv X pins σ (upd H s.heap.objs.size (.lst ys)) { s with heap:=s.heap.push { cls:=.type "list",data:=.seq G.toArray },toks:=t' }:=
 I.laid (λ_ _ q=>bA _ q) (aP _) #[hz,G,0,hv,cE _ rfl]
def Inv.fresh(I:Inv X pins σ H s):H s.heap.objs.size=none:=I.hok.fresh (aP _)
def Inv.lstM(I:Inv X pins σ H s)(o:H l=some (.lst xs)):xs.length<=sizeLine/\∃(G:List Value)(n:Nat),fF xs G/\xs.length=G.length/\s.heap.get? l=some { cls:=.type "list",data:=.seq G.toArray n }:=by
 obtain⟨z,G,n,r,e⟩:=I.hok l _ o;exact#[z,G,n,r,r.length,e]
def jUV{n:Nat}(h:n<=sizeLine):Builtin.List.listTooLong n=false:=by
 unfold Builtin.List.listTooLong;exact decide_eq_false #[]
end
section
variable{X:Cx}
noncomputable def kU:V->List V->Hp->VK->Prop:=λx vs H Q=>∃l xs y,x=.ref l/\vs=[y]/\H l=some (.lst xs)/\xs.length<sizeLine/\Q .non (upd H l (.lst (xs++ [y])))
def qC:MtM X "list.append" kU:=by
 rintro B s O H x j v g Q I J N ⟨l,T,y,rfl,rfl,o,f,q⟩;cases J;obtain⟨u,rfl,d⟩:=N.one;obtain⟨z,G,n,r,S,e⟩:=I.lstM o;refine call_meets F.slot_list_append #[_,e,rfl] F.entry_list_append (F.args_list_append_2 _ _) (PySem.list_append l G.toArray n u (by rw[bG];lia)) #[e,?_];refine#[.non,_,I.lset (its':=G++ [u]) o e (by simp) (r.append (.cons d .nil)) ?_,rfl,q];rw[bF,List.length_singleton];lia
noncomputable def Md:V->List V->Hp->VK->Prop:=λx vs H Q=>∃l b xs J,x=.ref l/\vs=[.ref b]/\H l=some (.lst xs)/\H b=some (.lst J)/\xs.length+J.length<=sizeLine/\Q .non (upd H l (.lst (xs++J)))
def Th:MtM X "list.extend" Md:=by
 rintro B s O H x j v g Q I k N ⟨l,b,T,J,rfl,rfl,o,t,f,q⟩;cases k;obtain⟨u,rfl,d⟩:=N.one;cases d;obtain⟨z,G,n,r,S,e⟩:=I.lstM o;obtain⟨p,c,n2,Y,m,C⟩:=I.lstM t;have i:G.toArray.size+c.toArray.size<=sizeLine:=by rw[bG,bG];lia
 have a:¬(!G.toArray.isEmpty&&Builtin.List.listTooLong (G.toArray.size+c.toArray.size))=true:=by
  rw[jUV i,Bool.and_false];exact bX
 refine call_meets F.slot_list_extend #[_,e,rfl] F.entry_list_extend (F.args_list_extend_2 _ _)
  (AutoSeq1.list_extend_list_list_0 l G.toArray n b c.toArray n2 a (by rw[bG];lia) #[]) #[e,C,?_]
 refine#[.non,_,I.lset (its':=G++c) o e (by simp) (r.append Y) ?_,rfl,q];rw[bF];lia
noncomputable def jZJ:V->List V->Hp->VK->Prop:=λx vs H Q=>∃l xs i k y,x=.ref l/\vs=[.int i]/\H l=some (.lst xs)/\-(2^63)<=i/\i<2^63/\seqIndex? i xs.length=some k/\xs[k]?=some y/\Q y (upd H l (.lst (xs.eraseIdx k)))
def jUU:MtM X "list.pop" jZJ:=by
 rintro B s O H x j v g Q I J N ⟨l,T,i,k,y,rfl,rfl,o,h1,h2,hk,hy,q⟩;cases J;obtain⟨u,rfl,d⟩:=N.one;obtain⟨t,rfl⟩:=d;obtain⟨z,G,n,r,S,e⟩:=I.lstM o;obtain⟨w,hw,a⟩:=r.get hy;refine call_meets F.slot_list_pop #[_,e,rfl] F.entry_list_pop (F.args_list_pop_2 _ _)
  (MeetsSeq.list_pop_at l G.toArray n i t k w (fitsIndex_both h1 h2) (by rw[bG,←S];exact hk) (by rw[←Array.getElem?_toList];exact hw) (by rw[bG];lia)) #[e,?_]
 refine#[y,_,I.lset (its':=G.eraseIdx k) o e ?_ (r.eraseIdx k) ?_,a,q]
 .show G.toArray.eraseIdxIfInBounds k=(G.eraseIdx k).toArray;rw[List.eraseIdxIfInBounds_toArray]
 .have:=Jp T k;lia
def uQ:R2:=λx y H Q=>∃l b xs J,x=.ref l/\y=.ref b/\H l=some (.lst xs)/\H b=some (.lst J)/\xs.length+J.length<=sizeLine/\∀p,H p=none->Q (.ref p) (upd H p (.lst (xs++J)))
def uT:OpR X (binaryOp .Add) uQ:=by
 rintro B s O H x y v u Q I a m ⟨l,b,T,J,rfl,rfl,o,t,f,q⟩;cases a;cases m;obtain⟨z,G,n,r,S,e⟩:=I.lstM o;obtain⟨g,c,n2,Y,d,C⟩:=I.lstM t;refine PySem.P.add_list e C ?_ (by rw[bG,bG];lia);have R:G.toArray++c.toArray=(G++c).toArray:=by simp
 rw[R];exact#[.ref _,_,I.lnew (t':=s.toks) (r.append Y) (by rw[bF];lia),rfl,q _ I.fresh]
end
end L2
namespace Att
open PySem PySem.W PySem.Calls PyProof.Rows
def Ly{P:Params}{h:Heap}:∀(ns:List Int)(vs:List Value),WellAll P h vs (ns.map WData.int)->IntsAre vs ns:=by
 intro ns
 induction ns with
 |nil=>
  intro vs w;rw[List.map_nil]at w;cases w;exact .nil
 |cons n ns ih=>
  intro vs w;rw[List.map_cons]at w;cases w with
  |cons a b=>
   cases a;exact .cons _ _ (ih _ b)
def jWo{l:OpenLaw}{n:Nat}(hn:l.most=some n){P:Params}{h:Heap}{c:List WData}{k:List Value}
  (e:l.row.toRowW.claim.pre c=true) (b:WellAll P h k c):
  ∃a j ns,k=[Value.ref a]/\c=[WData.list (ns.map WData.int)]/\h.get? a=some { cls:=.type "list",data:=.seq j.toArray }/\IntsAre j ns/\ns.length<=n:=by
 have f:WShape.hasAll [] c [.list .int]=true:=(pre_splitW e).1;have hc:l.pre.holds [] { args:=c }=true:=(pre_splitW e).2;obtain⟨d,r,rfl,h1,h2⟩:=hasAllW_cons f;obtain rfl:=hasAllW_nil h2;obtain⟨T,rfl,A⟩:=hasW_list h1;obtain⟨ns,rfl⟩:=items_int A;have U:ns.length<=n:=by
  unfold OpenLaw.pre at hc;have y:(WTm.not (.lt (.lit (.int (n:Int))) (.len (.arg 0)))).holds [] { args:=[.list (ns.map .int)] }=true:=by
   have y:=(holds_andW hc).1;rw[hn]at y;exact y
  have O:=condW_of y (w_not (w_lt w_lit (w_len_list (w_arg rfl))));rw[List.length_map]at O;refine Nat.le_of_not_lt λq=>?_;have S:(n:Int)<((ns.length:Nat):Int):=#[]
  first
   | (rw[decide_eq_true S]at O;exact absurd O (by decide))
   | (simp at O;lia)
 cases b with
 |cons w1 w2=>
  cases w2;cases w1 with
  |list ho hall=>exact#[_,_,ns,rfl,rfl,ho,Ly ns _ hall,U]
def jW1(l:OpenLaw)(c:List WData):l.row.toRowW.claim.post c (.bool true) c=true:=
 postW_of (r:=l.row.toRowW) (X:=(true==true))
  (show WShape.has [] (.bool true) .bool=true by first |rfl |decide |simp [WShape.has,WShape.arms,WShape.armsAll])
  (show(WTm.eq .res (.lit (.bool true))).value [] { args:=c,res:=some (.bool true),after:=c }=some (.bool (true==true))from w_eq_bool (w_res rfl) w_lit) rfl
def attach_call{l:OpenLaw}{n:Nat}{q:Program}{t:List Str}{Q:(Str->Option Value)->Heap->Prop}{N:World->Heap->Prop}{d:DefRec}
  (hn:l.most=some n) (C:d.params.defaults=[])
  (call:∀(w:World)(s₀ D:Shared)(mg M:Str->Option Value)(I:Addr)(o:Obj)(z m i:Value)(a:Addr)(vs:List Value)(ns:List Int),
   Ground q t [] Q w s₀ mg M D.heap->N w D.heap->
   D.heap.get? I=some o->o.data=.func (docDef d.name d.params d.body d.scope z m i)->D.heap.CodeRec m d.name->mg d.name=some (.ref I)->
   D.heap.get? a=some { cls:=.type "list",data:=.seq vs.toArray }->IntsAre vs ns->ns.length<=n->D.gens=(List.toArray [])->
   codeAny (model l.prog w) callerA (.call (.ref I) #[[.ref a],[]]) (λr R=>r=.ok (.ret (.bool true))/\OldK D.heap R.heap/\R.os=D.os/\AllBare R.gens) D):
  WalkO q t Q N l.row.toRowW d [] (λf vs=>PySem.call f vs):=by
 intro w s₀ D mg M G Y I o z m i h kV ho hd p g P hg c k u e j s b v;obtain rfl:h=.none:=Dflts.none g C;obtain rfl:kV=.none:=Dflts.noKw g;obtain⟨a,vs,ns,rfl,rfl,J,B,U⟩:=jWo hn e b;refine enter_call (codeAny_mono (call w s₀ D mg M I o z m i a vs ns G Y ho (fd_plain hd) p P J B U hg) λr R F=>?_);obtain⟨rfl,h2,A,y⟩:=F;exact#[.inl #[.bool true,.bool true,[],rfl,λ_=>rfl,.bool true,jW1 l _,λ_=>#[List.Pairwise.nil,λ_ hm=>(nomatch hm)]],h2,A,y]
end Att
namespace L2
open PySem PySem.Spec PyProof.Rows
variable{A:Prop}{H:Hp}{k:Nat}
def Ry:∀{vs:List Value}{ns:List Int},IntsAre vs ns->fF (ns.map V.int) vs
 |_,_,.nil=>.nil
 |_,_,.cons n t h=>.cons #[t,rfl] (Ry h)
def Only(H:Hp):Prop:=∀b,H b=none∨∃o xs,H b=some (.frz o (.lst xs))
def jUb{P:Program}{w:World}{K:aR}{mg M:Str->Option Value}{CX:CXT}{I a:Addr}{fd:FuncData}{x:Str}{sp:Sp}{D:Shared}{vs:List Value}{ns:List Int}
  (X:K.In D.heap) (f:D.heap.Ns mainGlobals mg) (hb:D.heap.Ns builtinsNs M) (a4:∀x:Str,x≠ "__name__"->M x=bootBuiltins x) (Y:D.heap.NoLimit) (hg:D.gens=(List.toArray []))
  (ha:D.heap.get? a=some { cls:=.type "list",data:=.seq vs.toArray }) (hi:IntsAre vs ns) (S:ns.length<=sizeLine) (hr:mK k callerA)
  (F:∀base:Heap,K.In base->base.Ns mainGlobals mg->xN P w K mg base CX k I fd [x] sp) (y:∀(s:Shared)(u:Value),BindsTo s fd #[[u],[]] [(x,u)])
  (O:∀H:Hp,Only H->SqL K H a (ns.map V.int)->sp [.ref a] H (λv _=>v=.bl true) λ_ _ _=>False)
  (a5:∀H e R,CX [] H D (λ_ _ _=>False) e R->False):
  codeAny (model P w) callerA (.call (.ref I) #[[.ref a],[]]) (λr R=>r=.ok (.ret (.bool true))/\OldK D.heap R.heap/\R.os=D.os/\AllBare R.gens) D:=by
 have N:=Ry hi;have a1:=hi.length
 --from an abstract heap in which nothing but the script may be tracked
 have p:∀H:Hp,Only H->SqL K H a (ns.map V.int)->HOk P w H D.heap->(∀b,H b≠none->b=a)->(H a≠none->K.lookup a=none)->
   codeAny (model P w) callerA (.call (.ref I) #[[.ref a],[]]) (λr R=>r=.ok (.ret (.bool true))/\OldK D.heap R.heap/\R.os=D.os/\AllBare R.gens) D:=by
  intro H hO hS hok G j;have c:∀{b:Addr}{o:Obj},D.heap.get? b=some o->H b=none->(Vb D.heap H).get? b=some o:=λe n=>jUg e n;have Q:∀{b:Addr}{o:Obj}{J:Array DictEntry}{U:Nat},D.heap.get? b=some o->o.data=.dict J U->H b=none:=fun{b o J U} e d=>by
   cases q:H b with
   |none=>rfl
   |some u=>
    have g:b=a:=G b (by rw[q];simp);subst g;rw[ha]at e;cases e;have A:Data.seq vs.toArray _=Data.dict J U:=d;cases A
  have i:∀{b:Addr}{m:Str->Option Value},D.heap.Ns b m->(Vb D.heap H).Ns b m:=fun{b m}⟨o,J,U,e,d,r⟩=>#[o,J,U,c e (Q e d),d,r];have a2:K.In (Vb D.heap H):=λb o e=>c (X b o e) (by
   cases q:H b with
   |none=>rfl
   |some u=>
    have g:b=a:=G b (by rw[q];simp);subst g;rw[j (by rw[q];simp)]at e;cases e)
  have hM:Mod K mg (Vb D.heap H):=#[a2,i f,#[M,i hb,a4],let⟨mc,h1,h2⟩:=Y;#[mc,i h1,h2]];have B:Env0 P w K mg (Vb D.heap H) callerA [] D H:=#[rfl,hM,λb o e=>of_hidT e,Nat.le_of_eq (jVc _ _),trivial,λb hb=>absurd (show b∈([]:List Addr)from hb) (by simp),hok,.of_eq hg];refine codeAny_mono ((F _ a2 (i f)).run callerA [] D H #[[.ref a],[]] [.ref a] [.ref a] _ _ hr B (y D (.ref a)) (.cons rfl .nil) (O H hO hS)) λr R h=>?_;cases r with
  |error e=>exact(a5 H e R h).elim
  |ok fl=>
   cases fl with
   |next=>exact False.elim h
   |brk=>exact False.elim h
   |cont=>exact False.elim h
   |ret u=>
    obtain⟨v,Z,os,bare,un,a3,t,q⟩:=h;have q':v=.bl true:=q;subst q';obtain rfl:u=Value.bool true:=t;refine#[rfl,OldK.of_keep λb o e=>?_,os,bare];cases q:H b with
    |none=>exact un.keep b o e q (by intro z;exact absurd (show b∈([]:List Addr)from z) (by simp)) (by simp)
    |some u=>
     rcases hO b with z |⟨ob,xs,z⟩
     .rw[q]at z;cases z
     .have T:=un.frzs b ob _ z;obtain⟨e1,_⟩:=hok b _ z;obtain⟨C,_⟩:=a3 b _ T;rw[e]at e1;cases e1;exact C
 cases hk:K.lookup a with
 |some o=>
  --the script is one of the module's own objects
  have e:=X a o hk;rw[ha]at e;cases e;refine p (λ_=>none) (λ_=>.inl rfl) (.inr #[_,vs.toArray,_,hk,rfl,rfl,rfl,by rw[bG,a1];exact S,by simpa using N]) (λb u z=>by have l:(none:Option HO)=some u:=z;cases l) (λb z=>absurd rfl z) λz=>absurd rfl z
 |none=>
  refine p (λb=>if b=a then some (.frz { cls:=.type "list",data:=.seq vs.toArray } (.lst (ns.map V.int)))else none) (λb=>?_) (.inl (.inr #[{ cls:=.type "list",data:=.seq vs.toArray },aK rfl])) (λb u z=>?_) (λb z=>?_) λ_=>hk
  .by_cases hb:b=a
   .exact .inr #[_,_,aK hb]
   .exact .inl (aF hb)
  .by_cases hb:b=a
   .have l:=(aK hb).symm.trans z;cases l;subst hb;exact#[ha,by rw[aA];exact S,vs,_,N,ha]
   .have l:=(aF hb).symm.trans z;cases l
  .by_cases hb:b=a
   .exact hb
   .exact absurd (aF hb) z
def walk_of{l:PySem.W.OpenLaw}{n:Nat}{q:Program}{t:List Str}{Q:(Str->Option Value)->Heap->Prop}{N:World->Heap->Prop}{d:DefRec}{K:Params->aR}{CX:World->CXT}{sp:World->Sp}{x:Str}
  (hn:l.most=some n) (c:n<=sizeLine) (C:d.params.defaults=[]) (hr:mK k callerA)
  (y:∀(w:World)(h:Heap),N w h->(K w.params).In h)
  (F:∀(w:World)(mg:Str->Option Value)(I:Addr)(h:Heap),(K w.params).In h->h.Ns mainGlobals mg->mg d.name=some (.ref I)->
   ∃fd:FuncData,(∀(s:Shared)(u:Value),BindsTo s fd #[[u],[]] [(x,u)])/\
    ∀base:Heap,(K w.params).In base->base.Ns mainGlobals mg->xN l.prog w (K w.params) mg base (CX w) k I fd [x] (sp w))
  (O:∀(w:World)(H:Hp)(a:Addr)(ns:List Int),ns.length<=n->Only H->SqL (K w.params) H a (ns.map V.int)->sp w [.ref a] H (λv _=>v=.bl true) λ_ _ _=>False)
  (r:∀(w:World)(H:Hp)(s:Shared)(e:Value)(R:Shared),CX w [] H s (λ_ _ _=>False) e R->False):
  PySem.W.WalkO q t Q N l.row.toRowW d [] (λf j=>PySem.call f j):=by
 refine Att.attach_call hn C λw s₀ D mg M I o z m i a j ns G Y ho hd p P J B U hg=>?_;have X:=y w _ Y;obtain⟨fd,hb,A⟩:=F w mg I _ X G.T.g P;exact jUb X G.T.g G.T.b G.T.builtins G.T.nolimit hg J B (dE U c) hr A hb (λH Z S=>O w H a ns U Z S) λH e R=>r w H D e R
def kF(s:Stmt)(j:Nat):Stmt:=match s with
 | .ClassDef _ _ _ body _ _ _ _ _ _ _=>body.getD j (.Pass #[0,0,0,0])
 |_=>.Pass #[0,0,0,0]
def lQ(s:Stmt):Arguments:=match s with
 | .FunctionDef _ a _ _ _ _ _ _ _ _=>a
 |_=>{ posonlyargs:=[],args:=[],vararg:=none,kwonlyargs:=[],kw_defaults:=[],kwarg:=none,defaults:=[] }
noncomputable def kW(s:Stmt):List Stmt:=match s with
 | .FunctionDef _ _ b _ _ _ _ _ _ _=>b
 |_=>[]
def eE(s:Stmt):Scope:=match s with
 | .FunctionDef _ _ _ _ _ _ sc _ _ _=>sc
 |_=>{ kind:=.function,names:=[],isGenerator:=false,isCoroutine:=false }
noncomputable abbrev CX0:CXT:=λ_ _ _ _ _ _=>False
noncomputable abbrev E0:XK:=λ_ _ _=>False
def Yd{X:Cx}:Cp CX0 X E0:=λ_ _ _ _ _ _ _ h=>h.elim
def xT{A:Around}(hr:mK k A):A.units+1<cLine:=fY (gH (by decide:1<=64) _) hr.units
def Dz{B:Prop}(h:B):if false=true then A else B:=by
 rw[aF bX];exact h
def Mv{B:Prop}(h:A):if true=true then A else B:=by
 rw[aK rfl];exact h
def mV{c B:Prop} [Decidable c](h1:c->A)(h2:¬c->B):if c then A else B:=by
 by_cases h:c
 .rw[aK h];exact h1 h
 .rw[aF h];exact h2 h
def iteNS{c B:Prop} [Decidable c](hc:c)(h:B):if(!decide c)=true then A else B:=by
 rw[decide_eq_true hc];exact Dz h
def aS(H Z:Hp):Prop:=∀b o,H b=some o->Z b=some o
def aS.refl(H:Hp):aS H H:=λ_ _ h=>h
def aS.trans{U j:Hp}(a:aS H U)(b:aS U j):aS H j:=λc o h=>b c o (a c o h)
def aS.free{Z:Hp}(e:aS H Z){l:Addr}(h:Z l=Option.none):H l=Option.none:=by
 cases q:H l with
 |none=>rfl
 |some o=>
  rw[e l o q]at h;cases h
def aS.seq{K:aR}{Z:Hp}{a:Addr}{xs:List V}(e:aS H Z)(h:SqL K H a xs):SqL K Z a xs:=by
 rcases h with(h |⟨o,h⟩)|h
 .exact .inl (.inl (e _ _ h))
 .exact .inl (.inr #[o,e _ _ h])
 .exact .inr h
end L2
set_option Elab.async false
set_option linter.all false
set_option maxRecDepth 100000
set_option maxHeartbeats 4000000
namespace L2
open PySem PySem.Spec PyProof.Rows
variable{H Z:Hp}{P:Program}{Q:Value->Shared->Prop}{a:Addr}{kvs:List (List Key×V)}{s:Shared}{u:Value}{xs:List (List Key×Addr×Value)}{y:V}
section
variable{κ:Type} [DecidableEq κ]
noncomputable def mJ(kvs:List (κ×V))(k:κ):Option V:=(kvs.find? λkv=>decide (kv.1=k)).map (·.2)
noncomputable def sV(kvs:List (κ×V))(k:κ)(v:V):List (κ×V):=
 if(kvs.any λkv=>decide (kv.1=k))=true then kvs.map (λkv=>if kv.1=k then(kv.1,v)else kv)else kvs++ [(k,v)]
def kN{p:κ×V}{r:List (κ×V)}{k:κ}(e:p.1=k):mJ (p::r) k=some p.2:=by simp [mJ,List.find?_cons,e]
def kO{p:κ×V}{r:List (κ×V)}{k:κ}(e:¬p.1=k):mJ (p::r) k=mJ r k:=by simp [mJ,List.find?_cons,e]
def xZ(k:κ):∀N:List (κ×V),(N.any λkv=>decide (kv.1=k))=(mJ N k).isSome
 | []=>rfl
 |p::r=>by
  rw[List.any_cons];by_cases e:p.1=k
  .simp only[kN e,decide_eq_true e,Bool.true_or,Option.isSome_some]
  .rw[kO e,decide_eq_false e,Bool.false_or];exact xZ k r
def Yn(k j:κ)(y:V):∀N:List (κ×V),mJ (N.map λkv=>if kv.1=k then(kv.1,y)else kv) j=(mJ N j).map λx=>if j=k then y else x
 | []=>rfl
 |p::r=>by
  have m:=Yn k j y r;rw[cA];by_cases h:p.1=k
  .rw[aK h];by_cases e:p.1=j
   .rw[kN (p:=(p.1,y)) e,kN e,Option.map_some,aK (e.symm.trans h)]
   .rw[kO (p:=(p.1,y)) e,kO e,m]
  .rw[aF h];by_cases e:p.1=j
   .rw[kN (p:=p) e,kN e,Option.map_some,aF (λz=>h (e.trans z))]
   .rw[kO (p:=p) e,kO e,m]
def Rz(k j:κ)(y:V):∀N:List (κ×V),mJ N k=none->mJ (N++ [(k,y)]) j=if j=k then some y else mJ N j
 | [],_=>by
  by_cases e:k=j
  .rw[aK e.symm];exact kN (p:=(k,y)) e
  .rw[aF (λz=>e z.symm)];exact kO (p:=(k,y)) e
 |p::r,hn=>by
  rw[List.cons_append];have hk:¬p.1=k:=λz=>by rw[kN z]at hn;cases hn
  rw[kO hk]at hn;have m:=Rz k j y r hn;by_cases e:p.1=j
  .rw[kN e,kN e,aF (λz=>hk (e.trans z))]
  .rw[kO e,kO e,m]
def Nv(kvs:List (κ×V))(k j:κ)(y:V):mJ (sV kvs k y) j=if j=k then some y else mJ kvs j:=by
 unfold sV;by_cases a:(kvs.any λkv=>decide (kv.1=k))=true
 .rw[aK a,Yn];rw[xZ]at a;by_cases e:j=k
  .obtain⟨x,hx⟩:=Option.isSome_iff_exists.mp a;rw[aK e,e,hx,Option.map_some,aK rfl]
  .rw[aF e];cases mJ kvs j with
   |none=>rfl
   |some x=>rw[Option.map_some,aF e]
 .rw[aF a];refine Rz k j y kvs ?_;rw[xZ]at a;cases q:mJ kvs k with
  |none=>rfl
  |some x=>rw[q]at a;exact(a rfl).elim
def zM(kvs:List (κ×V))(k:κ)(v:V):(sV kvs k v).length<=kvs.length+1:=by
 unfold sV;split
 .rw[aA];lia
 .rw[bF,cP,List.length_nil];lia
def yG{kvs:List (κ×V)}{k:κ}(v:V)(h:mJ kvs k=none):sV kvs k v=kvs++ [(k,v)]:=by
 unfold sV;rw[xZ,h];exact aF (by decide)
def Ay.isSome_eq{o:Option V}{u:Option Value}(r:Ay o u):o.isSome=u.isSome:=by
 cases o with
 |none=>cases u with
  |none=>rfl
  |some _=>exact(show False from r).elim
 |some _=>cases u with
  |none=>exact(show False from r).elim
  |some _=>rfl
def KV.val{kvs:List (κ×V)}{vs:List (κ×Value)}(r:KV kvs vs)(k:κ):Ay (mJ kvs k) (valueAt vs k):=by
 unfold KV at r
 induction r with
 |nil=>exact True.intro
 |@cons p q ps qs h t ih=>
  obtain⟨h1,h2⟩:=h;by_cases e:p.1=k
  .have g:q.1=k:=h1.symm.trans e;have b:valueAt (q::qs) k=some q.2:=by simp [valueAt,List.find?_cons,g]
   rw[kN e,b];exact h2
  .have g:¬q.1=k:=λz=>e (h1.trans z);have b:valueAt (q::qs) k=valueAt qs k:=by simp [valueAt,List.find?_cons,g]
   rw[kO e,b];exact ih
def KV.any{kvs:List (κ×V)}{vs:List (κ×Value)}(r:KV kvs vs)(k:κ):(kvs.any λkv=>decide (kv.1=k))=vs.any λkv=>decide (kv.1=k):=by
 unfold KV at r
 induction r with
 |nil=>rfl
 |cons h t ih=>rw[List.any_cons,List.any_cons,ih,h.1]
def KV.repl{kvs:List (κ×V)}{vs:List (κ×Value)}(r:KV kvs vs)(k:κ)(m:fO y u):
  KV (kvs.map λkv=>if kv.1=k then(kv.1,y)else kv) (vs.map λkv=>if kv.1=k then(kv.1,u)else kv):=by
 unfold KV at r⊢
 induction r with
 |nil=>exact .nil
 |@cons p q ps qs h t ih=>
  rw[cA,cA];refine .cons ?_ ih;obtain⟨h1,h2⟩:=h;by_cases e:p.1=k
  .rw[aK e,aK (h1.symm.trans e)];exact#[h1,m]
  .rw[aF e,aF (λz=>e (h1.trans z))];exact#[h1,h2]
def KV.put{kvs:List (κ×V)}{vs:List (κ×Value)}(r:KV kvs vs)(k:κ)(m:fO y u):KV (sV kvs k y) (stored vs k u):=by
 unfold sV stored;rw[r.any k];by_cases e:(vs.any λkv=>decide (kv.1=k))=true
 .rw[aK e,aK e];exact r.repl k m
 .rw[aF e,aF e];exact Paired.snoc r #[rfl,m]
def KV.length{kvs:List (κ×V)}{vs:List (κ×Value)}(r:KV kvs vs):kvs.length=vs.length:=Paired.length r
end
def jYV{w:World}{k:Key}(r:fO (kV k) u):(jT P w).is k u=true:=by
 cases k with
 |inl i=>obtain⟨t,e⟩:=(show ∃t,u=Value.int i t from r);subst e;exact jJr P w i t
 |inr x=>obtain⟨t,e⟩:=(show ∃t,u=Value.str x t from r);subst e;exact jJq P w x t
def Tk{P:Program}{w:World}:∀{ks:List Key}{us:List Value},fF (ks.map kV) us->ItemsAre (jT P w) ks us
 | [],_,r=>by rw[cY]at r;cases r;exact .nil
 |k::ks,_,r=>by
  rw[cA]at r;cases r with
  |cons h t=>exact .cons (jYV h) (Tk t)
noncomputable abbrev KT(H:Hp):List (List Key×V)->List (List Key×Addr×Value)->Prop:=Paired λp q=>p.1=q.1/\H q.2.1=some (.tup (p.1.map kV))/\fO p.2 q.2.2
def KT.val(r:KT H kvs xs)(k:List Key):Ay (mJ kvs k) ((atKey xs k).map (·.2)):=by
 induction r with
 |nil=>exact True.intro
 |@cons p q ps qs h t ih=>
  obtain⟨h1,_,h2⟩:=h;by_cases e:p.1=k
  .have g:q.1=k:=h1.symm.trans e;have b:atKey (q::qs) k=some q.2:=by simp [atKey,List.find?_cons,g]
   rw[kN e,b];exact h2
  .have g:¬q.1=k:=λz=>e (h1.trans z);have b:atKey (q::qs) k=atKey qs k:=by simp [atKey,List.find?_cons,g]
   rw[kO e,b];exact ih
def KT.repl(r:KT H kvs xs)(k:List Key)(m:fO y u):
  KT H (kvs.map λkv=>if kv.1=k then(kv.1,y)else kv) (xs.map (putAt k u)):=by
 induction r with
 |nil=>exact .nil
 |@cons p q ps qs h t ih=>
  rw[cA,cA];refine .cons ?_ ih;obtain⟨h1,h2,A⟩:=h;unfold putAt;by_cases e:p.1=k
  .rw[aK e,aK (h1.symm.trans e)];exact#[h1,h2,m]
  .rw[aF e,aF (λz=>e (h1.trans z))];exact#[h1,h2,A]
def KT.put(r:KT H kvs xs)(k:List Key){b:Addr}(hb:H b=some (.tup (k.map kV)))(m:fO y u):
  KT H (sV kvs k y) (storedH xs k b u):=by
 have e:(kvs.any λkv=>decide (kv.1=k))=(atKey xs k).isSome:=by
  rw[xZ,(r.val k).isSome_eq,Option.isSome_map]
 unfold sV storedH;rw[e];by_cases q:(atKey xs k).isSome=true
 .rw[aK q,aK q];exact r.repl k m
 .rw[aF q,aF q];exact Paired.snoc r #[rfl,hb,m]
def KT.keeps(r:KT H kvs xs)(y:∀b M,H b=some (.tup M)->Z b=some (.tup M)):KT Z kvs xs:=
 Paired.mapP r λ_ _ z=>#[z.1,y _ _ z.2.1,z.2.2]
section
variable{P:Program}{w:World}{H:Hp}{h:Heap}{a:Addr}
def rd_of{u:HO}(ok:HOk P w H h)(e:Rd H a u):jV P w H h a u:=e.ok ok
def Yh{kvs:List (Key×V)}(ok:HOk P w H h)(e:Rd H a (.dK kvs)):kvs.length<=sizeLine/\(a==sysModules)=false/\∃j,KV kvs j/\h.DictOf (jT P w) a j:=
 show jV P w H h a (.dK kvs)from rd_of ok e
def dk_of{kvs:List (Key×V)}(ok:HOk P w H h)(e:H a=some (.dK kvs)):kvs.length<=sizeLine/\(a==sysModules)=false/\∃j,KV kvs j/\h.DictOf (jT P w) a j:=Yh ok (.inl e)
def Nl{ks:List Key}(ok:HOk P w H h)(e:H a=some (.tup (ks.map kV))):(tupleKind (jT P w)).is h ks a:=by
 obtain⟨_,G,r,o,h1,h2,n,A⟩:=(show jV P w H h a (.tup (ks.map kV))from ok a _ e);exact#[o,G.toArray,n,h1,h2,A,by simpa using Tk r]
def Yg(ok:HOk P w H h)(e:Rd H a (.dT kvs)):kvs.length<=sizeLine/\(a==sysModules)=false/\
  ∃T,KT H kvs T/\h.DictOfH (tupleKind (jT P w)) a T:=by
 obtain⟨z,y,T,r,o,J,U,h1,h2,A,b,O⟩:=(show jV P w H h a (.dT kvs)from rd_of ok e);refine#[z,y,T,r,o,J,U,h1,h2,A,b,λx hx=>?_,O];have all:∀{l:List (List Key×V)}{m:List (List Key×Addr×Value)},KT H l m->∀x∈m,(tupleKind (jT P w)).is h x.1 x.2.1:=by
  intro l m q
  induction q with
  |nil=>intro x hx;exact nomatch hx
  |@cons p q ps qs hq t ih=>
   intro x hx;rcases eK.mp hx with e |hx
   .subst e;exact Nl ok (by rw[←hq.1];exact hq.2.1)
   .exact ih x hx
 exact all r x hx
def dt_of(ok:HOk P w H h)(e:H a=some (.dT kvs)):kvs.length<=sizeLine/\(a==sysModules)=false/\
  ∃T,KT H kvs T/\h.DictOfH (tupleKind (jT P w)) a T:=Yg ok (.inl e)
end
def Ln(H:Hp)(a:Addr)(y:V)(r:Option V):Prop:=
 (∃kvs k,Rd H a (.dK kvs)/\y=kV k/\r=mJ kvs k)∨∃kvs k b,Rd H a (.dT kvs)/\y=.ref b/\H b=some (.tup (k.map kV))/\r=mJ kvs k
def DPut(H:Hp)(a:Addr)(y v:V)(Z:Hp):Prop:=
 (∃kvs k,H a=some (.dK kvs)/\y=kV k/\kvs.length<sizeLine/\Z=upd H a (.dK (sV kvs k v)))∨
 ∃kvs k b,H a=some (.dT kvs)/\y=.ref b/\H b=some (.tup (k.map kV))/\kvs.length<sizeLine/\Z=upd H a (.dT (sV kvs k v))
def Ln.t{b:Addr}{k:List Key}(e:H a=some (.dT kvs))(C:H b=some (.tup (k.map kV))):Ln H a (.ref b) (mJ kvs k):=.inr #[kvs,k,b,.inl e,rfl,C,rfl]
def DPut.t{b:Addr}{k:List Key}{v:V}(e:H a=some (.dT kvs))(C:H b=some (.tup (k.map kV)))(S:kvs.length<sizeLine):
  DPut H a (.ref b) v (upd H a (.dT (sV kvs k v))):=.inr #[kvs,k,b,e,rfl,C,S,rfl]
section
variable{X:Cx}{pins:List (Addr×Obj)}{σ:St}{H:Hp}{s:Shared}{a:Addr}{y v:V}{u r:Value}{o:Option V}{A:Around}{E:Value->Shared->Prop}
def Inv.big(I:Inv X pins σ H s):sysModules<s.heap.objs.size:=by
 have h:mainGlobals<s.heap.objs.size:=(I.mod.glob.keeps I.bk).lt;exact Nat.lt_trans (by decide) h
def jVg(hu:A.units+1<cLine)(I:Inv X pins σ H s)(g:Ln H a y (some v))(m:fO y u)(h:∀F R,Inv X pins σ H R->fO v F->Q F R):
  wpAny (model X.prog X.w) A (getItem (.ref a) u) Q E s:=by
 rcases g with⟨N,k,e,d,l⟩|⟨N,k,b,e,d,C,l⟩
 .subst d;obtain⟨z,hd,j,x,G⟩:=Yh I.hok e;obtain⟨F,hw,n⟩:=Ay.some_of (v:=v) (o:=valueAt j k) (by rw[l];exact x.val k);exact wpAny_getItem_of (jYV m) G.mapOf hw (h F _ (I.tok _) n)
 .subst d;cases(show u=Value.ref b from m);obtain⟨z,hd,T,x,G⟩:=Yg I.hok e;obtain⟨F,hw,n⟩:=Ay.some_of (v:=v) (o:=(atKey T k).map (·.2)) (by rw[l];exact x.val k);obtain⟨p,hp,D⟩:=Option.map_eq_some_iff.mp hw;refine wpAny_getItem_heap (tupleKind_room_in1 hu) (Nl I.hok C) G hp ?_;rw[D];exact h F _ (I.tok _) n
def d_notIn(hu:A.units+1<cLine)(I:Inv X pins σ H s)(g:Ln H a y o)(m:fO y u)(h:∀R,Inv X pins σ H R->Q (.bool (!o.isSome)) R):
  wpAny (model X.prog X.w) A (compareOp .NotIn u (.ref a)) Q E s:=by
 rcases g with⟨N,k,e,d,l⟩|⟨N,k,b,e,d,C,l⟩
 .subst d;obtain⟨z,hd,j,x,G⟩:=Yh I.hok e;refine wpAny_notIn_of (jYV m) hd G.mapOf ?_;rw[←(x.val k).isSome_eq,←l];exact h _ (I.tok _)
 .subst d;cases(show u=Value.ref b from m);obtain⟨z,hd,T,x,G⟩:=Yg I.hok e;refine wpAny_notIn_heap (tupleKind_room_in1 hu) (Nl I.hok C) hd G ?_;have q:=(x.val k).isSome_eq;rw[Option.isSome_map]at q;rw[←q,←l];exact h _ (I.tok _)
def jWJ{h':Heap}{t':Nat}{ob:HO}(I:Inv X pins σ H s)(mu:Mut (H a))(hs:Heap.SameBut a s.heap h')(D:∃q,h'.get? a=some q)(new:jV X.prog X.w (upd H a ob) h' a ob):
  Inv X pins σ (upd H a ob) { s with heap:=h',toks:=t' }:=
 I.write (x:=a) (e:=a) mu (.inl rfl) (λb q hb z=>(hs.2 b hb).trans z) D new
def dk_new{w:World}{h':Heap}{kvs:List (Key×V)}{vs:List (Key×Value)}(z:kvs.length<=sizeLine)(hd:(a==sysModules)=false)(x:KV kvs vs)(G:h'.DictOf (jT P w) a vs):
  jV P w Z h' a (.dK kvs):=#[z,hd,vs,x,G]
def jVf{Q:Unit->Shared->Prop}(hu:A.units+1<cLine)(I:Inv X pins σ H s)(g:DPut H a y v Z)(m:fO y u)(t:fO v r)(h:∀R,Inv X pins σ Z R->Q () R):
  wpAny (model X.prog X.w) A (setItem (.ref a) u r) Q E s:=by
 rcases g with⟨N,k,e,d,l,p⟩|⟨N,k,b,e,d,C,l,p⟩
 .subst d p;obtain⟨z,hd,j,x,G⟩:=dk_of I.hok e;have f:j.length<=sizeLine:=by rw[←x.length];exact z
  have S:(sV N k v).length<=sizeLine:=by have:=zM N k v;lia
  refine wpAny_setItem_pairs (hsz:=f) (jYV m) G λY i hs=>h _ ?_;have D:∃q,Y.get? a=some q:=let⟨q,_,_,F,_⟩:=i;#[q,F];exact jWJ I (by rw[e];exact True.intro) hs D (dk_new S hd (x.put k t) i)
 .subst d p;cases(show u=Value.ref b from m);obtain⟨z,hd,T,x,G⟩:=dt_of I.hok e;have f:T.length<=sizeLine:=by rw[←Paired.length x];exact z
  have S:(sV N k v).length<=sizeLine:=by have:=zM N k v;lia
  refine wpAny_setItem_heap (hsz:=f) (tupleKind_room_in1 hu) (Nl I.hok C) G λY i hs=>h _ ?_;obtain⟨q,J,U,F,h2,B,K,_,O⟩:=i;refine jWJ I (by rw[e];exact True.intro) hs #[q,F] #[S,hd,_,(x.put k C t).keeps λc M n=>?_,q,J,U,F,h2,B,K,O];rw[bZ (kT n e (λz=>nomatch z))]
  exact n
end
def NoSl(i:Expr):Prop:=∀G l,subscripted i false G l=operate [G,l] (getItem G l)
def subD_of{prog:Program}{w:World}{A:Around}{E:Value->Shared->Prop}{env:Env}{d c:Expr}{pos:Pos}{T f:String}
  (S:typeLookup (.type T) "__getitem__"=pure (some (.builtin f))) (hs:NoSl c)
  (h:wpAny (model prog w) A (eval d env) (λo D=>wpAny (model prog w) A (eval c env) (λi g=>g.TypeIs o T/\wpAny (model prog w) A (getItem o i) Q E g) E D) E s):
  wpAny (model prog w) A (eval (.Subscript d c pos) env) Q E s:=by
 refine Subscript_ (wpAny_mono h (λo D b=>wpAny_mono b (λi g p=>?_) λ_ _ x=>x) λ_ _ x=>x);obtain⟨P,p⟩:=p;unfold subscriptTail;refine aD ?_;rw[getitemInPython_of_ne P.not_modules];refine aD (wpAny_specialOf P S ?_);have fin:wpAny (model prog w) A (subscripted c false o i) (λr a=>wpAny (model prog w) A (letTemporaryGo d o r>>=λ_=>pure r) Q E a) E g:=by
  rw[hs o i];exact wpAny_operating (wpAny_mono p (λr a q=>aD (wpAny_letTemporaryGo (aT q))) λ_ _ x=>x)
 first
  |exact aT (aD fin)
  |exact aD (aT (aD fin))
  |exact aD fin
def jJv{X:Cx}{B:List (Addr×Obj)}{O:St}{o:Option V}(I:Inv X B O H s)(g:Ln H a y o):s.TypeIs (.ref a) "dict":=by
 rcases g with⟨N,k,e,_,_⟩|⟨N,k,b,e,_,_,_⟩
 .obtain⟨_,_,j,_,G⟩:=Yh I.hok e;exact G.typeIs
 .obtain⟨_,_,T,_,G⟩:=Yg I.hok e;exact G.typeIs
def xO(q A:TE):TE:=λO H Q=>q O H λx U=>A O U λy j=>∃a v,x=.ref a/\Ln j a y (some v)/\Q v j
def Vu(A q:TE):TE:=λO H Q=>A O H λy U=>q O U λx j=>∃a o,x=.ref a/\Ln j a y o/\Q (.bl (!o.isSome)) j
def Ee(q A tv:TE):TS:=λD O H=>tv O H λv U=>q O U λx j=>A O j λy Y=>∃a u,x=.ref a/\DPut Y a y v u/\D.nx O u
section
variable{X:Cx}{o i e value:Expr}{pos pos' tpos:Pos}{td ty tv:TE}
def Eo(hu:X.A.units+1<cLine)(ho:PE X o td)(hi:PE X i ty)(hs:NoSl i):PE X (.Subscript o i pos) (xO td ty):=by
 intro B s O H Q I h;refine subD_of PySem.F.slot_dict_getitem.lookup hs (thE (ho B s O H _ I h) λu M x U P J q1=>thE (hi B M O U _ P q1) λl d y j t m w=>?_);obtain⟨a,v,ex,g,p⟩:=w;subst ex;obtain rfl:u=Value.ref a:=J;exact#[jJv t g,jVg hu t g m λb N z n=>#[v,j,z,n,p]]
def jW3(hu:X.A.units+1<cLine)(hi:PE X i ty)(ho:PE X o td):PC X .NotIn i o (Vu ty td):=by
 intro B s O H Q I h;refine thE (hi B s O H _ I h) λl M y U P m q1=>thE (ho B M O U _ P q1) λu d x j t J w=>?_;obtain⟨a,G,ex,g,p⟩:=w;subst ex;obtain rfl:u=Value.ref a:=J;exact d_notIn hu t g m λN z=>#[.bl (!G.isSome),j,z,rfl,p]
def Mg(hu:X.A.units+1<cLine)(ho:PE X o td)(hi:PE X i ty)(hv:PE X value tv)(hs:swapsWith value (some (.Subscript o i pos')) pos.line X.env=pure false):
  PS X (.Assign [.Subscript o i pos'] value pos) (Ee td ty tv):=by
 intro B s O H D I h;refine wpAny_Assign_Subscript (thE (hv B s O H _ I h) λr M v U P b q1=>thE (ho B M O U _ P q1) λu d x j t J p=>thE (hi B d O j _ t p) λl N y Y z m w=>?_) hs;obtain⟨a,c,ex,g,q⟩:=w;subst ex;obtain rfl:u=Value.ref a:=J;exact jVf hu z g m b λf S=>#[O,c,S,q]
end
def jUn{w:World}(h:Heap)(hb:sysModules<h.objs.size):jV P w H (h.push { cls:=.type "dict",data:=.dict (List.toArray []) }) h.objs.size (.dT []):=
 #[dW _,beq_eq_false_iff_ne.mpr (Ne.symm (bL hb)),[],.nil,_,(List.toArray []),0,cE _ rfl,#[rfl,rfl,rfl],rfl,rfl,List.nodup_nil]
def uR:TE:=λ_ H Q=>∀p,H p=none->Q (.ref p) (upd H p (.dT []))
section
variable{X:Cx}{pos:Pos}
def Fe:PE X (.Dict [] [] pos) uR:=λB s O H Q I h=>
 wpAny_Dict_empty #[.ref s.heap.objs.size,_,I.laid (a:=s.heap.objs.size) (o:=.dT []) (t':=s.toks) (λ_ _ q=>bA _ q) (aP _) (jUn s.heap I.big),rfl,h _ (I.hok.fresh (aP _))]
end
def IsD(H:Hp)(a:Addr):Prop:=(∃kvs,Rd H a (.dK kvs))∨∃kvs,Rd H a (.dT kvs)
def isD_at{X:Cx}{B:List (Addr×Obj)}{O:St}(I:Inv X B O H s)(d:IsD H a):
  s.TypeIs (.ref a) "dict"/\(∀b,Value.ref a=.ref b->∃ob,s.heap.get? b=some ob/\ob.dict=none)/\(a==sysModules)=false:=by
 rcases d with⟨N,e⟩|⟨N,e⟩
 .obtain⟨_,hd,j,_,G⟩:=Yh I.hok e;refine#[G.typeIs,λb q=>?_,hd];cases q;obtain⟨ob,_,_,h1,h2,_⟩:=G;exact#[ob,h1,h2.2.1]
 .obtain⟨_,hd,T,_,G⟩:=Yg I.hok e;refine#[G.typeIs,λb q=>?_,hd];cases q;obtain⟨ob,_,_,h1,h2,_⟩:=G;exact#[ob,h1,h2.2.1]
end L2
namespace L2
open PySem
variable{H:Hp}{K:aR}{O:St}{a p:Addr}{i j:Int}{m:Nat}{xs:List V}
def BB(n:Nat)(i:Int):Prop:=i.natAbs<2^n
def Ej(i j:Int):Prop:=∃m n,m+n<=100000000/\((BB m i/\BB n j)∨BB 64 i∨BB 64 j)
def CDivB(_ j:Int):Prop:=j≠0/\BB 9000 j
def hV:R2:=rI0 λi j=>.int (i+j)
def jQ:R2:=rI0 λi j=>.int (i-j)
def fQ:R2:=rI Ej λi j=>.int (i*j)
def jH:R2:=rI CDivB λi j=>.int (i.fdiv j)
def Bd:R2:=rI CDiv λi j=>.int (i/j)
def gR:R2:=rI (λ_ j=>0<j) λi j=>.int (i%j)
def Bc:R2:=rI CPow λi j=>.int (i^j.toNat)
noncomputable def iU:V->Hp->VK->Prop:=rU λi=>.int (-i)
def kM:R2:=rI0 λi j=>.bl (decide (i<j))
def rLeI:R2:=rI0 λi j=>.bl (decide (i<=j))
def Aw:R2:=rI0 λi j=>.bl (decide (j<i))
def rGeI:R2:=rI0 λi j=>.bl (decide (j<=i))
noncomputable def Hx:List V->Hp->VK->Prop:=λxs H Q=>∃i,xs=[.int i]/\Q (.int (if i<0 then -i else i)) H
noncomputable def iD(K:aR):List V->Hp->VK->Prop:=λxs H Q=>∃p ys,xs=[.ref p]/\(SqL K H p ys∨SqT K H p ys)/\Q (.int ys.length) H
def isB(x:V)(H:Hp)(T:String)(b:Bool):Prop:=match x with
 | .int _=>(T="int"/\b=true)∨(T="bool"/\b=false)
 | .bl _=>T="bool"/\b=true
 | .ref p=>T="tuple"/\b=true/\∃xs,H p=some (.tup xs)
 |_=>False
noncomputable def cIsB:List V->Hp->VK->Prop:=λxs H Q=>∃x T b,xs=[x,.ty T]/\isB x H T b/\Q (.bl b) H
def BB.mono{n:Nat}(h:BB m i)(hm:m<=n):BB n i:=cH h (fK (by decide) hm)
def Ej.l(h:BB 64 i):Ej i j:=#[0,0,by decide,.inr (.inl h)]
def Ej.r(h:BB 64 j):Ej i j:=#[0,0,by decide,.inr (.inr h)]
def aS.tup{Z:Hp}(e:aS H Z)(h:SqT K H a xs):SqT K Z a xs:=by
 rcases h with(h |⟨o,h⟩)|h
 .exact .inl (.inl (e _ _ h))
 .exact .inl (.inr #[o,e _ _ h])
 .exact .inr h
def Ab{i:Nat}{Q:VK}(h:aE i O H Q):∃v,O[i]?=some (some v)/\Q v H:=by
 first
 |exact h
 | (unfold aE at h
    split at h
    .exact#[_,‹_›,h]
    .exact h.elim)
def Aa{i:Nat}{Q:VK}{v:V}(e:O[i]?=some (some v))(q:Q v H):aE i O H Q:=by
 first
 |exact#[v,e,q]
 | (unfold aE
    rw[e];exact q)
def aS.upd{o:HO}(h:H p=none):aS H (upd H p o):=λb u e=>by
 rw[bZ (dJ e h)];exact e
def BB.of_le{n:Nat}(h:BB n j)(S:i.natAbs<=j.natAbs):BB n i:=fY S h
def BB.mul{n:Nat}(hi:BB m i)(Z:BB n j):BB (m+n) (i*j):=by
 unfold BB at*;rw[cQ,Nat.pow_add];exact Nat.mul_lt_mul_of_lt_of_lt hi Z
def BB.add{n:Nat}(hi:BB n i)(Z:BB n j):BB (n+1) (i+j):=by
 unfold BB at*;rw[Nat.pow_succ];lia
def BB.gcd{n:Nat}(Z:BB n j)(h0:j≠0):BB n (Int.gcd i j:Nat):=by
 refine Z.of_le ?_;rw[Int.natAbs_natCast];exact Int.gcd_le_natAbs_right _ h0
def BB.neg{n:Nat}(h:BB n i):BB n (-i):=by unfold BB at*;rwa [Int.natAbs_neg]
def Ej.b{n:Nat}(hi:BB m i)(Z:BB n j)(h:m+n<=100000000:=by decide):Ej i j:=#[m,n,h,.inl #[hi,Z]]
def dA(O:St)(caps:List Nat):St:=caps.map λj=>(O[j]?).join
def xY(J:It)(O:St)(caps:List Nat)(l:TE)(U:Hp)(fin:List V->Hp->Prop):Prop:=
 ∃(n:Nat)(W:Nat->List V->Hp->Prop),n<=sizeLine/\W 0 [] U/\∀i ys j,i<=n->ys.length=i->W i ys j->
  (J.stop i j/\fin ys j)∨(i<n/\J.go i j/\∀x Y,J.yld i j x Y->l (some x::dA O caps) Y λy u=>W (i+1) (ys++ [y]) u)
def dH(q:TI)(caps:List Nat)(l:TE):TE:=λO H Q=>q O H λJ U=>xY J O caps l U λys j=>∀p,j p=none->Q (.ref p) (upd j p (.lst ys))
def Ite(K:aR)(a:Addr):It:=
 #[λi H=>∃xs x,SqL K H a xs/\xs[i]?=some x,λi H v Z=>∃p x,v=.ref p/\H p=none/\Z=upd H p (.tup [.int i,x])/\∀xs,SqL K H a xs->xs[i]?=some x,λi H=>∃xs,SqL K H a xs/\xs.length<=i]
def xS(K:aR)(w:TE):TI:=λO H R=>w O H λx U=>∃a,x=.ref a/\(∃xs,SqL K U a xs)/\R (Ite K a) U
def Fi{g:TG}{tb:TS}{D:xI}(d:Nat->St->Hp->Prop)(h0:d 0 O H)(S:∀i O H,i<=xs.length->d i O H->SqL K H a xs)
  (hs:∀i x p O H,xs[i]?=some x->d i O H->H p=none->g (.ref p) O (upd H p (.tup [.int i,x])) λc j=>tb { D with nx:=d (i+1),ct:=d (i+1),bk:=D.nx } c j) (hd:∀O H,d xs.length O H->D.nx O H):
  ∃W:Nat->Nat->St->Hp->Prop,(∃m,W 0 m O H)/\∀i m O H,W i m O H->
   ((Ite K a).stop i H/\D.nx O H)∨((Ite K a).go i H/\∃N:St->Hp->Prop,(∀G Z,N G Z->∃k,k<m/\W (i+1) k G Z)/\∀x Z,(Ite K a).yld i H x Z->g x O Z λc j=>tb { D with nx:=N,ct:=N,bk:=D.nx } c j):=by
 refine#[λi m O H=>m=xs.length-i/\i<=xs.length/\d i O H,#[xs.length,by simp,dW _,h0],?_];rintro i m O H ⟨rfl,hi,p⟩;have q:=S i O H hi p;by_cases R:i<xs.length
 .refine .inr #[#[xs,xs[i],q,by simp [R]],d (i+1),λG Z u=>#[xs.length-(i+1),#[],rfl,R,u],λx Z y=>?_];obtain⟨s,z,e1,C,P,y⟩:=y;subst e1 P;exact hs i z s O _ (y xs q) p C
 .have e:i=xs.length:=#[];subst e;exact .inl #[#[xs,q,aP _],hd O H p]
def dQ{caps:List Nat}{l:TE}{U:Hp}{fin:List V->Hp->Prop}(W:Nat->List V->Hp->Prop)(hz:xs.length<=sizeLine)(h0:W 0 [] U)(S:∀i M H,i<=xs.length->W i M H->SqL K H a xs)
  (hs:∀i x M H,xs[i]?=some x->M.length=i->W i M H->l (some x::dA O caps) H λy u=>W (i+1) (M++ [y]) u) (hd:∀M H,M.length=xs.length->W xs.length M H->fin M H):xY (Itl K a) O caps l U fin:=by
 refine#[xs.length,W,hz,h0,λi M j hi hy hw=>?_];have q:=S i M j hi hw;by_cases R:i<xs.length
 .refine .inr #[R,#[xs,xs[i],q,by simp [R]],λx Y y=>?_];obtain⟨e,y⟩:=y;subst e;exact hs i x M _ (y xs q) hy hw
 .have e:i=xs.length:=#[];subst e;exact .inl #[#[xs,q,aP _],hd M j hy hw]
def kH{lo:Int}{n:Nat}{caps:List Nat}{l:TE}{U:Hp}{fin:List V->Hp->Prop}(W:Nat->List V->Hp->Prop)(hz:n<=sizeLine)(h0:W 0 [] U)
  (hs:∀i M H,i<n->M.length=i->W i M H->l (some (.int (lo+i))::dA O caps) H λy u=>W (i+1) (M++ [y]) u) (hd:∀M H,M.length=n->W n M H->fin M H):xY (Itr lo n) O caps l U fin:=by
 refine#[n,W,hz,h0,λi M j hi hy hw=>?_];by_cases R:i<n
 .refine .inr #[R,R,λx Y y=>?_];obtain⟨e1,C⟩:=y;subst e1 C;exact hs i M _ R hy hw
 .have e:i=n:=#[];subst e;exact .inl #[aP _,hd M j hy hw]
noncomputable def cSum(K:aR):List V->Hp->VK->Prop:=λxs H Q=>∃p ns,xs=[.ref p]/\SqL K H p (List.map V.int ns)/\Q (.int ns.sum) H
noncomputable def cMax:List V->Hp->VK->Prop:=λxs H Q=>∃i j,xs=[.int i,.int j]/\Q (.int (if j>i then j else i)) H
noncomputable def cMin:List V->Hp->VK->Prop:=λxs H Q=>∃i j,xs=[.int i,.int j]/\Q (.int (if j<i then j else i)) H
noncomputable def pN(K:aR):List V->Hp->VK->Prop:=λxs H Q=>∃p ys,xs=[.ref p]/\(SqL K H p ys∨SqT K H p ys)/\∀l,H l=none->Q (.ref l) (upd H l (.lst ys))
def aS.put{Z:Hp}{o:HO}(s:aS H Z)(h:H p=none):aS H (L2.upd Z p o):=λb u e=>by
 rw[bZ (dJ e h)];exact s b u e
def SqT.off{r:Addr}{ys J:List V}(h:SqT K H p xs)(hr:H r=some (.lst ys)):SqT K (upd H r (.lst J)) p xs:=by
 rcases h with(h |⟨o,h⟩)|h
 .exact .inl (.inl (by rw[bZ (kT h hr (by intro z;cases z))];exact h))
 .exact .inl (.inr #[o,by rw[bZ (kT h hr (by intro z;cases z))];exact h])
 .exact .inr h
end L2
namespace L2
open PySem PySem.Spec PyProof.Rows
variable{i j:Int}
def pU:bootBuiltins "list"=some (.type "list"):=by decide+kernel
def bt_dict:bootBuiltins "dict"=some (.type "dict"):=by decide+kernel
def Nt:bootBuiltins "abs"=some (.builtin "abs"):=by decide+kernel
def fJ:bootBuiltins "len"=some (.builtin "len"):=by decide+kernel
def Nr:bootBuiltins "max"=some (.builtin "max"):=by decide+kernel
def Nq:bootBuiltins "min"=some (.builtin "min"):=by decide+kernel
def jZh:bootBuiltins "sum"=some (.builtin "sum"):=by decide+kernel
def oS{n:Nat}{k:Int}(h:BB n k):Builtin.Int.intBits k<=n:=by
 unfold Builtin.Int.intBits;split
 .exact dW _
 .rename_i h0
  have hp:k.natAbs≠0:=by simpa using h0
  have h2:=(Nat.log2_lt hp).mpr h;lia
def Ej.ok(h:Ej i j):IntMulOk i j:=by
 obtain⟨m,n,f,⟨h1,h2⟩|h1 |h1⟩:=h
 .exact IntMulOk.of_le (oS h1) (oS h2) #[]
 .exact .of_left (oS h1)
 .exact .of_right (oS h1)
def noPyB(h:BB 9000 j):Builtin.divisionGoesByPylong i j=false:=by
 refine PyProof.noPylong_of_log2 ?_;by_cases D:j.natAbs=0
 .rw[D];decide+kernel
 .exact(Nat.log2_lt D).mpr h
section
variable{X:Cx}
def eX:OpR X (binaryOp .Mult) fQ:=opI λ_ _ _ _ _ _ _ hc q=>mul_int q hc.ok
def iM:OpR X (binaryOp .FloorDiv) jH:=opI λ_ _ _ _ _ _ _ hc q=>floordiv_int hc.1 q (.inl (noPyB hc.2))
end
noncomputable def nU(env:Env):List (Str×NameKind)->List (Str×Addr)->List (Str×Addr)
 | [],cs=>cs
 | (n,k)::r,cs=>nU env r (if(k==NameKind.free)=true then(n,(env.cells.lookup n).getD 0)::cs else cs)
def Bo{d:Scope}{env:Env}(h:∀p∈d.names,p.2=.free->∃c,env.cells.lookup p.1=some c):closureFor d env=pure (nU env d.names []):=by
 have go:∀(f:Str×NameKind->List (Str×Addr)->Sem (ForInStep (List (Str×Addr)))),(∀n k A,f (n,k) A=if(k==NameKind.free)=true then(cellOf env n>>=λa=>pure (ForInStep.yield ((n,a)::A)))else pure (ForInStep.yield A))->
   ∀(l:List (Str×NameKind))(A:List (Str×Addr)),(∀p∈l,p.2=.free->∃c,env.cells.lookup p.1=some c)->(forIn l A f:Sem _)=pure (nU env l A):=by
  intro f hf l
  induction l with
  |nil=>intro A _;rfl
  |cons p r ih=>
   intro A S;obtain⟨n,k⟩:=p;have hr:∀p∈r,p.2=.free->∃c,env.cells.lookup p.1=some c:=λp hp=>S p (bI _ hp);rw[List.forIn_cons,hf];by_cases hk:(k==NameKind.free)=true
   .obtain⟨c,hc⟩:=S (n,k) bQ (by simpa using hk);have D:env.cells.lookup n=some c:=hc;have e:cellOf env n=pure c:=by unfold cellOf;rw[D]
    rw[aK hk,e,pure_bind,pure_bind];dsimp only;rw[ih _ hr];have C:nU env ((n,k)::r) A=nU env r ((n,c)::A):=by
     show nU env r (if(k==NameKind.free)=true then(n,(env.cells.lookup n).getD 0)::A else A)=_;rw[aK hk,D];rfl
    rw[C]
   .rw[aF hk,pure_bind];dsimp only;rw[ih _ hr];have C:nU env ((n,k)::r) A=nU env r A:=by
     show nU env r (if(k==NameKind.free)=true then(n,(env.cells.lookup n).getD 0)::A else A)=_;rw[aF hk]
    rw[C]
 unfold closureFor;show(forIn d.names [] _>>=λs=>pure s)=_;rw[go _ (λn k A=>by rfl) d.names [] h,pure_bind]
def Pz{env:Env}:∀{l:List (Str×NameKind)}{cs:List (Str×Addr)},(∀p∈l,p.2=.free->∃c,env.cells.lookup p.1=some c)->(∀p∈cs,env.cells.lookup p.1=some p.2)->∀p∈nU env l cs,env.cells.lookup p.1=some p.2
 | [],_,_,h,p,hp=>h p hp
 | (n,k)::r,cs,hl,h,p,hp=>by
  refine Pz (l:=r) (λq F=>hl q (bI _ F)) (λq F=>?_) p hp;by_cases hk:(k==NameKind.free)=true
  .rw[aK hk]at F;rcases eK.mp F with rfl |F
   .obtain⟨c,hc⟩:=hl (n,k) bQ (by simpa using hk);have D:env.cells.lookup n=some c:=hc;show env.cells.lookup n=some ((env.cells.lookup n).getD 0);rw[D];rfl
   .exact h q F
  .rw[aF hk]at F;exact h q F
def Lc{env:Env}{y:Str}:∀{l:List (Str×NameKind)}{cs:List (Str×Addr)},y∈cs.map (·.1)->y∈(nU env l cs).map (·.1)
 | [],_,h=>h
 | (n,k)::r,cs,h=>by
  refine Lc (l:=r) ?_;by_cases hk:(k==NameKind.free)=true
  .rw[aK hk];exact bI _ h
  .rw[aF hk];exact h
def Dv{env:Env}{y:Str}:∀{l:List (Str×NameKind)}{cs:List (Str×Addr)},(y,NameKind.free)∈l->y∈(nU env l cs).map (·.1)
 | [],_,h=>nomatch h
 | (n,k)::r,cs,h=>by
  rcases eK.mp h with e |h
  .cases e;refine Lc (l:=r) ?_;rw[aK (by rfl)];exact bQ
  .exact Dv (l:=r) h
def sT{d:Type}{y:Str}:∀{l:List (Str×d)},y∈l.map (·.1)->∃c,l.lookup y=some c
 | [],h=>nomatch h
 | (n,c)::r,h=>by
  cases hx:y==n with
  |true=>exact#[c,by simp only[List.lookup_cons,hx]]
  |false=>
   have Y:y∈r.map (·.1):=by
    rcases eK.mp h with e |h
    .have g:y=n:=e;rw[g]at hx;simp at hx
    .exact h
   obtain⟨m,e⟩:=sT Y;exact#[m,by simp only[List.lookup_cons,hx];exact e]
def Ho{env:Env}(hk:env.scope.kind=.function):∀{names:List (Str×NameKind)}{y:Str},names.lookup y=some .free->env.kindOf y=some .cell->
  (names.map fun(n,k)=>if(k==NameKind.free&&env.scope.kind== .function&&env.kindOf n==some .cell)then(n,NameKind.cell)else(n,k)).lookup y=some .cell
 | [],_,h,_=>by simp at h
 | (n,k)::r,y,h,hc=>by
  have m:=@Ho env hk r y;show List.lookup y ((if(k==NameKind.free&&env.scope.kind== .function&&env.kindOf n==some .cell)=true then(n,NameKind.cell)else(n,k))::_)=_;cases hx:y==n with
  |true=>
   simp only[List.lookup_cons,hx]at h;cases h;have e:y=n:=by simpa using hx
   subst e;have a:(NameKind.free==NameKind.free&&env.scope.kind== .function&&env.kindOf y==some .cell)=true:=by rw[hk,hc];rfl
   rw[aK a];simp only[List.lookup_cons,hx]
  |false=>
   simp only[List.lookup_cons,hx]at h;by_cases D:(k==NameKind.free&&env.scope.kind== .function&&env.kindOf n==some .cell)=true
   .rw[aK D];simp only[List.lookup_cons,hx];exact m h hc
   .rw[aF D];simp only[List.lookup_cons,hx];exact m h hc
def Pk{env:Env}:∀{names:List (Str×NameKind)}{y:Str},(∀p∈names,p.2≠.cell)->
  (∃k,(names.map fun(n,k)=>if(k==NameKind.free&&env.scope.kind== .function&&env.kindOf n==some .cell)then(n,NameKind.cell)else(n,k)).lookup y=some k/\(k=.cell∨k=.free))->(y,NameKind.free)∈names
 | [],_,_,⟨_,h,_⟩=>by simp at h
 | (n,k)::r,y,hn,⟨kk,h,hkk⟩=>by
  have h:List.lookup y ((if(k==NameKind.free&&env.scope.kind== .function&&env.kindOf n==some .cell)=true then(n,NameKind.cell)else(n,k))::r.map fun(n,k)=>if(k==NameKind.free&&env.scope.kind== .function&&env.kindOf n==some .cell)then(n,NameKind.cell)else(n,k))=some kk:=h;have m:=@Pk env r y λp hp=>hn p (bI _ hp);cases hx:y==n with
  |true=>
   have e:y=n:=by simpa using hx
   subst e;by_cases D:(k==NameKind.free&&env.scope.kind== .function&&env.kindOf y==some .cell)=true
   .have hf:k=.free:=by
     rw[Bool.and_eq_true,Bool.and_eq_true]at D;simpa using D.1.1
    rw[hf];exact bQ
   .rw[aF D]at h;simp only[List.lookup_cons,hx]at h;have C:k=kk:=aU h;subst C;rcases hkk with z |z
    .exact absurd z (hn (y,k) bQ)
    .rw[z];exact bQ
  |false=>
   have h2:(r.map fun(n,k)=>if(k==NameKind.free&&env.scope.kind== .function&&env.kindOf n==some .cell)then(n,NameKind.cell)else(n,k)).lookup y=some kk:=by
    by_cases D:(k==NameKind.free&&env.scope.kind== .function&&env.kindOf n==some .cell)=true
    .rw[aK D]at h;simp only[List.lookup_cons,hx]at h;exact h
    .rw[aF D]at h;simp only[List.lookup_cons,hx]at h;exact h
   exact bI _ (m #[kk,h2,hkk])
structure rZ(FS scope:Scope)(N:List Str)(x:Str)(ys:List Str)(caps:List Nat):Prop where
 ncell:∀y∈scope.names,y.2≠.cell
 kind:scope.kind=.function
 names:∀y∈scope.names,y.2=.local->scope.names.lookup y.1=some .local
 loc:scope.names.lookup x=some .local
 fr:∀p∈scope.names,p.2=.free->FS.names.lookup p.1=some .cell
 fk:FS.kind=.function
 cap:∀p∈ys.zip caps,N[p.2]?=some p.1/\scope.names.lookup p.1=some .free
 len:ys.length=caps.length
 nd:(x::ys).Nodup
noncomputable abbrev Be(X:Cx)(d:Scope):List (Str×Addr):=nU X.env d.names []
def fH(X:Cx)(d:Scope)(a:List Str)(s:Shared)(H:Hp)(ex:List Addr)(pn:List (Addr×Obj)):Cx:=
 { X with N:=a,s₀:=s,H₀:=H,env:=compEnvC d (Be X d) s.heap.objs.size X.env,outer:=X.stack,stack:=X.stack,ex:=ex,fn:=λ_=>false,pn:=pn,xe:=λ_ _=>False }
section
variable{X:Cx}{pins:List (Addr×Obj)}{σ:St}{H:Hp}{s:Shared}
def Inv.adopt{D:Addr}{o:HO}(I:Inv X pins σ H s)(hn:H D=none)(hs:X.s₀.heap.objs.size<=D)(P:D≠X.env.locals)(hc:∀x c,X.env.cells.lookup x=some c->c≠D)(hp:∀p∈X.pn++pins,p.1≠D)
  (new:jV X.prog X.w (upd H D o) s.heap D o):Inv X pins σ (upd H D o) s:=by
 have u:Un X.fs X.ex H (upd H D o) s.heap s.heap->True:=λ_=>trivial;refine#[I.ok,I.os,I.bare,#[I.base.keep,I.base.slot,λb ob e n hx=>?_,I.base.there,λb T e=>?_,λb ob T e=>?_,λb A e=>?_],I.loc,I.cell,?_,λx c e=>?_,λp h=>?_,λb ob e=>?_,I.len]
 .rw[bZ (bL (cH (bC e) hs))];exact I.base.free b ob e n hx
 .have q:=I.base.tups b T e;rw[bZ (dJ q hn)];exact q
 .have q:=I.base.frzs b ob T e;rw[bZ (dJ q hn)];exact q
 .obtain⟨Mu,q⟩:=I.base.tbls b A e;exact#[Mu,by rw[bZ (dJ q hn)];exact q]
 .rw[bZ (Ne.symm P)];exact I.free
 .rw[bZ (hc x c e)];exact I.freeC x c e
 .obtain⟨G,R,J⟩:=I.pin p h;exact#[G,by rw[bZ (hp p h)];exact R,J]
 .by_cases hb:b=D
  .subst hb;rw[aL]at e;cases e;exact new
  .rw[bZ hb]at e;exact(I.hok b ob e).stay (λc v _ q=>q) (λc q=>by rw[bZ (dJ q hn)];exact q) λc T q=>by rw[bZ (dJ q hn)];exact q
end
section
variable{X:Cx}{scope:Scope}{x:Str}{ys:List Str}{caps:List Nat}{elt iter:Expr}{te:TE}{px pos:Pos}
def nxE{d:Type}{t:Sem d}{Q g:d->Shared->Prop}{M:Model}{A:Around}{F E:Value->Shared->Prop}{s:Shared}(b:F=λ_ _=>False)(h:wpAny M A t Q F s)(f:∀a s,Q a s->g a s):wpAny M A t g E s:=
 wpAny_mono h f λe R z=>by
  rw[b]at z;exact z.elim
noncomputable abbrev Ax(G:List Value)(n:Nat):Obj:={ cls:=.type "list",data:=.seq G.toArray n }
end
def Xt:bootBuiltins "enumerate"=some (.type "enumerate"):=by decide+kernel
section
variable{X:Cx}{pins:List (Addr×Obj)}{σ:St}{H:Hp}{s:Shared}{h':Heap}
def Inv.turnedL{t':Nat}{ch:List Addr}(I:Inv X pins σ H s)(k:∀b o,b∉ch->s.heap.get? b=some o->h'.get? b=some o)(hf:∀b∈ch,Vf X pins H b):Inv X pins σ H { s with heap:=h',toks:=t' }:=by
 have a:∀b u,H b=some u->b∉ch:=λb u e z=>by rw[(hf b z).1]at e;cases e
 refine I.step (g':=s.gens) (d':=s.drawn) (ch:=ch) (λb hb=>?_) (λb o _ _ hc e _=>k b o hc e) (λb o _ _ hc e _=>#[o.slots,k b o hc e]) (λ_ _ _ _ n=>n)
  (λb o hc e=>#[o,k b o hc e]) (λ_ _ e=>e) (λ_ _ _ e=>e) (λb A e=>#[(List.toArray []),by rw[e];simp]) (λm hm=>?_) (λb u e=>?_) I.bare
 .obtain⟨G,R,g,M,f,d⟩:=hf b hb;exact#[M,R,f,d]
 .obtain⟨o,J,U,ho,r⟩:=hm;exact#[o,J,U,k _ o (λz=>(hf _ z).2.1 rfl) ho,r]
 .refine(I.hok b u e).stay (λc v hc q=>k c v ?_ q) (λ_ q=>q) λ_ _ q=>q;rcases hc with z |z
  .rw[z];exact a b u e
  .exact a c _ z
end
def jWk{P:Program}{w:World}{K:aR}{A:List Expr}{k:Nat}{tp:Pos}(a e l:Addr)(U:e≠l):
  Xx P w K (.Tuple A k tp) (Ite K a) [e,l] e (λi h=>(∃g,IsEnum h e l i g)/\h.IsListIter l a i) where
 mem:=by simp
 obj:=λi h st b hb=>by
  obtain⟨⟨g,D⟩,J⟩:=st;have z:b=e∨b=l:=by simpa using hb
  rcases z with rfl |rfl
  .exact#[_,D,λv z=>by
    have z':Data.fields _=Data.cell v:=z;cases z']
  .obtain⟨o,e,c,d⟩:=J;exact#[o,e,λv z=>by rw[d]at z;cases z]
 keep:=λi h Y st k=>by
  obtain⟨⟨g,D⟩,J⟩:=st;exact#[#[g,k e (by simp) _ D],J.at λo q=>k l (by simp) o q]
 item:=by
  intro X hP hw j hc i B s O H E I hf st hg;subst hP hw j;obtain⟨T,x,F,hx⟩:=hg;obtain⟨G,N,p,f⟩:=I.list F;obtain⟨u,hu,ru⟩:=N.get hx;obtain⟨⟨g,D⟩,J⟩:=st;refine wpAny_pyNext_enum_item D J p.isList (x:=u) (by simpa using hu) U λh1 out a1 tup sz kp=>#[_,rfl,?_];refine wpAny_letOwnedTupleGo_enum (s:={ s with heap:=h1,toks:=s.toks+1 }) out λh2 en sb=>?_;have a2:e<s.heap.objs.size:=bC D;have a4:s.heap.objs.size≠e:=Nat.ne_of_gt a2;have Q:Heap.SameBut e h1 h2:=sb;have I1:Inv X B O H { s with heap:=h2,toks:=s.toks+1 }:=I.turnedL (ch:=[e,l]) (λb o hb q=>by
   have Z:b≠e/\b≠l:=by simpa using hb
   exact(Q.2 b Z.1).trans (kp b o Z.1 Z.2 q)) hf
  have n:H s.heap.objs.size=none:=I.hok.fresh (aP _);have a3:h2.get? s.heap.objs.size=some { cls:=.type "tuple",data:=.seq (List.toArray [.int i s.toks,u]) }:=(Q.2 _ a4).trans tup;have t:Inv X B O (upd H s.heap.objs.size (.tup [.int i,x])) { s with heap:=h2,toks:=s.toks+1 }:=I1.adopt n I.sz (Nat.ne_of_gt I.lt) (λy c q=>by
   obtain⟨v,z⟩:=I.cell y c q;exact bL z.lt) (λq F=>bL (bC (I.pin q F).1)) #[by show 2<=sizeLine;decide,[.int i s.toks,u],.cons #[_,rfl] (.cons ru .nil),#[_,a3,rfl,_,rfl]]
  refine#[.ref s.heap.objs.size,_,t,rfl,#[_,x,rfl,n,rfl,λM hy=>by rw[I.list_inj hy F];exact hx],#[#[_,by have:=en;exact_mod_cast this],?_],λb hb=>?_]
  .obtain⟨o,q,r⟩:=a1;exact#[o,(Q.2 l (Ne.symm U)).trans q,r]
  .have a5:=(hf b hb).1;have z:b=e∨b=l:=by simpa using hb
   have R:b<s.heap.objs.size:=by
    rcases z with rfl |rfl
    .exact a2
    .obtain⟨o,q,_⟩:=J;exact bC q
   rw[bZ (bL R)];exact a5
 done:=by
  intro X hP hw j hc i B s O H E I hf st hg;subst hP hw j;obtain⟨T,F,hx⟩:=hg;obtain⟨G,N,p,f⟩:=I.list F;obtain⟨⟨g,D⟩,J⟩:=st;obtain⟨f0,m,f2,f3,f4,f5⟩:=hf l (by simp);have S:=N.length;exact wpAny_pyNext_enum_end (I.ok.hd hc) D J p.isList (by simp;lia) λY C=>#[rfl,I.turned (t':=s.toks) (λb o hb e=>C b o hb e) f0 m f3 f4 f5]
 self:=λ_ _ _ _ _ st h=>by
  obtain⟨⟨g,D⟩,J⟩:=st;exact wpAny_pyIter_enum D h
section
variable{X:Cx}
def En{A:List Expr}{k:Nat}{l:Pos}{a:Expr}{w:TE}{p pos:Pos}(hg:Gl X "enumerate")(hm:X.mg "enumerate"=none)(S:PE X a w)(hs:starEach [a] X.env=[(false,eval a X.env)]:=by rfl):PI X (.Tuple A k l) (.Call (.Name "enumerate" p) [a] [] pos) (xS X.K w):=by
 intro B s O H R I h;have m:PA X [a] (aH w bE):=aB S aO (by rw[hs];rfl);refine Call_ (qF I hg hm Xt (dI (thn (m pos B s O H (λj U=>∃x,j=[x]/\∃a,x=.ref a/\(∃T,SqL X.K U a T)/\R (Ite X.K a) U) I ?_) λg M#[j,U,P,Z,q1]=>?_) hs rfl))
 .show w O H λx U=>∃y,[x]=[y]/\_;have e:(fun(x:V)(U:Hp)=>∃y,[x]=[y]/\∃a,y=V.ref a/\(∃T,SqL X.K U a T)/\R (Ite X.K a) U)=λx U=>∃a,x=V.ref a/\(∃T,SqL X.K U a T)/\R (Ite X.K a) U:=by
   funext x U
   exact propext #[fun⟨y,e,r⟩=>by cases e;exact r,λr=>#[x,rfl,r]]
  have Y:w O H λx U=>∃a,x=V.ref a/\(∃T,SqL X.K U a T)/\R (Ite X.K a) U:=h;rw[←e]at Y;exact Y
 .obtain⟨x,e1,b,C,⟨T,F⟩,q⟩:=q1;subst e1 C;obtain⟨u,rfl,d⟩:=wW Z;cases d;obtain⟨G,N,o,f⟩:=P.list F;refine call_enumerate_list o.isList λh1 D J n hk=>?_;refine wpAny_pyIter_enum D ?_;have t:Inv X B O U { M with heap:=h1 }:=P.kept (t':=M.toks) hk;refine#[M.heap.objs.size+1,[M.heap.objs.size+1,M.heap.objs.size],_,Ite X.K b,U,rfl,t,jWk b _ _ (Nat.succ_ne_self _),#[#[_,D],J],λc hc=>?_,q];have z:c=M.heap.objs.size+1∨c=M.heap.objs.size:=by simpa using hc
  have i:M.heap.objs.size<=c:=by rcases z with rfl |rfl<;>lia
  exact P.fpOk i (P.hok.fresh i)
def Kx(ns:List Int):∀n,n<=ns.length->preSum (λi=>ns.getD i 0) n=(ns.take n).sum
 |0,_=>by simp [preSum]
 |n+1,h=>by
  show preSum _ n+ns.getD n 0=_;have hn:n<ns.length:=#[];rw[Kx ns n #[],List.take_succ,List.sum_append,aN,aC hn];simp
def Jw(hc:X.calm=true):wX X (.builtin "sum") (cSum X.K):=by
 rintro B s O H T g Q I r ⟨p,ns,rfl,F,q⟩;obtain⟨u,rfl,d⟩:=wW r;cases d;obtain⟨G,N,k,f⟩:=I.list F;have S:=N.length;rw[aA]at S;have hpl:p<s.heap.objs.size:=by obtain⟨o,e,_⟩:=k.isList;exact bC e
 refine call_sum_walkG (wpAny_pyIter_list k.isList #[s.heap.objs.size,_,_,_,_,_,λi=>ns.getD i 0,rfl,Walks.list (A:=X.A.in1) (I.ok.hd hc) s.heap.objs.size p (bL hpl) G.toArray,#[#[_,cE _ rfl,rfl,rfl],k.isList.push _],λb hb=>?_,λi v hv=>?_,λY tk U hk=>?_])
 .show b<(s.heap.push _).objs.size;rw[Heap.size_push];have z:b=s.heap.objs.size∨b=p:=by simpa using hb
  rcases z with rfl |rfl
  .exact fX _
  .exact Nat.lt_succ_of_lt hpl
 .have a:G[i]?=some v:=by simpa using hv
  obtain⟨x,ex,J⟩:∃x,(List.map V.int ns)[i]?=some x/\fO x v:=by
   have hi:i<G.length:=(aI.mp a).1;have P:i<(List.map V.int ns).length:=by rw[aA];lia
   obtain⟨u,c,d⟩:=N.get (i:=i) (x:=(List.map V.int ns)[i]) (aC P);rw[a]at c;cases c;exact#[_,aC P,d]
  rw[aX]at ex;cases e:ns[i]? with
  |none=>rw[e]at ex;cases ex
  |some z=>
   rw[e]at ex;have:V.int z=x:=aU ex;subst this;obtain⟨t,rfl⟩:=J;exact#[t,by show Value.int z t=Value.int (ns.getD i 0) t;rw[aN,e];rfl]
 .have e:preSum (λi=>ns.getD i 0) G.toArray.size=ns.sum:=by
   rw[bG,←S,Kx ns _ (aP _),bY]
  rw[e];refine#[.int ns.sum,H,I.kept λb o q=>?_,#[_,rfl],q];exact hk b o (by
   intro z;have l:b=s.heap.objs.size:=by simpa using z
   exact absurd (bC q) (by rw[l];exact eO _)) (bA _ q)
def Tp{A:Around}{s:Shared}{u v:Value}(Z:fO (.int i) u)(Y:fO (.int j) v):SeqAt.EqAt A s u v (i==j):=by
 obtain⟨t,rfl⟩:=Z;obtain⟨U,rfl⟩:=Y;exact λprog w E Q F=>wpAny_eqBool_int F
end
def dY(K:aR)(x:Str):Addr:=match PySem.W.nsIn K mainGlobals x with
 |some (some (.ref C))=>C
 |_=>0
def mX{K:aR}{x:Str}{C:Addr}(h:PySem.W.nsIn K mainGlobals x=some (some (.ref C))):dY K x=C:=by unfold dY;rw[h]
section
open PySem.W Builtin Builtin.ObjectAttr Builtin.Getset_descriptor
end
end L2
namespace L2
end L2
namespace L2
open PySem PySem.Spec PyProof.Rows Builtin Builtin.ObjectAttr
end L2
namespace L2
open PySem PySem.Spec PyProof.Rows
variable{A:List Expr}{F p pos:Pos}{H U:Hp}{J:It}{K:aR}{N:List Str}{P:Program}{Q:Option Value->Shared->Prop}{X:Cx}{Z:Scope}{a d z:Addr}{caps:List Nat}{ep i k:Nat}{es:Array DictEntry}{g:TG}{h:Heap}{kvs:List (List Key×V)}{o ob:Obj}{s:Shared}{tb:TS}{x y:Str}{xs ys:List V}
section
open PySem.W Builtin Builtin.ObjectAttr Builtin.Getset_descriptor
end
def REq(K:aR)(H:Hp)(D:V->V->Bool->Prop)(x y:V)(b:Bool):Prop:=∃a c xs ys,x=.ref a/\y=.ref c/\
 ((SqL K H a xs/\SqL K H c ys/\((xs.length≠ys.length/\b=false)∨(xs.length=ys.length/\∃e:Nat->Bool,(∀(j:Nat) x' y',xs[j]?=some x'->ys[j]?=some y'->D x' y' (e j))/\b=(List.range xs.length).all e)))∨
  (SqT K H a xs/\SqT K H c ys/\∃e:Nat->Bool,(∀(j:Nat) x' y',xs[j]?=some x'->ys[j]?=some y'->D x' y' (e j))/\b=((List.range (min xs.length ys.length)).all e&&xs.length==ys.length)))
noncomputable def DEq(K:aR)(H:Hp):Nat->V->V->Bool->Prop
 |0,x,y,b=>(x=y/\(∃a,x=.ref a)/\b=true)∨∃i j,x=.int i/\y=.int j/\b=(i==j)
 |n+1,x,y,b=>((x=y/\(∃a,x=.ref a)/\b=true)∨∃i j,x=.int i/\y=.int j/\b=(i==j))∨(x≠y/\REq K H (DEq K H n) x y b)
def rEqD(K:aR)(n:Nat):R2:=λx y H Q=>∃b,REq K H (DEq K H n) x y b/\Q (.bl b) H
def rNeD(K:aR)(n:Nat):R2:=λx y H Q=>∃b,REq K H (DEq K H n) x y b/\Q (.bl (!b)) H
def fF.ix{us:List Value}(r:fF xs us){j:Nat}(h:j<us.toArray.size):∃x,xs[j]?=some x/\fO x us.toArray[j]:=by
 have S:=r.length;have h1:j<us.length:=by simpa using h
 have h2:j<xs.length:=#[];obtain⟨u,e,q⟩:=r.get (i:=j) (x:=xs[j]) (aC h2);refine#[xs[j],aC h2,?_];have C:us.toArray[j]=u:=by
  obtain⟨_,z⟩:=aI.mp e;simpa using z
 rw[C];exact q
section
variable{X:Cx}{pins:List (Addr×Obj)}{σ:St}{H:Hp}{s:Shared}
def rc_of{A:Around}{D:V->V->Bool->Prop}(I:Inv X pins σ H s)(hu:A.units<cLine)(g:∀x y u v b,fO x u->fO y v->D x y b->SeqAt.EqAt A.in1 s u v b){x y:V}{u v:Value}{b:Bool}(J:fO x u)(m:fO y v)(h:REq X.K H D x y b):SeqAt.RcAt A s u v b:=by
 obtain⟨a,c,T,M,rfl,rfl,h⟩:=h;cases J;cases m;rcases h with⟨ha,hc,h⟩|⟨ha,hc,e,n,rfl⟩
 .obtain⟨r,Z,p1,_⟩:=I.list ha;obtain⟨i,Y,R,_⟩:=I.list hc;have l:=Z.length;have p:=Y.length;rcases h with⟨hn,rfl⟩|⟨S,e,n,rfl⟩
  .exact SeqAt.RcAt.lists_lengths p1.isList R.isList (by rw[bG,bG];simp;lia) hu
  .have q:=SeqAt.RcAt.lists (e:=e) p1.isList R.isList (by rw[bG,bG];lia) hu λj h1 h2=>by
    obtain⟨w,ex,f⟩:=Z.ix h1;obtain⟨o,d,k⟩:=Y.ix h2;exact g _ _ _ _ _ f k (n j w o ex d)
   rw[bG,←l]at q;exact q
 .obtain⟨r,Z,p1,_⟩:=I.tuple ha;obtain⟨i,Y,R,_⟩:=I.tuple hc;have l:=Z.length;have p:=Y.length;have q:=SeqAt.RcAt.tuples (e:=e) p1 R hu λj h1 h2=>by
   obtain⟨w,ex,f⟩:=Z.ix h1;obtain⟨o,d,k⟩:=Y.ix h2;exact g _ _ _ _ _ f k (n j w o ex d)
  rw[bG,bG,←l,←p]at q;exact q
def jY6{A:Around}{x y:V}{u v:Value}{b:Bool}(J:fO x u)(m:fO y v)(h:(x=y/\(∃a,x=.ref a)/\b=true)∨∃i j,x=.int i/\y=.int j/\b=(i==j)):SeqAt.EqAt A s u v b:=by
 rcases h with⟨rfl,⟨a,rfl⟩,rfl⟩|⟨i,j,rfl,rfl,rfl⟩
 .cases J;cases m;exact SeqAt.EqAt.same _
 .exact Tp J m
def Ju(I:Inv X pins σ H s):∀(n:Nat)(A:Around),A.units+n<cLine->∀x y u v b,fO x u->fO y v->DEq X.K H n x y b->SeqAt.EqAt A s u v b
 |0,_,_,_,_,_,_,_,J,m,h=>jY6 J m h
 |n+1,A,hu,x,y,u,v,b,J,m,h=>by
  rcases h with h |⟨U,h⟩
  .exact jY6 J m h
  .have q:=rc_of I (A:=A) #[] (λx y u v b J m d=>Ju I n A.in1 (by show A.units+1+n<cLine;lia) x y u v b J m d) J m h;obtain⟨a,c,T,M,rfl,rfl,_⟩:=h;cases J;cases m;exact SeqAt.EqAt.of_refs (λz=>U (by rw[z])) q
end
section
variable{X:Cx}
def jZU(n:Nat)(hu:X.A.units+(n+1)<cLine):OpR X (compareOp .Eq) (rEqD X.K n):=by
 rintro B s O H x y v u Q I J m ⟨b,h,q⟩;exact rc_of I (A:=X.A) #[] (Ju I n X.A.in1 (by show X.A.units+1+n<cLine;lia)) J m h _ _ _ _ #[.bl b,H,I,rfl,q]
def jZV(n:Nat)(hu:X.A.units+(n+1)<cLine):OpR X (compareOp .NotEq) (rNeD X.K n):=by
 rintro B s O H x y v u Q I J m ⟨b,⟨a,c,T,M,rfl,rfl,h⟩,q⟩;cases J;cases m;have g:=Ju I n X.A.in1 (by show X.A.units+1+n<cLine;lia);have p:X.A.units<cLine:=#[];have fin:EP X B O Q (.bool (!b)) s:=#[.bl (!b),H,I,rfl,q];rcases h with⟨ha,hc,h⟩|⟨ha,hc,e,D,rfl⟩
 .obtain⟨t,Z,p1,_⟩:=I.list ha;obtain⟨i,Y,R,_⟩:=I.list hc;have l:=Z.length;have r:=Y.length;rcases h with⟨hn,rfl⟩|⟨S,e,D,rfl⟩
  .exact SeqAt.RcNeAt.lists_lengths p1.isList R.isList (by rw[bG,bG];simp;lia) p _ _ _ _ fin
  .have z:=SeqAt.RcNeAt.lists (A:=X.A) (e:=e) p1.isList R.isList (by rw[bG,bG];lia) p λj h1 h2=>by
    obtain⟨w,ex,f⟩:=Z.ix h1;obtain⟨o,d,k⟩:=Y.ix h2;exact g _ _ _ _ _ f k (D j w o ex d)
   rw[bG,←l]at z;exact z _ _ _ _ fin
 .obtain⟨t,Z,p1,_⟩:=I.tuple ha;obtain⟨i,Y,R,_⟩:=I.tuple hc;have l:=Z.length;have r:=Y.length;have z:=SeqAt.RcNeAt.tuples (A:=X.A) (e:=e) p1 R p λj h1 h2=>by
   obtain⟨w,ex,f⟩:=Z.ix h1;obtain⟨o,d,k⟩:=Y.ix h2;exact g _ _ _ _ _ f k (D j w o ex d)
  rw[bG,bG,←l,←r]at z;exact z _ _ _ _ fin
end
def REq.refs{n:Nat}{c:Addr}{ps:List Addr}(h1:SqL K H a (List.map V.ref ps))(h2:SqL K H c (List.map V.ref ps)):REq K H (DEq K H n) (.ref a) (.ref c) true:=by
 refine#[a,c,_,_,rfl,rfl,.inl #[h1,h2,.inr #[rfl,λ_=>true,λj x y ex d=>?_,by simp]]];rw[ex]at d;have e:=aU d;rw[aX]at ex;cases e1:ps[j]? with
 |none=>rw[e1]at ex;cases ex
 |some p=>
  rw[e1]at ex;have M:=aU ex;have b:(x=y/\(∃a,x=V.ref a)/\true=true)∨∃i k,x=V.int i/\y=V.int k/\true=(i==k):=.inl #[e,#[p,M.symm],rfl];cases n with
  |zero=>exact b
  |succ n=>exact .inl b
def xP:R2:=λx y H Q=>∃a b xs ys,x=.ref a/\y=.ref b/\H a=some (.tup xs)/\H b=some (.tup ys)/\xs.length+ys.length<=sizeLine/\∀p Z,aS H Z->Z p=some (.tup (xs++ys))->Q (.ref p) Z
noncomputable def Va:V->Option Int->Option Int->Hp->VK->Prop:=λx lo hi H Q=>∃a xs,x=.ref a/\H a=some (.tup xs)/\∀p Z,aS H Z->Z p=some (.tup (mW xs lo hi))->Q (.ref p) Z
section
variable{X:Cx}
def Ag:OpR X (binaryOp .Add) xP:=by
 rintro B s O H x y v u Q I J m ⟨a,b,T,M,rfl,rfl,ha,hb,f,q⟩;by_cases hx:T=[]
 .subst hx;cases J;cases m;obtain⟨S,Z,p1,_⟩:=I.tuple (SqT.of ha);obtain⟨i,Y,R,_⟩:=I.tuple (SqT.of hb);have e1:S=[]:=by cases Z;rfl
  subst e1;obtain⟨⟨C,G,o,sl⟩,ho,hc,n,hd⟩:=id p1;obtain⟨⟨r,k,l,c⟩,j,g,n2,z⟩:=id R;simp only at hc hd g z;subst hc hd g z;exact concat_meets #[_,ho,rfl] #[_,j,rfl] noFill_tuple_add seq_tuple_add PySem.F.slot_tuple_add PySem.F.entry_tuple_add (PySem.F.args_tuple_add_2 _ _) (tuple_addW0 a b _ _ n n2 G k sl c (by simp)) #[ho,j,#[.ref b,H,I,rfl,q b H (aS.refl H) hb]]
 .refine op_catT B s O H _ _ v u Q I J m #[a,b,T,M,rfl,rfl,SqT.of ha,SqT.of hb,hx,f,λe=>?_,λ_ p hp=>q p _ (aS.upd hp) aL];subst e;exact q a H (aS.refl H) (by rw[cS];exact ha)
end
def jJw:bootBuiltins "reversed"=some (.type "reversed"):=by decide+kernel
section
variable{prog:Program}{w:World}{A:Around}{E:Value->Shared->Prop}{s:Shared}
open HT in
def jJW{t sl:Addr}{items:Array Value}{vl vu:Value}{lo hi:Option Int}{Q:Value->Shared->Prop}(ht:IsTup s.heap t items)(hs:s.heap.IsSliceOf sl vl vu .none)(pl:IsPart vl lo)(pu:IsPart vu hi)
  (hw:sIx items.size 0 lo=0/\sIx items.size items.size hi=items.size) (h:Q (.ref t) s):wpAny (model prog w) A (getItem (.ref t) (.ref sl)) Q E s:=by
 obtain⟨os,hos,hcs,hds⟩:=id hs;have hTs:s.TypeIs (.ref sl) "slice":=#[os,hos,hcs];unfold getItem
 try with_reducible refine wpAny_holding ?_
 first |refine aD (aT ?_)|skip
 refine aD (wpAny_sequenceKey ht.typeIs (by decide) ?_);refine aD (wpAny_callSpecial?_slot (name:=Str.ofString "__getitem__") ht.typeIs PyProof.Rows.slot_tuple_getitem
  (wpAny_call_entry PyProof.Rows.slot_tuple_getitem ht.typeIs entry_tuple_getitem ?_ (args_tuple_getitem _ _)))
 show wpAny _ _ (Builtin.Tuple.tupleItemsOf (.ref t)>>=_) _ _ s;refine aD (tupleItemsOf_ ht ?_);refine aD (wpAny_typeOf hTs ?_);rw[aK (by decide)];refine aD (uK hs pl pu ?_);have yes:((((sIx items.size 0 lo:Nat):Int)==0&&(1:Int)==1&&(sIx items.size items.size hi-sIx items.size 0 lo)==items.size)=true):=by
  rw[hw.1,hw.2];simp
 show wpAny _ _ (if(((sIx items.size 0 lo:Nat):Int)==0&&(1:Int)==1&&(sIx items.size items.size hi-sIx items.size 0 lo)==items.size)=true then _ else _) _ _ s;rw[aK yes];unfold Builtin.Tuple.tupleIsExact;refine aD (aD (wpAny_typeOf ht.typeIs (aT ?_)));rw[aK (by decide)]
 first
  |exact aD (wpAny_rule (aT #[_,rfl,aT h]))
  |exact aD (wpAny_rule (aD (aT (aT #[_,rfl,aT h]))))
  |exact aD (wpAny_rule (aT h))
end
section
variable{X:Cx}
def jX5{lo hi:Option Int}(h:HT.sIx xs.length 0 lo=0/\HT.sIx xs.length xs.length hi=xs.length):mW xs lo hi=xs:=by
 unfold mW;rw[h.1,h.2,List.drop_zero,Nat.sub_zero,bY]
def Ek:SlR X Va:=by
 rintro B s O H x v c g lo hi sl Q I J hs k i ⟨a,T,rfl,hx,q⟩;by_cases hw:HT.sIx T.length 0 lo=0/\HT.sIx T.length T.length hi=T.length
 .cases J;obtain⟨G,r,y,f⟩:=I.tuple (SqT.of hx);have U:G.toArray.size=T.length:=by rw[bG];exact r.length.symm
  refine#["tuple",_,PyProof.Rows.slot_tuple_getitem.lookup,y.typeIs,?_];exact jJW y hs k i (by rw[U];exact hw) #[.ref a,H,I,rfl,q a H (aS.refl H) (by rw[jX5 hw];exact hx)]
 .exact sl_tup B s O H _ v c g lo hi sl Q I J hs k i #[a,T,rfl,SqT.of hx,hw,λp hp=>q p _ (aS.upd hp) aL]
end
def Itv(K:aR)(a:Addr)(n:Nat):It:=
 #[λi H=>i<n/\∃xs,SqL K H a xs/\xs.length=n,λi H v Z=>Z=H/\∀xs,SqL K H a xs->xs[n-1-i]?=some v,λi _=>n<=i]
def iRev(K:aR)(w:TE):TI:=λO H R=>w O H λx U=>∃a xs,x=.ref a/\SqL K U a xs/\R (Itv K a xs.length) U
def jVr{w:World}{r:Expr}(a l:Addr)(n:Nat):Xx P w K r (Itv K a n) [l] l (λi h=>i<=n/\h.IsRevIter l a ((n:Int)-1-(i:Int))) where
 mem:=by simp
 obj:=λi h st b hb=>by
  obtain⟨_,o,e,c,d⟩:=st;have z:b=l:=by simpa using hb
  subst z;exact#[o,e,λv z=>by rw[d]at z;cases z]
 keep:=λi h Y st k=>#[st.1,st.2.at λo q=>k l (by simp) o q]
 item:=by
  intro X hP hw j hc i B s O H E I hf st hg;subst hP hw j;obtain⟨hi,T,F,hn⟩:=hg;obtain⟨G,N,p,f⟩:=I.list F;have S:=N.length;obtain⟨f0,m,U,y,Q,g⟩:=hf l (by simp);have e1:(n:Int)-1-(i:Int)=((n-1-i:Nat):Int):=#[];have J:=st.2;rw[e1]at J;have R:n-1-i<T.length:=#[];obtain⟨u,hu,ru⟩:=N.get (aC R);refine wpAny_pyNext_rev_item J p.isList (x:=u) (by simpa using hu) λY A sb=>#[_,rfl,?_];obtain⟨o',Z,D,t⟩:=id A;refine go_of Z D t (by decide+kernel) ?_;have C:((n-1-i:Nat):Int)-1=(n:Int)-1-((i+1:Nat):Int):=#[];rw[C]at A;exact#[_,H,I.turned (t':=s.toks) (λb o hb e=>(sb.2 b hb).trans e) f0 m y Q g,ru,#[rfl,λM hy=>by rw[I.list_inj hy F];exact aC R],#[hi,A],λb hb=>by
   have z:b=l:=by simpa using hb
   rw[z];exact f0]
 done:=by
  intro X hP hw j hc i B s O H E I hf st hg;subst hP hw j;obtain⟨f0,m,U,y,Q,g⟩:=hf l (by simp);have e1:(n:Int)-1-(i:Int)= -1:=by
   have:=st.1;have h2:n<=i:=hg;lia
  have J:=st.2;rw[e1]at J;exact wpAny_pyNext_rev_end (I.ok.hd hc) J λY eb=>#[rfl,I.turned (t':=s.toks) (λb o hb e=>eb b o hb e) f0 m y Q g]
 self:=λ_ _ _ _ _ st h=>wpAny_pyIter_revIter st.2 h
section
variable{X:Cx}
def pi_rev{i:Expr}{a:Expr}{w:TE}(hg:Gl X "reversed")(hm:X.mg "reversed"=none)(S:PE X a w)(hs:starEach [a] X.env=[(false,eval a X.env)]:=by rfl):PI X i (.Call (.Name "reversed" p) [a] [] pos) (iRev X.K w):=by
 intro B s O H R I h;have l:PA X [a] (aH w bE):=aB S aO (by rw[hs];rfl);refine Call_ (qF I hg hm jJw (dI (thn (l pos B s O H (λj U=>∃x,j=[x]/\∃a T,x=.ref a/\SqL X.K U a T/\R (Itv X.K a T.length) U) I ?_) λg M#[j,U,P,Z,q1]=>?_) hs rfl))
 .show w O H λx U=>∃y,[x]=[y]/\_;have e:(fun(x:V)(U:Hp)=>∃y,[x]=[y]/\∃a T,y=V.ref a/\SqL X.K U a T/\R (Itv X.K a T.length) U)=λx U=>∃a T,x=V.ref a/\SqL X.K U a T/\R (Itv X.K a T.length) U:=by
   funext x U
   exact propext #[fun⟨y,e,r⟩=>by cases e;exact r,λr=>#[x,rfl,r]]
  have Y:w O H λx U=>∃a T,x=V.ref a/\SqL X.K U a T/\R (Itv X.K a T.length) U:=h;rw[←e]at Y;exact Y
 .obtain⟨x,e1,b,T,C,F,q⟩:=q1;subst e1 C;obtain⟨u,rfl,d⟩:=wW Z;cases d;obtain⟨G,N,k,f⟩:=P.list F;have S:=N.length;refine call_reversed_list k.isList ?_;have J:(M.heap.push (revObj b (((G.toArray.size:Nat):Int)-1))).IsRevIter M.heap.objs.size b ((T.length:Int)-1-((0:Nat):Int)):=#[_,cE _ rfl,rfl,by
   show Data.fields (List.toArray [.ref b,rawInt (((G.toArray.size:Nat):Int)-1)])=_;rw[bG,←S];simp]
  refine wpAny_pyIter_revIter (s:={ M with heap:=M.heap.push (revObj b (((G.toArray.size:Nat):Int)-1)) }) J ?_;refine#[M.heap.objs.size,[M.heap.objs.size],_,Itv X.K b T.length,U,rfl,P.kept (t':=M.toks) λc o e=>bA _ e,jVr b _ _,#[dW _,J],λc hc=>?_,q];have z:c=M.heap.objs.size:=by simpa using hc
  exact P.fpOk (Nat.le_of_eq z.symm) (P.hok.fresh (Nat.le_of_eq z.symm))
end
def for_rev{D:xI}{O:St}(d:Nat->St->Hp->Prop)(h0:d 0 O H)(S:∀i O H,i<=xs.length->d i O H->SqL K H a xs)
  (hs:∀i x O H,i<xs.length->xs[xs.length-1-i]?=some x->d i O H->g x O H λc j=>tb { D with nx:=d (i+1),ct:=d (i+1),bk:=D.nx } c j) (hd:∀O H,d xs.length O H->D.nx O H):
  ∃W:Nat->Nat->St->Hp->Prop,(∃m,W 0 m O H)/\∀i m O H,W i m O H->
   ((Itv K a xs.length).stop i H/\D.nx O H)∨((Itv K a xs.length).go i H/\∃N:St->Hp->Prop,(∀G Z,N G Z->∃k,k<m/\W (i+1) k G Z)/\∀x Z,(Itv K a xs.length).yld i H x Z->g x O Z λc j=>tb { D with nx:=N,ct:=N,bk:=D.nx } c j):=by
 refine#[λi m O H=>m=xs.length-i/\i<=xs.length/\d i O H,#[xs.length,by simp,dW _,h0],?_];rintro i m O H ⟨rfl,hi,p⟩;have q:=S i O H hi p;by_cases R:i<xs.length
 .refine .inr #[#[R,xs,q,rfl],d (i+1),λG Z u=>#[xs.length-(i+1),#[],rfl,R,u],λx Z y=>?_];obtain⟨e,y⟩:=y;subst e;exact hs i x O _ R (y xs q) p
 .have e:i=xs.length:=#[];subst e;exact .inl #[aP _,hd O H p]
def rJ(J:It)(O:St)(caps:List Nat)(d:TT)(l:TE)(U:Hp)(fin:List V->Hp->Prop):Prop:=
 ∃(n:Nat)(W:Nat->List V->Hp->Prop),n<=sizeLine/\W 0 [] U/\∀i ys j,i<=n->ys.length<=i->W i ys j->
  (J.stop i j/\fin ys j)∨(i<n/\J.go i j/\∀x Y,J.yld i j x Y->d (some x::dA O caps) Y λb u=>if b=true then l (some x::dA O caps) u λy G=>W (i+1) (ys++ [y]) G else W (i+1) ys u)
def pI(q:TI)(caps:List Nat)(d:TT)(l:TE):TE:=λO H Q=>q O H λJ U=>rJ J O caps d l U λys j=>∀p,j p=none->Q (.ref p) (upd j p (.lst ys))
noncomputable def cLenT:List V->Hp->VK->Prop:=λxs H Q=>∃p kvs,xs=[.ref p]/\H p=some (.dT kvs)/\Q (.int (kvs.length:Nat)) H
def len_any{prog:Program}{w:World}(hd:(d==sysModules)=false):MeetsIn prog w (Builtin.«dict.__len__» #[[.ref d],[]]) (λ_ R s=>∃o J U,s.heap.get? d=some o/\o.data=.dict J U/\R (.ok (.ret (.int (J.size:Nat) s.toks))) { s with toks:=s.toks+1 }):=
 .of_wp λA R s#[o,J,U,ho,j,h]=>by
  show wpAny _ _ (dictSize d>>=_) _ _ s;unfold dictSize;refine aD (aD (wpAny_dictEntries ho j (aT ?_)));show wpAny _ _ (Builtin.Dict.pendingCount d>>=_) _ _ s;refine aD (wpAny_pendingCount_other hd ?_);refine wpAny_ret_mkInt ?_;rw[Nat.add_zero];exact h
section
variable{X:Cx}
def jVj:wX X (.builtin "len") cLenT:=by
 rintro B s O H T g Q I r ⟨p,N,rfl,hp,q⟩;obtain⟨u,rfl,d⟩:=wW r;cases d;obtain⟨z,hd,M,x,o,J,U,ho,hc,j,D,_⟩:=dt_of I.hok hp;have P:s.TypeIs (.ref p) "dict":=#[o,ho,hc.1];have sz:J.size=N.length:=by rw[size_of_entries D];exact(Paired.length x).symm
 have f:(J.size:Int)<2^63:=by rw[sz];rw[sizeLine_eq]at z;lia
 refine Calls.call_function_entry kind_len plain_len entry_len (args_len1 _) ?_;unfold Builtin.«len»;refine aD (m:=oneArg "len" _) (aT ?_);refine aD (m:=callSpecial? (.ref p) (Str.ofString "__len__")) (wpAny_callSpecial?_slot (name:=Str.ofString "__len__") P F.slot_dict_len (call_meetsIn F.slot_dict_len P F.entry_dict_len (F.args_dict_len_1 _) (len_any hd) #[o,J,U,ho,j,?_]));show wpAny _ _ _ _ _ { s with toks:=s.toks+1 };refine aD (wpAny_holding (aT (aD (wpAny_letGo ?_))));show wpAny _ _ (if((J.size:Nat):Int)<0 then _ else _) _ _ _;rw[aF #[]];show wpAny _ _ (if((J.size:Nat):Int)≥2^63 then _ else _) _ _ _;rw[aF #[]];refine aD (wpAny_mkInt (aT #[_,rfl,?_]));exact#[.int (N.length:Nat),H,(I.tok _).tok _,#[_,by rw[sz]],q]
end
structure TabK(K:aR):Prop where
 cl:Cls K (dY K "Table")
 nM:pJ K (dY K "Table") "many"
 nC:pJ K (dY K "Table") "cells"
noncomputable def uO(n:Nat):List Int:=(List.range n).map Int.ofNat
def jVu{n:Nat}(h:k<n):(uO n)[k]?=some (k:Int):=by
 unfold uO;rw[aX,List.getElem?_range h];rfl
def rM(n:Nat):(uO n).length=n:=by unfold uO;rw[aA,gL]
def Ec(c:TE):TE:=λO H Q=>c O H λx U=>∃n:Nat,x=.int n/\n<=10000/\∀p,U p=none->Q (.ref p) (upd U p (.lst (List.map V.int (uO n))))
def Ke:∀{xs:List V}{us:List Value},xs.length=us.length->(∀(i:Nat)(x:V)(u:Value),xs[i]?=some x->us[i]?=some u->fO x u)->fF xs us
 | [],[],_,_=>.nil
 | [],_::_,h,_=>by simp at h
 |_::_,[],h,_=>by simp at h
 |x::xs,u::us,h,k=>.cons (k 0 x u rfl rfl) (Ke (by simpa using h) λi x u h1 h2=>k (i+1) x u (by simpa using h1) (by simpa using h2))
section
variable{X:Cx}
def Mi{a:Expr}{w:TE}{p1 R b a1:Pos}(T:Gl X "list")(k:X.mg "list"=none)(l:Gl X "range")(D:X.mg "range"=none)(hc:X.calm=true)(S:PE X a w)
  (a2:starEach [.Call (.Name "range" R) [a] [] a1] X.env=[(false,eval (.Call (.Name "range" R) [a] [] a1) X.env)]:=by rfl) (z:starEach [a] X.env=[(false,eval a X.env)]:=by rfl):
  PE X (.Call (.Name "list" p1) [.Call (.Name "range" R) [a] [] a1] [] b) (Ec w):=by
 intro B s O H Q I h;have G:PA X [a] (aH w bE):=aB S aO (by rw[z];rfl);refine Call_ (qF I T k pU (dI (spliced_more ?_ (by rw[a2];rfl)) a2 rfl));refine Call_ (qF I l D boot_range (dI (thn (G a1 B s O H (λj U=>∃x,j=[x]/\∃n:Nat,x=.int n/\n<=10000/\∀p,U p=none->Q (.ref p) (upd U p (.lst (List.map V.int (uO n))))) I ?_) λg M#[j,U,P,Z,q1]=>?_) z rfl))
 .show w O H λx U=>∃y,[x]=[y]/\_;have e:(fun(x:V)(U:Hp)=>∃y,[x]=[y]/\∃n:Nat,y=V.int n/\n<=10000/\∀p,U p=none->Q (.ref p) (upd U p (.lst (List.map V.int (uO n)))))=λx U=>∃n:Nat,x=V.int n/\n<=10000/\∀p,U p=none->Q (.ref p) (upd U p (.lst (List.map V.int (uO n)))):=by
   funext x U
   exact propext #[fun⟨y,e,r⟩=>by cases e;exact r,λr=>#[x,rfl,r]]
  have Y:w O H λx U=>∃n:Nat,x=V.int n/\n<=10000/\∀p,U p=none->Q (.ref p) (upd U p (.lst (List.map V.int (uO n)))):=h;rw[←e]at Y;exact Y
 .obtain⟨x,e1,n,C,hn,q⟩:=q1;subst e1 C;obtain⟨u,rfl,d⟩:=wW Z;obtain⟨t,rfl⟩:=d;refine call_range_1 (spliced_none ?_);have f:Builtin.Range.rangeSize 0 (n:Int) 1=(n:Int):=by rw[rangeSize_one];split<;>lia
  refine call_list_range (P.ok.hd hc) (IsRange.new ..) (small_one (by decide) (by decide) #[] #[]) f #[] λh2 tk K m hk v F=>?_;have kp:∀c o,M.heap.get? c=some o->h2.get? c=some o:=λc o e=>hk c o (bA _ e);have N:(M.heap.push { cls:=.type "range",data:=.fields (List.toArray [.int 0 M.toks,.int (n:Int) t,.int 1 (M.toks+1)]) }).objs.size=M.heap.objs.size+1:=Heap.size_push ..;have lt:M.heap.objs.size<=(M.heap.push { cls:=.type "range",data:=.fields (List.toArray [.int 0 M.toks,.int (n:Int) t,.int 1 (M.toks+1)]) }).objs.size:=by rw[N];exact Nat.le_succ _
  refine#[.ref _,_,P.laid (t':=tk) (o:=.lst (List.map V.int (uO n))) kp lt #[by rw[aA,rM,sizeLine_eq];lia,K.toList,m,Ke (by rw[aA,rM,Array.length_toList,F.1]) λi x u h1 A=>?_,by simpa using v],rfl,q _ (P.hok.fresh lt)];have hi:i<n:=by
   have:=(aI.mp h1).1;rwa [aA,rM]at this
  rw[aX,jVu hi]at h1;cases h1;obtain⟨J,e⟩:=F.2 i u (by simpa using A);rw[e];exact#[J,by simp]
end
def bt_zip:bootBuiltins "zip"=some (.type "zip"):=by decide+kernel
def Itz(K:aR)(a b:Addr):It:=
 #[λi H=>∃xs x ys y,SqL K H a xs/\xs[i]?=some x/\SqL K H b ys/\ys[i]?=some y,
  λi H v Z=>∃p x y,v=.ref p/\H p=none/\Z=upd H p (.tup [x,y])/\(∀xs,SqL K H a xs->xs[i]?=some x)/\(∀ys,SqL K H b ys->ys[i]?=some y),
  λi H=>∃xs ys,SqL K H a xs/\SqL K H b ys/\(xs.length<=i∨ys.length<=i)]
def nL(K:aR)(t:TA):TI:=λO H R=>t O H λvs U=>∃a b,vs=[.ref a,.ref b]/\(∃xs,SqL K U a xs)/\(∃ys,SqL K U b ys)/\R (Itz K a b) U
def jVq{w:World}{tp:Pos}(a b z TI TO S i2:Addr)(D:ZipApart z TI TO S i2 a b):
  Xx P w K (.Tuple A k tp) (Itz K a b) [z,TI,TO,S,i2] z (λi h=>IsZip h z TI TO .none/\IsPair h TI (.ref S) (.ref i2)/\(∃u v,IsPair h TO u v)/\h.IsListIter S a i/\h.IsListIter i2 b i) where
 mem:=by simp
 obj:=λi h st c hc=>by
  obtain⟨f,j,⟨u,v,a7⟩,⟨o1,e1,c1,d1⟩,⟨U,C,c2,d2⟩⟩:=st;have q:c=z∨c=TI∨c=TO∨c=S∨c=i2:=by simpa using hc
  rcases q with rfl |rfl |rfl |rfl |rfl
  .exact#[_,f,λv z=>nomatch z]
  .exact#[_,j,λv z=>nomatch z]
  .exact#[_,a7,λv z=>nomatch z]
  .exact#[o1,e1,λv z=>by rw[d1]at z;cases z]
  .exact#[U,C,λv z=>by rw[d2]at z;cases z]
 keep:=λi h Y st kp=>by
  obtain⟨f,j,⟨u,v,a7⟩,h1,h2⟩:=st;exact#[kp z (by simp) _ f,kp TI (by simp) _ j,#[u,v,kp TO (by simp) _ a7],h1.at λo q=>kp S (by simp) o q,h2.at λo q=>kp i2 (by simp) o q]
 item:=by
  intro X hP hw hK hc i B s O H E I hf st hg;subst hP hw hK;obtain⟨T,x,M,y,F,hx,hr,hy⟩:=hg;obtain⟨G,N,p,b1⟩:=I.list F;obtain⟨b2,sv,r,b3⟩:=I.list hr;obtain⟨u,hu,d⟩:=N.get hx;obtain⟨v,hv,b4⟩:=sv.get hy;obtain⟨f,j,⟨u0,v0,a7⟩,h1,h2⟩:=st;refine wpAny_pyNext_zip_item D f j a7 h1 h2 p.isList r.isList (x:=u) (y:=v) (by simpa using hu) (by simpa using hv) λg a1 a2 a3 a4 a5 a6 kp=>#[_,rfl,?_];refine wpAny_letOwnedTupleGo_zip (s:={ s with heap:=g }) a1 λg2 en sb=>?_;have Q:Heap.SameBut z g g2:=sb;have lt:∀{c:Addr}{o:Obj},s.heap.get? c=some o->c<s.heap.objs.size:=λe=>bC e;have lz:=lt f;have b6:=lt j;have b7:=lt a7;have l:S<s.heap.objs.size:=by obtain⟨_,e,_⟩:=h1;exact lt e
  have m:i2<s.heap.objs.size:=by obtain⟨_,e,_⟩:=h2;exact lt e
  have I1:Inv X B O H { s with heap:=g2,toks:=s.toks }:=I.turnedL (ch:=[z,TI,TO,S,i2]) (λc o hb q=>by
   have Z:c≠z/\c≠TI/\c≠TO/\c≠S/\c≠i2:=by simpa using hb
   exact(Q.2 c Z.1).trans (kp c o Z.1 Z.2.2.1 Z.2.2.2.1 Z.2.2.2.2 q)) hf
  have a9:H s.heap.objs.size=none:=I.hok.fresh (aP _);have b0:g2.get? s.heap.objs.size=some { cls:=.type "tuple",data:=.seq (List.toArray [u,v]) }:=(Q.2 _ (Nat.ne_of_gt lz)).trans a5;have I2:Inv X B O (upd H s.heap.objs.size (.tup [x,y])) { s with heap:=g2,toks:=s.toks }:=I1.adopt a9 I.sz (Nat.ne_of_gt I.lt) (λn c q=>by
   obtain⟨v,z⟩:=I.cell n c q;exact bL z.lt) (λq F=>bL (bC (I.pin q F).1)) #[by show 2<=sizeLine;decide,[u,v],.cons d (.cons b4 .nil),#[_,b0,rfl,_,rfl]]
  refine#[.ref s.heap.objs.size,_,I2,rfl,#[_,x,y,rfl,a9,rfl,λJ a8=>by rw[I.list_inj a8 F];exact hx,λJ a8=>by rw[I.list_inj a8 hr];exact hy],#[en,?_,#[_,_,(Q.2 _ D.TOz).trans a2],?_,?_],λc hb=>?_]
  .exact(Q.2 _ D.TIz).trans (kp _ _ D.TIz D.TITO D.TIi1 D.TIi2 j)
  .obtain⟨o,q,t⟩:=a3;exact#[o,(Q.2 _ D.i1z).trans q,t]
  .obtain⟨o,q,t⟩:=a4;exact#[o,(Q.2 _ D.i2z).trans q,t]
  .have b5:=(hf c hb).1;have q:c=z∨c=TI∨c=TO∨c=S∨c=i2:=by simpa using hb
   have R:c<s.heap.objs.size:=by rcases q with rfl |rfl |rfl |rfl |rfl<;>assumption
   rw[bZ (bL R)];exact b5
 done:=by
  intro X hP hw hK hc i B s O H E I hf st hg;subst hP hw hK;obtain⟨T,M,F,hr,hx⟩:=hg;obtain⟨G,N,p,b1⟩:=I.list F;obtain⟨b2,sv,r,b3⟩:=I.list hr;obtain⟨f,j,⟨u0,v0,a7⟩,h1,h2⟩:=st;have l:=N.length;have m:=sv.length;refine wpAny_pyNext_zip_end (I.ok.hd hc) D f j a7 h1 h2 p.isList r.isList (by simp;lia) λg kp=>#[rfl,?_];exact I.turnedL (t':=s.toks) (ch:=[z,TI,TO,S,i2]) (λc o hb q=>by
   have Z:c≠z/\c≠TI/\c≠TO/\c≠S/\c≠i2:=by simpa using hb
   exact kp c o Z.1 Z.2.2.1 Z.2.2.2.1 Z.2.2.2.2 q) hf
 self:=λ_ _ _ _ _ st h=>wpAny_pyIter_zip st.1 h
def Ig{n l1 l2:Nat}(h1:l1<n)(h2:l2<n):ZipApart (n+4) (n+2) (n+3) n (n+1) l1 l2:=by
 constructor<;>(intro e;have C:(_:Nat)=_:=e;lia)
section
variable{X:Cx}
def nR{d:Pos}{a b:Expr}{t:TA}(hg:Gl X "zip")(hm:X.mg "zip"=none)(S:PA X [a,b] t)
  (D:starEach (a:: [b]) X.env=(false,eval a X.env)::starEach [b] X.env:=by rfl) (hpl:(backTo pos (starEach [b] X.env)).any (·.1)=false:=by rfl):PI X (.Tuple A k d) (.Call (.Name "zip" p) [a,b] [] pos) (nL X.K t):=by
 intro B s O H R I h;refine wpAny_Call_Name_kw (qF I hg hm bt_zip ?_);refine dI (thF (S pos B s O H _ I h) λus M j U P Z q1=>?_) D hpl;obtain⟨l,m,Y,⟨T,F⟩,⟨ys,hr⟩,q⟩:=q1;subst Y;cases Z with
 |cons ra Z=>
 cases Z with
 |cons rb Z=>
 cases Z;cases ra;cases rb;obtain⟨G,N,C,a1⟩:=P.list F;obtain⟨v,u,J,w⟩:=P.list hr;have y:l<M.heap.objs.size:=by obtain⟨o,e,_⟩:=C.isList;exact bC e
 have Q:m<M.heap.objs.size:=by obtain⟨o,e,_⟩:=J.isList;exact bC e
 refine call_zip_2 C.isList J.isList λg f x r h1 h2 n hk=>?_;refine wpAny_pyIter_zip f ?_;have I2:Inv X B O U { M with heap:=g }:=P.kept (t':=M.toks) hk;refine#[M.heap.objs.size+4,[M.heap.objs.size+4,M.heap.objs.size+2,M.heap.objs.size+3,M.heap.objs.size,M.heap.objs.size+1],_,Itz X.K l m,U,rfl,I2,jVq l m _ _ _ _ _ (Ig y Q),#[f,x,#[_,_,r],h1,h2],λc hc=>?_,q];have z:c=M.heap.objs.size+4∨c=M.heap.objs.size+2∨c=M.heap.objs.size+3∨c=M.heap.objs.size∨c=M.heap.objs.size+1:=by simpa using hc
 have i:M.heap.objs.size<=c:=by rcases z with rfl |rfl |rfl |rfl |rfl<;>lia
 exact P.fpOk i (P.hok.fresh i)
end
def jY4{b:Addr}{D:xI}{O:St}(d:Nat->St->Hp->Prop)(h0:d 0 O H)(S:∀i O H,i<=xs.length->d i O H->SqL K H a xs/\SqL K H b ys)(f:xs.length=ys.length)
  (hs:∀i x y p O H,xs[i]?=some x->ys[i]?=some y->d i O H->H p=none->g (.ref p) O (upd H p (.tup [x,y])) λc j=>tb { D with nx:=d (i+1),ct:=d (i+1),bk:=D.nx } c j) (hd:∀O H,d xs.length O H->D.nx O H):
  ∃W:Nat->Nat->St->Hp->Prop,(∃m,W 0 m O H)/\∀i m O H,W i m O H->
   ((Itz K a b).stop i H/\D.nx O H)∨((Itz K a b).go i H/\∃N:St->Hp->Prop,(∀G Z,N G Z->∃k,k<m/\W (i+1) k G Z)/\∀x Z,(Itz K a b).yld i H x Z->g x O Z λc j=>tb { D with nx:=N,ct:=N,bk:=D.nx } c j):=by
 refine#[λi m O H=>m=xs.length-i/\i<=xs.length/\d i O H,#[xs.length,by simp,dW _,h0],?_];rintro i m O H ⟨rfl,hi,p⟩;obtain⟨q,r⟩:=S i O H hi p;by_cases R:i<xs.length
 .have h:i<ys.length:=#[];refine .inr #[#[xs,xs[i],ys,ys[i],q,by simp [R],r,by simp [h]],d (i+1),λG Z u=>#[xs.length-(i+1),#[],rfl,R,u],λx Z y=>?_];obtain⟨s,w,o,e1,C,P,B,v⟩:=y;subst e1 P;exact hs i w o s O _ (B xs q) (v ys r) p C
 .have e:i=xs.length:=#[];subst e;exact .inl #[#[xs,ys,q,r,.inl (aP _)],hd O H p]
section
variable{X:Cx}{pins:List (Addr×Obj)}{σ:List (Option V)}{H:Hp}{s:Shared}
def Zo{w:World}{u v:HO}(x:HOk P w H h)(e:H a=some u)(hu:(∀T,u≠.tup T)/\∀y,u≠.own y)(new:jV P w H h a v):HOk P w (upd H a v) h:=by
 have ho:∀b y,H b=some (.own y)->upd H a v b=some (.own y):=λb y q=>by
  rw[bZ (λz=>by subst z;rw[e]at q;exact hu.2 y (aU q))];exact q
 have d:∀b T,H b=some (.tup T)->upd H a v b=some (.tup T):=λb T q=>by
  rw[bZ (λz=>by subst z;rw[e]at q;exact hu.1 T (aU q))];exact q
 intro b o q;by_cases hb:b=a
 .subst hb;rw[aL]at q;cases q;exact new.stay (λ_ _ _ z=>z) (λc z=>ho c _ z) d
 .rw[bZ hb]at q;exact(x b o q).stay (λ_ _ _ z=>z) (λc z=>ho c _ z) d
def Inv.freeze(I:Inv X pins σ H s)(e:H a=some (.dT kvs)):∃ob,s.heap.get? a=some ob/\Inv X pins σ (upd H a (.frz ob (.dT kvs))) s:=by
 have hx:=I.hok a _ e;obtain⟨_,_,_,_,ob,_,_,ho,_⟩:=id hx;refine#[ob,ho,?_];have ne:∀b,H b=none->b≠a:=λb q z=>by subst z;rw[e]at q;cases q
 refine I.step (s:=s) (h':=s.heap) (g':=s.gens) (d':=s.drawn) (t':=s.toks) (ch:=[]) (λ_ z=>nomatch z) (λ_ _ _ _ _ q _=>q) (λ_ o _ _ _ q _=>#[o.slots,q]) (λb _ _ _ q=>by rw[bZ (ne b q)];exact q) (λ_ o _ q=>#[o,q])
  (λb T q=>by rw[bZ (kT q e (by intro z;cases z))];exact q) (λb o u q=>by rw[bZ (kT q e (by intro z;cases z))];exact q) (λb A q=>#[(List.toArray []),by rw[bZ (kT q e (by intro z;cases z)),q];simp]) (λ_ q=>q) ?_ I.bare
 exact Zo I.hok e #[λ_ z=>(by cases z),λ_ z=>(by cases z)] #[ho,hx]
def Inv.thaw(I:Inv X pins σ H s)(e:H a=some (.frz ob (.dT kvs)))(g:∀o u,X.H₀ a≠some (.frz o u)):Inv X pins σ (upd H a (.dT kvs)) s:=by
 have ne:∀b,H b=none->b≠a:=λb q z=>by subst z;rw[e]at q;cases q
 have off:∀b,H b=none->upd H a (.dT kvs) b=none:=λb q=>by rw[bZ (ne b q)];exact q
 refine#[I.ok,I.os,I.bare,#[I.base.keep,I.base.slot,λb o q n hx=>off b (I.base.free b o q n hx),I.base.there,λb T q=>?_,λb o u q=>?_,λb A q=>?_],I.loc,I.cell,off _ I.free,λx c q=>off c (I.freeC x c q),λp hp=>?_,?_,I.len]
 .have z:=I.base.tups b T q;rw[bZ (kT z e (by intro z;cases z))];exact z
 .have z:=I.base.frzs b o u q;have hb:b≠a:=λy=>by subst y;exact g o u q
  rw[bZ hb];exact z
 .obtain⟨m,z⟩:=I.base.tbls b A q;exact#[m,by rw[bZ (kT z e (by intro z;cases z))];exact z]
 .obtain⟨q,n,r⟩:=I.pin p hp;exact#[q,off _ n,r]
 .obtain⟨_,hx⟩:=I.hok a _ e;exact Zo I.hok e #[λ_ z=>(by cases z),λ_ z=>(by cases z)] hx
end
noncomputable def jYY(b:Addr->Prop)(D:xI):xI where
 nx:=λO H=>∃a kvs ob,b a/\H a=some (.frz ob (.dT kvs))/\D.nx O (upd H a (.dT kvs))
 rt:=λv H=>∃a kvs ob,b a/\H a=some (.frz ob (.dT kvs))/\D.rt v (upd H a (.dT kvs))
 bk:=λO H=>∃a kvs ob,b a/\H a=some (.frz ob (.dT kvs))/\D.bk O (upd H a (.dT kvs))
 ct:=λO H=>∃a kvs ob,b a/\H a=some (.frz ob (.dT kvs))/\D.ct O (upd H a (.dT kvs))
def Ci(t:TS):TS:=λD O H=>∀b:Addr->Prop,(∀a,(∀o u,H a≠some (.frz o u))->b a)->t (jYY b D) O H
def Oj{st:Stmt}{t:TS}(h:PS X st t):PS X st (Ci t):=by
 intro B s O H D I y;have q:=h B s O H _ I (y (λa=>∀o u,X.H₀ a≠some (.frz o u)) λa b o u z=>b o u (I.base.frzs a o u z));refine thn q λf R r=>?_;cases f with
 |next=>obtain⟨G,Z,c,a,N,ob,g,e,d⟩:=r;exact#[G,_,c.thaw e g,d]
 |brk=>obtain⟨G,Z,c,a,N,ob,g,e,d⟩:=r;exact#[G,_,c.thaw e g,d]
 |cont=>obtain⟨G,Z,c,a,N,ob,g,e,d⟩:=r;exact#[G,_,c.thaw e g,d]
 |ret v=>obtain⟨x,G,Z,c,i,a,N,ob,g,e,d⟩:=r;exact#[x,G,_,c.thaw e g,i,d]
section
variable{prog:Program}{w:World}{A:Around}{E:Value->Shared->Prop}{s:Shared}
def Xq(hd:(d==sysModules)=false):MeetsIn prog w (Builtin.«dict.items» #[[.ref d],[]]) (λ_ R s=>s.TypeIs (.ref d) "dict"/\R (.ok (.ret (.ref s.heap.objs.size))) { s with heap:=s.heap.push { cls:=.type "dict_items",data:=.fields (List.toArray [.ref d]) } }):=
 .of_wp λA R s#[P,h]=>by
  unfold Builtin.«dict.items»;refine aD ?_;unfold Builtin.Dict.noArgs;refine aD (wpAny_notOrdered_dict P ?_);show wpAny _ _ (pure d) _ _ s;refine aT ?_;show wpAny _ _ (Builtin.Dict.showsAll d>>=_) _ _ s;unfold Builtin.Dict.showsAll;rw[hd,aF (by simp)];refine aD (aT ?_);exact aD (wpAny_newObj_type (aT #[_,rfl,h]))
def jXz{v:Addr}{D:Obj}{Q:Value->Shared->Prop}(hv:s.heap.IsItemsView v d)(ho:s.heap.get? d=some D)(j:D.data=.dict es ep)
  (f:Q (.ref s.heap.objs.size) { s with heap:=s.heap.push { cls:=.type "dict_itemiterator",data:=.fields (List.toArray [.none,.bool false,.ref d,.int 0 0,.int es.size 0,.int ep 0,.none,.none]) } }):wpAny (model prog w) A (pyIter (.ref v)) Q E s:=by
 obtain⟨G,a,c,b⟩:=id hv;refine wpAny_pyIter_slot hv.typeIs F.slot_dict_items_iter (wpAny_call_entry F.slot_dict_items_iter hv.typeIs F.entry_dict_items_iter ?_ (F.args_dict_items_iter_1 _));unfold Builtin.«dict_items.__iter__»;refine aD (aT ?_);refine aD ?_;unfold Builtin.Dict_items.dictOf;refine aD (wpAny_field a b (x:=.ref d) rfl (aT ?_));refine aD ?_;unfold Builtin.Dict_items.newIterator;refine aD (wpAny_dictEntries ho j (aD (wpAny_dictEpoch ho j ?_)));simp only[show Builtin.Dict_items.ownsTuple "dict_itemiterator"=true by decide,if_true];refine wpAny_newObj_type (aT #[_,rfl,"dict_itemiterator",_,#[_,cE _ rfl,rfl],F.slot_dict_itemiterator_next.lookup,?_]) (by simp only[sizeOk,Builtin.Dict_items.ownedTupleFields,bG,bF,cP,List.length_nil,sizeLine_eq];lia);simpa [rawInt,Builtin.Dict_items.ownedTupleFields]using f
def jXy{l:Addr}{D:Obj}{ok G:Value}(J:IsItemIter s.heap l d i es.size ep ok G)(ho:s.heap.get? d=some D)(j:D.data=.dict es ep)(R:i<es.size)
  (f:∀Y,IsItemIterOut Y l d (i+1) es.size ep es[i].key es[i].val s.heap.objs.size->Y.get? s.heap.objs.size=some { cls:=.type "tuple",data:=.seq (List.toArray [es[i].key,es[i].val]) }->(∀b o,b≠l->s.heap.get? b=some o->Y.get? b=some o)->Q (some (.ref s.heap.objs.size)) { s with heap:=Y }):
  wpAny (model prog w) A (pyNext (.ref l)) Q E s:=by
 obtain⟨hp,g,a,tk,os⟩:=s;have P:Shared.TypeIs #[hp,g,a,tk,os] (.ref l) "dict_itemiterator":=#[_,J,rfl];have r:l<hp.objs.size:=bC J;unfold pyNext;refine aD (wpAny_attempt (wpAny_callSpecial?_slot (name:=Str.ofString "__next__") P F.slot_dict_itemiterator_next (wpAny_call_entry F.slot_dict_itemiterator_next P F.entry_dict_itemiterator_next ?_ (F.args_dict_itemiterator_next_1 _))));refine aD (aT ?_);refine aD ?_;refine aD ?_;refine aD (wpAny_typeNameOfWhole_itemiter P (aT ?_));refine aD (wpAny_fieldsOf J rfl ?_);simp only[show Builtin.Dict_items.ownsTuple "dict_itemiterator"=true by decide,if_true];show wpAny _ _ (if(Value.ref d==Value.none)=true then _ else _) _ _ _;rw[aF (λz=>by cases z)];refine aD (aT (aD (wpAny_dictEntries ho j ?_)));rw[aF (by simp)];refine aD (aT (aD (wpAny_dictEpoch ho j ?_)));rw[aF (by simp)];refine aT ?_;simp only[show ¬((i:Int)<0) by lia,if_false,bW,Array.getElem?_eq_getElem R];refine aD ?_;refine aD (wpAny_typeNameOfWhole_itemiter P (aT (aD (wpAny_isOneOf_itemiter P ?_))));show wpAny _ _ (setField (.ref l) 3 (rawInt ((i:Int)+1))>>=_) _ _ #[hp,g,a,tk,os];refine aD (wpAny_setField_rec J (by simp) λh1 e1 M=>?_);replace M:Heap.SameBut l hp h1:=M;replace e1:IsItemIter h1 l d (i+1) es.size ep ok G:=by unfold IsItemIter;rw[show((i+1:Nat):Int)=(i:Int)+1 by lia];simpa [rawInt]using e1
 have c:Shared.TypeIs #[h1,g,a,tk,os] (.ref l) "dict_itemiterator":=#[_,e1,rfl];refine aD (wpAny_holding (aD (wpAny_isOneOf_itemiter c (aD (wpAny_isOneOf_itemiter c ?_)))));show wpAny _ _ (Builtin.Dict_items.pairFromOwner (.ref l) 6 es[i].key es[i].val) _ _ #[h1,g,a,tk,os];unfold Builtin.Dict_items.pairFromOwner;refine aD (wpAny_newTuple ?_);have C:IsItemIter (h1.push { cls:=.type "tuple",data:=.seq (List.toArray [es[i].key,es[i].val]) }) l d (i+1) es.size ep ok G:=bA _ e1;generalize H:h1.push { cls:=.type "tuple",data:=.seq (List.toArray [es[i].key,es[i].val]) }=h2 at C;have m:h1.objs.size=hp.objs.size:=M.1;have v:h2.get? hp.objs.size=some { cls:=.type "tuple",data:=.seq (List.toArray [es[i].key,es[i].val]) }:=by rw[←H,←m];exact cE _ rfl
 have K:∀b o,b≠l->hp.get? b=some o->h2.get? b=some o:=λb o hb e=>by rw[←H];exact bA _ (M.extBut b o hb e)
 show wpAny _ _ (Builtin.Dict_items.ownedTupleIsFree (.ref l)>>=_) _ _ #[h2,g,a,tk,os];rw[m];refine aD ?_;unfold Builtin.Dict_items.ownedTupleIsFree;refine aD (wpAny_field C rfl (x:=.none) rfl (aT ?_));simp only[if_true];refine aD (wpAny_field C rfl (x:=ok) rfl (aD (wpAny_field C rfl (x:=G) rfl ?_)));refine aD (wpAny_setField_rec C (by simp) λk n N=>aD (wpAny_setField_rec (show IsItemIter k l d (i+1) es.size ep es[i].key G from n) (by simp) λy p X=>aD (wpAny_setField_rec (show IsItemIter y l d (i+1) es.size ep es[i].key es[i].val from p) (by simp) λO T I=>
  aD (wpAny_setField_rec (show IsItemIterOut O l d (i+1) es.size ep es[i].key es[i].val hp.objs.size from T) (by simp) λt h B=>?_))))
 have go:∀b o,b≠l->h2.get? b=some o->t.get? b=some o:=λb o hb e=>Heap.SameBut.extBut (show Heap.SameBut l O t from B) b o hb (Heap.SameBut.extBut (show Heap.SameBut l y O from I) b o hb (Heap.SameBut.extBut (show Heap.SameBut l k y from X) b o hb (Heap.SameBut.extBut (show Heap.SameBut l h2 k from N) b o hb e)));exact aD (wpAny_letGo (aT (aT #[_,rfl,aT (f t h (go _ _ (Nat.ne_of_gt r) v) λb o hb e=>go b o hb (K b o hb e))])))
def jXx{l:Addr}{D:Obj}{ok G:Value}(H:A.handled=none)(J:IsItemIter s.heap l d i es.size ep ok G)(ho:s.heap.get? d=some D)(j:D.data=.dict es ep)(u:es.size<=i)
  (f:∀Y,Heap.ExtBut l s.heap Y->Q none { s with heap:=Y }):wpAny (model prog w) A (pyNext (.ref l)) Q E s:=by
 have P:s.TypeIs (.ref l) "dict_itemiterator":=#[_,J,rfl];unfold pyNext;refine aD (wpAny_attempt (wpAny_callSpecial?_slot (name:=Str.ofString "__next__") P F.slot_dict_itemiterator_next (wpAny_call_entry F.slot_dict_itemiterator_next P F.entry_dict_itemiterator_next ?_ (F.args_dict_itemiterator_next_1 _))));refine aD (aT ?_);refine aD ?_;refine aD ?_;refine aD (wpAny_typeNameOfWhole_itemiter P (aT ?_));refine aD (wpAny_fieldsOf J rfl ?_);simp only[show Builtin.Dict_items.ownsTuple "dict_itemiterator"=true by decide,if_true];show wpAny _ _ (if(Value.ref d==Value.none)=true then _ else _) _ _ _;rw[aF (λz=>by cases z)];refine aD (aT (aD (wpAny_dictEntries ho j ?_)));rw[aF (by simp)];refine aD (aT (aD (wpAny_dictEpoch ho j ?_)));rw[aF (by simp)];refine aT ?_;simp only[show ¬((i:Int)<0) by lia,if_false,bW,Array.getElem?_eq_none u];refine aD ?_;refine aD (wpAny_typeNameOfWhole_itemiter P (aT ?_));show wpAny _ _ (setField (.ref l) 2 .none>>=_) _ _ s;refine aD (wpAny_setField J rfl (by simp) ?_);show wpAny _ _ (newExc (.type "StopIteration") []>>=_) _ _ _;refine aD ?_;simp only[newExc,newTuple];refine aD (wpAny_newObj_type ?_ (by size_fits));refine aD (m:=firstArgMember _ _) (wpAny_of_eq (a:=Value.none) (by first |rfl |(simp only[firstArgMember];rfl)) (wpAny_newObj_type ?_ (by size_fits)))
 simp only[raiseNew];refine aD (wpAny_handled ?_);rw[show A.in1.handled=none from H];refine aD (aT (wpAny_throw ?_));refine aD (wpAny_isInstance (T:="StopIteration") (b:=true) #[_,cE _ rfl,rfl] isSubtype_stop ?_);exact aT (f _ (((Heap.SameBut.update ..).extBut.push _).push _))
end
def Itd(d:Addr)(ob:Obj)(kvs:List (List Key×V)):It:=
 #[λi H=>i<kvs.length/\H d=some (.frz ob (.dT kvs)),λi H v Z=>∃p I kv,v=.ref p/\H p=none/\kvs[i]?=some kv/\H I=some (.tup (kv.1.map kV))/\Z=upd H p (.tup [.ref I,kv.2]),λi H=>kvs.length<=i/\H d=some (.frz ob (.dT kvs))]
def KT.at{H:Hp}{kvs:List (List Key×V)}{xs:List (List Key×Addr×Value)}(r:KT H kvs xs):∀(i:Nat) p,kvs[i]?=some p->∃q,xs[i]?=some q/\p.1=q.1/\H q.2.1=some (.tup (p.1.map kV))/\fO p.2 q.2.2:=by
 induction r with
 |nil=>intro i p hp;simp at hp
 |@cons p q ps qs hq t ih=>
  intro i u hp;cases i with
  |zero=>simp at hp;subst hp;exact#[q,rfl,hq]
  |succ i=>exact ih i u (by simpa using hp)
def Rb:entryFor table "dict_itemiterator.__iter__"=some Builtin.«dict_keyiterator.__iter__»:=entryFor_alias (id':="dict_keyiterator.__iter__") (by kernel_rfl) (by first |rfl |decide+kernel |(unfold String.splitOn;simp+decide [String.splitOnAux])) (by decide+kernel) (by kernel_rfl)
def jZq{w:World}{a1:List Expr}{tp:Pos}{l:Addr}(m:ob.data=.dict es ep):
  Xx P w K (.Tuple a1 k tp) (Itd d ob kvs) [l] l (λi h=>∃ok G,IsItemIter h l d i es.size ep ok G) where
 mem:=by simp
 obj:=λi h st c hc=>by
  obtain⟨ok,G,e⟩:=st;have q:c=l:=by simpa using hc
  subst q;exact#[_,e,λv z=>nomatch z]
 keep:=λi h Y st kp=>by
  obtain⟨ok,G,e⟩:=st;exact#[ok,G,kp l (by simp) _ e]
 item:=by
  intro X hP hw hK hc i B s O H E I hf st hg;subst hP hw hK;obtain⟨R,hd⟩:=hg;obtain⟨ok,G,J⟩:=st;obtain⟨ho,_,_,T,x,U,N,S,j,_,a,r,_⟩:=(show _/\jV _ _ _ _ _ _ from I.hok d _ hd);rw[ho]at j;cases j;rw[m]at a;cases a;have D:kvs[i]?=some kvs[i]:=aC R;obtain⟨q,hq,e1,C,e3⟩:=KT.at x i _ D;have hx:es[i]?=some (entryOfKey (tupleKind (jT X.prog X.w)) q):=by rw[entry_at r i,hq];rfl
  obtain⟨a4,a5⟩:=Array.getElem?_eq_some_iff.mp hx;have M:l<s.heap.objs.size:=bC J;refine jXy J ho m a4 λg out tup kp=>#[_,rfl,?_];rw[a5]at out tup;refine wpAny_letOwnedTupleGo_items (s:={ s with heap:=g }) out λg2 en sb=>?_;have a2:Heap.SameBut l g g2:=sb;have I1:Inv X B O H { s with heap:=g2,toks:=s.toks }:=I.turnedL (ch:=[l]) (λc o hb z=>by
   have Z:c≠l:=by simpa using hb
   exact(a2.2 c Z).trans (kp c o Z z)) hf
  have a3:H s.heap.objs.size=none:=I.hok.fresh (aP _);have p:=(a2.2 _ (Nat.ne_of_gt M)).trans tup;have t:Inv X B O (upd H s.heap.objs.size (.tup [.ref q.2.1,kvs[i].2])) { s with heap:=g2,toks:=s.toks }:=I1.adopt a3 I.sz (Nat.ne_of_gt I.lt) (λn c z=>by
   obtain⟨v,y⟩:=I.cell n c z;exact bL y.lt) (λz f=>bL (bC (I.pin z f).1)) #[by show 2<=sizeLine;decide,[.ref q.2.1,q.2.2],.cons rfl (.cons e3 .nil),#[_,p,rfl,_,rfl]]
  refine#[.ref s.heap.objs.size,_,t,rfl,#[_,q.2.1,_,rfl,a3,D,C,rfl],#[_,_,en],λc hb=>?_];have b:=(hf c hb).1;have z:c=l:=by simpa using hb
  subst z;rw[bZ (bL M)];exact b
 done:=by
  intro X hP hw hK hc i B s O H E I hf st hg;subst hP hw hK;obtain⟨u,hd⟩:=hg;obtain⟨ok,G,J⟩:=st;obtain⟨ho,_,_,T,x,U,N,S,j,_,a,r,_⟩:=(show _/\jV _ _ _ _ _ _ from I.hok d _ hd);rw[ho]at j;cases j;rw[m]at a;cases a;have sz:es.size=kvs.length:=by rw[size_of_entries r];exact(Paired.length x).symm
  refine jXx (I.ok.hd hc) J ho m #[] λg eb=>#[rfl,?_];exact I.turnedL (t':=s.toks) (ch:=[l]) (λc o hb z=>by
   have Z:c≠l:=by simpa using hb
   exact eb c o Z z) hf
 self:=λA i s Q E st h=>by
  obtain⟨ok,G,J⟩:=st;have hT:s.TypeIs (.ref l) "dict_itemiterator":=#[_,J,rfl];refine wpAny_pyIter_slot hT F.slot_dict_itemiterator_iter (wpAny_call_entry F.slot_dict_itemiterator_iter hT Rb ?_ (F.args_dict_itemiterator_iter_1 _));show wpAny _ _ (ret (.ref l)) _ _ s;exact aT #[_,rfl,"dict_itemiterator",_,hT,F.slot_dict_itemiterator_next.lookup,h]
def Cm(q:TE):TI:=λO H R=>q O H λx U=>∃a kvs,x=.ref a/\U a=some (.dT kvs)/\∀ob,R (Itd a ob kvs) (upd U a (.frz ob (.dT kvs)))
section
variable{X:Cx}
def Oo{d:Pos}{o:Expr}{q:TE}{l n:Pos}(ho:PE X o q)
  (f:attributeBase o "items" X.env (eval o X.env)=eval o X.env:=by rfl) (i:(l.endLine==n.line)=true:=by rfl):PI X (.Tuple A k d) (.Call (.Attribute o "items" l) [] [] n) (Cm q):=by
 intro B s O H R I h;refine wpAny_Call_method0_late f i (thE (ho B s O H _ I h) λv M x U P Z w=>?_);obtain⟨a,N,D,hd,q1⟩:=w;subst D;cases Z;obtain⟨w,G,ns⟩:=isD_at P (.inr #[N,.inl hd]);refine#["dict",_,PySem.F.plainAttrs_dict,PySem.F.slot_dict_items,PySem.F.type_dict_items,w,G,Calls.callWith_builtin rfl (PySem.evalArgs_none ?_)];refine call_meetsIn PySem.F.slot_dict_items w PySem.F.entry_dict_items (PySem.F.args_dict_items_1 _) (Xq ns) #[w,?_];show wpAny _ _ (pyIter (.ref M.heap.objs.size)) _ _ _;have t:Inv X B O U { M with heap:=M.heap.push { cls:=.type "dict_items",data:=.fields (List.toArray [.ref a]) },toks:=M.toks }:=P.kept λb o e=>bA _ e;obtain⟨_,_,T,K,ob,J,C,m,_,j,r,_⟩:=(show jV _ _ _ _ _ _ from t.hok a _ hd);refine jXz (es:=J) (ep:=C) #[_,cE _ rfl,rfl,rfl] m j ?_;generalize hg:M.heap.push { cls:=.type "dict_items",data:=.fields (List.toArray [.ref a]) }=g at t m⊢;have Q:Inv X B O U { M with heap:=g.push { cls:=.type "dict_itemiterator",data:=.fields (List.toArray [.none,.bool false,.ref a,.int 0 0,.int J.size 0,.int C 0,.none,.none]) },toks:=M.toks }:=t.kept λb o e=>bA _ e;obtain⟨u,y,S⟩:=Q.freeze hd;have p:u=ob:=by
  have z:(g.push { cls:=.type "dict_itemiterator",data:=.fields (List.toArray [.none,.bool false,.ref a,.int 0 0,.int J.size 0,.int C 0,.none,.none]) }).get? a=some ob:=bA _ m;exact aU (y.symm.trans z)
 subst p;refine#[g.objs.size,[g.objs.size],_,Itd a u N,_,rfl,S,jZq j,#[.none,.none,cE _ rfl],λc hc=>?_,q1 u];have z:c=g.objs.size:=by simpa using hc
 subst z;exact t.fpOk (aP _) (by rw[bZ (Nat.ne_of_gt (bC m))];exact t.hok.fresh (aP _))
end
def Js{D:xI}{O:St}(d:Nat->St->Hp->Prop)(h0:d 0 O H)(S:∀i O H,i<=kvs.length->d i O H->H a=some (.frz ob (.dT kvs)))
  (hs:∀i kv I p O H,kvs[i]?=some kv->d i O H->H p=none->H I=some (.tup (kv.1.map kV))->g (.ref p) O (upd H p (.tup [.ref I,kv.2])) λc j=>tb { D with nx:=d (i+1),ct:=d (i+1),bk:=D.nx } c j) (hd:∀O H,d kvs.length O H->D.nx O H):
  ∃W:Nat->Nat->St->Hp->Prop,(∃m,W 0 m O H)/\∀i m O H,W i m O H->
   ((Itd a ob kvs).stop i H/\D.nx O H)∨((Itd a ob kvs).go i H/\∃N:St->Hp->Prop,(∀G Z,N G Z->∃k,k<m/\W (i+1) k G Z)/\∀x Z,(Itd a ob kvs).yld i H x Z->g x O Z λc j=>tb { D with nx:=N,ct:=N,bk:=D.nx } c j):=by
 refine#[λi m O H=>m=kvs.length-i/\i<=kvs.length/\d i O H,#[kvs.length,by simp,dW _,h0],?_];rintro i m O H ⟨rfl,hi,p⟩;have q:=S i O H hi p;by_cases R:i<kvs.length
 .refine .inr #[#[R,q],d (i+1),λG Z u=>#[kvs.length-(i+1),#[],rfl,R,u],λx Z y=>?_];obtain⟨s,I,kv,e1,C,P,b,T⟩:=y;subst e1 T;exact hs i kv I s O _ P p C b
 .have e:i=kvs.length:=#[];subst e;exact .inl #[#[aP _,q],hd O H p]
structure jU(FS scope:Scope)(N:List Str)(xs ys:List Str)(caps:List Nat):Prop where
 ncell:∀y∈scope.names,y.2≠.cell
 kind:scope.kind=.function
 names:∀y∈scope.names,y.2=.local->scope.names.lookup y.1=some .local
 fr:∀p∈scope.names,p.2=.free->FS.names.lookup p.1=some .cell
 fk:FS.kind=.function
 cap:∀p∈ys.zip caps,N[p.2]?=some p.1/\scope.names.lookup p.1=some .free
 len:ys.length=caps.length
def mF(J:It)(O:St)(k:Nat)(caps:List Nat)(g:TG)(l:TE)(U:Hp)(fin:List V->Hp->Prop):Prop:=
 ∃(n:Nat)(W:Nat->List V->Hp->Prop),n<=sizeLine/\W 0 [] U/\∀i ys j,i<=n->ys.length=i->W i ys j->
  (J.stop i j/\fin ys j)∨(i<n/\J.go i j/\∀x Y,J.yld i j x Y->∀os:St,os.length=k->g x (os++dA O caps) Y λc u=>(∃f:St,f.length=k/\c=f++dA O caps)/\l c u λy G=>W (i+1) (ys++ [y]) G)
def iI(q:TI)(k:Nat)(caps:List Nat)(g:TG)(l:TE):TE:=λO H Q=>q O H λJ U=>mF J O k caps g l U λys j=>∀p,j p=none->Q (.ref p) (upd j p (.lst ys))
section
variable{X:Cx}{scope:Scope}{xs ys:List Str}{caps:List Nat}
def jU.cells{B:List (Addr×Obj)}{O:St}(S:jU X.env.scope scope X.N xs ys caps)(I:Inv X B O H s):∀p∈scope.names,p.2=.free->∃c,X.env.cells.lookup p.1=some c:=λp hp hf=>
 I.ok.has p.1 (.inl (S.fr p hp hf))
def jU.sub{B:List (Addr×Obj)}{O:St}(S:jU X.env.scope scope X.N xs ys caps)(I:Inv X B O H s){c:Addr}(e:(Be X scope).lookup y=some c):X.env.cells.lookup y=some c:=
 Pz (S.cells I) (λp hp=>absurd hp (by simp)) (y,c) (PySem.mem_of_lookup e)
def Inv.enterG{B:List (Addr×Obj)}{O:St}{ex:List Addr}{tk:Nat}{pl:List (Addr×Obj)}(S:jU X.env.scope scope X.N xs ys caps)(a:X.calm=true)(I:Inv X B O H s)
  (hn:h.Ns s.heap.objs.size (λ_=>none)) (keep:∀b o,s.heap.get? b=some o->h.get? b=some o)
  (t:∀b∈ex,b<s.heap.objs.size/\b∉frs X.stack/\(∀y c,X.env.cells.lookup y=some c->c≠b)/\X.base.get? b=none)
  (hpl:∀p∈pl,s.heap.get? p.1=some p.2/\H p.1=none/\p.1∉frs X.stack/\∀v,p.2.data≠.cell v):
  Inv (fH X scope (xs++ys) s H ex (X.pn++B)) pl (xs.map (λ_=>none)++dA O caps) H { s with heap:=h,toks:=tk }:=by
 have Y:s.heap.objs.size≠X.env.locals:=Nat.ne_of_gt I.lt;have F:∀b o,s.heap.get? b=some o->b≠s.heap.objs.size:=λb o e=>bL (bC e);have T:∀y c,X.env.cells.lookup y=some c->c<s.heap.objs.size:=λy c e=>by
  obtain⟨v,z⟩:=I.cell y c e;exact z.lt
 have w:∀{c:Addr}{v:Option Value},s.heap.IsCell c v->h.IsCell c v:=fun{c v}⟨o,ho,hd⟩=>#[o,keep c o ho,hd];refine#[#[I.ok.mod,S.kind,I.ok.glob,I.ok.blt,aP _,λy z c h1 h2=>I.ok.inj y z c (S.sub I h1) (S.sub I h2),λy hy=>?_,λy c hf _=>?_,λ_=>I.ok.hd a,I.ok.frames,.inl rfl,λb hb=>?_,I.bs,dE I.ok.bsz I.sz,λb o e hb=>?_,λb hb=>(t b hb).2.1,I.stack,I.stkFree],
  rfl,I.bare,Un.kept keep,#[_,hn,λi y v e1 C P=>?_],λy c e=>?_,I.hok.fresh (aP _),λy c e=>I.freeC y c (S.sub I e),λp hp=>?_,I.hok.kept keep,?_]
 .have x:(y,NameKind.free)∈scope.names:=Pk (env:=X.env) S.ncell (by
   rcases hy with hy |hy
   .exact#[_,hy,.inl rfl]
   .exact#[_,hy,.inr rfl])
  exact sT (Dv x)
 .exact absurd (show false=true from hf) bX
 .exact#[bL (t b hb).1,λy c e=>(t b hb).2.2.1 y c (S.sub I e)]
 .have z:=(t b hb).2.2.2;have g:X.base.get? b=some o:=e;rw[z]at g;cases g
 .have A:(xs++ys)[i]?=some y:=e1;obtain⟨i,e1,C⟩:∃Q,ys[Q]?=some y/\(dA O caps)[Q]?=some (some v):=by
   by_cases hi:i<xs.length
   .rw[bV (by rw[aA];exact hi),aX,aC hi]at C;cases C
   .rw[bP #[]]at A;rw[bP (by rw[aA];lia),aA]at C;exact#[_,A,C]
  obtain⟨j,Z,hv⟩:∃j,caps[i]?=some j/\O[j]?=some (some v):=by
   unfold dA at C;rw[aX]at C;cases q:caps[i]? with
   |none=>rw[q]at C;cases C
   |some j=>
    rw[q]at C;have P:(O[j]?).join=some v:=aU C;cases q2:O[j]? with
    |none=>rw[q2]at P;cases P
    |some w'=>rw[q2]at P;exact#[j,rfl,by rw[show w'=some v from P]at q2;exact q2]
  have f:(y,j)∈ys.zip caps:=aJ (i:=i) (by rw[List.getElem?_zip_eq_some];exact#[e1,Z]);obtain⟨K,hf⟩:=S.cap (y,j) f;have n:X.env.kindOf y=some .cell:=S.fr (y,.free) (PySem.mem_of_lookup hf) rfl;obtain⟨m,hm,U⟩:=I.loc;obtain⟨u,r,l⟩:=U j y v K hv (.inr (.inl n));refine#[u,r,?_];rcases l with⟨hk,_⟩|⟨_,c,hc,d⟩
  .rw[n]at hk;cases hk
  .obtain⟨c',D⟩:=sT (Dv (env:=X.env) (cs:=[]) (PySem.mem_of_lookup hf));have:=S.sub I D;rw[hc]at this;cases this;exact .inr #[.inl (Ho S.fk hf n),c,D,w d]
 .obtain⟨v,z⟩:=I.cell y c (S.sub I e);exact#[v,w z]
 .rcases cW.mp hp with hp |hp
  .obtain⟨G,R,J,M,k⟩:=I.pin p hp;exact#[keep _ _ G,R,F _ _ G,λz=>(eK.mp (I.stkSub p.1 z)).elim J M,k]
  .obtain⟨G,R,M,k⟩:=hpl p hp;exact#[keep _ _ G,R,F _ _ G,M,k]
 .show(xs.map (λ_=>none)++dA O caps).length=(xs++ys).length;rw[bF,bF,aA,dA,aA,S.len]
end
def qI(J:It)(O:St)(k:Nat)(caps:List Nat)(g:TG)(d:TT)(l:TE)(U:Hp)(fin:List V->Hp->Prop):Prop:=
 ∃(n:Nat)(W:Nat->List V->Hp->Prop),n<=sizeLine/\W 0 [] U/\∀i ys j,i<=n->ys.length<=i->W i ys j->
  (J.stop i j/\fin ys j)∨(i<n/\J.go i j/\∀x Y,J.yld i j x Y->∀os:St,os.length=k->g x (os++dA O caps) Y λc u=>(∃f:St,f.length=k/\c=f++dA O caps)/\d c u λb G=>if b=true then l c G λy C=>W (i+1) (ys++ [y]) C else W (i+1) ys G)
def Vv(q:TI)(k:Nat)(caps:List Nat)(g:TG)(d:TT)(l:TE):TE:=λO H Q=>q O H λJ U=>qI J O k caps g d l U λys j=>∀p,j p=none->Q (.ref p) (upd j p (.lst ys))
def tY:TT:=λ_ H Q=>Q true H
def PIs(X:Cx)(a:List Expr)(d:TT):Prop:=a=[]/\d=tY∨∃t,a=[t]/\PT X t d
def PIs.run{a:List Expr}{d:TT}{B:List (Addr×Obj)}{O:St}{R:Bool->Hp->Prop}(h:PIs X a d)(I:Inv X B O H s)(q:d O H R):
  wpAny (model X.prog X.w) X.A (forIn a true λc r=>if r=true then do let ok ←isTrue c X.env (eval c X.env);pure (ForInStep.yield ok)else pure (ForInStep.yield r)) (TP X B O R) X.xe s:=by
 rcases h with⟨rfl,rfl⟩|⟨t,rfl,p⟩
 .exact wpAny_tests_nil #[H,I,q]
 .exact wpAny_tests_one (p B s O H R I q)
def pis0:PIs X [] tY:=.inl #[rfl,rfl]
def pis1{t:Expr}{d:TT}(h:PT X t d):PIs X [t] d:=.inr #[t,rfl,h]
section
variable{X:Cx}{scope:Scope}{xs ys:List Str}{caps:List Nat}{elt iter tg:Expr}{ifs:List Expr}{te:TE}{tt:TT}{g:TG}{pos:Pos}
def Tr{B:List (Addr×Obj)}{O:St}{j:Hp}{d:Shared}{fp:List Addr}{l:Addr}{tn:Nat->Heap->Prop}{E:Value->Shared->Prop}{fin:List V->Hp->Prop}{RR:Value->Addr->Result->Shared->Prop}
  (a:X.calm=true) (S:jU X.env.scope scope X.N xs ys caps) (hg:∀s H ex pn,PG (fH X scope (xs++ys) s H ex pn) tg g) (hT:∀s H ex pn,PIs (fH X scope (xs++ys) s H ex pn) ifs tt) (D:∀s H ex pn,PE (fH X scope (xs++ys) s H ex pn) elt te)
  (t:Inv X B O j d) (T:Xx X.prog X.w X.K tg J fp l tn) (d1:tn 0 d.heap) (f2:∀b∈fp,Vf X B j b) (rd:qI J O xs.length caps g tt te j fin)
  (f7:∀(C:Addr)(a8:List V)(G:List Value)(n:Nat)(H8:Hp)(F:Shared)(m:Str->Option Value),C=d.heap.objs.size+1->Inv X B O H8 F->H8 d.heap.objs.size=none->H8 C=none->fF a8 G->a8.length<=sizeLine->
   F.heap.get? d.heap.objs.size=some (Ax G n)->F.heap.Ns C m->fin a8 H8->RR (.ref d.heap.objs.size) C (.ok .next) F):
  wpAny (model X.prog X.w) X.A (newList []) (λd2 a9=>wpAny (model X.prog X.w) X.A (newFunctionEnv scope X.env.globals (Be X scope) [] X.env.qual none .none (some X.env)) (λb6 d3=>
   codeAny (model X.prog X.w) X.A (.compStart (.ListComp elt [#[tg,iter,ifs,0]] scope pos) 0 (.ref l) d2 { b6 with scope:=relabel scope X.env }) (RR d2 b6.locals) d3) E a9) E d:=by
 obtain⟨n0,W,h7,w0,turn⟩:=rd;refine wpAny_newObj_type (wpAny_newFunctionEnv S.ncell (by intro y hy;simp at hy) (λh c3 c4=>?_) S.kind);dsimp only at c3 c4⊢;generalize c5:d.heap.push { cls:=.type "list",dict:=none,data:=.seq ([]:List Value).toArray }=g3 at c3 c4⊢;have hC:g3.objs.size=d.heap.objs.size+1:=by rw[←c5,Heap.size_push]
 have d4:∀b o,d.heap.get? b=some o->g3.get? b=some o:=λb o e=>c5▸bA _ e;have I3:Inv X B O j { d with heap:=g3 }:=t.kept (t':=d.toks) d4;have keep:∀b o,g3.get? b=some o->h.get? b=some o:=λb o e=>c4.extBut b o (bL (bC e)) (bA _ e);have d5:g3.get? d.heap.objs.size=some (Ax [] 0):=c5▸cE _ rfl;have d6:d.heap.objs.size≠X.env.locals:=Nat.ne_of_gt t.lt;have d7:d.heap.objs.size∉X.fs:=t.nofs (aP _);have b7:d.heap.objs.size∉frs X.stack:=λz=>(eK.mp (t.stkSub _ z)).elim d6 d7;have d9:∀y c,X.env.cells.lookup y=some c->c≠d.heap.objs.size:=λy c e=>by
  obtain⟨v,z⟩:=t.cell y c e;exact bL z.lt
 have e0:∀p∈X.pn++B,p.1≠d.heap.objs.size:=λp hp=>bL (bC (t.pin p hp).1);have c6:∀b∈fp,b<d.heap.objs.size:=λb hb=>by
  obtain⟨o,e,_⟩:=T.obj _ _ d1 b hb;exact bC e
 have f8:X.base.objs.size<=X.s₀.heap.objs.size:=t.ok.bsz;have c7:∀b∈d.heap.objs.size::fp,(b∈X.ex∨X.s₀.heap.objs.size<=b)/\b≠X.env.locals/\(∀y c,X.env.cells.lookup y=some c->c≠b)/\∀p∈X.pn++B,p.1≠b:=λb hb=>by
  rcases eK.mp hb with rfl |hb
  .exact#[.inr t.sz,d6,d9,e0]
  .obtain⟨a1,a2,a3,a4,a5,a6⟩:=f2 b hb;exact#[a4,a2,a5,a6]
 have c8:∀b∈d.heap.objs.size::fp,b<g3.objs.size/\b∉frs X.stack/\(∀y c,X.env.cells.lookup y=some c->c≠b)/\X.base.get? b=none:=λb hb=>by
  have f9:b∉frs X.stack:=by
   rcases eK.mp hb with rfl |hb
   .exact b7
   .obtain⟨a1,a2,a3,a4,a5,a6⟩:=f2 b hb;exact λz=>(eK.mp (t.stkSub _ z)).elim a2 a3
  have b4:b<g3.objs.size:=by
   rw[hC];rcases eK.mp hb with rfl |hb
   .exact fX _
   .exact Nat.lt_succ_of_lt (c6 b hb)
  refine#[b4,f9,(c7 b hb).2.2.1,?_];cases q:X.base.get? b with
  |none=>rfl
  |some o=>
   rcases(c7 b hb).1 with z |z
   .exact absurd z (t.ok.noex b o q)
   .exact absurd (cH (bC q) (dE f8 z)) (eO _)
 have g1:j d.heap.objs.size=none:=t.hok.fresh (aP _);have I4:Inv (fH X scope (xs++ys) { d with heap:=g3 } j (d.heap.objs.size::fp) (X.pn++B)) [(d.heap.objs.size,Ax [] 0)] (xs.map (λ_=>none)++dA O caps) j { d with heap:=h,toks:=d.toks+([]:List (Str×Value)).length }:=
  Inv.enterG S a I3 c3 keep c8 λp hp=>by
   have e:p=(d.heap.objs.size,Ax [] 0):=by simpa using hp
   subst e;exact#[d5,g1,b7,λv z=>nomatch z]
 have e2:tn 0 h:=T.keep _ _ _ d1 λb hb o e=>keep b o (d4 b o e);generalize hY:fH X scope (xs++ys) { d with heap:=g3 } j (d.heap.objs.size::fp) (X.pn++B)=Y at I4;have yP:Y.prog=X.prog:=by rw[←hY];rfl
 have yW:Y.w=X.w:=by rw[←hY];rfl
 have yK:Y.K=X.K:=by rw[←hY];rfl
 have yA:Y.A=X.A:=by rw[←hY];rfl
 have yC:Y.calm=true:=by rw[←hY];exact a
 have yX:Y.xe=λ_ _=>False:=by rw[←hY];rfl
 have yN:Y.N=xs++ys:=by rw[←hY];rfl
 have yE:Y.env=compEnvC scope (Be X scope) g3.objs.size X.env:=by rw[←hY];rfl
 have e3:Y.ex=d.heap.objs.size::fp:=by rw[←hY];rfl
 have e4:Y.pn=X.pn++B:=by rw[←hY];rfl
 have g4:Y.fs=frs X.stack:=by rw[←hY];rfl
 have c9:∀{pl e5 Z R},Inv Y pl e5 Z R->Un (frs X.stack) (d.heap.objs.size::fp) j Z g3 R.heap/\R.os=d.os:=by
  intro pl e5 Z R I;rw[←hY]at I;exact#[I.base,I.os]
 have g5:PG Y tg g:=by rw[←hY];exact hg _ _ _ _
 have g6:PE Y elt te:=by rw[←hY];exact D _ _ _ _
 have g7:PIs Y ifs tt:=by rw[←hY];exact hT _ _ _ _
 have e7:∀y c,Y.env.cells.lookup y=some c->X.env.cells.lookup y=some c:=λy c e=>by
  rw[yE]at e;exact S.sub t e
 have e8:∀{Z:Hp}{o:Obj},(∀b∈fp,Z b=none)->∀b∈fp,Vf Y [(d.heap.objs.size,o)] Z b:=fun{Z o} hn b hb=>by
  obtain⟨a1,a2,a3,a4,a5,a6⟩:=f2 b hb;refine#[hn b hb,?_,?_,?_,λy c e=>a5 y c (e7 y c e),λp hp=>?_]
  .rw[yE];exact bL (c8 b (bI _ hb)).1
  .rw[g4];exact(c8 b (bI _ hb)).2.1
  .rw[e3];exact .inl (bI _ hb)
  .rw[e4]at hp;rcases cW.mp hp with hp |hp
   .exact a6 p hp
   .have e:p=(d.heap.objs.size,o):=by simpa using hp
    subst e;exact Nat.ne_of_gt (c6 b hb)
 have b8:∀a9:Shared,a9={ d with heap:=h,toks:=d.toks+([]:List (Str×Value)).length }->
   codeAny (model X.prog X.w) X.A (.compLoop (.ListComp elt [#[tg,iter,ifs,0]] scope pos) 0 (.ref l) (.ref d.heap.objs.size) (compEnvC scope (Be X scope) g3.objs.size X.env)) (RR (.ref d.heap.objs.size) g3.objs.size) a9:=by
  rintro a9 rfl;refine codeAny_loop rfl (λk R=>∃i a8 G a7 Z os,os.length=xs.length/\k=n0+1-i/\Inv Y [(d.heap.objs.size,Ax G a7)] (os++dA O caps) Z R/\tn i R.heap/\(∀b∈fp,Z b=none)/\fF a8 G/\a8.length<=i/\i<=n0/\W i a8 Z) ?_ (n0+1)
   #[0,[],[],0,j,xs.map (λ_=>none),by rw[aA],rfl,I4,e2,λb hb=>(f2 b hb).1,.nil,aP _,dW _,w0]
  rintro k R ⟨i,a8,G,a7,Z,os,g8,rfl,I',e9,g9,vv,U,h0,hw⟩;show wpAny _ _ ((compTurn (.ListComp elt [#[tg,iter,ifs,0]] scope pos) 0 (.ref l) (.ref d.heap.objs.size) (compEnvC scope (Be X scope) g3.objs.size X.env)).onRaise (λx=>do noteFrame x (compEnvC scope (Be X scope) g3.objs.size X.env);theTreesLotGoes x)) _ _ R;refine wpAny_noted ?_;rw[compTurn_list];have b9:=e8 (o:=Ax G a7) g9;rcases turn i a8 Z h0 U hw with⟨stop,f1⟩|⟨b4,go,step⟩
  .refine aD (wpAny_standAt (aD (thn (Q:=λr M=>r=none/\Inv Y [(d.heap.objs.size,Ax G a7)] (os++dA O caps) Z M) ?_ λr M#[hr,P]=>?_)))
   .have:=T.done Y yP yW yK yC i _ R _ Z (notedBy (model X.prog X.w) X.A (compEnvC scope (Be X scope) g3.objs.size X.env) λe R=>RR (.ref d.heap.objs.size) g3.objs.size (.error e) R) I' b9 e9 stop;rw[yA]at this;exact this
   .subst hr;refine aT ?_;obtain⟨ub,uo⟩:=c9 P;obtain⟨m,hm,_⟩:=P.loc;obtain⟨p1,p2,_⟩:=P.pin (d.heap.objs.size,Ax G a7) (dB _ bQ);have hok:HOk X.prog X.w Z M.heap:=by have:=P.hok;rw[yP,yW]at this;exact this
    have f3:=P.free;rw[yE]at hm f3;refine f7 g3.objs.size a8 G a7 Z M m hC (I3.call' uo ub hok P.bare c7) p2 f3 vv #[] p1 hm f1
  .refine aD (wpAny_standAt (aD (thn (Q:=λr M=>∃u,r=some u/\wpAny (model X.prog X.w) X.A (letOwnedTupleGo tg (.ref l) u) (λ_ s5=>∃x H5,Inv Y [(d.heap.objs.size,Ax G a7)] (os++dA O caps) H5 s5/\fO x u/\J.yld i Z x H5/\tn (i+1) s5.heap/\∀b∈fp,H5 b=none)
     (notedBy (model X.prog X.w) X.A (compEnvC scope (Be X scope) g3.objs.size X.env) λe R=>RR (.ref d.heap.objs.size) g3.objs.size (.error e) R) M) ?_ λr M#[u,hr,h4]=>?_)))
   .have:=T.item Y yP yW yK yC i _ R _ Z (notedBy (model X.prog X.w) X.A (compEnvC scope (Be X scope) g3.objs.size X.env) λe R=>RR (.ref d.heap.objs.size) g3.objs.size (.error e) R) I' b9 e9 go;rw[yA]at this;exact this
   .subst hr;refine aD (thn h4 λ_ s5#[xv,H5,I5,r5,y5,b1,h3]=>?_);have h5:=I5.pinned (e8 h3) (T.obj _ _ b1);have f4:=g5 _ s5 _ H5 xv u _ h5 r5 (step xv H5 y5 os g8);rw[yP,yW,yA,yE]at f4;refine aD (nxE yX f4 λ_ s6#[h9,H6,I6,#[f,c2,e6],t6]=>?_);subst e6;have tv:=g7.run I6 t6;rw[yP,yW,yA,yE]at tv;refine aD (nxE yX tv λok f5#[H7,b2,w6]=>?_);have i0:=vv.length;cases ok with
    |false=>
     rw[aF bX]at w6;rw[aF bX];obtain⟨zD,b5,b0,b3,_⟩:=b2.pin (d.heap.objs.size,Ax G a7) (dB _ (iF _ bQ));have I9:Inv Y [(d.heap.objs.size,Ax G a7)] (f++dA O caps) H7 f5:=b2.pins_of λp hp=>by
      have e:p=(d.heap.objs.size,Ax G a7):=by simpa using hp
      subst e;exact#[zD,b5,b0,b3,(λv z=>nomatch z)]
     refine aT #[rfl,n0+1-(i+1),#[],i+1,a8,G,a7,H7,f,c2,rfl,I9,?_,?_,vv,#[],b4,w6]
     .refine T.keep _ _ _ b1 λb hb ob e=>?_;exact(b2.pin (b,ob) (dB _ (dB _ (nW hb e)))).1
     .intro b hb;obtain⟨ob,e,_⟩:=T.obj _ _ b1 b hb;exact(b2.pin (b,ob) (dB _ (dB _ (nW hb e)))).2.1
    |true=>
     rw[aK rfl]at w6;rw[aK rfl];have ev:=g6 _ f5 _ H7 _ b2 w6;rw[yP,yW,yA,yE]at ev;refine aD (aD (nxE yX ev λyv s7#[y,H8,I7,r7,w7]=>?_));obtain⟨zD,b5,b0,b3,_⟩:=I7.pin (d.heap.objs.size,Ax G a7) (dB _ (iF _ bQ));refine aD (append_at zD (λh8 f6 d8=>aT (aT #[rfl,?_])) (by rw[bG];lia));have h6:Inv Y [] (f++dA O caps) H8 s7:=I7.pins_of λp hp=>nomatch hp
     have I8:Inv Y [] (f++dA O caps) H8 { s7 with heap:=h8 }:=h6.turned (t':=s7.toks) (λb ob hb e=>(f6.2 b hb).trans e) b5 b0 (.inl (by rw[e3];exact bQ)) (λy c e=>d9 y c (e7 y c e)) (λp hp=>by
      rw[e4,cS]at hp;exact e0 p hp)
     have I9:Inv Y [(d.heap.objs.size,Ax (G++ [yv]) (a7+1))] (f++dA O caps) H8 { s7 with heap:=h8 }:=I8.pins_of λp hp=>by
      have e:p=(d.heap.objs.size,Ax (G++ [yv]) (a7+1)):=by simpa using hp
      subst e;refine#[?_,b5,b0,b3,λv z=>nomatch z]
      show h8.get? d.heap.objs.size=some { cls:=.type "list",data:=.seq (G++ [yv]).toArray (a7+1) };rw[d8,List.push_toArray]
     refine#[n0+1-(i+1),#[],i+1,a8++ [y],G++ [yv],a7+1,H8,f,c2,rfl,I9,?_,?_,vv.append (.cons r7 .nil),by rw[bF];show a8.length+1<=i+1;lia,b4,w7]
     .refine T.keep _ _ _ b1 λb hb ob e=>(f6.2 b (bL (c6 b hb))).trans ?_;exact(I7.pin (b,ob) (dB _ (dB _ (nW hb e)))).1
     .intro b hb;obtain⟨ob,e,_⟩:=T.obj _ _ b1 b hb;exact(I7.pin (b,ob) (dB _ (dB _ (nW hb e)))).2.1
 exact codeAny_compStart_list (b8 _ rfl) (T.self _ 0 _ _ _ e2 (b8 _ rfl))
def Ff{q:TI}{RD:St->VK->It->Hp->Prop}(a1:∀O Q J U,RD O Q J U->qI J O xs.length caps g tt te U λys j=>∀p,j p=none->Q (.ref p) (upd j p (.lst ys)))(S0:jU Z scope N xs ys caps)(u:X.env.scope=Z)(R:X.N=N)(a:X.calm=true)(hi:PI X tg iter q)(P:∀s H ex pn,PIs (fH X scope (xs++ys) s H ex pn) ifs tt)(hg:∀s H ex pn,PG (fH X scope (xs++ys) s H ex pn) tg g)(D:∀s H ex pn,PE (fH X scope (xs++ys) s H ex pn) elt te)
  (hs:∀v,foldedSetIterable iter X.env v=pure v:=by intro _;rfl):PE X (.ListComp elt [#[tg,iter,ifs,0]] scope pos) (λO H Q=>q O H (RD O Q)):=by
 have S:jU X.env.scope scope X.N xs ys caps:=by rw[u,R];exact S0
 intro B s O H Q I h;rw[eval_ListComp];refine wpAny_comprehension_free (use:=none) rfl hs (Bo (S.cells I)) S.kind S.names (thn (hi B s O H _ I h) λv M h1=>thn h1 λa5 d h2=>?_);obtain⟨l,fp,tn,J,j,rfl,t,T,i,f2,rd⟩:=h2;refine Tr (RR:=λK C=>compPost (model X.prog X.w) X.A X.xe none (EP X B O Q) K C) a S hg P D t T i f2 (a1 _ _ _ _ rd) ?_;intro C r G n x F m hC I8 hD a2 vv f oD hn fin;refine#[m,hn,λY sb=>?_];have sz:=t.sz;have lt:=t.lt;have ap:∀b:Addr,b<d.heap.objs.size->b≠C/\C≠b:=λb hb=>by
  subst hC;exact#[bL (Nat.lt_succ_of_lt hb),Nat.ne_of_gt (Nat.lt_succ_of_lt hb)]
 have a3:X.s₀.heap.objs.size<=C:=by subst hC;exact Nat.le_succ_of_le sz
 have DC:d.heap.objs.size≠C:=by subst hC;exact bL (fX _)
 have cl:∀y c,X.env.cells.lookup y=some c->c<d.heap.objs.size:=λy c e=>by
  obtain⟨w',z⟩:=t.cell y c e;exact z.lt
 have k:∀p∈X.pn++B,p.1<d.heap.objs.size:=λp hp=>bC (t.pin p hp).1;have I9:Inv X B O x { F with heap:=Y }:=I8.turned (t':=F.toks) (λb o hb e=>(sb.2 b hb).trans e) a2 (ap _ lt).2 (.inr a3) (λy c e=>(ap c (cl y c e)).1) (λp hp=>(ap p.1 (k p hp)).1);have a4:Y.get? d.heap.objs.size=some (Ax G n):=(sb.2 _ DC).trans oD;exact#[.ref d.heap.objs.size,upd x d.heap.objs.size (.lst r),I9.adopt hD sz (Nat.ne_of_gt lt) (λy c e=>bL (cl y c e)) (λp hp=>bL (k p hp)) #[f,G,n,vv,a4],rfl,fin _ hD]
def zJ{q:TI}{RD:St->VK->It->Hp->Prop}(a3:∀O Q J U,RD O Q J U->qI J O xs.length caps g tt te U λys j=>∀p,j p=none->Q (.ref p) (upd j p (.lst ys))){FS:Scope}{py a1:Pos}(S0:jU FS scope N xs ys caps)(u:X.env.scope=FS)(a4:X.N=N)(a2:X.calm=true)(K:X.N.Nodup)(hy:X.N[i]?=some y)(hl:Loc X.env.scope y)(hi:PI X tg iter q)(P:∀s H ex pn,PIs (fH X scope (xs++ys) s H ex pn) ifs tt)(hg:∀s H ex pn,PG (fH X scope (xs++ys) s H ex pn) tg g)(he:∀s H ex pn,PE (fH X scope (xs++ys) s H ex pn) elt te)
  (a5:swapsWith (.ListComp elt [#[tg,iter,ifs,0]] scope pos) (some (.Name y py)) a1.line X.env=pure true:=by rfl)
  (hs:∀v,foldedSetIterable iter X.env v=pure v:=by intro _;rfl) (hf:X.fn y=true∨X.env.scope.names.lookup y=some .local:=by first |exact .inl rfl |exact .inr rfl |assumption):
  PS X (.Assign [.Name y py] (.ListComp elt [#[tg,iter,ifs,0]] scope pos) a1) (cN (λO H Q=>q O H (RD O Q)) (aY i)):=by
 have S:jU X.env.scope scope X.N xs ys caps:=by rw[u,a4];exact S0
 intro B s O H D I h;rw[exec_Assign_Name_used _ _ _ _ a5];refine aD (wpAny_standAt (aD ?_));show wpAny _ X.A (do let _ ←comprehension (.ListComp elt [#[tg,iter,ifs,0]] scope pos) scope X.env _ (newList []) false (eval iter X.env) (some (assign (.Name y py) X.env))) _ _ s;refine aD (wpAny_mono (wpAny_comprehension_free (use:=some (assign (.Name y py) X.env)) (Q:=λ_ R=>SP X B D .next R) rfl hs (Bo (S.cells I)) S.kind S.names
  (thn (hi B s O H _ I h) λv M h1=>thn h1 λb2 d h2=>?_)) (λ_ R F=>aT (aT F)) λ_ _ e=>e)
 obtain⟨l,fp,tn,J,j,rfl,t,T,a6,f2,rd⟩:=h2;refine Tr (RR:=λa7 C=>compPost (model X.prog X.w) X.A X.xe (some (assign (.Name y py) X.env)) (λ_ R=>SP X B D .next R) a7 C) a2 S hg P he t T a6 f2 (a3 _ _ _ _ rd) ?_;intro C r G n x s8 m hC I8 hD a8 vv f oD hn fin;have sz:=t.sz;have lt:=t.lt;have ap:∀b:Addr,b<d.heap.objs.size->b≠C/\C≠b:=λb hb=>by
  subst hC;exact#[bL (Nat.lt_succ_of_lt hb),Nat.ne_of_gt (Nat.lt_succ_of_lt hb)]
 have a9:X.s₀.heap.objs.size<=C:=by subst hC;exact Nat.le_succ_of_le sz
 have DC:C≠d.heap.objs.size:=by subst hC;exact Nat.ne_of_gt (fX _)
 have cl:∀y c,X.env.cells.lookup y=some c->c<d.heap.objs.size:=λy c e=>by
  obtain⟨w',z⟩:=t.cell y c e;exact z.lt
 have k:∀p∈X.pn++B,p.1<d.heap.objs.size:=λp hp=>bC (t.pin p hp).1;have I9:Inv X B O (upd x d.heap.objs.size (.lst r)) s8:=I8.adopt hD sz (Nat.ne_of_gt lt) (λy c e=>bL (cl y c e)) (λp hp=>bL (k p hp)) #[f,G,n,vv,oD];show wpAny (model X.prog X.w) X.A (assign (.Name y py) X.env (.ref d.heap.objs.size)) _ _ s8;refine wpAny_assign_Name (Ss (v:=.ref d.heap.objs.size) I9 K hy hl rfl (λZ b0#[a,sa,ha]=>?_) hf);have b1:C≠a:=by
  rcases ha with rfl |e
  .exact(ap _ lt).2
  .exact(ap _ (cl _ _ e)).2
 refine#[m,hn.sameBut sa b1,λY sb=>#[_,_,b0.turned (t':=Z.toks) (λb o hb e=>(sb.2 b hb).trans e) ?_ (ap _ lt).2 (.inr a9) (λy c e=>(ap c (cl y c e)).1) (λp hp=>(ap p.1 (k p hp)).1),fin _ hD]];rw[bZ DC];exact a8
def oR{X:Cx}{scope:Scope}{a:List Str}{ex:List Addr}{pn:List (Addr×Obj)}{m:Pos}(K:a.Nodup)(hi:a[i]?=some x)(hx:scope.names.lookup x=some .local):PG (fH X scope a s H ex pn) (.Name x m) (aY i):=
 jYi (X:=fH X scope a s H ex pn) K hi (.inl (lookup_relabel_local hx)) (.inr (lookup_relabel_local hx))
def rZ.toG(S:rZ Z scope N x ys caps):jU Z scope N [x] ys caps:=#[S.ncell,S.kind,S.names,S.fr,S.fk,S.cap,S.len]
def xY.toG{O:St}{te:TE}{fin:List V->Hp->Prop}:xY J O caps te U fin->mF J O 1 caps (aY 0) te U fin:=by
 rintro⟨n,W,hn,D,h⟩;refine#[n,W,hn,D,λi ys j hi hy hw=>?_];rcases h i ys j hi hy hw with z |⟨z1,z2,z3⟩
 .exact .inl z
 .refine .inr #[z1,z2,λx Y y os ho=>?_]
  match os,ho with
  | [o],_=>exact#[#[[some x],rfl,rfl],z3 x Y y]
def mF.toT{O:St}{fin:List V->Hp->Prop}:mF J O k caps g te U fin->qI J O k caps g tY te U fin:=by
 rintro⟨n,W,hn,D,h⟩;refine#[n,λi ys H=>ys.length=i/\W i ys H,hn,#[rfl,D],λi ys j hi _#[hy,hw]=>(h i ys j hi hy hw).imp id fun⟨F,T,a⟩=>#[F,T,λx Y y os ho=>?_]];have e:(fun(y:V)(H:Hp)=>(ys++ [y]).length=i+1/\W (i+1) (ys++ [y]) H)=λy H=>W (i+1) (ys++ [y]) H:=funext λy=>funext λH=>propext #[And.right,λw=>#[by rw[bF,hy];rfl,w]];show g x _ Y λc u=>_/\te c u λy H=>(ys++ [y]).length=i+1/\W (i+1) (ys++ [y]) H;rw[e];exact a x Y y os ho
def rJ.toT{O:St}{fin:List V->Hp->Prop}:rJ J O caps tt te U fin->qI J O 1 caps (aY 0) tt te U fin:=by
 rintro⟨n,W,hn,D,h⟩;refine#[n,W,hn,D,λi ys j hi hy hw=>(h i ys j hi hy hw).imp id fun⟨F,T,a⟩=>#[F,T,λx Y y os ho=>?_]]
 match os,ho with
 | [o],_=>exact#[#[[some x],rfl,rfl],a x Y y]
end
section
variable{X:Cx}{scope:Scope}{xs ys:List Str}{caps:List Nat}{elt iter tg tst:Expr}{te:TE}{tt:TT}{g:TG}{pos:Pos}{x:Str}{px:Pos}
def jUJ{q:TI}(S0:jU Z scope N xs ys caps)(u:X.env.scope=Z)(R:X.N=N)(a:X.calm=true)(hi:PI X tg iter q)(hg:∀s H ex pn,PG (fH X scope (xs++ys) s H ex pn) tg g)(D:∀s H ex pn,PE (fH X scope (xs++ys) s H ex pn) elt te)
  (hs:∀v,foldedSetIterable iter X.env v=pure v:=by intro _;rfl):PE X (.ListComp elt [#[tg,iter,[],0]] scope pos) (iI q xs.length caps g te):=Ff (λ_ _ _ _ h=>mF.toT h) S0 u R a hi (λ_ _ _ _=>pis0) hg D hs
def jJj{q:TI}{b:Pos}(S0:jU Z scope N xs ys caps)(u:X.env.scope=Z)(R:X.N=N)(a:X.calm=true)(K:X.N.Nodup)(hy:X.N[i]?=some y)(S:Loc X.env.scope y)(hi:PI X tg iter q)(hg:∀s H ex pn,PG (fH X scope (xs++ys) s H ex pn) tg g)(D:∀s H ex pn,PE (fH X scope (xs++ys) s H ex pn) elt te)
  (c:swapsWith (.ListComp elt [#[tg,iter,[],0]] scope pos) (some (.Name y F)) b.line X.env=pure true:=by rfl)
  (hs:∀v,foldedSetIterable iter X.env v=pure v:=by intro _;rfl) (hf:X.fn y=true∨X.env.scope.names.lookup y=some .local:=by first |exact .inl rfl |exact .inr rfl |assumption):
  PS X (.Assign [.Name y F] (.ListComp elt [#[tg,iter,[],0]] scope pos) b) (cN (iI q xs.length caps g te) (aY i)):=zJ (RD:=λO Q J U=>mF J O xs.length caps g te U λys j=>∀p,j p=none->Q (.ref p) (upd j p (.lst ys))) (λ_ _ _ _ h=>mF.toT h) S0 u R a K hy S hi (λ_ _ _ _=>pis0) hg D c hs hf
def pe_comp{q:TI}(S0:rZ Z scope N x ys caps)(u:X.env.scope=Z)(R:X.N=N)(a:X.calm=true)(hi:PI X (.Name x px) iter q)(D:∀s H ex pn,PE (fH X scope (x::ys) s H ex pn) elt te)
  (hs:∀v,foldedSetIterable iter X.env v=pure v:=by intro _;rfl):PE X (.ListComp elt [#[.Name x px,iter,[],0]] scope pos) (dH q caps te):=Ff (xs:=[x]) (g:=aY 0) (λ_ _ _ _ h=>mF.toT (xY.toG h)) S0.toG u R a hi (λ_ _ _ _=>pis0) (λ_ _ _ _=>oR S0.nd rfl S0.loc) D hs
def jXV{q:TI}{b:Pos}(S0:rZ Z scope N x ys caps)(u:X.env.scope=Z)(R:X.N=N)(a:X.calm=true)(K:X.N.Nodup)(hy:X.N[i]?=some y)(S:Loc X.env.scope y)(hi:PI X (.Name x px) iter q)(D:∀s H ex pn,PE (fH X scope (x::ys) s H ex pn) elt te)
  (c:swapsWith (.ListComp elt [#[.Name x px,iter,[],0]] scope pos) (some (.Name y F)) b.line X.env=pure true:=by rfl)
  (hs:∀v,foldedSetIterable iter X.env v=pure v:=by intro _;rfl) (hf:X.fn y=true∨X.env.scope.names.lookup y=some .local:=by first |exact .inl rfl |exact .inr rfl |assumption):
  PS X (.Assign [.Name y F] (.ListComp elt [#[.Name x px,iter,[],0]] scope pos) b) (cN (dH q caps te) (aY i)):=zJ (RD:=λO Q J U=>xY J O caps te U λys j=>∀p,j p=none->Q (.ref p) (upd j p (.lst ys))) (xs:=[x]) (g:=aY 0) (λ_ _ _ _ h=>mF.toT (xY.toG h)) S0.toG u R a K hy S hi (λ_ _ _ _=>pis0) (λ_ _ _ _=>oR S0.nd rfl S0.loc) D c hs hf
def jV9{q:TI}(S0:rZ Z scope N x ys caps)(u:X.env.scope=Z)(R:X.N=N)(a:X.calm=true)(hi:PI X (.Name x px) iter q)(P:∀s H ex pn,PT (fH X scope (x::ys) s H ex pn) tst tt)(D:∀s H ex pn,PE (fH X scope (x::ys) s H ex pn) elt te)
  (hs:∀v,foldedSetIterable iter X.env v=pure v:=by intro _;rfl):PE X (.ListComp elt [#[.Name x px,iter,[tst],0]] scope pos) (pI q caps tt te):=Ff (xs:=[x]) (g:=aY 0) (λ_ _ _ _ h=>rJ.toT h) S0.toG u R a hi (λ_ _ _ _=>pis1 (P _ _ _ _)) (λ_ _ _ _=>oR S0.nd rfl S0.loc) D hs
def jJi{q:TI}{b:Pos}(S0:rZ Z scope N x ys caps)(u:X.env.scope=Z)(R:X.N=N)(a:X.calm=true)(K:X.N.Nodup)(hy:X.N[i]?=some y)(S:Loc X.env.scope y)(hi:PI X (.Name x px) iter q)(P:∀s H ex pn,PT (fH X scope (x::ys) s H ex pn) tst tt)(D:∀s H ex pn,PE (fH X scope (x::ys) s H ex pn) elt te)
  (c:swapsWith (.ListComp elt [#[.Name x px,iter,[tst],0]] scope pos) (some (.Name y F)) b.line X.env=pure true:=by rfl)
  (hs:∀v,foldedSetIterable iter X.env v=pure v:=by intro _;rfl) (hf:X.fn y=true∨X.env.scope.names.lookup y=some .local:=by first |exact .inl rfl |exact .inr rfl |assumption):
  PS X (.Assign [.Name y F] (.ListComp elt [#[.Name x px,iter,[tst],0]] scope pos) b) (cN (pI q caps tt te) (aY i)):=zJ (RD:=λO Q J U=>rJ J O caps tt te U λys j=>∀p,j p=none->Q (.ref p) (upd j p (.lst ys))) (xs:=[x]) (g:=aY 0) (λ_ _ _ _ h=>rJ.toT h) S0.toG u R a K hy S hi (λ_ _ _ _=>pis1 (P _ _ _ _)) (λ_ _ _ _=>oR S0.nd rfl S0.loc) D c hs hf
def jW2{q:TI}(S0:jU Z scope N xs ys caps)(u:X.env.scope=Z)(R:X.N=N)(a:X.calm=true)(hi:PI X tg iter q)(hg:∀s H ex pn,PG (fH X scope (xs++ys) s H ex pn) tg g)(P:∀s H ex pn,PT (fH X scope (xs++ys) s H ex pn) tst tt)(D:∀s H ex pn,PE (fH X scope (xs++ys) s H ex pn) elt te)
  (hs:∀v,foldedSetIterable iter X.env v=pure v:=by intro _;rfl):PE X (.ListComp elt [#[tg,iter,[tst],0]] scope pos) (Vv q xs.length caps g tt te):=Ff (λ_ _ _ _ h=>h) S0 u R a hi (λ_ _ _ _=>pis1 (P _ _ _ _)) hg D hs
end
noncomputable def Yj(K:aR):List V->Hp->VK->Prop:=λxs H Q=>∃p ns,xs=[.ref p]/\SqL K H p (List.map V.int ns)/\ns≠[]/\∀M,M∈ns->(∀a∈ns,a<=M)->Q (.int M) H
noncomputable def Mz(K:aR):List V->Hp->VK->Prop:=λxs H Q=>∃p ns,xs=[.ref p]/\SqL K H p (List.map V.int ns)/\ns≠[]/\∀M,M∈ns->(∀a∈ns,M<=a)->Q (.int M) H
def fF.ints:∀{ns:List Int}{us:List Value},fF (List.map V.int ns) us->∃T:List (Int×Tok),us=T.map (λp=>Value.int p.1 p.2)/\T.map (·.1)=ns
 | [],_,h=>by cases h;exact#[[],rfl,rfl]
 |n::ns,_,h=>by
  cases h with
  |cons r t=>
   obtain⟨tk,rfl⟩:=r;obtain⟨T,e1,C⟩:=fF.ints t;exact#[(n,tk)::T,by rw[e1];rfl,by rw[cA,C]]
def sZ{xs:List (Int×Tok)}{ns:List Int}(e:xs.map (·.1)=ns)(i:Nat)(h:i<ns.length):∃n,ns[i]?=some n/\numAt xs.toArray i=n:=by
 have hx:i<xs.length:=by rw[←e,aA]at h;exact h
 refine#[xs[i].1,by rw[←e,aX,aC hx];rfl,?_];unfold numAt;rw[List.getElem?_toArray,aC hx];rfl
section
variable{X:Cx}
def Tv(hc:X.calm=true):wX X (.builtin "max") (Yj X.K):=by
 rintro B s O H T g Q I r ⟨p,ns,rfl,F,U,q⟩;obtain⟨u,rfl,d⟩:=wW r;cases d;obtain⟨G,N,k,f⟩:=I.list F;obtain⟨A,e1,C⟩:=N.ints;have S:A.length=ns.length:=by rw[←C,aA]
 have c:0<ns.length:=List.length_pos_iff.mpr U;have o:G.toArray=intItems A.toArray:=by rw[e1];unfold intItems;simp
 have b:=k.isList;rw[o]at b;refine max_intList (I.ok.hd hc) b (by rw[bG];lia) λv Y tk hv hk=>?_;obtain⟨t,rfl⟩:=intItems_at hv;obtain⟨P,g2⟩:=argBest_gt (numAt A.toArray) (A.toArray.size-1);rw[bG]at P g2⊢;obtain⟨M,m1,m2⟩:=sZ C (argBest (λi j=>decide (numAt A.toArray i>numAt A.toArray j)) (A.length-1)) #[];rw[m2]at g2⊢;refine#[.int M,H,I.kept hk,#[_,rfl],q M (aJ m1) λa ha=>?_];obtain⟨j,Z,J⟩:=List.getElem_of_mem ha;obtain⟨n,n1,n2⟩:=sZ C j Z;rw[aC Z,J]at n1;cases n1;rw[←n2];exact g2 j #[]
def Jx(hc:X.calm=true):wX X (.builtin "min") (Mz X.K):=by
 rintro B s O H T g Q I r ⟨p,ns,rfl,F,U,q⟩;obtain⟨u,rfl,d⟩:=wW r;cases d;obtain⟨G,N,k,f⟩:=I.list F;obtain⟨A,e1,C⟩:=N.ints;have S:A.length=ns.length:=by rw[←C,aA]
 have c:0<ns.length:=List.length_pos_iff.mpr U;have o:G.toArray=intItems A.toArray:=by rw[e1];unfold intItems;simp
 have b:=k.isList;rw[o]at b;refine min_intList (I.ok.hd hc) b (by rw[bG];lia) λv Y tk hv hk=>?_;obtain⟨t,rfl⟩:=intItems_at hv;obtain⟨P,g2⟩:=argBest_lt (numAt A.toArray) (A.toArray.size-1);rw[bG]at P g2⊢;obtain⟨M,m1,m2⟩:=sZ C (argBest (λi j=>decide (numAt A.toArray i<numAt A.toArray j)) (A.length-1)) #[];rw[m2]at g2⊢;refine#[.int M,H,I.kept hk,#[_,rfl],q M (aJ m1) λa ha=>?_];obtain⟨j,Z,J⟩:=List.getElem_of_mem ha;obtain⟨n,n1,n2⟩:=sZ C j Z;rw[aC Z,J]at n1;cases n1;rw[←n2];exact g2 j #[]
end
def Du{O:St}{d:TT}{l:TE}{fin:List V->Hp->Prop}(W:Nat->List V->Hp->Prop)(hz:xs.length<=sizeLine)(h0:W 0 [] U)(S:∀i M H,i<=xs.length->W i M H->SqL K H a xs)
  (hs:∀i x M H,xs[i]?=some x->M.length<=i->W i M H->d (some x::dA O caps) H λb u=>if b=true then l (some x::dA O caps) u λy G=>W (i+1) (M++ [y]) G else W (i+1) M u) (hd:∀M H,W xs.length M H->fin M H):rJ (Itl K a) O caps d l U fin:=by
 refine#[xs.length,W,hz,h0,λi M j hi hy hw=>?_];have q:=S i M j hi hw;by_cases R:i<xs.length
 .refine .inr #[R,#[xs,xs[i],q,by simp [R]],λx Y y=>?_];obtain⟨e,y⟩:=y;subst e;exact hs i x M _ (y xs q) hy hw
 .have e:i=xs.length:=#[];subst e;exact .inl #[#[xs,q,aP _],hd M j hw]
noncomputable def eqN(n:Int):Value->Bool
 | .int a _=>a==n
 |_=>false
def mT{b:Addr}{O:St}{l:TE}{fin:List V->Hp->Prop}(W:Nat->List V->Hp->Prop)(hz:xs.length<=sizeLine)(D:xs.length=ys.length)(h0:W 0 [] U)(S:∀i J H,i<=xs.length->W i J H->SqL K H a xs/\SqL K H b ys)
  (hs:∀i x y p J H,xs[i]?=some x->ys[i]?=some y->J.length=i->W i J H->H p=none->∀os:St,os.length=k->g (.ref p) (os++dA O caps) (upd H p (.tup [x,y])) λc u=>(∃f:St,f.length=k/\c=f++dA O caps)/\l c u λz G=>W (i+1) (J++ [z]) G)
  (hd:∀J H,J.length=xs.length->W xs.length J H->fin J H):mF (Itz K a b) O k caps g l U fin:=by
 refine#[xs.length,W,hz,h0,λi J j hi hy hw=>?_];obtain⟨q,r⟩:=S i J j hi hw;by_cases R:i<xs.length
 .have h:i<ys.length:=#[];refine .inr #[R,#[xs,xs[i],ys,ys[i],q,by simp [R],r,by simp [h]],λx Y y os ho=>?_];obtain⟨s,w,o,e1,C,P,B,v⟩:=y;subst e1 P;exact hs i w o s J _ (B xs q) (v ys r) hy hw C os ho
 .have e:i=xs.length:=#[];subst e;exact .inl #[#[xs,ys,q,r,.inl (aP _)],hd J j hy hw]
def jX7{O:St}{l:TE}{fin:List V->Hp->Prop}(W:Nat->List V->Hp->Prop)(hz:xs.length<=sizeLine)(h0:W 0 [] U)(S:∀i J H,i<=xs.length->W i J H->SqL K H a xs)
  (hs:∀i x p J H,xs[i]?=some x->J.length=i->W i J H->H p=none->∀os:St,os.length=k->g (.ref p) (os++dA O caps) (upd H p (.tup [.int i,x])) λc u=>(∃f:St,f.length=k/\c=f++dA O caps)/\l c u λz G=>W (i+1) (J++ [z]) G)
  (hd:∀J H,J.length=xs.length->W xs.length J H->fin J H):mF (Ite K a) O k caps g l U fin:=by
 refine#[xs.length,W,hz,h0,λi J j hi hy hw=>?_];have q:=S i J j hi hw;by_cases R:i<xs.length
 .refine .inr #[R,#[xs,xs[i],q,by simp [R]],λx Y y os ho=>?_];obtain⟨s,z,e1,C,P,y⟩:=y;subst e1 P;exact hs i z s J _ (y xs q) hy hw C os ho
 .have e:i=xs.length:=#[];subst e;exact .inl #[#[xs,q,aP _],hd J j hy hw]
def Av:R2:=λx y H Q=>y=.non/\Q (.bl (decide (x=.non))) H
def Yb:R2:=λx y H Q=>y=.non/\Q (.bl (!decide (x=.non))) H
def jUk{b:Addr}{D:xI}{O:St}(n:Nat)(d:Nat->St->Hp->Prop)(h0:d 0 O H)(S:∀i O H,i<=n->d i O H->SqL K H a xs/\SqL K H b ys)(hx:n<=xs.length)(hy:n<=ys.length)(f:xs.length<=n∨ys.length<=n)
  (hs:∀i x y p O H,xs[i]?=some x->ys[i]?=some y->i<n->d i O H->H p=none->g (.ref p) O (upd H p (.tup [x,y])) λc j=>tb { D with nx:=d (i+1),ct:=d (i+1),bk:=D.nx } c j) (hd:∀O H,d n O H->D.nx O H):
  ∃W:Nat->Nat->St->Hp->Prop,(∃m,W 0 m O H)/\∀i m O H,W i m O H->
   ((Itz K a b).stop i H/\D.nx O H)∨((Itz K a b).go i H/\∃N:St->Hp->Prop,(∀G Z,N G Z->∃k,k<m/\W (i+1) k G Z)/\∀x Z,(Itz K a b).yld i H x Z->g x O Z λc j=>tb { D with nx:=N,ct:=N,bk:=D.nx } c j):=by
 refine#[λi m O H=>m=n-i/\i<=n/\d i O H,#[n,by simp,dW _,h0],?_];rintro i m O H ⟨rfl,hi,p⟩;obtain⟨q,r⟩:=S i O H hi p;by_cases R:i<n
 .have h1:i<xs.length:=#[];have h2:i<ys.length:=#[];refine .inr #[#[xs,xs[i],ys,ys[i],q,by simp [h1],r,by simp [h2]],d (i+1),λG Z u=>#[n-(i+1),#[],rfl,R,u],λx Z y=>?_];obtain⟨s,w,o,e1,C,P,B,v⟩:=y;subst e1 P;exact hs i w o s O _ (B xs q) (v ys r) R p C
 .have e:i=n:=#[];subst e;exact .inl #[#[xs,ys,q,r,f],hd O H p]
def jX6{b:Addr}{O:St}{l:TE}{fin:List V->Hp->Prop}(n:Nat)(W:Nat->List V->Hp->Prop)(hz:n<=sizeLine)(hx:n<=xs.length)(hy:n<=ys.length)(D:xs.length<=n∨ys.length<=n)(h0:W 0 [] U)(S:∀i J H,i<=n->W i J H->SqL K H a xs/\SqL K H b ys)
  (hs:∀i x y p J H,xs[i]?=some x->ys[i]?=some y->i<n->J.length=i->W i J H->H p=none->∀os:St,os.length=k->g (.ref p) (os++dA O caps) (upd H p (.tup [x,y])) λc u=>(∃f:St,f.length=k/\c=f++dA O caps)/\l c u λz G=>W (i+1) (J++ [z]) G)
  (hd:∀J H,J.length=n->W n J H->fin J H):mF (Itz K a b) O k caps g l U fin:=by
 refine#[n,W,hz,h0,λi J j hi d hw=>?_];obtain⟨q,r⟩:=S i J j hi hw;by_cases R:i<n
 .have h1:i<xs.length:=#[];have h2:i<ys.length:=#[];refine .inr #[R,#[xs,xs[i],ys,ys[i],q,by simp [h1],r,by simp [h2]],λx Y y os ho=>?_];obtain⟨s,w,o,e1,C,P,B,v⟩:=y;subst e1 P;exact hs i w o s J _ (B xs q) (v ys r) R d hw C os ho
 .have e:i=n:=#[];subst e;exact .inl #[#[xs,ys,q,r,D],hd J j d hw]
structure xJ(K:aR):Prop where
 cl:Cls K (dY K "Corner")
 nb:pJ K (dY K "Corner") "begun"
 ns:pJ K (dY K "Corner") "spans"
 nk:pJ K (dY K "Corner") "kept"
 ni:pJ K (dY K "Corner") "inside"
noncomputable def Yc:V->List V->Hp->VK->Prop:=λx vs H Q=>∃n:Int,x=.int n/\vs=[]/\Q (.int ((Builtin.Int.intBits n:Nat):Int)) H
def CShl(i n:Int):Prop:=0<=n/\((Builtin.Int.intBits i:Nat):Int)+n<=2^27
def rShl:R2:=rI CShl λi n=>.int (i*2^n.toNat)
def rShr:R2:=rI (λ_ n=>0<=n) λi n=>.int (i.fdiv (2^n.toNat))
section
variable{X:Cx}
def jYt:MtR X "int.bit_length" Yc:=by
 rintro B s O H x T v g Q I J N ⟨n,rfl,rfl,q⟩;obtain⟨t,rfl⟩:=J;cases N;exact call_int_bit_length #[.int _,H,I.tok _,#[_,rfl],q]
def jYl:OpR X (binaryOp .LShift) rShl:=opI λ_ _ _ _ _ _ _ hc q=>lshift_int hc.1 hc.2 q
def jYk:OpR X (binaryOp .RShift) rShr:=opI λ_ _ _ _ _ _ _ hc q=>rshift_int hc q
end
def oN:plainId "list.remove.loop"=true:=by decide+kernel
def Bm:entryFor table "list.remove.loop"=some Builtin.«list.remove.loop»:=entryFor_of_fast (by kernel_rfl)
def jJV(l:Addr)(J:Array Value)(c:Nat)(x:Value)(q:Value->Bool)(j:Nat)(Z:j<J.size)(f:q J[j]=true)(hz:J.size<=sizeLine):∀(d i:Nat),j=i+d->(∀m(hm:m<J.size),m<j->q J[m]=false)->
  Meets (Builtin.«list.remove.loop» #[[.ref l,x,rawInt i],[]])
   (λA R s=>s.heap.get? l=some { cls:=.type "list",data:=.seq J c }/\(∀y,y∈J->SeqAt.EqAt A.in1 s y x (q y))/\R (.ok (.ret .none)) { s with heap:=s.heap.update l (Obj.mapSeq λa=>a.eraseIdxIfInBounds j) }):=by
 intro d
 induction d with
 |zero=>
  intro i o no prog w A R s h;obtain⟨hp,g,G,tk,os⟩:=s;obtain⟨S,D,h⟩:=h;obtain rfl:j=i:=o
  wp_walk using wpAny_loadPart' S
  have e:J[((j:Nat):Int).toNat]?=some J[j]:=by simp [Z]
  rw[e];refine aD (D _ (Array.getElem_mem Z) prog w _ _ ?_);rw[f];have b:(J.eraseIdxIfInBounds j).size<=sizeLine+1:=dE (PySem.MeetsSeq.size_erased J _) (Nat.le_succ_of_le hz)
  wp_walk using(wpAny_updateSeq S rfl (hz:=hz) (_hz':=b)),wpAny_loadPart' S
  exact h
 |succ d ih=>
  intro i o no prog w A R s h;obtain⟨hp,g,G,tk,os⟩:=s;obtain⟨S,D,h⟩:=h;have M:i<J.size:=#[]
  wp_walk using wpAny_loadPart' S
  have e:J[((i:Nat):Int).toNat]?=some J[i]:=by simp [M]
  have e1:((i:Int)+1)=((i+1:Nat):Int):=#[];rw[e];refine aD (D _ (Array.getElem_mem M) prog w _ _ ?_);rw[no i M #[]]
  wp_walk
  rw[e1];refine#[plainId_quiet oN _,codeAny_builtin Bm ?_];rw[Around.under_plainId oN _];exact ih (i+1) #[] no prog w A R _ #[S,D,h]
def jWr(l:Addr)(J:Array Value)(c:Nat)(x:Value)(q:Value->Bool)(j:Nat)(Z:j<J.size)(b:q J[j]=true)(hz:J.size<=sizeLine)(no:∀m(hm:m<J.size),m<j->q J[m]=false):
  Meets (Builtin.«list.remove» #[[.ref l,x],[]])
   (λA R s=>s.heap.get? l=some { cls:=.type "list",data:=.seq J c }/\(∀y,y∈J->SeqAt.EqAt A.in1 s y x (q y))/\R (.ok (.ret .none)) { s with heap:=s.heap.update l (Obj.mapSeq λa=>a.eraseIdxIfInBounds j) }):=by
 intro prog w A R s h;obtain⟨hp,g,G,tk,os⟩:=s
 wp_walk
 refine#[plainId_quiet oN _,codeAny_builtin Bm ?_];rw[Around.under_plainId oN _];exact jJV l J c x q j Z b hz j 0 #[] no prog w A R _ h
noncomputable def Ae:V->List V->Hp->VK->Prop:=λx vs H Q=>∃l ns n j,x=.ref l/\vs=[.int n]/\H l=some (.lst (List.map V.int ns))/\ns[j]?=some n/\(∀m,m<j->ns[m]?≠some n)/\Q .non (upd H l (.lst (List.map V.int (ns.eraseIdx j))))
def Np{d c:Type}(f:d->c):∀(l:List d)(i:Nat),(l.eraseIdx i).map f=(l.map f).eraseIdx i
 | [],i=>by simp
 |a::r,0=>rfl
 |a::r,i+1=>by show f a::(r.eraseIdx i).map f=f a::(r.map f).eraseIdx i;rw[Np f r i]
def Tg:MtM X "list.remove" Ae:=by
 rintro B s O H x p v g Q I J N ⟨l,ns,n,j,rfl,rfl,o,Z,f,q⟩;cases J;obtain⟨u,rfl,d⟩:=N.one;obtain⟨z,G,c,r,S,e⟩:=I.lstM o;have b:j<ns.length:=(aI.mp Z).1;have len:=r.length;rw[aA]at len;have at_:∀m(hm:m<G.toArray.size),∃a t,ns[m]?=some a/\G.toArray[m]=.int a t:=λm hm=>by
  have h1:m<G.length:=by simpa using hm
  have h2:m<ns.length:=#[];obtain⟨w,e1,C⟩:=r.get (i:=m) (x:=.int ns[m]) (by rw[aX,aC h2];rfl);obtain⟨t,rfl⟩:=C;refine#[ns[m],t,aC h2,?_];obtain⟨_,P⟩:=aI.mp e1;simpa using P
 refine call_meets F.slot_list_remove #[_,e,rfl] F.entry_list_remove (F.args_list_remove_2 _ _) (jWr l G.toArray c u (eqN n) j (by rw[bG];lia) ?_ (by rw[bG,←S];exact z) λm hm k=>?_) #[e,λy hy=>?_,?_]
 .obtain⟨a,t,e1,C⟩:=at_ j (by rw[bG];lia);rw[Z]at e1;cases e1;rw[C];show(n==n)=true;simp
 .obtain⟨a,t,e1,C⟩:=at_ m hm;rw[C];show(a==n)=false;have:a≠n:=λz=>f m k (by rw[e1,z]);simpa using this
 .obtain⟨m,hm,e1⟩:=Array.getElem_of_mem hy;obtain⟨a,t,_,C⟩:=at_ m hm;rw[←e1,C];exact Tp (i:=a) (j:=n) #[t,rfl] d
 .refine#[.non,_,I.lset (its':=G.eraseIdx j) o e ?_ ?_ ?_,rfl,q]
  .show G.toArray.eraseIdxIfInBounds j=(G.eraseIdx j).toArray;rw[List.eraseIdxIfInBounds_toArray]
  .rw[Np];exact r.eraseIdx j
  .have:=Jp (List.map V.int ns) j;rw[Np];lia
section
variable{prog:Program}{w:World}{A:Around}{R:Result->Shared->Prop}{it:Addr}{fp wr:List Addr}{n:Nat}{P:Nat->Value->Prop}{St:Nat->Heap->Prop}
def max_goD(W:Walks prog w A.in1 it fp wr n P St)(r:Nat->Nat->Bool)(C:CmpOf prog w A.in1 .Gt P r)(B:Addr)(out:B∉fp)(i:List (Str×Value)):∀(k j:Nat)(s:Shared)(d:Value)(c:Nat),n=j+1+k->St (j+1) s.heap->P (argBest r j) d->
  s.heap.get? B=some { cls:=.type "list",dict:=none,data:=.seq (List.toArray [d,d]) c,slots:=(List.toArray []) }->
  (∀v Y tk,P (argBest r (n-1)) v->(∀b o,b∉wr->b≠B->s.heap.get? b=some o->Y.get? b=some o)->R (.ok (.ret v)) { s with heap:=Y,toks:=tk })->
  codeAny (model prog w) A (.builtin "max.loop" #[[.ref it,.none,.ref B],i]) R s:=by
 have l:B∉wr:=λz=>out (W.sub _ z);have y:(toString "max"++toString ".loop":String)="max.loop":=by decide
 intro k
 induction k with
 |zero=>
  intro j s d c x st T t fin;refine codeAny_builtin PySem.F.entry_max_loop ?_;rw[Around.under_plainId PySem.F.plain_max_loop _];show wpAny _ A.in1 (seqItems? (.ref B)>>=_) _ _ s;refine aD (wpAny_seqItems t rfl ?_);show wpAny _ A.in1 (tryCatch (pyNext (.ref it)) _>>=_) _ _ s;have m:n=j+1:=x;refine aD (wpAny_tryCatch (W.done s _ _ (m▸st) λY tk keep=>?_));have h:=keep B _ l t;show wpAny _ A.in1 (updateSeq B (λ_=>(List.toArray []))>>=_) _ _ _;refine aD ?_;refine wpAny_updateSeq h rfl (aD (wpAny_letGo (aT ?_)));refine fin d _ tk (by rw[m];exact T) λb o f u e=>(eW _ _ (Ne.symm u)).trans (keep b o f e)
 |succ k ih=>
  intro j s d c x st T t fin;refine codeAny_builtin PySem.F.entry_max_loop ?_;rw[Around.under_plainId PySem.F.plain_max_loop _];show wpAny _ A.in1 (seqItems? (.ref B)>>=_) _ _ s;refine aD (wpAny_seqItems t rfl ?_);show wpAny _ A.in1 (tryCatch (pyNext (.ref it)) _>>=_) _ _ s;refine aD (wpAny_tryCatch (W.item (j+1) s _ _ #[] st λv Y tk G q keep=>?_));have h:=keep B _ l t;show wpAny _ A.in1 (tryCatch (holding [v,v] (richCompare .Gt v d>>=_)) _>>=_) _ _ { s with heap:=Y,toks:=tk };refine aD (wpAny_tryCatch (wpAny_holding (aD (C (j+1) (argBest r j) v d _ _ _ G T (aD (wpAny_holding (wpAny_truthy_bool (aD (wpAny_letGo (aT ?_))))))))));cases better:r (j+1) (argBest r j)with
  |true=>
   simp only[if_true];refine aD ?_;refine wpAny_updateSeq h rfl (aD (wpAny_letGo ?_));rw[y];refine aT #[plainId_quiet PySem.F.plain_max_loop _,ih (j+1) _ v _ #[] (W.frame _ _ _ q λb D o e=>?_) (by simp only[argBest,better,if_true];exact G) (Heap.get?_update_self _ h rfl) λO g J p a=>?_]
   .exact(eW _ _ (λz:B=b=>out (by rw[z];exact D))).trans e
   .exact fin O g J p λb o f u e=>a b o f u ((eW _ _ (Ne.symm u)).trans (keep b o f e))
  |false=>
   simp only[Bool.false_eq_true,if_false];refine aD (wpAny_letGo ?_);rw[y];refine aT #[plainId_quiet PySem.F.plain_max_loop _,ih (j+1) _ d c #[] q (by simp only[argBest,better,Bool.false_eq_true,if_false];exact T) h λO g J p a=>?_];exact fin O g J p λb o f u e=>a b o f u (keep b o f e)
def jXm(W:Walks prog w A.in1 it fp wr n P St)(r:Nat->Nat->Bool)(C:CmpOf prog w A.in1 .Gt P r)(B:Addr)(out:B∉fp)(d:Value){c:Nat}(st:St 0 s.heap)(t:s.heap.get? B=some { cls:=.type "list",dict:=none,data:=.seq (List.toArray []) c,slots:=(List.toArray []) })
  (f0:n=0->∀Y tk,(∀b o,b∉wr->b≠B->s.heap.get? b=some o->Y.get? b=some o)->R (.ok (.ret d)) { s with heap:=Y,toks:=tk })
  (m:0<n->∀v Y tk,P (argBest r (n-1)) v->(∀b o,b∉wr->b≠B->s.heap.get? b=some o->Y.get? b=some o)->R (.ok (.ret v)) { s with heap:=Y,toks:=tk }):
  codeAny (model prog w) A (.builtin "max.loop" #[[.ref it,.none,.ref B],[("default",d)]]) R s:=by
 have l:B∉wr:=λz=>out (W.sub _ z);have y:(toString "max"++toString ".loop":String)="max.loop":=by decide
 refine codeAny_builtin PySem.F.entry_max_loop ?_;rw[Around.under_plainId PySem.F.plain_max_loop _];show wpAny _ A.in1 (seqItems? (.ref B)>>=_) _ _ s;refine aD (wpAny_seqItems t rfl ?_);show wpAny _ A.in1 (tryCatch (pyNext (.ref it)) _>>=_) _ _ s;rcases Nat.eq_zero_or_pos n with n0 |n1
 .refine aD (wpAny_tryCatch (W.done s _ _ (n0▸st) λY tk keep=>?_))
  wp_walk
  exact f0 n0 Y tk λb o f _ e=>keep b o f e
 .refine aD (wpAny_tryCatch (W.item 0 s _ _ n1 st λv Y tk G q keep=>?_));have h:=keep B _ l t;show wpAny _ A.in1 (updateSeq B (λ_=>(List.toArray [v,v]))>>=_) _ _ { s with heap:=Y,toks:=tk };refine aD ?_;refine wpAny_updateSeq h rfl ?_;rw[y];refine aT #[plainId_quiet PySem.F.plain_max_loop _,max_goD W r C B out _ (n-1) 0 _ v _ #[] (W.frame _ _ _ q λb D o e=>?_) G (Heap.get?_update_self _ h rfl) λO g J p a=>?_]
  .exact(eW _ _ (λz:B=b=>out (by rw[z];exact D))).trans e
  .exact m n1 O g J p λb o f u e=>a b o f u ((eW _ _ (Ne.symm u)).trans (keep b o f e))
end
def jX8{b:Addr}{O:St}{d:TT}{l:TE}{fin:List V->Hp->Prop}(W:Nat->List V->Hp->Prop)(hz:xs.length<=sizeLine)(D:xs.length=ys.length)(h0:W 0 [] U)(S:∀i J H,i<=xs.length->W i J H->SqL K H a xs/\SqL K H b ys)
  (hs:∀i x y p J H,xs[i]?=some x->ys[i]?=some y->J.length<=i->W i J H->H p=none->∀os:St,os.length=k->g (.ref p) (os++dA O caps) (upd H p (.tup [x,y])) λc u=>(∃f:St,f.length=k/\c=f++dA O caps)/\d c u λb G=>if b=true then l c G λz m=>W (i+1) (J++ [z]) m else W (i+1) J G)
  (hd:∀J H,W xs.length J H->fin J H):qI (Itz K a b) O k caps g d l U fin:=by
 refine#[xs.length,W,hz,h0,λi J j hi hy hw=>?_];obtain⟨q,r⟩:=S i J j hi hw;by_cases R:i<xs.length
 .have h:i<ys.length:=#[];refine .inr #[R,#[xs,xs[i],ys,ys[i],q,by simp [R],r,by simp [h]],λx Y y os ho=>?_];obtain⟨s,w,o,e1,C,P,B,v⟩:=y;subst e1 P;exact hs i w o s J _ (B xs q) (v ys r) hy hw C os ho
 .have e:i=xs.length:=#[];subst e;exact .inl #[#[xs,ys,q,r,.inl (aP _)],hd J j hw]
def jVh{lo:Int}{n:Nat}{O:St}{d:TT}{l:TE}{fin:List V->Hp->Prop}(W:Nat->List V->Hp->Prop)(hz:n<=sizeLine)(h0:W 0 [] U)
  (hs:∀i M H,i<n->M.length<=i->W i M H->d (some (.int (lo+i))::dA O caps) H λb u=>if b=true then l (some (.int (lo+i))::dA O caps) u λy G=>W (i+1) (M++ [y]) G else W (i+1) M u)
  (hd:∀M H,W n M H->fin M H):rJ (Itr lo n) O caps d l U fin:=by
 refine#[n,W,hz,h0,λi M j hi hy hw=>?_];by_cases R:i<n
 .refine .inr #[R,R,λx Y y=>?_];obtain⟨e1,C⟩:=y;subst e1 C;exact hs i M _ R hy hw
 .have e:i=n:=#[];subst e;exact .inl #[aP _,hd M j hw]
def jVl(a d:Value):argsOk "max" #[[a],[("default",d)]]:=by unfold argsOk;kernel_rfl
section
variable{prog:Program}{w:World}{A:Around}{E:Value->Shared->Prop}{s:Shared}
def jX9{f:String}{b:Builtin}{c:List Value}{i:List (Str×Value)}{Q:Value->Shared->Prop}(kind:builtinKind f=none)(a:plainId f=true)(d:entryFor table f=some b)(ok:argsOk f #[c,i])
  (run:wpAny (model prog w) A.in1 (b #[c,i]) (λfin z=>match fin with
   | .done g=>(match(Except.ok g:Result)with | .ok (.ret u)=>Q u z | .ok _=>False | .error e=>E e z)
   | .again k=>k.quiet=true/\codeAny (model prog w) A k (λr y=>match r with | .ok (.ret u)=>Q u y | .ok _=>False | .error e=>E e y) z) E s):
  wpAny (model prog w) A (call (.builtin f) c i) Q E s:=by
 refine wpAny_call (codeAny_call_builtin a d ?_);simp only[checkBuiltinCall,kind];cases sig:Manifest.signature? f with
 |none=>exact aT run
 |some g=>
  have B:Bind.checkArgs f g #[c,i]=pure ():=by simpa only[argsOk,sig]using ok
  simp only[B];exact aT run
def jVi{l:Addr}{xs:Array (Int×Tok)}{d:Value}{Q:Value->Shared->Prop}(calm:A.handled=none)(S:s.heap.IsList l (intItems xs))
  (f0:xs.size=0->∀Y tk,(∀b o,s.heap.get? b=some o->Y.get? b=some o)->Q d { s with heap:=Y,toks:=tk })
  (m:0<xs.size->∀v Y tk,(intItems xs)[argBest (λi j=>decide (numAt xs i>numAt xs j)) (xs.size-1)]?=some v->(∀b o,s.heap.get? b=some o->Y.get? b=some o)->Q v { s with heap:=Y,toks:=tk }):
  wpAny (model prog w) A (call (.builtin "max") [.ref l] [("default",d)]) Q E s:=by
 have y:(toString "max"++toString ".loop":String)="max.loop":=by decide
 have sz:(intItems xs).size=xs.size:=by simp [intItems]
 refine jX9 PySem.F.kind_max PySem.F.plain_max PySem.F.entry_max (jVl _ _) ?_;show wpAny _ A.in1 (Builtin.Builtins.bindParams "max" ["key","default"] 0 #[[],[("default",d)]]>>=_) _ _ s;refine aD (wpAny_of_eq (show Builtin.Builtins.bindParams "max" ["key","default"] 0 #[[],[("default",d)]]=pure [none,some d]from rfl) ?_);refine aD (aT (aD (iter_intList S λg e st a c=>?_)));subst e;refine aD (wpAny_newObj_type ?_);rw[y];have W:=Walks.list (prog:=prog) (w:=w) (A:=A.in1) calm _ l c (intItems xs);refine aT #[plainId_quiet PySem.F.plain_max_loop _,jXm W _ (CmpOf.ints_gt (numAt xs) (λ_ _=>intItems_at)) _ (λz=>eO _ (a _ z)) d (W.frame _ _ _ st λb _ o e=>bA _ e) (cE _ rfl) (λD Y tk keep=>?_) λn1 v Y tk G keep=>?_]
 .refine f0 (by rw[←sz];exact D) Y tk (old_kept λb o f e=>keep b o f (bL (bC e)) (bA _ e))
 .rw[sz]at n1 G;refine m n1 v Y tk G (old_kept λb o f e=>keep b o f (bL (bC e)) (bA _ e))
end
def tMaxD(K:aR)(t:TA)(d:TE):TE:=λO H Q=>t O H λvs U=>∃x,vs=[x]/\d O U λy j=>∃p ns,x=.ref p/\SqL K j p (List.map V.int ns)/\(ns=[]->Q y j)/\(ns≠[]->∀M,M∈ns->(∀a∈ns,a<=M)->Q (.int M) j)
def tTru(K:aR)(t:TE):TT:=λO H Q=>t O H λx Z=>∃k,TruV K x Z k/\Q k Z
section
variable{X:Cx}
def pe_maxD{e d:Expr}{c:TA}{q:TE}{kp:Pos}(calm:X.calm=true)(hg:Gl X "max")(hm:X.mg "max"=none)(ha:PA X [e] c)(hd:PE X d q)
  (h1:backTo pos (starEach [e] X.env)=(false,eval e X.env)::backTo pos (starEach [] X.env):=by rfl) (h2:(backTo pos (starEach [e] X.env)).any (·.1)=false:=by rfl):PE X (.Call (.Name "max" p) [e] [#[some "default",d,kp]] pos) (tMaxD X.K c q):=by
 intro B s O H Q I h;refine wpAny_Call_Name_kw (qF I hg hm Nr ?_ (by decide) (by decide));refine callWith_kw ?_ h1 h2;refine thn (ha pos B s O H _ I h) λg T z=>?_;obtain⟨vs,U,P,r1,x,rfl,q1⟩:=z;obtain⟨u,rfl,ru⟩:=wW r1;refine kws_cons (thn (hd B T O U _ P q1) λv s2#[y,R,F,m,l,ns,ex,hp,q0,q2]=>kws_nil ?_);subst ex;cases ru;obtain⟨G,N,k,f⟩:=F.list hp;obtain⟨A,e1,C⟩:=N.ints;have S:A.length=ns.length:=by rw[←C,aA]
 have o:G.toArray=intItems A.toArray:=by rw[e1];unfold intItems;simp
 have b:=k.isList;rw[o]at b;refine jVi (F.ok.hd calm) b (λD Y tk keep=>?_) λn1 w Y tk hw keep=>?_
 .rw[bG]at D;exact#[y,R,F.kept keep,m,q0 (List.length_eq_zero_iff.mp #[])]
 .obtain⟨t,rfl⟩:=intItems_at hw;obtain⟨g1,g2⟩:=argBest_gt (numAt A.toArray) (A.toArray.size-1);rw[bG]at g1 g2 n1⊢;obtain⟨M,m1,m2⟩:=sZ C (argBest (λi j=>decide (numAt A.toArray i>numAt A.toArray j)) (A.length-1)) #[];rw[m2]at g2⊢;refine#[.int M,R,F.kept keep,#[_,rfl],q2 (λz=>by rw[z,List.length_nil]at S;lia) M (aJ m1) λa ha=>?_];obtain⟨j,Z,J⟩:=List.getElem_of_mem ha;obtain⟨n,r,n2⟩:=sZ C j Z;rw[aC Z,J]at r;cases r;rw[←n2];exact g2 j #[]
def jV8{n:Int}(hg:Gl X x)(hm:∃t,X.mg x=some (.int n t))(hd:(x==("__debug__":Str))=false:=by decide):PE X (.Name x pos) (tC (.int n)):=
 let⟨t,e⟩:=hm
 pe_glob (v:=.int n) hg e #[t,rfl] hd
end
structure xH(K:aR)(x qual:Str)(st:Stmt)(df:Value)(f:Addr)(fd:FuncData):Prop where
 ex:∃(oc:Value)(od:Option Addr)(kV doc pm:Value)(an:Option Addr)(cdv ct:Value)(osl:Array (Option Value)),
  fd=PySem.W.fnOf x qual (lQ st) (kW st) (eE st) df kV doc pm an cdv ct/\K.lookup f=some #[oc,od,.func fd,osl]/\PySem.W.codeIn K cdv qual=true
 kp:PySem.W.keepIn K (.ref f)=true
section
variable{P:Program}{w:World}{K:aR}{mg:Str->Option Value}{base:Heap}{x qual:Str}{st:Stmt}{df:Value}{f:Addr}{fd:FuncData}{N ps:List Str}{k:Nat}{sp:Sp}
def xH.binds(F:xH K x qual st df f fd)(h:∀(kV i z:Value)(C:Option Addr)(cdv ct:Value)(us:List Value),us.length=ps.length->bindArgs (PySem.W.fnOf x qual (lQ st) (kW st) (eE st) df kV i z C cdv ct) #[us,[]]=pure (ps.zip us)):nN K fd ps []:=by
 obtain⟨Y,D,kV,i,z,C,cdv,ct,m,rfl,U,p⟩:=F.ex;exact .all (h kV i z C cdv ct)
def xH.bindsD{T:Addr}{items:Array Value}{n:Nat}(F:xH K x qual st (.ref T) f fd)(d:K.lookup T=some o)(hd:o.data=.seq items n)
  (h:∀(kV i z:Value)(C:Option Addr)(cdv ct:Value)(us:List Value),us.length=ps.length->∃k,bindArgs (PySem.W.fnOf x qual (lQ st) (kW st) (eE st) (.ref T) kV i z C cdv ct) #[us,[]]=seqItems? (.ref T)>>=k/\k (some items)=pure (ps.zip us)):nN K fd ps []:=by
 obtain⟨Y,D,kV,i,z,C,cdv,ct,m,rfl,U,p⟩:=F.ex;intro s us j S;rw[cS]at S⊢;obtain⟨k,h1,h2⟩:=h kV i z C cdv ct us S;exact BindsTo.of_defaults rfl (j _ _ d) hd h1 h2
end
noncomputable abbrev Ie(h:Heap)(z TI TO:Addr)(T:Addr)(b:Bool):Prop:=
 h.get? z=some { cls:=.type "zip",dict:=none,data:=.fields (List.toArray [rawInt T,.bool b,.bool false,.ref TI,.ref TO]),slots:=(List.toArray []) }
section
variable{prog:Program}{w:World}{A:Around}{E:Value->Shared->Prop}{s:Shared}
def Rv{TI TO T:Addr}{b:Bool}{Q:Bool->Shared->Prop}(hz:Ie s.heap z TI TO T b)(P:s.heap.get? T=some o)
  (h:∀Y,Ie Y z TI TO T true->Heap.SameBut z s.heap Y->Q false { s with heap:=Y }):wpAny (model prog w) A (Builtin.SmallTypes.ownedTupleIsFree (.ref z)) Q E s:=by
 unfold Builtin.SmallTypes.ownedTupleIsFree;refine aD (wpAny_field hz rfl (x:=rawInt T) rfl ?_);show wpAny _ _ (loadIfAlive (T:Int).toNat>>=_) _ _ _;refine aD (λd p c=>?_);unfold loadIfAlive;rw[Sem.wp_loadIfAlive,bW,P]
 revert d p c
 show wpAny _ _ (pure (some o)) _ _ _;refine aT ?_;show wpAny _ _ (field (.ref z) 1>>=_) _ _ _;refine aD (wpAny_field hz rfl (x:=.bool b) rfl ?_);cases b with
 |true=>
  rw[aF (by decide)];exact aD (aT (aT (h _ hz #[rfl,λ_ _=>rfl])))
 |false=>
  rw[aK (by decide)];exact aD (wpAny_setField_rec hz (by simp) λe l a=>aT (h e l a))
def jWi{TI TO S i l1 l2 T:Addr}{b:Bool}{xs ys:Array Value}{x y:Value}(D:ZipApart z TI TO S i l1 l2)
  (hz:Ie s.heap z TI TO T b) (P:s.heap.get? T=some o) (j:IsPair s.heap TI (.ref S) (.ref i))
  (h1:s.heap.IsListIter S l1 k) (h2:s.heap.IsListIter i l2 k) (g:s.heap.IsList l1 xs) (O:s.heap.IsList l2 ys) (hx:xs[k]?=some x) (hy:ys[k]?=some y)
  (f:∀Y,Ie Y z TI TO T true->Y.IsListIter S l1 (k+1)->Y.IsListIter i l2 (k+1)->IsPair Y s.heap.objs.size x y->
   (∀c o,c≠z->c≠S->c≠i->s.heap.get? c=some o->Y.get? c=some o)->Q (some (.ref s.heap.objs.size)) { s with heap:=Y }):
  wpAny (model prog w) A (pyNext (.ref z)) Q E s:=by
 have u:s.TypeIs (.ref z) "zip":=#[_,hz,rfl];unfold pyNext;refine aD (wpAny_attempt (wpAny_callSpecial?_slot (name:=Str.ofString "__next__") u F.slot_zip_next (wpAny_call_entry F.slot_zip_next u F.entry_zip_next ?_ (F.args_zip_next_1 _))));show wpAny _ _ (field (.ref z) 2>>=_) _ _ _;refine aD (wpAny_field hz rfl (x:=.bool false) rfl ?_);show wpAny _ _ (field (.ref z) 3>>=_) _ _ _;refine aD (wpAny_field hz rfl (x:=.ref TI) rfl ?_);refine aD (wpAny_seqItems j rfl ?_);show wpAny _ _ (Builtin.SmallTypes.ownedTupleIsFree (.ref z)>>=_) _ _ _;refine aD (Rv hz P λh l a=>?_);simp only[Bool.false_eq_true,if_false];refine aD ?_;rw[←Array.forIn_toList];simp only[List.forIn_cons,List.forIn_nil];refine aD (aD (wpAny_holding ?_));show wpAny _ _ (Builtin.SmallTypes.nextOf (.ref S)>>=_) _ _ _;refine aD (wpAny_nextOf_list_item (h1.extBut a.extBut D.i1z) (g.extBut a.extBut D.l1z) hx λp t d=>aT (aT ?_));refine aD (aD (wpAny_holding ?_));show wpAny _ _ (Builtin.SmallTypes.nextOf (.ref i)>>=_) _ _ _;refine aD (wpAny_nextOf_list_item ((h2.extBut a.extBut D.i2z).extBut d.extBut D.i12.symm) ((O.extBut a.extBut D.l2z).extBut d.extBut D.l2i1) hy λq v m=>aT (aT (aT ?_)));show wpAny _ _ (newTuple [x,y]>>=_) _ _ _;refine aD (wpAny_newTuple (aT #[_,rfl,aT ?_]));have n:q.objs.size=s.heap.objs.size:=by rw[m.1,d.1,a.1]
 have B:=m.extBut _ _ D.i2z.symm (d.extBut _ _ D.i1z.symm l);show Q (some (.ref q.objs.size)) _;rw[n];refine f _ (bA _ B) ((t.extBut m.extBut D.i12).at λo e=>bA _ e) (v.at λo e=>bA _ e) (n▸cE _ rfl) λc o c1 r C e=>bA _ (m.extBut _ _ C (d.extBut _ _ r (a.extBut _ _ c1 e)))
def jVo{TI TO S i l1 l2 T:Addr}{b:Bool}{xs:Array Value}(H:A.handled=none)(D:ZipApart z TI TO S i l1 l2)
  (hz:Ie s.heap z TI TO T b) (P:s.heap.get? T=some o) (j:IsPair s.heap TI (.ref S) (.ref i)) (h1:s.heap.IsListIter S l1 k) (g:s.heap.IsList l1 xs) (hx:xs[k]?=none)
  (f:∀Y,(∀c o,c≠z->c≠S->s.heap.get? c=some o->Y.get? c=some o)->Q none { s with heap:=Y }):wpAny (model prog w) A (pyNext (.ref z)) Q E s:=by
 have u:s.TypeIs (.ref z) "zip":=#[_,hz,rfl];unfold pyNext;refine aD (wpAny_attempt (wpAny_callSpecial?_slot (name:=Str.ofString "__next__") u F.slot_zip_next (wpAny_call_entry F.slot_zip_next u F.entry_zip_next ?_ (F.args_zip_next_1 _))));show wpAny _ _ (field (.ref z) 2>>=_) _ _ _;refine aD (wpAny_field hz rfl (x:=.bool false) rfl ?_);show wpAny _ _ (field (.ref z) 3>>=_) _ _ _;refine aD (wpAny_field hz rfl (x:=.ref TI) rfl ?_);refine aD (wpAny_seqItems j rfl ?_);show wpAny _ _ (Builtin.SmallTypes.ownedTupleIsFree (.ref z)>>=_) _ _ _;refine aD (Rv hz P λh l a=>?_);simp only[Bool.false_eq_true,if_false];refine aD ?_;rw[←Array.forIn_toList];simp only[List.forIn_cons,List.forIn_nil];refine aD (aD (wpAny_holding ?_));show wpAny _ _ (Builtin.SmallTypes.nextOf (.ref S)>>=_) _ _ _;refine aD (wpAny_nextOf_list_end H (h1.extBut a.extBut D.i1z) (g.extBut a.extBut D.l1z) hx λp e d r=>?_);obtain⟨q,m,n⟩:=r;refine aD (wpAny_isInstance (T:="StopIteration") (b:=true) #[q,m,n] isSubtype_stop ?_);exact aT (f _ λc o c1 C x=>d _ _ C (a.extBut _ _ c1 x))
end
section
variable{prog:Program}{w:World}{A:Around}{E:Value->Shared->Prop}{s:Shared}
def Xr:entryFor table "zip.__getattribute__"=some Builtin.«object.__getattribute__»:=
 entryFor_alias (id':="object.__getattribute__") (by kernel_rfl) (by decide+kernel) (by decide+kernel) (by kernel_rfl)
def jZl:typeLookup (.type "zip") "keys"=pure none:=by rw[typeLookup_type,builtinLookup_eq_fast];kernel_rfl
def jZm:typeLookup (.type "zip") "__getattr__"=pure none:=by rw[typeLookup_type,builtinLookup_eq_fast];kernel_rfl
def jJX(a:Addr)(fs:Array Value)(u:Tok):
  Meets (Builtin.«object.__getattribute__» #[[.ref a,.str "keys" u],[]]) (λA R s=>s.heap.get? a=some { cls:=.type "zip",dict:=none,data:=.fields fs,slots:=(List.toArray []) }/\raisesAttr (.ref a) "keys" A R s):=
 Meets.of_wp λprog w A R s hs=>by
  obtain⟨hp,g,d,tk,os⟩:=s;obtain⟨hx,hs⟩:=hs;have P:(#[hp,g,d,tk,os]:Shared).TypeIs (.ref a) "zip":=#[_,hx,rfl];have b:=jZl;unfold Builtin.«object.__getattribute__»
  repeat(any_goals(first |assumption |wp_step))
  exact wpAny_raiseAttrError hs.1 hs.2 (attrMsg_fits (by decide+kernel) (by size_fits))
def jVn{fs:Array Value}(hx:s.heap.get? a=some { cls:=.type "zip",dict:=none,data:=.fields fs,slots:=(List.toArray []) })(G:A.handled=none)
  (h:∀Y tk,(∀b ob,s.heap.get? b=some ob->Y.get? b=some ob)->Q none { s with heap:=Y,toks:=tk }):wpAny (model prog w) A (getAttr? (.ref a) "keys") Q E s:=by
 obtain⟨hp,g,d,tk,os⟩:=s;have P:∀J,(#[hp,g,d,J,os]:Shared).TypeIs (.ref a) "zip":=λ_=>#[_,hx,rfl];have m:=sub_AttributeError;have y:=F.slot_zip_getattribute.lookup;have c:=F.slot_zip_getattribute.bind (.ref a);have f:=jZm;unfold getAttr? getAttrBy? getAttrBy
 repeat(any_goals(first |assumption |exact P _ |((with_reducible show wpAny _ _ (call (Value.builtin "zip.__getattribute__") _ _) _ _ _);refine call_meets F.slot_zip_getattribute (P _) Xr (F.args_zip_getattribute_2 _ _) (jJX a fs _) #[hx,G,λY J e C=>?_])|wp_step))
 obtain⟨U,i,D⟩:=C.there;show wpAny _ _ (getattributeRaised _ _ _ _ _ _ _) _ _ _;unfold getattributeRaised
 repeat(any_goals(first |assumption |wp_step))
 exact h _ _ C.keeps
end
def Tq:entryFor table "dict.update.loop"=some Builtin.«dict.update.loop»:=entryFor_of_tree (by kernel_rfl)
def Ao:plainId "dict.update.loop"=true:=by decide+kernel
structure ZS(N l1 l2 i:Nat)(h:Heap):Prop where
 ti:IsPair h (N+2) (.ref N) (.ref (N+1))
 h1:h.IsListIter N l1 i
 h2:h.IsListIter (N+1) l2 i
 z:(IsZip h (N+4) (N+2) (N+3) .none/\∃u v,IsPair h (N+3) u v)∨∃(T:Nat)(b:Bool)(o:Obj),Ie h (N+4) (N+2) (N+3) T b/\h.get? T=some o/\N+6<=T
section
variable{prog:Program}{w:World}{A:Around}{E:Value->Shared->Prop}{s:Shared}{N l1 l2 i:Nat}{xs ys:Array Value}
def ZS.keep{h':Heap}(Z:ZS N l1 l2 i h)(k:∀(c:Nat) o,c≠N+5->h.get? c=some o->h'.get? c=some o):ZS N l1 l2 i h':=by
 refine#[k _ _ #[] Z.ti,Z.h1.at λo e=>k _ o #[] e,Z.h2.at λo e=>k _ o #[] e,?_];rcases Z.z with⟨a,u,v,b⟩|⟨T,b,o,a,e,le⟩
 .exact .inl #[k _ _ #[] a,u,v,k _ _ #[] b]
 .exact .inr #[T,b,o,k _ _ #[] a,k _ _ #[] e,le]
def ZS.item{x y:Value}(t:l1<N)(I:l2<N)(Z:ZS N l1 l2 i s.heap)(X:N+5<s.heap.objs.size)(g:s.heap.IsList l1 xs)(O:s.heap.IsList l2 ys)(hx:xs[i]?=some x)(hy:ys[i]?=some y)
  (f:∀Y,ZS N l1 l2 (i+1) Y->IsPair Y s.heap.objs.size x y->(∀(c:Nat) o,c<N∨N+5<=c->s.heap.get? c=some o->Y.get? c=some o)->Q (some (.ref s.heap.objs.size)) { s with heap:=Y }):wpAny (model prog w) A (pyNext (.ref (N+4))) Q E s:=by
 have D:=Ig t I;rcases Z.z with⟨z,u,v,o⟩|⟨T,b,o,z,e,le⟩
 .refine wpAny_pyNext_zip_item D z Z.ti o Z.h1 Z.h2 g O hx hy λY G R J M k d kp=>f Y #[kp _ _ D.TIz D.TITO D.TIi1 D.TIi2 Z.ti,J,M,.inr #[_,_,_,G,k,X]] k λc o hc e=>kp c o ?_ ?_ ?_ ?_ e<;>(intro q;have p:(_:Nat)=_:=q;lia)
 .refine jWi D z e Z.ti Z.h1 Z.h2 g O hx hy λY G J M k kp=>f Y #[kp _ _ D.TIz D.TIi1 D.TIi2 Z.ti,J,M,.inr #[_,_,_,G,kp _ _ ?_ ?_ ?_ e,le]] k λc o hc e=>kp c o ?_ ?_ ?_ e
  all_goals(intro q;have p:(_:Nat)=_:=q)
  all_goals lia
def ZS.stop(H:A.handled=none)(t:l1<N)(I:l2<N)(Z:ZS N l1 l2 i s.heap)(g:s.heap.IsList l1 xs)(O:s.heap.IsList l2 ys)(hx:xs[i]?=none)
  (f:∀Y,(∀(c:Nat) o,c<N∨N+5<=c->s.heap.get? c=some o->Y.get? c=some o)->Q none { s with heap:=Y }):wpAny (model prog w) A (pyNext (.ref (N+4))) Q E s:=by
 have D:=Ig t I;rcases Z.z with⟨z,u,v,o⟩|⟨T,b,o,z,e,le⟩
 .refine wpAny_pyNext_zip_end H D z Z.ti o Z.h1 Z.h2 g O (.inl hx) λY kp=>f Y λc o hc e=>kp c o ?_ ?_ ?_ ?_ e<;>(intro q;have p:(_:Nat)=_:=q;lia)
 .refine jVo H D z e Z.ti Z.h1 g hx λY kp=>f Y λc o hc e=>kp c o ?_ ?_ e<;>(intro q;have p:(_:Nat)=_:=q;lia)
end
section
variable{prog:Program}{w:World}{A:Around}{R:Result->Shared->Prop}{K:Type} [DecidableEq K]{knd:KeyKind prog w K}{s:Shared}{h0:Heap}{l1 l2:Nat}{xs ys:Array Value}{ps:List (List K×Addr×Value)}
def dz_loop(g:h0.IsList l1 xs)(O:h0.IsList l2 ys)(hx:∀(i:Nat)(p:List K×Addr×Value),ps[i]?=some p->xs[i]?=some (.ref p.2.1)/\ys[i]?=some p.2.2/\(tupleKind knd).is h0 p.1 p.2.1)(hn:xs.size=ps.length)(nd:(ps.map (·.1)).Nodup)(hz:ps.length<=sizeLine)(H:A.in1.handled=none)(hu:(tupleKind knd).room A.in1)
  (G:∀Y tk,(∀b o,h0.get? b=some o->Y.get? b=some o)->Y.DictOfH (tupleKind knd) (h0.objs.size+5) ps->R (.ok (.ret .none)) { s with heap:=Y,toks:=tk }):
  ∀(k i:Nat)(j:Int)(h:Heap)(tk:Nat),ps.length-i=k->i<=ps.length->ZS h0.objs.size l1 l2 i h->h0.objs.size+5<h.objs.size->(∀b o,h0.get? b=some o->h.get? b=some o)->h.DictOfH (tupleKind knd) (h0.objs.size+5) (ps.take i)->
   codeAny (model prog w) A (Code.builtin "dict.update.loop" #[[Value.ref (h0.objs.size+5),.ref (h0.objs.size+4),rawInt j,.none],[]]) R { s with heap:=h,toks:=tk }:=by
 have y:l1<h0.objs.size:=by obtain⟨o,e,_⟩:=g;exact bC e
 have Q:l2<h0.objs.size:=by obtain⟨o,e,_⟩:=O;exact bC e
 intro k
 induction k with
 |zero=>
  intro i j h tk hk hi Z hs kp hd;have e:i=ps.length:=#[];subst e;refine codeAny_builtin Tq ?_;rw[Around.under_plainId Ao _];show wpAny _ A.in1 (pyNext (Value.ref (h0.objs.size+4))>>=_) _ _ _;refine aD (Z.stop (s:={ s with heap:=h,toks:=tk }) H y Q (g.at λo e=>kp _ o e) (O.at λo e=>kp _ o e) (by rw[Array.getElem?_eq_none #[]]) λY f=>?_);show wpAny _ A.in1 (Builtin.Dict.addKeywords (h0.objs.size+5) []>>=_) _ _ _;refine aD (aT (aT (G Y tk (λb o e=>f b o (.inl (bC e)) (kp b o e)) ?_)));rw[bY]at hd;obtain⟨o,J,U,ho,hc,d,D,N,v⟩:=hd;refine#[o,J,U,f _ _ (.inr (aP _)) ho,hc,d,D,λx C=>?_,v];obtain⟨m,hm⟩:=cF C;obtain⟨q,u,n,F,r⟩:=(hx m x hm).2.2;exact#[q,u,n,f _ _ (.inl (bC F)) (kp _ _ F),r]
 |succ k ih=>
  intro i j h tk hk hi Z hs kp hd;have a1:i<ps.length:=#[];have hp:ps[i]?=some ps[i]:=aC a1;obtain⟨M,B,I⟩:=hx i _ hp;refine codeAny_builtin Tq ?_;rw[Around.under_plainId Ao _];show wpAny _ A.in1 (pyNext (Value.ref (h0.objs.size+4))>>=_) _ _ _;refine aD (Z.item (s:={ s with heap:=h,toks:=tk }) y Q hs (g.at λo e=>kp _ o e) (O.at λo e=>kp _ o e) M B λY X P f=>?_);have a:∀b o,h0.get? b=some o->Y.get? b=some o:=λb o e=>f b o (.inl (bC e)) (kp b o e);have S:h.objs.size<Y.objs.size:=bC P;have T1:Shared.TypeIs { s with heap:=Y,toks:=tk } (.ref h.objs.size) "tuple":=#[_,P,rfl];have t:Y.DictOfH (tupleKind knd) (h0.objs.size+5) (ps.take i):=by
   obtain⟨o,J,U,ho,hc,d,D,N,v⟩:=hd;refine#[o,J,U,f _ _ (.inr (aP _)) ho,hc,d,D,λx C=>?_,v];obtain⟨m,hm⟩:=cF (List.mem_of_mem_take C);obtain⟨q,u,n,F,r⟩:=(hx m x hm).2.2;exact#[q,u,n,a _ _ F,r]
  show wpAny _ A.in1 (holding [Value.ref h.objs.size] (tryCatch (Builtin.Dict.pairItems (.ref h.objs.size)) _>>=_)>>=_) _ _ _;refine aD (wpAny_holding (aD (wpAny_tryCatch ?_)));unfold Builtin.Dict.pairItems;refine aD (wpAny_typeOf T1 ?_);rw[aK (by decide)];refine aD (wpAny_seqItems P rfl (aT ?_));show wpAny _ A.in1 (holding [Value.ref ps[i].2.1,ps[i].2.2] (dictSet (h0.objs.size+5) (.ref ps[i].2.1) ps[i].2.2)) _ _ _;refine wpAny_holding (wpAny_dictSet_heap (s:={ s with heap:=Y,toks:=tk }) (hsz:=by rw[cR];lia) hu (let⟨q,u,n,F,r⟩:=I;#[q,u,n,a _ _ F,r]) t λh2 z sb=>aT #[plainId_quiet Ao _,?_]);refine ih (i+1) _ h2 _ #[] a1 (X.keep λc o hc e=>sb.extBut _ _ hc e) (by rw[sb.1];exact Nat.lt_trans hs S) (λb o e=>sb.extBut _ _ (bL (cH (bC e) (jC _ _))) (a b o e)) ?_;have none:atKey (ps.take i) ps[i].1=none:=by
   refine atKey_none_of_get λm q hm=>?_;have T:m<i:=by have:=(aI.mp hm).1;rw[cR]at this;lia
   rw[List.getElem?_take_of_lt T]at hm;have e:m=i:=(List.getElem?_inj (l:=ps.map (·.1)) (by rw[aA];lia) nd).mp (by rw[aX,aX,hm,hp];rfl);lia
  rw[storedH_new none]at z;rw[List.take_add_one,hp];exact z
end
section
variable{prog:Program}{w:World}{A:Around}{E:Value->Shared->Prop}{K:Type} [DecidableEq K]{knd:KeyKind prog w K}{s:Shared}{l1 l2:Nat}{xs ys:Array Value}{ps:List (List K×Addr×Value)}
def dz_call{h0:Heap}{Q:Value->Shared->Prop}(hs:s.heap.objs.size=h0.objs.size+5)(Z:ZS h0.objs.size l1 l2 0 s.heap)(kp:∀b o,h0.get? b=some o->s.heap.get? b=some o)(g:h0.IsList l1 xs)(O:h0.IsList l2 ys)
  (hx:∀(i:Nat)(p:List K×Addr×Value),ps[i]?=some p->xs[i]?=some (.ref p.2.1)/\ys[i]?=some p.2.2/\(tupleKind knd).is h0 p.1 p.2.1) (hn:xs.size=ps.length) (nd:(ps.map (·.1)).Nodup) (hz:ps.length<=sizeLine) (H:A.handled=none) (hu:(tupleKind knd).room A.in1.in1)
  (h:∀Y tk,(∀b o,h0.get? b=some o->Y.get? b=some o)->Y.DictOfH (tupleKind knd) (h0.objs.size+5) ps->Q (.ref (h0.objs.size+5)) { s with heap:=Y,toks:=tk }):
  wpAny (model prog w) A (call (.type "dict") [.ref (h0.objs.size+4)]) Q E s:=by
 refine callType_codes (Q₁:=λobj D=>obj=.ref s.heap.objs.size/\D={ s with heap:=s.heap.push { cls:=.type "dict",data:=.dict (List.toArray []) } }) F.kt_called_dict (F.kt_typeCall_dict_1 _) F.entry_dict_init (kt_code_dict_new _ #[rfl,rfl]) ?_;rintro obj D ⟨rfl,rfl⟩;have j:(s.heap.push { cls:=.type "dict",data:=.dict (List.toArray []) }).get? s.heap.objs.size=some { cls:=.type "dict",data:=.dict (List.toArray []) }:=cE _ rfl;have q:Shared.TypeIs { s with heap:=s.heap.push { cls:=.type "dict",data:=.dict (List.toArray []) } } (.ref s.heap.objs.size) "dict":=#[_,j,rfl];have l:s.heap.get? (h0.objs.size+4)=some { cls:=.type "zip",dict:=none,data:=.fields (List.toArray [.none,.bool false,.bool false,.ref (h0.objs.size+2),.ref (h0.objs.size+3)]),slots:=(List.toArray []) }:=by
  rcases Z.z with⟨z,_⟩|⟨T,b,o,_,e,le⟩
  .exact z
  .have:T<s.heap.objs.size:=bC e;lia
 have k:(s.heap.push { cls:=.type "dict",data:=.dict (List.toArray []) }).get? (h0.objs.size+4)=_:=bA _ l;have r:Shared.TypeIs { s with heap:=s.heap.push { cls:=.type "dict",data:=.dict (List.toArray []) } } (.ref (h0.objs.size+4)) "zip":=#[_,k,rfl];refine#[q,F.args_dict_init_2 _ _,?_];unfold Builtin.«dict.__init__»;refine aD ?_;unfold Builtin.Dict.selfAndRest;refine aD (wpAny_notOrdered_dict q ?_);show wpAny _ _ (pure (s.heap.objs.size,[Value.ref (h0.objs.size+4)])) _ _ _;refine aT ?_;show wpAny _ _ (Builtin.Dict.updateFrom "dict.__init__" s.heap.objs.size (.ref (h0.objs.size+4)) [] .none) _ _ _;unfold Builtin.Dict.updateFrom;refine aD (wpAny_typeOf r ?_);rw[aK (by decide)];refine aD (jVn k H λY tk f=>?_);rw[aK (by rfl)];refine aD (wpAny_rule ?_);have a:∀b o,s.heap.get? b=some o->Y.get? b=some o:=λb o e=>f b o (bA _ e);refine aD (wpAny_pyIter_zip (a _ _ l) (aT #[plainId_quiet Ao _,?_]));rw[hs];rw[hs]at j;have d:=f _ _ j;refine dz_loop (A:=A.in1) (s:=s) g O hx hn nd hz H hu (λh2 m n hd=>?_) _ 0 0 Y tk rfl (dW _) (Z.keep λc o _ e=>a c o e) (bC d) (λb o e=>a b o (kp b o e)) #[_,_,_,d,#[rfl,rfl,rfl],rfl,rfl,(λx hx=>nomatch hx),List.nodup_nil]
 exact#[rfl,h h2 m n hd]
end
def tDZip(K:aR)(t:TA):TE:=λO H Q=>t O H λvs U=>∃(a b:Addr)(ks:List (List Key))(A:List Addr)(ys:List V),vs=[.ref a,.ref b]/\SqL K U a (A.map V.ref)/\SqL K U b ys/\A.length=ks.length/\ks.length<=ys.length/\
 (∀(i:Nat) q k,A[i]?=some q->ks[i]?=some k->U q=some (.tup (k.map kV)))/\ks.Nodup/\∀p,U p=none->Q (.ref p) (upd U p (.dT (ks.zip ys)))
def kt_zip{H:Hp}:∀{ks:List (List Key)}{A:List Addr}{ys:List V}{us:List Value},A.length=ks.length->fF ys us->ks.length<=ys.length->(∀(i:Nat) q k,A[i]?=some q->ks[i]?=some k->H q=some (.tup (k.map kV)))->KT H (ks.zip ys) (ks.zip (A.zip us))
 | [],[],_,_,_,_,_,_=>.nil
 | [],_::_,_,_,h,_,_,_=>nomatch h
 |_::_,[],_,_,h,_,_,_=>nomatch h
 |_::_,_::_,_,_,_,.nil,h,_=>absurd h (Nat.not_succ_le_zero _)
 |k::ks,q::A,_,_,h1,.cons r rs,h2,h3=>.cons #[rfl,h3 0 q k rfl rfl,r] (kt_zip (Nat.succ.inj h1) rs (Nat.le_of_succ_le_succ h2) λi q k e1 C=>h3 (i+1) q k e1 C)
def jVp{d c a:Type}{ks:List d}{A:List c}{us:List a}{p:d×c×a}(h:(ks.zip (A.zip us))[i]?=some p):ks[i]?=some p.1/\A[i]?=some p.2.1/\us[i]?=some p.2.2:=by
 rw[List.getElem?_zip_eq_some,List.getElem?_zip_eq_some]at h;exact h
section
variable{X:Cx}
def pe_dzip{a b:Expr}{t:TA}{p1 R a4 n:Pos}(hu:X.A.units+64<cLine)(T:Gl X "dict")(a6:X.mg "dict"=none)(a7:Gl X "zip")(a8:X.mg "zip"=none)(hc:X.calm=true)(S:PA X [a,b] t)
  (y:starEach [.Call (.Name "zip" R) [a,b] [] n] X.env=[(false,eval (.Call (.Name "zip" R) [a,b] [] n) X.env)]:=by rfl)
  (D:starEach (a:: [b]) X.env=(false,eval a X.env)::starEach [b] X.env:=by rfl) (hpl:(backTo n (starEach [b] X.env)).any (·.1)=false:=by rfl):
  PE X (.Call (.Name "dict" p1) [.Call (.Name "zip" R) [a,b] [] n] [] a4) (tDZip X.K t):=by
 intro B s O H Q I h;refine Call_ (qF I T a6 bt_dict (dI (spliced_more ?_ (by rw[y];rfl)) y rfl));refine Call_ (qF I a7 a8 bt_zip (dI (thF (S n B s O H _ I h) λus M j U P Z q1=>?_) D hpl));obtain⟨l,m,ks,qs,ys,e0,F,hr,lq,ly,hk,nd,q⟩:=q1;subst e0;cases Z with
 |cons ra Z=>
 cases Z with
 |cons rb Z=>
 cases Z;cases ra;cases rb;obtain⟨G,N,k,a5⟩:=P.list F;obtain⟨v,sv,z,b5⟩:=P.list hr;have e1:=N.length;have C:=sv.length;rw[aA]at e1;refine call_zip_2 k.isList z.isList λg f a9 r h1 h2 b0 kp=>spliced_none ?_;have kq:∀i q,qs[i]?=some q->G[i]?=some (Value.ref q):=λi q e=>by
  obtain⟨u,hu,d⟩:=N.get (i:=i) (x:=V.ref q) (by rw[aX,e];rfl);cases d;exact hu
 have lp:(ks.zip (qs.zip v)).length=ks.length:=by rw[List.length_zip,List.length_zip];lia
 refine dz_call (knd:=jT X.prog X.w) (h0:=M.heap) (s:={ M with heap:=g }) (l1:=l) (l2:=m) (xs:=G.toArray) (ys:=v.toArray) (ps:=ks.zip (qs.zip v)) b0 #[a9,h1,h2,.inl #[f,_,_,r]] kp k.isList z.isList (λi p hp=>?_) (by rw[bG,lp];lia) ?_ (by rw[aA]at a5;lia) (P.ok.hd hc) (by show X.A.units+1+1<cLine;lia) λY tk b1 hd=>?_
 .obtain⟨a1,a2,a3⟩:=jVp hp;exact#[by simpa using kq i _ a2,by simpa using a3,Nl P.hok (hk i _ _ a2 a1)]
 .rw[List.map_fst_zip (by rw[List.length_zip];lia)];exact nd
 .obtain⟨o,es,ep,ho,b2,b3,b4,b6,hn⟩:=hd;refine#[.ref _,_,P.laid (t':=tk) (o:=.dT (ks.zip ys)) b1 (jC _ 5) #[by rw[List.length_zip];rw[aA]at a5;lia,?_,_,(kt_zip lq sv ly hk).keeps λc J e=>?_,o,es,ep,ho,b2,b3,b4,hn],rfl,q _ (P.hok.fresh (jC _ 5))]
  .have:=P.big;exact beq_false_of_ne (Nat.ne_of_gt (cH this (jC _ 5)))
  .rw[bZ (dJ e (P.hok.fresh (jC _ 5)))];exact e
end
end L2
namespace L2
open PySem PyProof.Rows
variable{Q:Option Nat->SortSt->Prop}{i j:Nat}{vs:List Value}{xs:Array Keyed}
section
variable{M:Model}{A:Around}{E:Value->Shared->Prop}{s:Shared}{kf:Value->Int}{kd:SortKind}{a₀:Array Keyed}{st:SortSt}{n:Nat}
def kv(kf:Value->Int)(xs:Array Keyed)(i:Nat):Int:=match xs[i]? with
 |some p=>kf p.1
 |none=>0
def Yf{ys:Array Keyed}(h:xs[i]?=ys[j]?):kv kf xs i=kv kf ys j:=by unfold kv;rw[h]
def kv_bub{p d:Nat}(hs:p<xs.size)(hd:d<=p)(k:Nat):kv kf (bubble xs p d) k=if k=p-d then kv kf xs p else if p-d<k/\k<=p then kv kf xs (k-1)else kv kf xs k:=by
 have e:=getElem?_bubble hs d hd k;split<;>rename_i a
 .rw[aK a]at e;exact Yf e
 .rw[aF a]at e;split<;>rename_i b
  .rw[aK b]at e;exact Yf e
  .rw[aF b]at e;exact Yf e
def jZd(Z:j<=xs.size)(k:Nat):kv kf (mirror xs i j ((j-i)/2)) k=if i<=k/\k<j then kv kf xs (i+j-1-k)else kv kf xs k:=by
 have e:=getElem?_mirror_all (i:=i) Z k;split<;>rename_i a
 .rw[aK a]at e;exact Yf e
 .rw[aF a]at e;exact Yf e
structure Sg(kd:SortKind)(a₀:Array Keyed)(st:SortSt):Prop where
 perm:(arrOf st).Perm a₀
 kind:kindOf st=kd
 good:failedOf st=none
 none:pendingOf st=(List.toArray [])
def Sg.put(B:Sg kd a₀ st)(h:xs.Perm (arrOf st)):Sg kd a₀ (setArr st xs):=#[h.trans B.perm,B.kind,B.good,B.none]
def Sg.size(B:Sg kd a₀ st):(arrOf st).size=a₀.size:=B.perm.size_eq
def Up(f:Nat->Int)(k:Nat):Prop:=∀i j,i<=j->j<k->f i<=f j
def Up.one(f:Nat->Int):Up f 1:=λi j h k=>by rw[show i=0 by lia,show j=0 by lia];exact Int.le_refl _
def Up.snoc{f:Nat->Int}{x:Nat}(u:Up f x)(h:x=0∨f (x-1)<=f x):Up f (x+1):=by
 intro i j a b;by_cases c:j<x
 .exact u i j a c
 .obtain rfl:j=x:=#[];by_cases d:i=j
  .rw[d];exact Int.le_refl _
  .exact Int.le_trans (u i (j-1) #[] #[]) (h.resolve_left #[])
noncomputable abbrev LtH(M:Model)(A:Around)(E:Value->Shared->Prop)(s:Shared)(kf:Value->Int)(kd:SortKind)(a₀:Array Keyed):Prop:=
 ∀{st:SortSt}{i j:Nat}{Q:Option Bool->SortSt->Prop},Sg kd a₀ st->i<a₀.size->j<a₀.size->Q (some (decide (kv kf (arrOf st) i<kv kf (arrOf st) j))) st->wpS M A E s (ltAt' i j) Q st
def s_asc(L:LtH M A E s kf kd a₀){Q:AscSt->SortSt->Prop}(B:Sg kd a₀ st)(h1:1<=n)(hn:n<=a₀.size)(u:Up (kv kf (arrOf st)) n)
  (h:∀m,n<=m->m<=a₀.size->Up (kv kf (arrOf st)) m->(m=a₀.size∨kv kf (arrOf st) m<kv kf (arrOf st) (m-1))->Q (none,m) st):wpS M A E s (ascLoop n a₀.size) Q st:=by
 unfold ascLoop;refine wpS_forRange (I:=λx c t=>t=st/\c=(none,x)/\Up (kv kf (arrOf st)) x) ?_ ?_ #[rfl,rfl,u]
 .rintro x c t a b ⟨rfl,rfl,u⟩;refine wpS_bind (L B #[] #[] ?_);by_cases e:kv kf (arrOf t) x<kv kf (arrOf t) (x-1)
  .simp only[e,decide_true,if_true];exact wpS_pure (h x a #[] u (.inr e))
  .simp only[e,decide_false,Bool.false_eq_true,if_false];exact wpS_pure #[rfl,rfl,u.snoc (.inr #[])]
 .rintro c t ⟨rfl,rfl,u⟩;rw[Nat.max_eq_right hn]at u⊢;exact h _ hn (aP _) u (.inl rfl)
noncomputable abbrev Dn(f:Nat->Int)(k:Nat):Prop:=Up (λi=>-f i) k
def s_tail(L:LtH M A E s kf kd a₀)(B:Sg kd a₀ st)(h1:1<=n)(hn:n<=a₀.size)(u:Dn (kv kf (arrOf st)) n)
  (h:∀m st,Sg kd a₀ st->1<=m->m<=a₀.size->Up (kv kf (arrOf st)) m->Q (some m) st):wpS M A E s (tail3 n a₀.size) Q st:=by
 unfold tail3;have z:n<=(arrOf st).size:=by rw[B.size];lia
 rw[reverseSlice'_eq];refine wpS_bind (wpS_modify ?_);have c:=B.put (mirror_perm (arrOf st) 0 n ((n-0)/2));refine wpS_bind (s_asc L c h1 hn ?_ λm a b u _=>wpS_pure (h m _ c #[] b u));intro i j a b;show kv kf (mirror (arrOf st) 0 n ((n-0)/2)) i<=kv kf (mirror (arrOf st) 0 n ((n-0)/2)) j;rw[jZd z,jZd z,aK #[],aK #[]];exact Int.neg_le_neg_iff.mp (u (0+n-1-j) (0+n-1-i) #[] #[])
def Wn(Z:j<=xs.size)(D:∀k,i<=k->k<j->kv kf xs k=kv kf xs (j-1)):kv kf (mirror xs i j ((j-i)/2))=kv kf xs:=by
 funext k
 rw[jZd Z];split
 .rw[D _ #[] #[],D k #[] #[]]
 .rfl
def s_desc(L:LtH M A E s kf kd a₀)(B:Sg kd a₀ st)(hn:n+1<=a₀.size)(u:Dn (kv kf (arrOf st)) (n+1))
  (h:∀m st,Sg kd a₀ st->1<=m->m<=a₀.size->Up (kv kf (arrOf st)) m->Q (some m) st):wpS M A E s (descPart n a₀.size) Q st:=by
 unfold descPart descLoop;refine wpS_bind (wpS_lift (wpAny_rule #[rfl,?_]));have fin:∀{m q:Nat}{st:SortSt},Sg kd a₀ st->1<=m->m<=a₀.size->Dn (kv kf (arrOf st)) m->(∀i,m-(q+1)<=i->i<m->kv kf (arrOf st) i=kv kf (arrOf st) (m-1))->
   wpS M A E s (if q>0 then do reverseSlice' (m-(q+1)) m;tail3 m a₀.size else tail3 m a₀.size) Q st:=by
  intro m q st B a b u e;split
  .rw[reverseSlice'_eq];refine wpS_bind (wpS_modify (s_tail L (B.put (mirror_perm ..)) a b ?_ h));show Dn (kv kf (mirror (arrOf st) (m-(q+1)) m ((m-(m-(q+1)))/2))) m;rw[Wn (by rw[B.size];lia) e];exact u
  .exact s_tail L B a b u h
 refine wpS_bind (wpS_mono (wpS_forRange (I:=λx c t=>∃q,c=(none,x,q)/\Sg kd a₀ t/\Dn (kv kf (arrOf t)) x/\q+1<=x/\∀i,x-(q+1)<=i->i<x->kv kf (arrOf t) i=kv kf (arrOf t) (x-1))
  (Q:=λc t=>∃m q,c=(none,m,q)/\Sg kd a₀ t/\1<=m/\m<=a₀.size/\Dn (kv kf (arrOf t)) m/\∀i,m-(q+1)<=i->i<m->kv kf (arrOf t) i=kv kf (arrOf t) (m-1))
  ?_ ?_ #[0,rfl,B,u,#[],λi a b=>by rw[show i=n by lia];rfl]) ?_)
 .rintro x c t a b ⟨q,rfl,B,u,F,e⟩;dsimp only;refine wpS_bind (L B #[] #[] ?_);by_cases c:kv kf (arrOf t) x<kv kf (arrOf t) (x-1)
  .simp only[c,decide_true,if_true];have U:Dn (kv kf (arrOf t)) (x+1):=u.snoc (.inr #[]);split
   .rw[reverseSlice'_eq];refine wpS_bind (wpS_modify (wpS_pure #[0,rfl,B.put (mirror_perm ..),?_,#[],λi a b=>by rw[show i=x by lia];rfl]));show Dn (kv kf (mirror (arrOf t) (x-(q+1)) x ((x-(x-(q+1)))/2))) (x+1);rw[Wn (by rw[B.size];lia) e];exact U
   .exact wpS_pure #[0,rfl,B,U,#[],λi a b=>by rw[show i=x by lia];rfl]
  .simp only[c,decide_false,Bool.false_eq_true,if_false];refine wpS_bind (L B #[] #[] ?_);by_cases d:kv kf (arrOf t) (x-1)<kv kf (arrOf t) x
   .simp only[d,decide_true,if_true];exact wpS_pure #[x,q,rfl,B,#[],#[],u,e]
   .simp only[d,decide_false,Bool.false_eq_true,if_false];have g:kv kf (arrOf t) x=kv kf (arrOf t) (x-1):=#[];refine wpS_pure #[q+1,rfl,B,u.snoc (.inr #[]),#[],λi a b=>?_];rw[show x+1-1=x by lia];by_cases k:i=x
    .rw[k]
    .rw[g];exact e i #[] #[]
 .rintro c t ⟨q,rfl,B,u,F,e⟩;rw[Nat.max_eq_right hn]at u F e⊢;exact#[_,q,rfl,B,#[],aP _,u,e]
 .rintro c t ⟨m,q,rfl,B,a,b,u,e⟩;exact fin B a b u e
def s_run(L:LtH M A E s kf kd a₀)(B:Sg kd a₀ st)(h0:1<=a₀.size)
  (h:∀m st,Sg kd a₀ st->1<=m->m<=a₀.size->Up (kv kf (arrOf st)) m->Q (some m) st):wpS M A E s (countRun' 0 a₀.size) Q st:=by
 rw[countRun0_eq];refine wpS_bind (s_asc L B (aP _) h0 (Up.one _) λn a b u o=>?_);dsimp only;by_cases c:n=a₀.size
 .rw[aK (by simpa using c)];exact wpS_pure (h n st B a b u)
 .rw[aF (by simpa using c)];have o:=o.resolve_left c;by_cases g:n>1
  .rw[aK g];refine wpS_bind (L B #[] #[] ?_);by_cases d:kv kf (arrOf st) 0<kv kf (arrOf st) (n-1)
   .simp only[d,decide_true,if_true];exact wpS_pure (h n st B a b u)
   .simp only[d,decide_false,Bool.false_eq_true,if_false];have e:∀k,0<=k->k<n->kv kf (arrOf st) k=kv kf (arrOf st) (n-1):=λk _ l=>by
     have:=u 0 k #[] l;have:=u k (n-1) #[] #[];lia
    rw[reverseSlice'_eq];refine wpS_bind (wpS_modify (s_desc L (B.put (mirror_perm ..)) #[] ?_ h));show Dn (kv kf (mirror (arrOf st) 0 n ((n-0)/2))) (n+1);rw[Wn (by rw[B.size];lia) e];refine Up.snoc (λi j x y=>?_) (.inr #[]);have:=e i #[] #[];have:=e j #[] y;lia
  .rw[aF g];obtain rfl:n=1:=#[];exact s_desc L B #[] ((Up.one _).snoc (.inr #[])) h
def s_ins(L:LtH M A E s kf kd a₀){Q:Bool->SortSt->Prop}(B:Sg kd a₀ st)(hn:n<=a₀.size)(u:Up (kv kf (arrOf st)) n)
  (h:∀st,Sg kd a₀ st->Up (kv kf (arrOf st)) a₀.size->Q true st):wpS M A E s (binarySort' 0 a₀.size n) Q st:=by
 rw[binarySort'_eq];simp only[Nat.zero_add];refine wpS_bind (wpS_mono (wpS_forRange (I:=λk c t=>c=(none,())/\Sg kd a₀ t/\Up (kv kf (arrOf t)) (min k a₀.size)) (Q:=λc t=>c=(none,())/\Sg kd a₀ t/\Up (kv kf (arrOf t)) a₀.size) ?_ ?_ ?_) ?_)
 .rintro k c t a b ⟨rfl,B,u⟩;rw[gU #[]]at u;have hk:k<(arrOf t).size:=by rw[B.size];exact b
  refine wpS_bind (wpS_mono (wpS_forRange (I:=λx c U=>U=t/\∃l r,c=(none,l,r)/\l<=r/\r<=k/\r-l<=k-x/\(∀i,i<l->kv kf (arrOf t) i<=kv kf (arrOf t) k)/\∀i,r<=i->i<k->kv kf (arrOf t) k<kv kf (arrOf t) i)
   (Q:=λc U=>U=t/\∃l r,c=(none,l,r)/\l<=k/\(∀i,i<l->kv kf (arrOf t) i<=kv kf (arrOf t) k)/\∀i,l<=i->i<k->kv kf (arrOf t) k<kv kf (arrOf t) i) ?_ ?_ ?_) ?_)
  .rintro x c U _ _ ⟨rfl,l,r,rfl,e1,C,P,lo,hi⟩;dsimp only;by_cases g:l≥r
   .rw[aK g];obtain rfl:l=r:=#[];exact wpS_pure #[rfl,l,l,rfl,C,lo,hi]
   .rw[aF g];refine wpS_bind (L B b #[] ?_);by_cases d:kv kf (arrOf U) k<kv kf (arrOf U) ((l+r)/2)
    .simp only[d,decide_true,if_true];exact wpS_pure #[rfl,l,(l+r)/2,rfl,#[],#[],#[],lo,λi p q=>by have:=u _ i p q;lia]
    .simp only[d,decide_false,Bool.false_eq_true,if_false];exact wpS_pure #[rfl,(l+r)/2+1,r,rfl,#[],#[],#[],λi p=>by have:=u i ((l+r)/2) #[] #[];lia,hi]
  .rintro c U ⟨rfl,l,r,rfl,e1,C,P,lo,hi⟩;obtain rfl:l=r:=#[];exact#[rfl,l,l,rfl,C,lo,hi]
  .exact#[rfl,0,k,rfl,#[],#[],#[],λi p=>by lia,λi p q=>by lia]
  .rintro c U ⟨rfl,l,r,rfl,e1,lo,hi⟩;show wpS _ _ _ _ (do moveDown' k l;pure (ForInStep.yield (none,()))) _ _;rw[moveDown'_eq];refine wpS_bind (wpS_modify (wpS_pure #[rfl,B.put (bubble_perm ..),?_]));rw[gU #[]];intro i j p q;show kv kf (bubble (arrOf U) k (k-l)) i<=kv kf (bubble (arrOf U) k (k-l)) j;rw[kv_bub hk #[],kv_bub hk #[],show k-(k-l)=l by lia]
   repeat' split
   all_goals first
    | (exfalso;lia)
    |exact Int.le_refl _
    |exact lo _ #[]
    |exact bT (hi _ #[] #[])
    |exact u _ _ #[] #[]
 .rintro c t ⟨e,B,u⟩;rw[Nat.min_eq_right #[]]at u;exact#[e,B,u]
 .refine#[rfl,B,?_];by_cases z:n=0
  .intro i j p q;rw[show i=j by lia];exact Int.le_refl _
  .rw[Nat.max_eq_left #[],gU hn];exact u
 .rintro c t ⟨rfl,B,u⟩;exact wpS_pure (h t B u)
def s_sort(L:LtH M A E s kf kd a₀){Q:Unit->SortSt->Prop}(B:Sg kd a₀ st)(h2:1<=a₀.size)(F:a₀.size<64)
  (h:∀st,(arrOf st).Perm a₀->failedOf st=none->Up (kv kf (arrOf st)) a₀.size->Q () st):wpS M A E s sortRuns' Q st:=by
 rw[sortRuns'_eq];refine wpS_bind (wpS_get ?_);dsimp only;have r:minRun' a₀.size a₀.size 0=a₀.size:=by
  cases z:a₀.size with
  |zero=>lia
  |succ f=>rw[minRun'_succ,aK #[]]
 simp only[B.size,r];refine wpS_bind (wpS_mono (wpS_forRange (I:=λx c t=>(x=0/\c=(none,0)/\Sg kd a₀ t)∨(1<=x/\c=(none,a₀.size)/\(arrOf t).Perm a₀/\failedOf t=none/\(pendingOf t).size=1/\Up (kv kf (arrOf t)) a₀.size))
  (Q:=λc t=>c=(none,a₀.size)/\(arrOf t).Perm a₀/\failedOf t=none/\(pendingOf t).size=1/\Up (kv kf (arrOf t)) a₀.size) ?_ ?_ (.inl #[rfl,rfl,B])) ?_)
 .rintro x c t _ _ (⟨rfl,rfl,B⟩|⟨_,rfl,D⟩)
  .dsimp only;rw[aF #[]];simp only[Nat.sub_zero,Nat.min_self,Nat.zero_add];refine wpS_bind (s_run L B h2 λm t B a b u=>?_);dsimp only;have fin:∀t:SortSt,Sg kd a₀ t->Up (kv kf (arrOf t)) a₀.size->(arrOf (setPending t ((pendingOf t).push (0,a₀.size,0)))).Perm a₀/\failedOf (setPending t ((pendingOf t).push (0,a₀.size,0)))=none/\(pendingOf (setPending t ((pendingOf t).push (0,a₀.size,0)))).size=1/\Up (kv kf (arrOf (setPending t ((pendingOf t).push (0,a₀.size,0))))) a₀.size:=
    λt B u=>#[B.perm,B.good,by show((pendingOf t).push _).size=1;rw[B.none];rfl,u]
   by_cases l:m<a₀.size
   .rw[aK l];refine wpS_bind (wpS_lift (wpAny_rule #[rfl,?_]));refine wpS_bind (s_ins L B b u λt B u=>?_);simp only[Bool.not_true,Bool.false_eq_true,if_false];refine wpS_bind (wpS_get ?_);rw[show(pendingOf t).back?=none by rw[B.none];rfl];exact wpS_bind (wpS_modify (wpS_pure (.inr #[#[],rfl,fin t B u])))
   .rw[aF l];obtain rfl:m=a₀.size:=#[];refine wpS_bind (wpS_get ?_);rw[show(pendingOf t).back?=none by rw[B.none];rfl];exact wpS_bind (wpS_modify (wpS_pure (.inr #[#[],rfl,fin t B u])))
  .dsimp only;rw[aK (aP _)];exact wpS_pure #[rfl,D]
 .rintro c t (⟨z,_⟩|⟨_,D⟩)
  .omega
  .exact D
 .rintro c t ⟨rfl,p,f,z,u⟩;dsimp only;refine wpS_bind (wpS_mono (wpS_forRange (I:=λ_ c U=>U=t/\c=(none,())) (Q:=λc U=>U=t/\c=(none,())) ?_ (λ_ _ e=>e) #[rfl,rfl]) ?_)
  .rintro x c U _ _ ⟨rfl,rfl⟩;refine wpS_bind (wpS_get ?_);rw[aK (by rw[z];exact aP 1)];exact wpS_pure #[rfl,rfl]
  .rintro c U ⟨rfl,rfl⟩;exact wpS_pure (h _ p f u)
end
section
variable{P:Program}{w:World}{A:Around}{E:Value->Shared->Prop}{s:Shared}
def Xy(h:Heap)(v:Value)(a b:Int):Prop:=∃x t u,v=.ref x/\IsTup h x (List.toArray [.int a t,.int b u])
def Tc{a b:Int}{t u:Tok}{k:Bool}{Q:Bool->Shared->Prop}(h:Q (decide (a<b)) s):wpAny (model P w) A (oneLt' k (.int a t) (.int b u)) Q E s:=by
 cases k
 .rw[oneLt'_eq];simp only[Bool.false_eq_true,if_false];exact aD (wpAny_richCompare_same (op:=.Lt) (typeIs_int s a t) (typeIs_int s b u) slot_int_lt (call_int_lt #[by simp,wpAny_truthy_bool h]))
 .exact oneLt_int h
def jVX(b:Bool)(x y:Value):keyLt' (tuples' b) x y=(do
  let T ←Builtin.List.listItems x;let M ←Builtin.List.listItems y
  for ((p,q),i)in (T.toList.zip M.toList).zipIdx do
   if !(←eqBool p q)then return ←oneLt' (b&&i==0) p q
  return T.size<M.size):=rfl
def jUc{k:Bool}{x y:Value}{a b c d:Int}{Q:Bool->Shared->Prop}(hx:Xy s.heap x a b)(hy:Xy s.heap y c d)(h:Q (decide (a<c∨a=c/\b<d)) s):wpAny (model P w) A (keyLt' (tuples' k) x y) Q E s:=by
 obtain⟨x,t,u,rfl,o,ho,hc,n,hd⟩:=hx;obtain⟨y,U,j,rfl,f,Z,D,l,i⟩:=hy;rw[jVX];refine aD (listItems_at ho hd (aD (listItems_at Z i ?_)));simp only[List.zip_cons_cons,List.zip_nil_left,List.zipIdx_cons,List.zipIdx_nil,List.forIn_cons,List.forIn_nil,bind_assoc,Nat.zero_add];refine aD (wpAny_eqBool_int ?_);by_cases e:a=c
 .simp only[e,beq_self_eq_true,Bool.not_true,Bool.false_eq_true,if_false,pure_bind];refine aD (aD (wpAny_eqBool_int ?_));by_cases g:b=d
  .simp only[g,beq_self_eq_true,Bool.not_true,Bool.false_eq_true,if_false,pure_bind];refine aT (aT ?_);rw[e,g]at h;simpa using h
  .simp only[beq_eq_false_iff_ne.mpr g,Bool.not_false,if_true,bind_assoc,pure_bind];refine aD (Tc (aT (aT ?_)));rw[e]at h;simpa using h
 .simp only[beq_eq_false_iff_ne.mpr e,Bool.not_false,if_true,bind_assoc,pure_bind];refine aD (Tc (aT ?_));simpa [e]using h
def Tn:∀{vs:List Value},(∀v∈vs,∃a b,Xy s.heap v a b)->∀{Q:List (Option Value)->Shared->Prop},(∀is:List Int,is.length=vs.length->∀g:List Value,IntsAre g is->Q (g.map some) s)->wpAny (model P w) A (vs.mapM firstOfTuple') Q E s
 | [],_,_,h=>by simp only[List.mapM_nil];exact aT (h [] rfl [] .nil)
 |v::vs,hv,Q,h=>by
  rw[List.mapM_cons];obtain⟨a,b,x,t,u,rfl,o,ho,hc,n,hd⟩:=hv v (bQ ..);refine aD (m:=firstOfTuple' (.ref x)) ?_;show wpAny _ _ (do
   if(←typeOf (.ref x)) != .type "tuple" then return none
   return (←Builtin.List.listItems (.ref x))[0]?) _ _ _
  refine aD (wpAny_typeOf (T:="tuple") #[o,ho,hc] ?_);rw[aF (by simp)];refine aD (listItems_at ho hd (aT ?_));refine aD (Tn (λv h=>hv v (bI _ h)) λis e g i=>aT ?_);exact h (a::is) (by rw[cP,cP,e]) (.int a t::g) (.cons a t i)
def kind_pr{d:Value}(hv:∀v∈d::vs,∃a b,Xy s.heap v a b){Q:SortKind->Shared->Prop}(h:Q (tuples' true) s):wpAny (model P w) A (keyKind' (d::vs).toArray) Q E s:=by
 rw[keyKind'_eq,List.mapM_toArray];refine aD (wpAny_map ?_);refine Tn hv λis e g i=>?_;obtain⟨g,a,t,rfl⟩:∃c a t,g=Value.int a t::c:=by
  cases i with
  |nil=>cases e
  |cons a t i=>exact#[_,a,t,rfl]
 rw[aK (by simp)];refine aD (wpAny_rule ?_);have z:((Value.int a t::g).map some).toArray.filterMap id=(Value.int a t::g).toArray:=by simp
 rw[z,oneTypeOnly'_eq,List.mapM_toArray,mapM_typeOf_ints i];simp only[map_pure,pure_bind];have u:((List.map (λ_=>Value.type "int") (Value.int a t::g)).toArray.all λx=>x==Value.type "int")=true:=by
  simp only[List.all_toArray,List.all_map,List.all_eq_true];intro _ _;rfl
 have D:(List.map (λ_=>Value.type "int") (Value.int a t::g)).toArray[0]?=some (Value.type "int"):=by simp
 rw[D];simp only[u,if_true,pure_bind];exact aT h
end
section
variable{P:Program}{w:World}{A:Around}{E:Value->Shared->Prop}{s:Shared}{kf:Value->Int}
def Xy.keep{h h':Heap}{a:Addr}{xs:Array Value}{n:Nat}(ho:h.get? a=some (seqObj "list" xs n))(k:∀b o,b≠a->h.get? b=some o->h'.get? b=some o){v:Value}{x y:Int}:Xy h v x y->Xy h' v x y:=by
 rintro⟨b,t,u,rfl,o,hb,hc,m,hd⟩;refine#[b,t,u,rfl,o,k b o ?_ hb,hc,m,hd];rintro rfl;rw[ho]at hb;obtain rfl:=aU hb;exact absurd (Value.type.inj hc) (by decide)
noncomputable abbrev PrK(kf:Value->Int)(h:Heap)(v:Value):Prop:=∃a b,Xy h v a b/\kf v=1000*a+b/\-500<b/\b<500
def lt_pr{a₀:Array Keyed}(hv:∀p∈a₀.toList,PrK kf s.heap p.1):LtH (model P w) A E s kf (tuples' true) a₀:=by
 intro st i j Q B hi Z h;have g:∀{i},i<a₀.size->∃p,(arrOf st)[i]?=some p/\PrK kf s.heap p.1:=fun{i} hi=>by
  have hi:i<(arrOf st).size:=by rw[B.size];exact hi
  exact#[_,getElem?_pos _ i hi,hv _ ((Array.perm_iff_toList_perm.mp B.perm).mem_iff.mp (by simp))]
 obtain⟨p,U,a,b,hp,kp,t,I⟩:=g hi;obtain⟨q,eq,c,d,F,m,u,k⟩:=g Z;have e1:kv kf (arrOf st) i=kf p.1:=by unfold kv;rw[U]
 have C:kv kf (arrOf st) j=kf q.1:=by unfold kv;rw[eq]
 rw[e1,C,kp,m]at h;rw[ltAt'_eq];refine wpS_bind (wpS_get ?_);show wpS _ _ _ _ (do let x ←elem' (arrOf st) i;let y ←elem' (arrOf st) j;lt' x y) Q st;rw[elem'_eq,elem'_eq,U,eq];refine wpS_bind (wpS_pure (wpS_bind (wpS_pure ?_)));rw[lt'_eq];refine wpS_bind (wpS_get ?_);rw[B.kind];refine wpS_bind (wpS_lift (wpAny_attempt (jUc hp F #[rfl,?_])));refine wpS_pure ?_;rw[show decide (a<c∨a=c/\b<d)=decide (1000*a+b<1000*c+d) by congr 1;exact propext #[]];exact h
def sort_pr{a:Addr}{n:Nat}{R:Fin->Shared->Prop}(ho:s.heap.get? a=some (seqObj "list" vs.toArray n))(hv:∀v∈vs,PrK kf s.heap v)(F:vs.length<64)
  (h:∀g:List Value,g.Perm vs->g.Pairwise (λx y=>kf x<=kf y)->R (.done (.ret .none)) { s with heap:=sortedHeap s.heap a vs g.toArray }):wpAny (model P w) A (Builtin.«list.sort» #[[.ref a],[]]) R E s:=by
 rw[list_sort_plain];have ha:a<s.heap.objs.size:=bC ho;refine aD (listItems_at ho rfl (aD (listUpdate_at ho rfl ?_)));obtain⟨e1,D⟩:∃e1,(s.heap.update a (Obj.mapSeq λ_=>(List.toArray []))).get? a=some (seqObj "list" (List.toArray []) e1):=#[_,get?_update_seq ho (λ_=>(List.toArray []))];refine aD (seqEpoch_at D rfl (aD (wpAny_newTuple (aD (wpAny_newList (wpAny_holding ?_))))));have kp:∀b o,s.heap.get? b=some o->b<s.heap.objs.size:=λb o e=>bC e;generalize H:((s.heap.update a (Obj.mapSeq λ_=>(List.toArray []))).push (seqObj "tuple" vs.toArray 0)).push (seqObj "list" (List.toArray []) 0)=t;have J:∀b,b<s.heap.objs.size->t.get? b=(s.heap.update a (Obj.mapSeq λ_=>(List.toArray []))).get? b:=λb l=>by
  rw[←H,Heap.get?_push_ne _ _ _ (by rw[size_push',Heap.size_update];exact bL (Nat.lt_succ_of_lt l)),Heap.get?_push_ne _ _ _ (by rw[Heap.size_update];exact bL l)]
 have G:t.get? a=some (seqObj "list" (List.toArray []) e1):=by rw[J a ha];exact D
 have I:∀v∈vs,PrK kf t v:=λv m=>by
  obtain⟨x,y,p,r⟩:=hv v m;exact#[x,y,p.keep ho (λb o n e=>by rw[J b (kp b o e),Heap.get?_update_ne _ _ _ _ n];exact e),r]
 show wpAny (model P w) A _ R E { s with heap:=t };dsimp only;have sz:vs.toArray.size=vs.length:=by simp
 have fin:∀st:SortSt,(arrOf st).Perm (pairsOf vs)->failedOf st=none->Up (kv kf (arrOf st)) (pairsOf vs).size->wpAny (model P w) A (do
   let z:=(arrOf st).map (·.2);let k:=(←seqEpoch a) !=e1
   Builtin.List.listUpdate (.ref a) λ_=>z
   if let some e:=failedOf st then rule "list.sort.comparison-raised";throw e
   if k then rule "list.sort.modified";raiseError "ValueError" "list modified during sort"
   ret .none) R E { s with heap:=t }:=by
  intro st hp hf u;have S:(arrOf st).toList.Perm (vs.zip vs):=by rw[←pairsOf_toList];exact Array.perm_iff_toList_perm.mp hp
  have hm:∀p∈(arrOf st).toList,p.1=p.2:=λp m=>(mem_zip_self (S.mem_iff.mp m)).1;have C:((arrOf st).map (·.2)).toList=(arrOf st).toList.map (·.1):=by
   rw[Array.toList_map];exact eP λp m=>(hm p m).symm
  refine aD (seqEpoch_at G rfl ?_);refine aD (listUpdate_at G rfl ?_ (hsz2:=by refine dE (Nat.le_of_eq ((Array.size_map ..).trans (hp.size_eq.trans (pairsOf_size _)))) ?_;rw[sizeLine_eq];lia));rw[hf];simp only[bne_self_eq_false,Bool.false_eq_true,if_false];have q:=h ((arrOf st).map (·.2)).toList (by
   have:=S.map (·.1);rw[List.map_fst_zip (aP _)]at this;rw[C];exact this) (by
   rw[C,List.pairwise_iff_getElem];intro i j hi Z l;have K:i<(arrOf st).size:=by simpa using hi
   have B:j<(arrOf st).size:=by simpa using Z
   have:=u i j (jB l) (by rw[←hp.size_eq];exact B);unfold kv at this;rw[getElem?_pos _ i K,getElem?_pos _ j B]at this;simpa using this)
  refine aT ?_;have M:sortedHeap s.heap a vs ((arrOf st).map (·.2)).toList.toArray=t.update a (Obj.mapSeq λ_=>(arrOf st).map (·.2)):=by rw[←H,Array.toArray_toList];rfl
  rw[M]at q;exact q
 by_cases h2:vs.toArray.size<2
 .rw[aK h2,aK h2];refine aD (aT ?_);rw[StateT.run_pure];refine aD (aT (fin (SortSt.mk' general' (vs.toArray.zip vs.toArray) (List.toArray []) 7 none) (Array.Perm.refl _) rfl ?_));intro i j x y;rw[pairsOf_size]at y;rw[show i=j by lia];exact Int.le_refl _
 .rw[aF h2,aF h2];obtain⟨d,f,rfl⟩:∃d f,vs=d::f:=by
   cases vs with
   |nil=>exact absurd (by decide) h2
   |cons v r=>exact#[v,r,rfl]
  refine aD (kind_pr (λv m=>let⟨x,y,p,_⟩:=I v m;#[x,y,p]) ?_);refine aD (wpAny_mono (s_sort (kf:=kf) (kd:=tuples' true) (a₀:=pairsOf (d::f)) (st:=SortSt.mk' (tuples' true) ((d::f).toArray.zip (d::f).toArray) (List.toArray []) 7 none)
   (Q:=λ_ st=>(arrOf st).Perm (pairsOf (d::f))/\failedOf st=none/\Up (kv kf (arrOf st)) (pairsOf (d::f)).size)
   (lt_pr λp m=>?_) #[Array.Perm.refl _,rfl,rfl,rfl] (by rw[pairsOf_size];simp) (by rw[pairsOf_size];exact F) λst a b c=>#[a,b,c]) ?_ λ_ _ e=>e)
  .rw[pairsOf_toList]at m;exact I _ (mem_zip_self m).2
  .rintro⟨⟨⟩,st⟩ N ⟨rfl,hp,hf,hs⟩;exact fin st hp hf hs
def jWn{l:Addr}{Q:Value->Shared->Prop}(S:s.heap.IsList l vs.toArray)(hv:∀v∈vs,PrK kf s.heap v)(F:vs.length<64)
  (h:∀g:List Value,g.Perm vs->g.Pairwise (λx y=>kf x<=kf y)->Q (.ref (s.heap.objs.size+1)) { s with heap:=sortedAll s.heap vs g.toArray }):
  wpAny (model P w) A (call (.builtin "sorted") [.ref l]) Q E s:=by
 refine Calls.call_function_entry kind_sorted plain_sorted entry_sorted (args_sorted1 _) ?_;unfold Builtin.«sorted»;refine aD (m:=checkCount "sorted" 1 1 _) (aT ?_);refine aD (collect_list S (aD (wpAny_newList ?_)) (by rw[sizeLine_eq];lia));have n:((s.heap.push (seqObj "list" (List.toArray []) 0)).update s.heap.objs.size (Obj.mapSeq (·++vs.toArray))).objs.size=s.heap.objs.size+1:=by rw[Heap.size_update,size_push']
 generalize H:((s.heap.push (seqObj "list" (List.toArray []) 0)).update s.heap.objs.size (Obj.mapSeq (·++vs.toArray)))=h1 at n;have J:(h1.push (seqObj "list" vs.toArray 0)).get? (s.heap.objs.size+1)=some (seqObj "list" vs.toArray 0):=by rw[←n];exact cE _ rfl
 have c:∀v∈vs,PrK kf (h1.push (seqObj "list" vs.toArray 0)) v:=λv m=>by
  obtain⟨x,y,⟨b,t,u,rfl,o,hb,hc,hd⟩,r⟩:=hv v m;have lb:=bC hb;refine#[x,y,#[b,t,u,rfl,o,?_,hc,hd],r];rw[Heap.get?_push_ne _ _ _ (by rw[n];exact bL (Nat.lt_succ_of_lt lb)),←H,Heap.get?_update_ne _ _ _ _ (bL lb),Heap.get?_push_ne _ _ _ (bL lb)];exact hb
 show wpAny _ _ _ _ _ { s with heap:=h1.push (seqObj "list" vs.toArray 0) };rw[n];refine aD (wpAny_holding (wpAny_call_entry slot_list_sort #[_,J,rfl] entry_list_sort (sort_pr J c F λg a b=>#[_,rfl,?_]) (args_list_sort _)));refine aT #[_,rfl,?_];have q:=h g a b;unfold sortedAll at q;rw[H]at q;exact q
end
end L2
namespace L2
open PySem PySem.Spec PyProof.Rows
def Rx:∀{ls:List Addr}{us:List Value},fF (ls.map V.ref) us->us=ls.map Value.ref
 | [],_,.nil=>rfl
 |_::_,_,.cons e r=>by rw[Rx r,cA];exact congrArg (·::_) e
def Sv:∀(ls:List Addr),fF (ls.map V.ref) (ls.map Value.ref)
 | []=>.nil
 |_::ls=>.cons rfl (Sv ls)
noncomputable def adr:Value->Addr
 | .ref a=>a
 |_=>0
def Yi(K:aR)(xs:List V)(H:Hp)(Q:VK):Prop:=∃(p:Addr)(ls:List Addr)(kf:Addr->Int),xs=[.ref p]/\SqL K H p (ls.map V.ref)/\ls.length<64/\(∀l∈ls,∃a b:Int,SqT K H l [.int a,.int b]/\kf l=1000*a+b/\-500<b/\b<500)/\
 ∀(P:List Addr)(l:Addr),P.Perm ls->P.Pairwise (λx y=>kf x<=kf y)->H l=none->Q (.ref l) (upd H l (.lst (P.map V.ref)))
def Ts{X:Cx}:wX X (.builtin "sorted") (Yi X.K):=by
 rintro B s O H T g Q I r ⟨p,ls,i,rfl,F,hn,hk,q⟩;obtain⟨u,rfl,J⟩:=wW r;cases J;obtain⟨G,N,k,f⟩:=I.list F;obtain rfl:=Rx N;refine jWn (kf:=λv=>i (adr v)) k.isList (λv m=>?_) (by rw[aA];exact hn) λg a b=>?_
 .obtain⟨l,j,rfl⟩:=cM.mp m;obtain⟨x,y,n,e,b⟩:=hk l j;obtain⟨G,N,d,_⟩:=I.tuple n;cases N with
  |cons r1 N=>cases N with
   |cons r2 N=>
    cases N;obtain⟨t,rfl⟩:=r1;obtain⟨U,rfl⟩:=r2;exact#[x,y,#[l,t,U,rfl,d],e,b]
 .have e:g=(g.map adr).map Value.ref:=by
   rw[List.map_map];refine(List.map_id g).symm.trans (eP λv m=>?_);obtain⟨l,_,rfl⟩:=cM.mp (a.mem_iff.mp m);rfl
  have z:(g.map adr).Perm ls:=by
   have:=a.map adr;rw[List.map_map,show adr∘Value.ref=id from rfl,List.map_id]at this;exact this
  obtain⟨c,ho⟩:=sortedAll_at s.heap (ls.map Value.ref) g.toArray;refine#[.ref _,_,I.laid (t':=s.toks) (λ_ _=>sortedAll_old) (Nat.le_succ _) (show jV X.prog X.w _ _ _ (.lst ((g.map adr).map V.ref))from#[?_,g,c,?_,ho]),rfl,q _ _ z (List.pairwise_map.mpr b) (I.hok.fresh (Nat.le_succ _))]
  .rw[aA,aA,a.length_eq,aA];rw[aA]at f;exact f
  .have:=Sv (g.map adr);rw[←e]at this;exact this
end L2
namespace L2
open PySem
def Tz:bootBuiltins "sorted"=some (.builtin "sorted"):=by decide+kernel
end L2
namespace L2
open PySem PySem.Spec PyProof.Rows
variable{P:List Value->Prop}
noncomputable def mD(st:Stmt):List Str:=(lQ st).args.map (·.arg)
noncomputable def xE(N:List Str)(caps:List Nat):List Str:=caps.filterMap λi=>N[i]?
structure Rm(X:Cx)(k:Nat)(N:List Str)(st:Stmt):Prop where
 r:mK k X.A
 nd:N.Nodup
 sc:X.env.scope=eE st
 nn:X.N=N
 calm:X.calm=true
structure Ok(P:Program)(w:World)(K:aR)(mg:Str->Option Value)(base:Heap)(CX:CXT)(k:Nat)(x:Str)(sp:Sp):Prop where
 ex:∃f fd ps,xN P w K mg base CX k f fd ps sp/\mg x=some (.ref f)/\PySem.W.keepIn K (.ref f)=true/\nN K fd ps []
structure OkM(P:Program)(w:World)(K:aR)(mg:Str->Option Value)(base:Heap)(CX:CXT)(k:Nat)(C:Addr)(m:Str)(sp:Sp):Prop where
 ex:∃f fd ps,xN P w K mg base CX k f fd ps sp/\Meth K C m f/\nN K fd ps []
structure Df(K:aR)(mg:Str->Option Value)(x:Str)(st:Stmt):Prop where
 ex:∃df f fd,xH K x x st df f fd/\nN K fd (mD st) []/\mg x=some (.ref f)
structure Mf(K:aR)(c m q:Str)(st:Stmt):Prop where
 ex:∃f fd,xH K m q st .none f fd/\nN K fd (mD st) []/\Meth K (dY K c) m f
section
variable{P:Program}{w:World}{K:aR}{mg:Str->Option Value}{base:Heap}{x qual:Str}{st:Stmt}{df:Value}{f:Addr}{fd:FuncData}{N ps:List Str}{k:Nat}{sp:Sp}
def xH.ok0(F:xH K x qual st df f fd)(S:uY N ps (eE st))(len:∀vs H Q E,sp vs H Q E->vs.length=ps.length)
  (l:∀(cdv:Value)(A:Around)(outer:List Env)(s:Shared)(H:Hp)(vs:List V)(Q:VK)(E:XK),mK k (A.deeper (envOfC qual (eE st) s.heap.objs.size f cdv))->sp vs H Q E->
   ∃t,PSs (Xw CX0 P w K mg base N qual (eE st) f cdv A outer s H E).nox (kW st) t/\t { nx:=λ_ Z=>Q .non Z,rt:=Q } (start N vs) H):xN P w K mg base CX0 (k+1) f fd ps sp:=by
 obtain⟨Y,D,kV,i,z,C,cdv,ct,m,rfl,U,p⟩:=F.ex;refine fn_of U p S len λA outer s H vs Q E hr O=>?_;obtain⟨t,h,q⟩:=l cdv A outer s H vs Q E hr O;exact#[t,h.nox,q]
noncomputable abbrev Bd0(P:Program)(w:World)(K:aR)(mg:Str->Option Value)(base:Heap)(N:List Str)(qual:Str)(st:Stmt)(k:Nat)(sp:Sp):Prop:=
 ∀{f:Addr}{cdv:Value}{A:Around}{outer:List Env}{s:Shared}{H:Hp}{vs:List V}{Q:VK}{E:XK},Rm (Xw CX0 P w K mg base N qual (eE st) f cdv A outer s H E).nox k N st->sp vs H Q E->
  ∃t:TS,t { nx:=λ_ Z=>Q .non Z,rt:=Q } (start N vs) H/\PSs (Xw CX0 P w K mg base N qual (eE st) f cdv A outer s H E).nox (kW st) t
def Df.ok(D:Df K mg x st)(b:Bd0 P w K mg base N x st k sp)(len:∀{j H Q E},sp j H Q E->j.length=(mD st).length:=by intro _ _ _ _ h;repeat(first |(obtain⟨rfl,_⟩:=h;rfl)|obtain⟨_,h⟩:=h))
  (S:uY N (mD st) (eE st):=by exact#[rfl,rfl,rfl,by decide+kernel,rfl,by decide+kernel,by decide+kernel]):Ok P w K mg base CX0 (k+1) x sp:=
 let⟨_,f,fd,F,hb,hm⟩:=D.ex
 #[f,fd,_,F.ok0 S (λ_ _ _ _ h=>len h) λa A outer s H j Q E hr h=>let⟨t,q,p⟩:=b (f:=f) (cdv:=a) (outer:=outer) #[hr,S.nd,rfl,rfl,rfl] h;#[t,p,q],hm,F.kp,hb]
def xH.fn(F:xH K x x st df f fd)(b:Bd0 P w K mg base N x st k sp)(len:∀{j H Q E},sp j H Q E->j.length=(mD st).length:=by intro _ _ _ _ h;repeat(first |(obtain⟨rfl,_⟩:=h;rfl)|obtain⟨_,h⟩:=h))
  (S:uY N (mD st) (eE st):=by exact#[rfl,rfl,rfl,by decide+kernel,rfl,by decide+kernel,by decide+kernel]):xN P w K mg base CX0 (k+1) f fd (mD st) sp:=
 F.ok0 S (λ_ _ _ _ h=>len h) λa A outer s H j Q E hr h=>let⟨t,q,p⟩:=b (f:=f) (cdv:=a) (outer:=outer) #[hr,S.nd,rfl,rfl,rfl] h;#[t,p,q]
def Mf.ok{c m:Str}(D:Mf K c m qual st)(b:Bd0 P w K mg base N qual st k sp)(len:∀{j H Q E},sp j H Q E->j.length=(mD st).length:=by intro _ _ _ _ h;repeat(first |(obtain⟨rfl,_⟩:=h;rfl)|obtain⟨_,h⟩:=h))
  (S:uY N (mD st) (eE st):=by exact#[rfl,rfl,rfl,by decide+kernel,rfl,by decide+kernel,by decide+kernel]):OkM P w K mg base CX0 (k+1) (dY K c) m sp:=
 let⟨f,fd,F,hb,hm⟩:=D.ex
 #[f,fd,_,F.ok0 S (λ_ _ _ _ h=>len h) λa A outer s H j Q E hr h=>let⟨t,q,p⟩:=b (f:=f) (cdv:=a) (outer:=outer) #[hr,S.nd,rfl,rfl,rfl] h;#[t,p,q],hm,hb]
end
section
variable{X:Cx}{k j:Nat}{C:Addr}{sp:Sp}{E:XK}{x m c:Str}{p pos apos:Pos}{e o:Expr}{es:List Expr}{ta:TE}{t:TA}
def c0(F:Ok X.prog X.w X.K X.mg X.base CX0 k x sp)(hr:mK j X.A)(ha:PA X (e::es) t)(hk:k<=j:=by decide)(hg:Gl X x:=by rfl)(a:(x==("__debug__":Str))=false:=by decide)(D:starEach (e::es) X.env=(false,eval e X.env)::starEach es X.env:=by rfl)(hpl:(backTo pos (starEach es X.env)).any (·.1)=false:=by rfl):
  PE X (.Call (.Name x p) (e::es) [] pos) (cC sp [] E0 t):=
 let⟨_,_,_,F,hm,hp,hb⟩:=F.ex
 jYj F (hr.mono hk) hg hm hp hb .nil Yd ha a D hpl
def m1{pl:Sem Bool}(D:PE X o ta)(c:Cls X.K C)(F:OkM X.prog X.w X.K X.mg X.base CX0 k C m sp)(hr:mK j X.A)(ha:PA X (e::es) t)(hk:k<=j:=by decide)
  (b:starEach (e::es) X.env=(false,eval e X.env)::starEach es X.env:=by rfl) (hpl:(backTo pos (starEach es X.env)).any (·.1)=false:=by rfl)
  (y:eval (.Call (.Attribute o m apos) (e::es) [] pos) X.env=(do
   let G ←eval o X.env
   standAt apos.atName
   let(f,first) ←holding [G] (getMethod G m pl)
   callWith pos f first (backTo pos (starEach (e::es) X.env)) (backToKw pos (keywordEach [] X.env))):=by rfl):
  PE X (.Call (.Attribute o m apos) (e::es) [] pos) (eZ C m sp [] E0 ta t):=
 let⟨_,_,_,F,hm,hb⟩:=F.ex
 pe_meth D c hm F (hr.mono hk) hb .nil Yd ha b hpl y
def m0{pl:Sem Bool}(D:PE X o ta)(c:Cls X.K C)(F:OkM X.prog X.w X.K X.mg X.base CX0 k C m sp)(hr:mK j X.A)(hk:k<=j:=by decide)
  (y:eval (.Call (.Attribute o m apos) [] [] pos) X.env=(do
   let G ←eval o X.env
   standAt apos.atName
   let(f,first) ←holding [G] (getMethod G m pl)
   callWith pos f first (backTo pos (starEach [] X.env)) (backToKw pos (keywordEach [] X.env))):=by rfl):
  PE X (.Call (.Attribute o m apos) [] [] pos) (eZ C m sp [] E0 ta bE):=
 let⟨_,_,_,F,hm,hb⟩:=F.ex
 jV7 D c hm F (hr.mono hk) hb .nil Yd y
def mk0(M:PySem.W.makesIn X.K C=true/\PySem.W.keepIn X.K (.ref C)=true)(F:OkM X.prog X.w X.K X.mg X.base CX0 k C "__init__" sp)(hr:mK j X.A)(hm:X.mg x=some (.ref C))(ha:PA X (e::es) t)(hk:k+1<=j:=by decide)(hg:Gl X x:=by rfl)(a:(x==("__debug__":Str))=false:=by decide)
  (D:starEach (e::es) X.env=(false,eval e X.env)::starEach es X.env:=by rfl) (hpl:(backTo pos (starEach es X.env)).any (·.1)=false:=by rfl):PE X (.Call (.Name x p) (e::es) [] pos) (Bb C sp [] E0 t):=
 let⟨_,_,_,F,hi,hb⟩:=F.ex
 pe_make #[M.1,hi.at_,hi.fn,M.2] F (hr.mono hk) hg hm hb .nil Yd ha a D hpl
end
section
variable{X:Cx}{k:Nat}{N:List Str}{st:Stmt}{i j:Nat}{x y:Str}{px py pos tp:Pos}{iter e elt tst:Expr}{body:List Stmt}{scope:Scope}{caps:List Nat}{te:TE}{tt:TT}{wi:TI}{tb:TS}
def sA(R:Rm X k N st)(D:PE X e te)(hi:N[i]?=some x:=by rfl)(hx:Loc (eE st) x:=by first |exact .inl rfl |exact .inr rfl)(hs:swapsWith e (some (.Name x px)) pos.line X.env=pure false:=by rfl)(hf:X.fn x=true∨X.env.scope.names.lookup x=some .local:=by first |exact .inl rfl |exact .inr rfl):
  PS X (.Assign [.Name x px] e pos) (cN te (aY i)):=ps_set (by rw[R.nn];exact R.nd) (by rw[R.nn];exact hi) (by rw[R.sc];exact hx) D hs hf
def gN(R:Rm X k N st)(hi:N[i]?=some x:=by rfl)(hx:Loc (eE st) x:=by first |exact .inl rfl |exact .inr rfl)(hf:X.fn x=true∨X.env.scope.names.lookup x=some .local:=by first |exact .inl rfl |exact .inr rfl):PG X (.Name x px) (aY i):=
 jYi (by rw[R.nn];exact R.nd) (by rw[R.nn];exact hi) (by rw[R.sc];exact hx) hf
def gN2{n:Nat}(R:Rm X k N st)(hi:N[i]?=some x:=by rfl)(hx:Loc (eE st) x:=by first |exact .inl rfl |exact .inr rfl)(hf:X.fn x=true∨X.env.scope.names.lookup x=some .local:=by first |exact .inl rfl |exact .inr rfl)
  (Z:N[j]?=some y:=by rfl) (hy:Loc (eE st) y:=by first |exact .inl rfl |exact .inr rfl) (hg:X.fn y=true∨X.env.scope.names.lookup y=some .local:=by first |exact .inl rfl |exact .inr rfl)
  (b:(assignEach [.Name x px,.Name y py] X.env).findIdx? (·.1)=none:=by rfl):PG X (.Tuple [.Name x px,.Name y py] n tp) (jR X.K 2 (dZ (aY i) (dZ (aY j) jS))):=
 jZX (n:=2) R.calm (sY (gN R hi hx hf) (sY (gN R Z hy hg) Wg)) rfl b
def fA{r:Expr}{g:TG}(R:Rm X k N st)(hi:PI X r iter wi)(hg:PG X r g)(hb:PSs X body tb)(hp:PassesOwn (model X.prog X.w) X.A X.env X.xe:=by first |exact PassesOwn.never |exact PassesOwn.leaving)(hs:∀x,foldedSetIterable iter X.env x=pure x:=by intro _;rfl):
  PS X (.For r iter body [] pos) (gP wi g tb):=ps_for hp R.calm hi hg hb hs
def wA{c:Expr}{g:TT}(hc:PT X c g)(hb:PSs X body tb)(hp:PassesOwn (model X.prog X.w) X.A X.env X.xe:=by first |exact PassesOwn.never |exact PassesOwn.leaving):PS X (.While c body [] pos) (qE g tb):=jV5 hp hc hb
def kA(R:Rm X k N st)(hi:PI X (.Name x px) iter wi)(D:∀s H ex pn,PE (fH X scope (x::xE N caps) s H ex pn) elt te)(hs:∀v,foldedSetIterable iter X.env v=pure v:=by intro _;rfl)
  (S:rZ (eE st) scope N x (xE N caps) caps:=by exact#[by decide+kernel,rfl,by decide+kernel,rfl,by decide+kernel,rfl,by decide+kernel,rfl,by decide+kernel]):PE X (.ListComp elt [#[.Name x px,iter,[],0]] scope pos) (dH wi caps te):=
 pe_comp S R.sc R.nn R.calm hi D hs
def sK(R:Rm X k N st)(hi:PI X (.Name x px) iter wi)(D:∀s H ex pn,PE (fH X scope (x::xE N caps) s H ex pn) elt te)(hs:∀v,foldedSetIterable iter X.env v=pure v:=by intro _;rfl)
  (S:rZ (eE st) scope N x (xE N caps) caps:=by exact#[by decide+kernel,rfl,by decide+kernel,rfl,by decide+kernel,rfl,by decide+kernel,rfl,by decide+kernel]) (Z:N[j]?=some y:=by rfl) (hy:Loc (eE st) y:=by first |exact .inl rfl |exact .inr rfl)
  (c:swapsWith (.ListComp elt [#[.Name x px,iter,[],0]] scope pos) (some (.Name y py)) tp.line X.env=pure true:=by rfl) (hf:X.fn y=true∨X.env.scope.names.lookup y=some .local:=by first |exact .inl rfl |exact .inr rfl):
  PS X (.Assign [.Name y py] (.ListComp elt [#[.Name x px,iter,[],0]] scope pos) tp) (cN (dH wi caps te) (aY j)):=
 jXV S R.sc R.nn R.calm (by rw[R.nn];exact R.nd) (by rw[R.nn];exact Z) (by rw[R.sc];exact hy) hi D c hs hf
def kI(R:Rm X k N st)(hi:PI X (.Name x px) iter wi)(P:∀s H ex pn,PT (fH X scope (x::xE N caps) s H ex pn) tst tt)(D:∀s H ex pn,PE (fH X scope (x::xE N caps) s H ex pn) elt te)(hs:∀v,foldedSetIterable iter X.env v=pure v:=by intro _;rfl)
  (S:rZ (eE st) scope N x (xE N caps) caps:=by exact#[by decide+kernel,rfl,by decide+kernel,rfl,by decide+kernel,rfl,by decide+kernel,rfl,by decide+kernel]):PE X (.ListComp elt [#[.Name x px,iter,[tst],0]] scope pos) (pI wi caps tt te):=
 jV9 S R.sc R.nn R.calm hi P D hs
def sKI(R:Rm X k N st)(hi:PI X (.Name x px) iter wi)(P:∀s H ex pn,PT (fH X scope (x::xE N caps) s H ex pn) tst tt)(D:∀s H ex pn,PE (fH X scope (x::xE N caps) s H ex pn) elt te)(hs:∀v,foldedSetIterable iter X.env v=pure v:=by intro _;rfl)
  (S:rZ (eE st) scope N x (xE N caps) caps:=by exact#[by decide+kernel,rfl,by decide+kernel,rfl,by decide+kernel,rfl,by decide+kernel,rfl,by decide+kernel]) (Z:N[j]?=some y:=by rfl) (hy:Loc (eE st) y:=by first |exact .inl rfl |exact .inr rfl)
  (c:swapsWith (.ListComp elt [#[.Name x px,iter,[tst],0]] scope pos) (some (.Name y py)) tp.line X.env=pure true:=by rfl) (hf:X.fn y=true∨X.env.scope.names.lookup y=some .local:=by first |exact .inl rfl |exact .inr rfl):
  PS X (.Assign [.Name y py] (.ListComp elt [#[.Name x px,iter,[tst],0]] scope pos) tp) (cN (pI wi caps tt te) (aY j)):=
 jJi S R.sc R.nn R.calm (by rw[R.nn];exact R.nd) (by rw[R.nn];exact Z) (by rw[R.sc];exact hy) hi P D c hs hf
def g2{s:Shared}{H:Hp}{ex:List Addr}{pn:List (Addr×Obj)}{ys:List Str}{n:Nat}(hc:X.calm=true)(nd:(x::y::ys).Nodup)(hx:scope.names.lookup x=some .local)(hy:scope.names.lookup y=some .local)(b:(assignEach [.Name x px,.Name y py] (fH X scope (x::y::ys) s H ex pn).env).findIdx? (·.1)=none):
  PG (fH X scope ([x,y]++ys) s H ex pn) (.Tuple [.Name x px,.Name y py] n tp) (jR X.K 2 (dZ (aY 0) (dZ (aY 1) jS))):=
 jZX (n:=2) hc (sY (oR nd rfl hx) (sY (oR nd rfl hy) Wg)) rfl b
def kG{n:Nat}(R:Rm X k N st)(hi:PI X (.Tuple [.Name x px,.Name y py] n tp) iter wi)(D:∀s H ex pn,PE (fH X scope ([x,y]++xE N caps) s H ex pn) elt te)(hs:∀v,foldedSetIterable iter X.env v=pure v:=by intro _;rfl)
  (S:jU (eE st) scope N [x,y] (xE N caps) caps:=by exact#[by decide+kernel,rfl,by decide+kernel,by decide+kernel,rfl,by decide+kernel,rfl]) (nd:(x::y::xE N caps).Nodup:=by decide+kernel) (hx:scope.names.lookup x=some .local:=by rfl) (hy:scope.names.lookup y=some .local:=by rfl)
  (b:∀s H ex pn,(assignEach [.Name x px,.Name y py] (fH X scope (x::y::xE N caps) s H ex pn).env).findIdx? (·.1)=none:=by intro _ _ _ _;rfl):PE X (.ListComp elt [#[.Tuple [.Name x px,.Name y py] n tp,iter,[],0]] scope pos) (iI wi 2 caps (jR X.K 2 (dZ (aY 0) (dZ (aY 1) jS))) te):=
 jUJ S R.sc R.nn R.calm hi (λs H ex pn=>g2 R.calm nd hx hy (b s H ex pn)) D hs
def sG{n:Nat}{z:Str}{w t:Pos}(R:Rm X k N st)(hi:PI X (.Tuple [.Name x px,.Name y py] n tp) iter wi)(D:∀s H ex pn,PE (fH X scope ([x,y]++xE N caps) s H ex pn) elt te)(hs:∀v,foldedSetIterable iter X.env v=pure v:=by intro _;rfl)
  (S:jU (eE st) scope N [x,y] (xE N caps) caps:=by exact#[by decide+kernel,rfl,by decide+kernel,by decide+kernel,rfl,by decide+kernel,rfl]) (nd:(x::y::xE N caps).Nodup:=by decide+kernel) (hx:scope.names.lookup x=some .local:=by rfl) (hy:scope.names.lookup y=some .local:=by rfl)
  (b:∀s H ex pn,(assignEach [.Name x px,.Name y py] (fH X scope (x::y::xE N caps) s H ex pn).env).findIdx? (·.1)=none:=by intro _ _ _ _;rfl) (Z:N[j]?=some z:=by rfl) (hz:Loc (eE st) z:=by first |exact .inl rfl |exact .inr rfl)
  (c:swapsWith (.ListComp elt [#[.Tuple [.Name x px,.Name y py] n tp,iter,[],0]] scope pos) (some (.Name z w)) t.line X.env=pure true:=by rfl) (hf:X.fn z=true∨X.env.scope.names.lookup z=some .local:=by first |exact .inl rfl |exact .inr rfl):
  PS X (.Assign [.Name z w] (.ListComp elt [#[.Tuple [.Name x px,.Name y py] n tp,iter,[],0]] scope pos) t) (cN (iI wi 2 caps (jR X.K 2 (dZ (aY 0) (dZ (aY 1) jS))) te) (aY j)):=
 jJj S R.sc R.nn R.calm (by rw[R.nn];exact R.nd) (by rw[R.nn];exact Z) (by rw[R.sc];exact hz) hi (λs H ex pn=>g2 R.calm nd hx hy (b s H ex pn)) D c hs hf
end
section
variable{K:aR}{h:Heap}{mg:Str->Option Value}{x m q c:Str}{st:Stmt}{f C:Addr}{oc kV dc pm cd ct:Value}{od an:Option Addr}{sl:Array (Option Value)}
def ar1(h:∀a,P [a]):∀g:List Value,g.length=1->P g
 | [],e=>nomatch e
 | [a],_=>h a
 |_::_::_,e=>nomatch e
def ar2(h:∀a b,P [a,b]):∀g:List Value,g.length=2->P g
 | [],e=>nomatch e
 |a::g,e=>ar1 (P:=λl=>P (a::l)) (h a) g (Nat.succ.inj e)
def ar3(h:∀a b c,P [a,b,c]):∀g:List Value,g.length=3->P g
 | [],e=>nomatch e
 |a::g,e=>ar2 (P:=λl=>P (a::l)) (h a) g (Nat.succ.inj e)
def ar4(h:∀a b c d,P [a,b,c,d]):∀g:List Value,g.length=4->P g
 | [],e=>nomatch e
 |a::g,e=>ar3 (P:=λl=>P (a::l)) (h a) g (Nat.succ.inj e)
def ar5(h:∀a b c d e,P [a,b,c,d,e]):∀g:List Value,g.length=5->P g
 | [],e=>nomatch e
 |a::g,e=>ar4 (P:=λl=>P (a::l)) (h a) g (Nat.succ.inj e)
noncomputable abbrev Bnd(x q:Str)(st:Stmt):Prop:=∀(kV i pm:Value)(an:Option Addr)(cdv ct:Value)(us:List Value),us.length=(mD st).length->bindArgs (PySem.W.fnOf x q (lQ st) (kW st) (eE st) .none kV i pm an cdv ct) #[us,[]]=pure ((mD st).zip us)
def Df.mk'(X:K.In h)(G:h.Ns mainGlobals mg)(a:PySem.W.nsIn K mainGlobals x=some (some (.ref f)))(l:K.lookup f=some #[oc,od,.func (PySem.W.fnOf x x (lQ st) (kW st) (eE st) .none kV dc pm an cd ct),sl])(c:PySem.W.codeIn K cd x=true)(k:PySem.W.keepIn K (.ref f)=true)
  (b:Bnd x x st:=by first |exact λ_ _ _ _ _ _=>L2.ar1 λ_=>rfl |exact λ_ _ _ _ _ _=>L2.ar2 λ_ _=>rfl |exact λ_ _ _ _ _ _=>L2.ar3 λ_ _ _=>rfl |exact λ_ _ _ _ _ _=>L2.ar4 λ_ _ _ _=>rfl |exact λ_ _ _ _ _ _=>L2.ar5 λ_ _ _ _ _=>rfl):Df K mg x st:=
 have F:xH K x x st .none f _:=#[#[oc,od,kV,dc,pm,an,cd,ct,sl,rfl,l,c],k]
 #[_,f,_,F,F.binds b,PySem.W.mg_of X G a]
def Mf.mk'(y:PySem.W.nsIn K mainGlobals c=some (some (.ref C)))(a:PySem.W.findIn K (.ref C) m=some (some (.ref f)))(i:PySem.W.isFn K (.ref f)=true)(l:K.lookup f=some #[oc,od,.func (PySem.W.fnOf m q (lQ st) (kW st) (eE st) .none kV dc pm an cd ct),sl])(d:PySem.W.codeIn K cd q=true)(k:PySem.W.keepIn K (.ref f)=true)
  (b:Bnd m q st:=by first |exact λ_ _ _ _ _ _=>L2.ar1 λ_=>rfl |exact λ_ _ _ _ _ _=>L2.ar2 λ_ _=>rfl |exact λ_ _ _ _ _ _=>L2.ar3 λ_ _ _=>rfl |exact λ_ _ _ _ _ _=>L2.ar4 λ_ _ _ _=>rfl |exact λ_ _ _ _ _ _=>L2.ar5 λ_ _ _ _ _=>rfl):Mf K c m q st:=
 have F:xH K m q st .none f _:=#[#[oc,od,kV,dc,pm,an,cd,ct,sl,rfl,l,d],k]
 #[f,_,F,F.binds b,by rw[mX y];exact#[a,i,k]]
def law_mk(X:K.In h)(G:h.Ns mainGlobals mg)(a:PySem.W.nsIn K mainGlobals x=some (some (.ref f)))(l:K.lookup f=some #[oc,od,.func (PySem.W.fnOf x x (lQ st) (kW st) (eE st) .none kV dc pm an cd ct),sl])(c:PySem.W.codeIn K cd x=true)(k:PySem.W.keepIn K (.ref f)=true):∃f fd,xH K x x st .none f fd/\mg x=some (.ref f):=
 #[f,_,#[#[oc,od,kV,dc,pm,an,cd,ct,sl,rfl,l,c],k],PySem.W.mg_of X G a]
def Df.mkD{T:Addr}{o:Obj}{items:Array Value}{n:Nat}(X:K.In h)(G:h.Ns mainGlobals mg)(a:PySem.W.nsIn K mainGlobals x=some (some (.ref f)))(l:K.lookup f=some #[oc,od,.func (PySem.W.fnOf x x (lQ st) (kW st) (eE st) (.ref T) kV dc pm an cd ct),sl])(c:PySem.W.codeIn K cd x=true)(k:PySem.W.keepIn K (.ref f)=true)(d:K.lookup T=some o)(hd:o.data=.seq items n)
  (b:∀(kV i pm:Value)(an:Option Addr)(cdv ct:Value)(us:List Value),us.length=(mD st).length->∃k,bindArgs (PySem.W.fnOf x x (lQ st) (kW st) (eE st) (.ref T) kV i pm an cdv ct) #[us,[]]=seqItems? (.ref T)>>=k/\k (some items)=pure ((mD st).zip us)):Df K mg x st:=
 have F:xH K x x st (.ref T) f _:=#[#[oc,od,kV,dc,pm,an,cd,ct,sl,rfl,l,c],k]
 #[_,f,_,F,F.bindsD d hd b,PySem.W.mg_of X G a]
def gi_mk{i:Int}{t:Tok}(X:K.In h)(G:h.Ns mainGlobals mg)(z:PySem.W.nsIn K mainGlobals x=some (some (.int i t))):∃t,mg x=some (.int i t):=#[_,PySem.W.mg_of X G z]
def cls_mk(X:K.In h)(G:h.Ns mainGlobals mg)(y:PySem.W.nsIn K mainGlobals c=some (some (.ref C))):mg c=some (.ref (dY K c)):=by rw[mX y];exact PySem.W.mg_of X G y
def mkc_mk(y:PySem.W.nsIn K mainGlobals c=some (some (.ref C)))(a:PySem.W.makesIn K C=true)(b:PySem.W.keepIn K (.ref C)=true):PySem.W.makesIn K (dY K c)=true/\PySem.W.keepIn K (.ref (dY K c))=true:=by rw[mX y];exact#[a,b]
end
section
variable{X:Cx}{x:Str}{pos:Pos}{a b:Expr}{ta tb:TE}{i:Nat}
def pV(K:X.N[i]?=some x:=by rfl)(hv:Vis X.env.scope x:=by first |exact Or.inl rfl |exact Or.inr (Or.inl rfl)|exact Or.inr (Or.inr rfl))(hd:(x==("__debug__":Str))=false:=by decide)(p:(x==("__classdict__":Str))=false:=by decide):PE X (.Name x pos) (aE i):=pe_var K hv hd p
def iL(ha:PE X a ta)(hb:PE X b tb)(hs:Wx b:=by exact λ_ _=>rfl):PE X (.Subscript a b pos) (tOp (gB X.K) ta tb):=pe_ix ix_list ha hb hs
def iT(ha:PE X a ta)(hb:PE X b tb)(hs:Wx b:=by exact λ_ _=>rfl):PE X (.Subscript a b pos) (tOp (eY X.K) ta tb):=pe_ix ix_tup ha hb hs
end
structure Okd(P:Program)(w:World)(K:aR)(mg:Str->Option Value)(base:Heap)(CX:CXT)(k:Nat)(x:Str)(sp:Sp):Prop where
 ex:∃f fd ps,xN P w K mg base CX k f fd ps sp/\mg x=some (.ref f)/\PySem.W.keepIn K (.ref f)=true/\nN K fd ps []/\nN K fd ps [Value.none]
structure Dfd(K:aR)(mg:Str->Option Value)(x:Str)(st:Stmt):Prop where
 ex:∃df f fd,xH K x x st df f fd/\nN K fd (mD st) []/\nN K fd (mD st) [Value.none]/\mg x=some (.ref f)
section
variable{P:Program}{w:World}{K:aR}{mg:Str->Option Value}{base:Heap}{x:Str}{st:Stmt}{f:Addr}{N:List Str}{k:Nat}{sp:Sp}
def Okd.ok{CX:CXT}(F:Okd P w K mg base CX k x sp):Ok P w K mg base CX k x sp:=let⟨f,fd,ps,a,b,c,d,_⟩:=F.ex;#[f,fd,ps,a,b,c,d]
def Dfd.ok(D:Dfd K mg x st)(b:Bd0 P w K mg base N x st k sp)(len:∀{vs H Q E},sp vs H Q E->vs.length=(mD st).length:=by intro _ _ _ _ h;repeat(first |(obtain⟨rfl,_⟩:=h;rfl)|obtain⟨_,h⟩:=h))
  (S:uY N (mD st) (eE st):=by exact#[rfl,rfl,rfl,by decide+kernel,rfl,by decide+kernel,by decide+kernel]):Okd P w K mg base CX0 (k+1) x sp:=
 let⟨_,f,fd,F,hb,hb2,hm⟩:=D.ex
 #[f,fd,_,F.fn b len S,hm,F.kp,hb,hb2]
def Dfd.mkD{T:Addr}{o:Obj}{items:Array Value}{n:Nat}{h:Heap}{Y kV e z m ct:Value}{D C:Option Addr}{sl:Array (Option Value)}(X:K.In h)(G:h.Ns mainGlobals mg)(a:PySem.W.nsIn K mainGlobals x=some (some (.ref f)))(l:K.lookup f=some #[Y,D,.func (PySem.W.fnOf x x (lQ st) (kW st) (eE st) (.ref T) kV e z C m ct),sl])(c:PySem.W.codeIn K m x=true)(k:PySem.W.keepIn K (.ref f)=true)(d:K.lookup T=some o)(hd:o.data=.seq items n)
  (b:∀(kV i z:Value)(C:Option Addr)(cdv ct:Value)(us:List Value),us.length=(mD st).length->∃k,bindArgs (PySem.W.fnOf x x (lQ st) (kW st) (eE st) (.ref T) kV i z C cdv ct) #[us,[]]=seqItems? (.ref T)>>=k/\k (some items)=pure ((mD st).zip us))
  (I:∀(kV i z:Value)(C:Option Addr)(cdv ct:Value)(us:List Value),us.length=(mD st).length-1->∃k,bindArgs (PySem.W.fnOf x x (lQ st) (kW st) (eE st) (.ref T) kV i z C cdv ct) #[us,[]]=seqItems? (.ref T)>>=k/\k (some items)=pure ((mD st).zip (us++ [Value.none]))):Dfd K mg x st:=
 have F:xH K x x st (.ref T) f _:=#[#[Y,D,kV,e,z,C,m,ct,sl,rfl,l,c],k]
 #[_,f,_,F,F.bindsD d hd b,λs us j S=>by
  rw[bF]at S;obtain⟨k,h1,h2⟩:=I kV e z C m ct us (by rw[←S];rfl);exact BindsTo.of_defaults rfl (j _ _ d) hd h1 h2,PySem.W.mg_of X G a]
end
def c1{X:Cx}{k j:Nat}{sp:Sp}{x:Str}{p pos:Pos}{e:Expr}{es:List Expr}{t:TA}(F:Okd X.prog X.w X.K X.mg X.base CX0 k x sp)(hr:mK j X.A)(ha:PA X (e::es) t)(hk:k<=j:=by decide)(hg:Gl X x:=by rfl)(a:(x==("__debug__":Str))=false:=by decide)(D:starEach (e::es) X.env=(false,eval e X.env)::starEach es X.env:=by rfl)(hpl:(backTo pos (starEach es X.env)).any (·.1)=false:=by rfl):
  PE X (.Call (.Name x p) (e::es) [] pos) (cC sp [.non] E0 t):=
 let⟨_,_,_,F,hm,hp,_,hb⟩:=F.ex
 jYj F (hr.mono hk) hg hm hp hb (.cons rfl .nil) Yd ha a D hpl
end L2
namespace L2
open PySem PySem.Spec PySem.Calls PyProof.Rows PySem.W PySem.W.X in
def walk_x{q:Program}{loose:List Str}{XP:(Str->Option Value)->Heap->Prop}{K:Params->aR}{as:List Addr}{n t:Nat}{r:PySem.W.RowW}{d:DefRec}{kwd:List (Str×Expr)}{run:Value->List Value->Sem Value}
  (e:∀P,as=(K P).map (·.1)) (W:PySem.W.WalkO q loose XP (λw h=>(K w.params).In h) r d kwd run):WalkX q loose XP (obsZ as) (valZ K n t) r d kwd run:=
 λw s₀ s₁ mg mb G y a o pm cd doc dV kV h1 h2 h3 h4 h5 h6 args vals as' L h7 h8 h9 h10 h11=>
  W w s₀ s₁ mg mb G (InK.keeps w _ _ (z_facts e y).2.1 L.keeps) a o pm cd doc dV kV h1 h2 h3 h4 h5 h6 args vals as' h7 h8 h9 h10 h11
end L2
set_option Elab.async false
set_option maxRecDepth 100000
set_option maxHeartbeats 4000000
set_option linter.all false
namespace My
open PySem L2
open List (map range length_map map_append getElem?_eq_getElem mem_of_getElem? getD_eq_getElem?_getD getElem_mem getElem?_map mem_append mem_singleton getElem?_eq_none mem_cons_of_mem mem_map length_append mem_cons_self take_length getElem?_of_mem length_take getElem?_set length_set map_congr_left mem_or_eq_of_mem_set mem_of_mem_take getElem?_append_left getElem?_append_right map_eq_nil_iff map_take take_of_length_le)
noncomputable abbrev NS:=Nat->St->Hp->Prop
open V (ref int)
open HO (lst tup)
variable{A cs ks:eG}{C a ll p:Addr}{E:List Nat->Nat->Rat}{F G H Y Z:Hp}{I:List Nat->List V}{J xs ys:List V}{K:aR}{M v x y:Int}{P ns:List Nat}{Q:VK}{R s:Nat->Nat}{c h i j k m q z:Nat}{d:Type}{e:List Nat->Nat->Int×Int}{f g:Int×Int}{kvs:List (List Key×V)}{lg:eF}{o:HO}{o6:Option V}{ps u:List Addr}
noncomputable abbrev eQ(Q:VK):xI:={ nx:=λ_ Z=>Q .non Z,rt:=Q }
noncomputable abbrev RdS(K:aR)(sp:aR->Sp)(t:aR->TS)(N:List Str):Prop:=∀{vs H Q E},sp K vs H Q E->t K (eQ Q) (start N vs) H
def sz0:0<=sizeLine:=by decide
def sz1:1<=sizeLine:=by decide
def sz2:2<=sizeLine:=by decide
def sz3:3<=sizeLine:=by decide
def Lq0{a:d}{l:List d}:(a::l)[0]?=some a:=rfl
def Lq1{a:d}{l:List d}:(a::l)[i+1]?=l[i]?:=rfl
def Ls0{a b:d}{l:List d}:(a::l).set 0 b=b::l:=rfl
def Ls1{a b:d}{l:List d}:(a::l).set (i+1) b=a::l.set i b:=rfl
def Lca{a:d}{l k:List d}:a::l++k=a::(l++k):=rfl
def Lna{k:List d}:[]++k=k:=rfl
abbrev sM':=sL' `L2 "cB cN aY aE tC tOp tUn rI0 rI rU hV jQ fQ jH Bd gR Bc iU kM rLeI Aw rGeI rEq rNe iO cX gA dD tB Xv eL cC aH bE iX nO tCB Hx iD cIsB tSl mQ iE uP gB eY Ed tOrV Mt tOr Ya Xu iN jR dZ jS gD gE gC"++sL' `My "Lq0 Lq1 Ls0 Ls1 Lca Lna"
local macro_rules|`(tactic|dsimp![$xs,*])=>let l:=sL' `L2 "gD gE gC"++sL' `My "Lq0 Lq1 Ls0 Ls1";let m:=sL' `L2 "V.int.injEq V.ref.injEq V.bl.injEq iA lB iZ"++sL' .anonymous "Option.some.injEq exists_eq_left' List.cons.injEq and_true true_and exists_and_left exists_eq_left and_assoc";`(tactic|(try dsimp only[$xs,*,$[$l:ident],*];try simp only[$xs,*,$[$l:ident],*,$[$m:ident],*]))
local macro_rules|`(tactic|dsimp?[$xs,*])=>let l:=sM';`(tactic|(try dsimp only[$xs,*,$[$l:ident],*];try simp_arith[$xs,*]))
local macro_rules|`(tactic|simp_arith[$xs,*])=>let l:=sM'++sL' `L2 "V.int.injEq V.ref.injEq V.bl.injEq V.ty.injEq cS cT iA lB iZ"++sL' .anonymous "Option.some.injEq exists_eq_left' exists_eq_left List.cons.injEq and_true true_and exists_and_left and_assoc";`(tactic|simp only[$xs,*,$[$l:ident],*])
def jZj(i:Int):(if i<0 then -i else i)=(i.natAbs:Int):=by split<;>lia
def Eu{ns:List Int}{k:Int}(h0:0<=k)(h:k<(ns.length:Int)):atI (map int ns) k=some (.int (ns.getD k.toNat 0)):=by
 have hk:k.toNat<ns.length:=#[];have e:=fD (xs:=map int ns) (j:=k.toNat) (v:=int (ns.getD k.toNat 0)) (by
  rw[aX,aC hk,aN,aC hk];rfl)
 rwa [Int.toNat_of_nonneg h0]at e
def lX{a:d}{l:List d}:atI (a::l) 0=some a:=fD (j:=0) rfl
def lA{a b:d}{l:List d}:atI (a::b::l) 1=some b:=fD (j:=1) rfl
def atI2{a b c:d}{l:List d}:atI (a::b::c::l) 2=some c:=fD (j:=2) rfl
structure Lo(t b x y:Int):Prop where
 pos:0<y
 cop:Int.gcd x y=1
 eq:x*b=t*y
 bx:x.natAbs<=t.natAbs
 by_:y.natAbs<=b.natAbs
def lo_of{t b g q r:Int}(hb:b≠0)(hg:g≠0)(y:t=g*q)(a:b=g*r)(hr:0<r)(hc:Int.gcd q r=1):Lo t b (t.fdiv g) (b.fdiv g):=by
 have e1:t.fdiv g=q:=by rw[y,Int.mul_fdiv_cancel_left _ hg]
 have C:b.fdiv g=r:=by rw[a,Int.mul_fdiv_cancel_left _ hg]
 rw[e1,C];have T:1<=g.natAbs:=#[];refine#[hr,hc,by rw[y,a];rw[Int.mul_left_comm,gO],?_,?_]
 .rw[y,cQ];exact Nat.le_mul_of_pos_left _ T
 .rw[a,cQ];exact Nat.le_mul_of_pos_left _ T
def Jr{t b:Int}(hb:b≠0):∃q r:Int,t=(Int.gcd t b:Nat)*q/\b=(Int.gcd t b:Nat)*r/\Int.gcd q r=1/\0<Int.gcd t b:=by
 have hp:0<Int.gcd t b:=Int.gcd_pos_of_ne_zero_right _ hb;obtain⟨q,F⟩:=Int.gcd_dvd_left (a:=t) (b:=b);obtain⟨r,hr⟩:=Int.gcd_dvd_right (a:=t) (b:=b);refine#[q,r,F,hr,?_,hp];have e:Int.gcd t b=Int.gcd ((Int.gcd t b:Nat)*q) ((Int.gcd t b:Nat)*r):=by rw[←F,←hr]
 rw[Int.gcd_mul_left,Int.natAbs_natCast]at e;exact Nat.eq_of_mul_eq_mul_left hp (by rw[Nat.mul_one];exact e.symm)
def jZa{t b:Int}(hb:0<b):Lo t b (t.fdiv (Int.gcd t b:Nat)) (b.fdiv (Int.gcd t b:Nat)):=by
 obtain⟨q,r,h1,h2,A,y⟩:=Jr (t:=t) (b:=b) #[];refine lo_of (q:=q) (r:=r) #[] #[] h1 h2 ?_ A;rcases Int.lt_trichotomy r 0 with h |h |h
 .have:(Int.gcd t b:Int)*r<0:=Int.mul_neg_of_pos_of_neg #[] h;lia
 .rw[h,cU]at h2;lia
 .exact h
def lo_neg{t b:Int}(hb:b<0):Lo t b (t.fdiv (-(Int.gcd t b:Nat))) (b.fdiv (-(Int.gcd t b:Nat))):=by
 obtain⟨q,r,h1,h2,A,y⟩:=Jr (t:=t) (b:=b) #[];refine lo_of (q:=-q) (r:=-r) #[] #[] (by rw[Int.neg_mul_neg];exact h1) (by rw[Int.neg_mul_neg];exact h2) ?_ (by rw[Int.gcd,Int.natAbs_neg,Int.natAbs_neg];exact A);rcases Int.lt_trichotomy r 0 with h |h |h
 .omega
 .rw[h,cU]at h2;lia
 .have:(Int.gcd t b:Int)*r>0:=bK #[] h;lia
noncomputable def intO:Option V->Int
 |some (.int i)=>i
 |_=>0
noncomputable def dC(K:aR)(H:Hp):List Addr->eF->Prop
 | [],[]=>True
 |p::ps,f::fs=>SqT K H p [.int f.1,.int f.2]/\dC K H ps fs
 |_,_=>False
def Gd(m:Nat)(f:Int×Int):Prop:=0<f.2/\BB m f.1/\BB m f.2
def dC.same(s:aS H Z):∀{ps:List Addr}{fs:eF},dC K H ps fs->dC K Z ps fs
 | [],[],_=>trivial
 |_::_,_::_,h=>#[s.tup h.1,h.2.same s]
 | [],_::_,h=>h.elim
 |_::_,[],h=>h.elim
def dC.length:∀{ps:List Addr}{fs:eF},dC K H ps fs->ps.length=fs.length
 | [],[],_=>rfl
 |_::_,_::_,h=>by rw[cP,cP,h.2.length]
 | [],_::_,h=>h.elim
 |_::_,[],h=>h.elim
def dC.get{K:aR}{H:Hp}:∀{ps:List Addr}{fs:eF}{i:Nat}{p:Addr},dC K H ps fs->ps[i]?=some p->∃f,fs[i]?=some f/\SqT K H p [.int f.1,.int f.2]
 | [],[],_,_,_,e=>by simp at e
 |_::_,f::_,0,_,h,e=>by simp at e;subst e;exact#[f,rfl,h.1]
 |_::_,_::_,i+1,_,h,e=>by
  obtain⟨f,e1,C⟩:=h.2.get (i:=i) (by simpa using e);exact#[f,by simpa using e1,C]
 | [],_::_,_,_,h,_=>h.elim
 |_::_,[],_,_,h,_=>h.elim
def dC.set{q:Addr}(F:SqT K H q [.int g.1,.int g.2]):∀{ps:List Addr}{fs:eF}(i:Nat),dC K H ps fs->dC K H (ps.set i q) (fs.set i g)
 | [],[],_,_=>trivial
 |_::_,_::_,0,h=>#[F,h.2]
 |_::_,_::_,i+1,h=>#[h.1,dC.set F i h.2]
 | [],_::_,_,h=>h.elim
 |_::_,[],_,h=>h.elim
def dC.append{A:List Addr}{w:eF}(F:dC K H A w):∀{ps:List Addr}{fs:eF},dC K H ps fs->dC K H (ps++A) (fs++w)
 | [],[],_=>F
 |_::_,_::_,h=>#[h.1,dC.append F h.2]
 | [],_::_,h=>h.elim
 |_::_,[],h=>h.elim
def dC.off{r:Addr}(hr:H r=some (.lst ys)):∀{ps:List Addr}{fs:eF},dC K H ps fs->dC K (upd H r (.lst J)) ps fs
 | [],[],_=>trivial
 |_::_,_::_,h=>#[h.1.off hr,h.2.off hr]
 | [],_::_,h=>h.elim
 |_::_,[],h=>h.elim
def eC{x:V}(h:(map ref ps)[i]?=some x):∃p,x=.ref p/\ps[i]?=some p:=by
 rw[aX]at h;cases e:ps[i]? with
 |none=>rw[e]at h;cases h
 |some z=>rw[e]at h;exact#[z,(aU h).symm,rfl]
def fR{ns:List Int}{x:V}(h:(map int ns)[i]?=some x):∃c,x=.int c/\ns[i]?=some c:=by
 rw[aX]at h;cases e:ns[i]? with
 |none=>rw[e]at h;cases h
 |some z=>rw[e]at h;exact#[z,(aU h).symm,rfl]
def dO{l:List d}{x:d}(h:l[i]?=some x):l.take (i+1)=l.take i++[x]:=by
 rw[List.take_succ,h];rfl
def jXq{p q:Int}(e:x*q=p*y)(h1:Int.gcd x y=1)(h2:Int.gcd p q=1)(hy:0<y)(F:0<q):x=p/\y=q:=by
 have u:y∣q:=Int.natAbs_dvd_natAbs.mp (Nat.Coprime.dvd_of_dvd_mul_left (m:=x.natAbs) (Nat.Coprime.symm h1) (by rw[←cQ];exact Int.natAbs_dvd_natAbs.mpr #[p,by rw[e,fW]]));have k:q∣y:=Int.natAbs_dvd_natAbs.mp (Nat.Coprime.dvd_of_dvd_mul_left (m:=p.natAbs) (Nat.Coprime.symm h2) (by rw[←cQ];exact Int.natAbs_dvd_natAbs.mpr #[x,by rw[←e,fW]]));have C:y=q:=Int.dvd_antisymm #[] #[] u k;refine#[?_,C];rw[C]at e;exact dN #[] e
noncomputable def WEq(H:Hp)(P:Nat->List V->Prop):Nat->List V->Hp->Prop:=λi J G=>G=H/\P i J
def SEq(H:Hp)(P:Nat->St->Prop):NS:=λi O G=>G=H/\P i O
def glf(g n:Int):Int:=((Int.gcd g n:Nat):Int)
def gl(ns:List Int):Int:=ns.foldl glf 0
def gl_snoc{ns:List Int}{c:Int}(h:ns[i]?=some c):gl (ns.take (i+1))=glf (gl (ns.take i)) c:=by
 unfold gl;rw[dO h,List.foldl_append];rfl
def jY0:∀l:List Int,l.foldl glf 1=1
 | []=>rfl
 |a::r=>by
  have e:glf 1 a=1:=by unfold glf;rw[Int.gcd];simp
  rw[List.foldl_cons,e];exact jY0 r
def gl_one{ns:List Int}(h:gl (ns.take i)=1):gl ns=1:=by
 unfold gl at h⊢;rw[←List.take_append_drop i ns,List.foldl_append,h];exact jY0 _
def Pw:∀(l:List Int)(g:Int),0<=g->0<=l.foldl glf g
 | [],_,h=>h
 |a::r,g,_=>by rw[List.foldl_cons];exact Pw r _ (by unfold glf;lia)
def Tl(ns:List Int):0<=gl ns:=Pw ns 0 (by decide)
def jY1:∀(l:List Int)(g:Int),l.foldl glf g∣g/\∀n∈l,l.foldl glf g∣n
 | [],g=>#[Int.dvd_refl _,λ_ h=>nomatch h]
 |a::r,g=>by
  rw[List.foldl_cons];obtain⟨h1,h2⟩:=jY1 r (glf g a);have u:glf g a∣g:=Int.gcd_dvd_left (a:=g) (b:=a);have k:glf g a∣a:=Int.gcd_dvd_right (a:=g) (b:=a);refine#[jG h1 u,λn hn=>?_];rcases eK.mp hn with rfl |hn
  .exact jG h1 k
  .exact h2 n hn
def gl_dvd{ns:List Int}{n:Int}(h:n∈ns):gl ns∣n:=(jY1 ns 0).2 n h
def Zp:∀(l:List Int),(∀n∈l,n=0)->l.foldl glf 0=0
 | [],_=>rfl
 |a::r,h=>by
  rw[List.foldl_cons,h a bQ];exact Zp r λn hn=>h n (bI _ hn)
def jYU{ns:List Int}(h:∀n∈ns,BB m n):BB m (gl ns):=by
 by_cases f:∃n∈ns,n≠0
 .obtain⟨n,hn,D⟩:=f;refine(h n hn).of_le (Nat.le_of_dvd #[] (Int.natAbs_dvd_natAbs.mpr (gl_dvd hn)))
 .have:gl ns=0:=Zp ns λn hn=>Classical.byContradiction λc=>f #[n,hn,c];rw[this];unfold BB;exact eJ _
noncomputable def uS(ns:List Int):List Int:=if gl ns<2 then ns else ns.map λn=>n.fdiv (gl ns)
def Bl(ns:List Int):(uS ns).length=ns.length:=by
 unfold uS;split
 .rfl
 .rw[aA]
def Pl{ns:List Int}{n:Int}(h:ns[i]?=some n):∃t,(uS ns)[i]?=some t/\t*(if 1>gl ns then 1 else gl ns)=n:=by
 have g0:=Tl ns;have hm:n∈ns:=aJ h;unfold uS;by_cases h2:gl ns<2
 .rw[aK h2];refine#[n,h,?_];have:(if 1>gl ns then(1:Int)else gl ns)=1:=by split<;>lia
  rw[this,fE]
 .rw[aF h2,aF #[]];refine#[n.fdiv (gl ns),by rw[aX,h];rfl,?_];obtain⟨z,f⟩:=gl_dvd hm;have e:n.fdiv (gl ns)=z:=by
   conv=>lhs;rw[f]
   exact Int.mul_fdiv_cancel_left _ #[]
  rw[e,fW];exact f.symm
def Ta{ns:List Int}(h:∀n∈ns,BB m n):∀n∈uS ns,BB m n:=by
 intro t y;obtain⟨i,hi⟩:=cF y;have R:i<ns.length:=by rw[←Bl];exact(aI.mp hi).1
 obtain⟨U,e1,C⟩:=Pl (aC R);rw[hi]at e1;obtain rfl:t=U:=aU e1;refine(h _ (cD R)).of_le ?_;rw[←C,cQ];have g0:=Tl ns;refine Nat.le_mul_of_pos_right _ ?_;split<;>lia
def uW{n:Nat}{k:Int}(h0:0<=k)(h:k<n):ixN n k=some k.toNat:=by
 unfold ixN;rw[aK h0,aK h]
def jVv{b:Addr}{ns:List Int}(ha:SqL K H a (map int ns))(hb:SqL K H b (map int ns)):REq K H (DEq K H 0) (.ref a) (.ref b) true:=by
 refine#[a,b,_,_,rfl,rfl,.inl #[ha,hb,.inr #[rfl,λ_=>true,λj x y hx hy=>?_,?_]]]
 .obtain⟨c,rfl,hc⟩:=fR hx;rw[hx]at hy;obtain rfl:=aU hy;exact .inr #[c,c,rfl,rfl,by simp]
 .symm;rw[List.all_eq_true];intro _ _;rfl
def lcf(n:Int)(f:Int×Int):Int:=n*(f.2.fdiv ((Int.gcd n f.2:Nat):Int))
def lc(fs:eF):Int:=fs.foldl lcf 1
noncomputable def clr(fs:eF):List Int:=fs.map λf=>f.1*((lc fs).fdiv f.2)
def lc_snoc{fs:eF}(h:fs[i]?=some f):lc (fs.take (i+1))=lcf (lc (fs.take i)) f:=by
 unfold lc;rw[dO h,List.foldl_append];rfl
def jZb{n:Int}(hn:0<n)(hb:0<f.2):0<lcf n f/\n∣lcf n f/\f.2∣lcf n f/\(∀M,n∣M->f.2∣M->lcf n f∣M)/\(f.2.fdiv ((Int.gcd n f.2:Nat):Int)).natAbs<=f.2.natAbs:=by
 obtain⟨q,r,h1,h2,A,d⟩:=Jr (t:=n) (b:=f.2) #[];have e:f.2.fdiv ((Int.gcd n f.2:Nat):Int)=r:=by
  conv=>lhs;lhs;rw[h2]
  exact Int.mul_fdiv_cancel_left _ #[]
 unfold lcf;rw[e];generalize Int.gcd n f.2=g at h1 h2 d;have a:0<r:=by
  rcases Int.lt_trichotomy r 0 with h |h |h
  .have:(g:Int)*r<0:=Int.mul_neg_of_pos_of_neg #[] h;lia
  .rw[h,cU]at h2;lia
  .exact h
 refine#[bK hn a,#[r,rfl],#[q,?_],λM u k=>?_,?_]
 .rw[h1,h2];ac_rfl
 .obtain⟨x,hx⟩:=u;obtain⟨y,hy⟩:=k;have C:q*x=r*y:=by
   apply Int.eq_of_mul_eq_mul_left (show(g:Int)≠0 by lia);rw[←gO,←gO,←h1,←h2,←hx,←hy]
  have c:r∣x:=Int.natAbs_dvd_natAbs.mp (Nat.Coprime.dvd_of_dvd_mul_left (m:=q.natAbs) (Nat.Coprime.symm A) (by rw[←cQ];exact Int.natAbs_dvd_natAbs.mpr #[y,C]));obtain⟨z,i⟩:=c;exact#[z,by rw[hx,i,gO]]
 .rw[h2,cQ];exact Nat.le_mul_of_pos_left _ #[]
def Cl:∀(fs:eF)(n:Int),0<n->(∀f∈fs,0<f.2)->0<fs.foldl lcf n/\n∣fs.foldl lcf n/\(∀f∈fs,f.2∣fs.foldl lcf n)/\∀M,n∣M->(∀f∈fs,f.2∣M)->fs.foldl lcf n∣M
 | [],n,hn,_=>#[hn,Int.dvd_refl _,(λ_ h=>nomatch h),λ_ h _=>h]
 |a::r,n,hn,h=>by
  rw[List.foldl_cons];obtain⟨G,R,J,c,_⟩:=jZb hn (h a bQ);obtain⟨t,I,Z,b⟩:=Cl r (lcf n a) G λf hf=>h f (bI _ hf);refine#[t,jG R I,λf hf=>?_,λM u k=>b M (c M u (k a bQ)) λf hf=>k f (bI _ hf)];rcases eK.mp hf with rfl |hf
  .exact jG J I
  .exact Z f hf
def jZc{fs:eF}(h:∀f∈fs,0<f.2):0<lc fs:=(Cl fs 1 (by decide) h).1
def clr_eq{fs:eF}(h:∀f∈fs,0<f.2)(hf:f∈fs):f.1*((lc fs).fdiv f.2)*f.2=f.1*lc fs:=by
 obtain⟨k,hk⟩:=(Cl fs 1 (by decide) h).2.2.1 f hf;have hk:lc fs=f.2*k:=hk;have e:(lc fs).fdiv f.2=k:=by rw[hk];exact Int.mul_fdiv_cancel_left _ (by have:=h f hf;lia)
 rw[e,hk];ac_rfl
def jWX{fs:eF}(h:fs[i]?=some f):(clr fs)[i]?=some (f.1*((lc fs).fdiv f.2)):=by
 unfold clr;rw[aX,h];rfl
noncomputable def eA(H:Hp):List Addr->List (List Int)->Prop
 | [],[]=>True
 |p::ps,r::rs=>H p=some (.lst (map int r))/\eA H ps rs
 |_,_=>False
def eA.same(s:aS H Z):∀{ps:List Addr}{B:List (List Int)},eA H ps B->eA Z ps B
 | [],[],_=>trivial
 |_::_,_::_,h=>#[s _ _ h.1,h.2.same s]
 | [],_::_,h=>h.elim
 |_::_,[],h=>h.elim
def eA.length:∀{ps:List Addr}{B:List (List Int)},eA H ps B->ps.length=B.length
 | [],[],_=>rfl
 |_::_,_::_,h=>by rw[cP,cP,h.2.length]
 | [],_::_,h=>h.elim
 |_::_,[],h=>h.elim
def eA.get{H:Hp}:∀{ps:List Addr}{B:List (List Int)}{i:Nat}{p:Addr},eA H ps B->ps[i]?=some p->∃r,B[i]?=some r/\H p=some (.lst (map int r))
 | [],[],_,_,_,e=>by simp at e
 |_::_,r::_,0,_,h,e=>by simp at e;subst e;exact#[r,rfl,h.1]
 |_::_,_::_,i+1,_,h,e=>by
  obtain⟨f,e1,C⟩:=h.2.get (i:=i) (by simpa using e);exact#[f,by simpa using e1,C]
 | [],_::_,_,_,h,_=>h.elim
 |_::_,[],_,_,h,_=>h.elim
def eA.has{B:List (List Int)}(h:eA H ps B)(hp:p∈ps):∃r,r∈B/\H p=some (.lst (map int r)):=by
 obtain⟨i,hi⟩:=cF hp;obtain⟨r,e1,C⟩:=h.get hi;exact#[r,aJ e1,C]
def eA.append{A:List Addr}{w:List (List Int)}(F:eA H A w):∀{ps:List Addr}{B:List (List Int)},eA H ps B->eA H (ps++A) (B++w)
 | [],[],_=>F
 |_::_,_::_,h=>#[h.1,eA.append F h.2]
 | [],_::_,h=>h.elim
 |_::_,[],h=>h.elim
def eA.snoc{q:Addr}{g:List Int}{B:List (List Int)}(h:eA H ps B)(F:H q=some (.lst (map int g))):eA H (ps++[q]) (B++[g]):=eA.append (show eA H [q] [g]from#[F,trivial]) h
def eA.put{q:Addr}:∀{ps:List Addr}{B:List (List Int)},q∉ps->eA H ps B->eA (upd H q o) ps B
 | [],[],_,_=>trivial
 |p::_,_::_,hn,h=>#[by rw[bZ (λe:p=q=>hn (by rw[e];exact bQ))];exact h.1,eA.put (λz=>hn (bI _ z)) h.2]
 | [],_::_,_,h=>h.elim
 |_::_,[],_,h=>h.elim
def eA.setr{q:Addr}{g:List Int}(F:H q=some (.lst (map int g))):∀{ps:List Addr}{B:List (List Int)}(i:Nat),eA H ps B->eA H (ps.set i q) (B.set i g)
 | [],[],_,_=>trivial
 |_::_,_::_,0,h=>#[F,h.2]
 |_::_,_::_,i+1,h=>#[h.1,eA.setr F i h.2]
 | [],_::_,_,h=>h.elim
 |_::_,[],_,h=>h.elim
def mE{l:List Int}(h:i<l.length):l.getD i 0∈l:=by
 rw[aN,aC h];exact cD h
def lC{l:List Int}(h:i<l.length):atI (map int l) (i:Int)=some (.int (l.getD i 0)):=by
 have:=Eu (ns:=l) (k:=(i:Int)) #[] #[];rwa [bW]at this
def Fh{l:List Int}(h:i<l.length):l[i]?=some (l.getD i 0):=by
 rw[aN,aC h];rfl
def yM{xs:List d}{x:d}(h:xs[xs.length-1]?=some x):atI xs (-1)=some x:=by
 have S:xs.length-1<xs.length:=(aI.mp h).1;unfold atI ixN;rw[aF #[],aK #[]];show xs[(-1+(xs.length:Int)).toNat]?=some x;rw[show(-1+(xs.length:Int)).toNat=xs.length-1 by lia];exact h
noncomputable def lx(a b:List Int)(c:Nat):List Nat->Option Bool
 | []=>none
 |p::r=>if a.getD p 0*b.getD c 0=b.getD p 0*a.getD c 0 then lx a b c r else some (decide (a.getD p 0*b.getD c 0<b.getD p 0*a.getD c 0))
def jYu{a b:List Int}{c:Nat}:∀(l:List Nat),lx b a c l=(lx a b c l).map (!·)
 | []=>rfl
 |p::r=>by
  unfold lx;by_cases h:a.getD p 0*b.getD c 0=b.getD p 0*a.getD c 0
  .rw[aK h,aK h.symm];exact jYu r
  .rw[aF h,aF (λe=>h e.symm)];show some _=some _
   congr 1
   by_cases h2:a.getD p 0*b.getD c 0<b.getD p 0*a.getD c 0
   .rw[decide_eq_true h2,decide_eq_false #[]];rfl
   .rw[decide_eq_false h2,decide_eq_true #[]];rfl
def Zm{a b k:List Int}{c:Nat}(ha:0<a.getD c 0)(hb:0<b.getD c 0)(hk:0<k.getD c 0):∀(l:List Nat),lx a b c l=some true->lx b k c l≠some false->lx a k c l=some true
 | [],h,_=>by cases h
 |p::r,h1,h2=>by
  have m:=Zm ha hb hk r;unfold lx at h1 h2⊢;generalize a.getD c 0=g at*;generalize b.getD c 0=bc at*;generalize k.getD c 0=d at*;generalize a.getD p 0=t at*;generalize b.getD p 0=f at*;generalize k.getD p 0=kp at*;have m1:t*bc*d=t*d*bc:=by ac_rfl
  have m2:f*g*d=f*d*g:=by ac_rfl
  have e:kp*bc*g=kp*g*bc:=by ac_rfl
  have fin:t*d*bc<kp*g*bc->(if t*d=kp*g then lx a k c r else some (decide (t*d<kp*g)))=some true:=λh=>by
   have:t*d<kp*g:=Int.lt_of_mul_lt_mul_right h #[];rw[aF #[],decide_eq_true this]
  by_cases e1:t*bc=f*g
  .rw[aK e1]at h1;have w:t*bc*d=f*g*d:=by rw[e1]
   by_cases C:f*d=kp*bc
   .rw[aK C]at h2;have v:f*d*g=kp*bc*g:=by rw[C]
    have:t*d=kp*g:=dN (show bc≠0 by lia) #[];rw[aK this];exact m h1 h2
   .rw[aF C]at h2;have A:f*d<kp*bc:=Classical.byContradiction λz=>h2 (by rw[decide_eq_false z]);have v:f*d*g<kp*bc*g:=Int.mul_lt_mul_of_pos_right A ha;exact fin #[]
  .rw[aF e1]at h1;have A:t*bc<f*g:=by simpa using h1
   have w:t*bc*d<f*g*d:=Int.mul_lt_mul_of_pos_right A hk;by_cases C:f*d=kp*bc
   .have v:f*d*g=kp*bc*g:=by rw[C]
    exact fin #[]
   .rw[aF C]at h2;have A:f*d<kp*bc:=Classical.byContradiction λz=>h2 (by rw[decide_eq_false z]);have v:f*d*g<kp*bc*g:=Int.mul_lt_mul_of_pos_right A ha;exact fin #[]
noncomputable def Lv(B:List (List Int))(c:Nat)(l:List Nat)(i:Nat):Option Nat->Prop
 |none=>∀k row,k<i->B[k]?=some row->¬0<row.getD c 0
 |some f=>f<i/\∃fr,B[f]?=some fr/\0<fr.getD c 0/\∀k row,k<i->B[k]?=some row->0<row.getD c 0->lx fr row c l≠some false/\(lx fr row c l=none->f<=k)
def Lv.skip{B:List (List Int)}{l:List Nat}{o:Option Nat}{row:List Int}(h:Lv B c l i o)(hr:B[i]?=some row)(hn:¬0<row.getD c 0):Lv B c l (i+1) o:=by
 cases o with
 |none=>
  intro k d hk e;by_cases j:k<i
  .exact h k d j e
  .have:k=i:=#[];subst this;rw[hr]at e;obtain rfl:=aU e;exact hn
 |some f=>
  obtain⟨h1,fr,h2,A,y⟩:=h;refine#[#[],fr,h2,A,λk d hk e hp=>?_];by_cases j:k<i
  .exact y k d j e hp
  .have:k=i:=#[];subst this;rw[hr]at e;obtain rfl:=aU e;exact absurd hp hn
def Wj{a:List Int}{c:Nat}:∀l:List Nat,lx a a c l=none
 | []=>rfl
 |p::r=>by unfold lx;rw[aK rfl];exact Wj r
def Lv.first{B:List (List Int)}{l:List Nat}{row:List Int}(h:Lv B c l i none)(hr:B[i]?=some row)(hp:0<row.getD c 0):Lv B c l (i+1) (some i):=by
 refine#[#[],row,hr,hp,λk d hk e g=>?_];by_cases j:k<i
 .exact absurd g (h k d j e)
 .have:k=i:=#[];subst this;rw[hr]at e;obtain rfl:=aU e;rw[Wj];exact#[by simp,λ_=>aP _]
def Lv.keep{B:List (List Int)}{l:List Nat}{f:Nat}{row fr:List Int}(h:Lv B c l i (some f))(hf:B[f]?=some fr)(hr:B[i]?=some row)(hp:0<row.getD c 0)(ha:lx row fr c l≠some true):Lv B c l (i+1) (some f):=by
 obtain⟨h1,q,h2,A,y⟩:=h;rw[hf]at h2;obtain rfl:=aU h2;refine#[#[],fr,hf,A,λk d hk e g=>?_];by_cases j:k<i
 .exact y k d j e g
 .have:k=i:=#[];subst this;rw[hr]at e;obtain rfl:=aU e;refine#[λz=>ha ?_,λ_=>by lia];rw[jYu (a:=fr) (b:=row),z];rfl
def Lv.take{B:List (List Int)}{l:List Nat}{f:Nat}{row fr:List Int}(h:Lv B c l i (some f))(hf:B[f]?=some fr)(hr:B[i]?=some row)(hp:0<row.getD c 0)(ha:lx row fr c l=some true):Lv B c l (i+1) (some i):=by
 obtain⟨h1,q,h2,A,y⟩:=h;rw[hf]at h2;obtain rfl:=aU h2;refine#[#[],row,hr,hp,λk d hk e g=>?_];by_cases j:k<i
 .have:=Zm hp A g l ha (y k d j e g).1;rw[this];exact#[by simp,λz=>by cases z]
 .have:k=i:=#[];subst this;rw[hr]at e;obtain rfl:=aU e;rw[Wj];exact#[by simp,λ_=>aP _]
noncomputable def sm:Nat->(Nat->Int)->Int
 |0,_=>0
 |n+1,f=>sm n f+f n
def iK:∀{n:Nat}{f g:Nat->Int},(∀k,k<n->f k=g k)->sm n f=sm n g
 |0,_,_,_=>rfl
 |n+1,f,g,h=>by
  show sm n f+f n=sm n g+g n;rw[iK (n:=n) λk hk=>h k #[],h n #[]]
def kP:∀{n:Nat}{f:Nat->Int},(∀k,k<n->f k=0)->sm n f=0
 |0,_,_=>rfl
 |n+1,f,h=>by
  show sm n f+f n=0;rw[kP (n:=n) λk hk=>h k #[],h n #[]];rfl
def xU(a b:Int):∀(n:Nat)(f g:Nat->Int),sm n (λk=>a*f k+b*g k)=a*sm n f+b*sm n g
 |0,_,_=>by show(0:Int)=a*0+b*0;simp
 |n+1,f,g=>by
  show sm n (λk=>a*f k+b*g k)+(a*f n+b*g n)=a*(sm n f+f n)+b*(sm n g+g n);rw[xU a b n f g,Int.mul_add,Int.mul_add];lia
def oJ{p:Nat}:∀{n:Nat}{f:Nat->Int},p<n->(∀k,k<n->k≠p->f k=0)->sm n f=f p
 |0,_,h,_=>absurd h (eU _)
 |n+1,f,hp,h=>by
  show sm n f+f n=f p;by_cases e:p=n
  .rw[kP (n:=n) λk hk=>h k #[] #[],e];lia
  .rw[oJ (n:=n) #[] λk hk U=>h k #[] U,h n #[] #[]];lia
def Vi{p q:Nat}:∀{n:Nat}{f:Nat->Int},p<q->q<n->(∀k,k<n->k≠p->k≠q->f k=0)->sm n f=f p+f q
 |0,_,_,h,_=>absurd h (eU _)
 |n+1,f,hpq,hq,h=>by
  show sm n f+f n=f p+f q;by_cases e:q=n
  .rw[oJ (p:=p) (n:=n) #[] λk hk U=>h k #[] U #[],e]
  .rw[Vi (n:=n) hpq #[] λk hk h1 h2=>h k #[] h1 h2,h n #[] #[] #[]];lia
def sg(k:Nat):Int:=if k%2=0 then 1 else -1
def sg_succ(k:Nat):sg (k+1)=-sg k:=by
 unfold sg;split<;>split<;>lia
def sg_abs(k:Nat):(sg k).natAbs=1:=by unfold sg;split<;>rfl
def skp(k i:Nat):Nat:=if i<k then i else i+1
def skp_ne(k i:Nat):skp k i≠k:=by unfold skp;split<;>lia
def skp_lt{n:Nat}(h:i<n):skp k i<n+1:=by unfold skp;split<;>lia
def skp_inj(h:skp k i=skp k j):i=j:=by unfold skp at h;split at h<;>split at h<;>lia
def jVs{n:Nat}(hk:k<n+1)(Z:j<n+1)(U:j≠k):∃i,i<n/\skp k i=j:=by
 unfold skp;by_cases h:j<k
 .exact#[j,#[],by rw[aK h]]
 .exact#[j-1,#[],by rw[aF #[]];lia]
noncomputable abbrev Mx:=Nat->Nat->Int
def mnr(M:Mx)(k:Nat):Mx:=λi r=>M (skp k i) (r+1)
noncomputable def det:Nat->Mx->Int
 |0,_=>1
 |n+1,M=>sm (n+1) λk=>sg k*M k 0*det n (mnr M k)
def Aq:∀{n:Nat}{M L:Mx},(∀i,i<n->∀r,r<n->M i r=L i r)->det n M=det n L
 |0,_,_,_=>rfl
 |n+1,M,L,h=>by
  refine iK λk hk=>?_;rw[h k hk 0 #[],Aq (n:=n) (M:=mnr M k) (L:=mnr L k) λi hi r hr=>h _ (skp_lt hi) _ #[]]
def pt(M:Mx)(j:Nat)(v:Nat->Int):Mx:=λi=>if i=j then v else M i
def sW(M:Mx)(j:Nat)(v:Nat->Int):pt M j v j=v:=by unfold pt;rw[aK rfl]
def mM(M:Mx)(v:Nat->Int)(h:i≠j):pt M j v i=M i:=by unfold pt;rw[aF h]
def El(M:Mx)(j:Nat):pt M j (M j)=M:=by
 funext i;unfold pt;split
 .rename_i e;rw[e]
 .rfl
def pt_pt(M:Mx)(j:Nat)(u v:Nat->Int):pt (pt M j u) j v=pt M j v:=by
 funext i;unfold pt;split<;>rfl
def Af(M:Mx)(h:i≠j)(u v:Nat->Int):pt (pt M i u) j v=pt (pt M j v) i u:=by
 funext k;unfold pt
 by_cases h1:k=j
 .rw[aK h1,aF #[],aK h1]
 .rw[aF h1];by_cases h2:k=i
  .rw[aK h2,aK h2]
  .rw[aF h2,aF h2,aF h1]
def zK(M:Mx)(k:Nat)(v:Nat->Int):mnr (pt M k v) k=mnr M k:=by
 funext i r
 show pt M k v (skp k i) (r+1)=M (skp k i) (r+1);rw[mM _ _ (skp_ne k i)]
def jZQ(M:Mx)(v:Nat->Int):mnr (pt M (skp k c) v) k=pt (mnr M k) c (λr=>v (r+1)):=by
 funext i r
 show pt M (skp k c) v (skp k i) (r+1)=_;unfold pt;by_cases h:i=c
 .rw[aK h,aK (by rw[h])]
 .rw[aF h,aF (λe=>h (skp_inj e))];rfl
def Wt(a b:Int):∀{n:Nat}(M:Mx){j:Nat}(u v:Nat->Int),j<n->det n (pt M j (λr=>a*u r+b*v r))=a*det n (pt M j u)+b*det n (pt M j v)
 |0,_,_,_,_,h=>absurd h (eU _)
 |n+1,M,j,u,v,hj=>by
  show sm (n+1) _=a*sm (n+1) _+b*sm (n+1) _;rw[←xU];refine iK λk hk=>?_;by_cases e:k=j
  .subst e;rw[sW,sW,sW,zK,zK,zK];grind
  .obtain⟨c,B,J⟩:=jVs hk hj (λz=>e z.symm);rw[mM _ _ e,mM _ _ e,mM _ _ e,←J,jZQ,jZQ,jZQ,Wt a b (mnr M k) (λr=>u (r+1)) (λr=>v (r+1)) B];grind
def Mp:∀{n:Nat}{M:Mx}{p:Nat},p+1<n->M p=M (p+1)->det n M=0
 |0,_,_,h,_=>absurd h (eU _)
 |n+1,M,p,hp,e=>by
  show sm (n+1) _=0;rw[Vi (p:=p) (q:=p+1) #[] hp]
  .have B:mnr M p=mnr M (p+1):=by
    funext i r
    show M (skp p i) (r+1)=M (skp (p+1) i) (r+1);unfold skp;by_cases h1:i<p
    .rw[aK h1,aK #[]]
    .rw[aF h1];by_cases h2:i=p
     .rw[aK #[],h2,e]
     .rw[aF #[]]
   rw[B,e,sg_succ];grind
  .intro k hk h1 h2;have:det n (mnr M k)=0:=by
    by_cases h:k<p
    .refine Mp (p:=p-1) #[] ?_
     funext r
     show M (skp k (p-1)) (r+1)=M (skp k (p-1+1)) (r+1);unfold skp;rw[aF #[],aF #[],show p-1+1=p by lia,e]
    .refine Mp (p:=p) #[] ?_
     funext r
     show M (skp k p) (r+1)=M (skp k (p+1)) (r+1);unfold skp;rw[aK #[],aK #[],e]
   rw[this,cU]
def Mr{n:Nat}(M:Mx)(u v:Nat->Int)(h:j<n):det n (pt M j (λr=>u r+v r))=det n (pt M j u)+det n (pt M j v):=by
 have:=Wt 1 1 M u v h;simp only[fP]at this;exact this
def Jv{n:Nat}(M:Mx)(a:Int)(u:Nat->Int)(h:j<n):det n (pt M j (λr=>a*u r))=a*det n (pt M j u):=by
 have:=Wt a 0 M u u h;simp only[fV,Int.add_zero]at this;exact this
def jYb{n p:Nat}(hp:p<n)(F:q<n)(U:p≠q)(z:∀M:Mx,M p=M q->det n M=0)(M:Mx)(u v:Nat->Int):det n (pt (pt M p u) q v)=-det n (pt (pt M p v) q u):=by
 have D:=z (pt (pt M p (λr=>u r+v r)) q (λr=>u r+v r)) (by rw[sW,mM _ _ U,sW]);have a:=z (pt (pt M p u) q u) (by rw[sW,mM _ _ U,sW]);have b:=z (pt (pt M p v) q v) (by rw[sW,mM _ _ U,sW]);rw[Mr _ _ _ F,Af M U,Af M U,Mr _ _ _ hp,Mr _ _ _ hp,Af M (Ne.symm U),Af M (Ne.symm U),Af M (Ne.symm U),Af M (Ne.symm U)]at D;lia
def Wu{n:Nat}:∀(d:Nat){M:Mx}{p q:Nat},q=p+1+d->q<n->M p=M q->det n M=0
 |0,M,p,q,e,hq,h=>Mp (p:=p) #[] (by rw[h,e])
 |d+1,M,p,q,e,hq,h=>by
  have a:=jYb (n:=n) (p:=q-1) (q:=q-1+1) #[] #[] #[] (λL P=>Mp #[] P) M (M (q-1)) (M q);rw[show q-1+1=q by lia]at a;rw[El,El]at a;rw[a,Wu d (p:=p) (q:=q-1) #[] #[]]
  .rfl
  .rw[mM _ _ (show p≠q by lia),mM _ _ (show p≠q-1 by lia),mM _ _ (show q-1≠q by lia),sW,h]
def Oy{n:Nat}{M:Mx}{p:Nat}(hp:p<n)(F:q<n)(U:p≠q)(h:M p=M q):det n M=0:=by
 by_cases R:p<q
 .exact Wu (q-p-1) (p:=p) (q:=q) #[] F h
 .exact Wu (p-q-1) (p:=q) (q:=p) #[] hp h.symm
def jUo{n p:Nat}(hp:p<n)(F:q<n)(U:p≠q)(M:Mx)(u v:Nat->Int):det n (pt (pt M p u) q v)=-det n (pt (pt M p v) q u):=jYb hp F U (λ_ h=>Oy hp F U h) M u v
noncomputable def e1(i:Nat):Nat->Int:=λr=>if r=i then 1 else 0
def Im:Mx:=e1
def Mo:∀n:Nat,det n Im=1
 |0=>rfl
 |n+1=>by
  show sm (n+1) _=1;rw[oJ (p:=0) #[]]
  .have:det n (mnr Im 0)=det n Im:=Aq λi _ r _=>by
    show e1 (skp 0 i) (r+1)=e1 i r;unfold e1 skp;rw[aF (eU i)];by_cases h:r=i
    .rw[aK h,aK #[]]
    .rw[aF h,aF #[]]
   rw[this,Mo n];rfl
  .intro k _ hk;have:Im k 0=0:=by show e1 k 0=0;unfold e1;rw[aF (λz=>hk z.symm)]
   rw[this];grind
def Ox{n:Nat}(M:Mx){j:Nat}(Z:j<n)(c:Nat->Int)(w:Nat->Nat->Int):∀m:Nat,det n (pt M j (λr=>sm m λk=>c k*w k r))=sm m λk=>c k*det n (pt M j (w k))
 |0=>by
  have:=Jv M 0 (λ_=>0) Z;simp only[fV]at this;exact this
 |m+1=>by
  show det n (pt M j (λr=>sm m (λk=>c k*w k r)+c m*w m r))=sm m _+c m*_;rw[Mr _ _ _ Z,Ox M Z c w m,Jv _ _ _ Z]
def Yv(v:Nat->Int):∀(n r:Nat),r<n->(sm n λk=>v k*e1 k r)=v r:=λn r hr=>by
 rw[oJ (p:=r) hr]
 .unfold e1;rw[aK rfl,fE]
 .intro k _ hk;unfold e1;rw[aF (λz=>hk z.symm),cU]
def det_sum{n:Nat}(M:Mx)(Z:j<n)(v:Nat->Int):det n (pt M j v)=sm n λk=>v k*det n (pt M j (e1 k)):=by
 rw[←Ox M Z v e1 n];refine Aq λi hi r hr=>?_;unfold pt;split
 .exact(Yv v n r hr).symm
 .rfl
section
variable{N:Nat}
def Tt(N:Nat)(B:Mx)(i:Nat)(y:Nat->Int):Int:=det N (pt B i y)
def Cr(N:Nat)(B:Mx):Prop:=∀(y:Nat->Int)(r:Nat),r<N->(sm N λi=>Tt N B i y*B i r)=det N B*y r
def jZk(B:Mx)(i:Nat):Tt N B i (B i)=det N B:=by unfold Tt;rw[El]
def Pa{B:Mx}(hi:i<N)(Z:j<N)(h:i≠j):Tt N B i (B j)=0:=
 Oy hi Z h (by rw[sW,mM _ _ (Ne.symm h)])
def Tt_lin{B:Mx}(hi:i<N)(y:Nat->Int):Tt N B i y=sm N λk=>y k*Tt N B i (e1 k):=det_sum B hi y
def Tt_one(hi:i<N)(y:Nat->Int):Tt N Im i y=y i:=by
 rw[Tt_lin hi,oJ (p:=i) hi]
 .rw[show Tt N Im i (e1 i)=det N Im from jZk Im i,Mo,fE]
 .intro k hk U;rw[show Tt N Im i (e1 k)=0 from Pa hi hk (Ne.symm U),cU]
def Cr_one:Cr N Im:=by
 intro y r hr;rw[Mo,fP,←Yv y N r hr];exact iK λi hi=>by rw[Tt_one hi];rfl
def exchT{B:Mx}(t:Cr N B){r:Nat}(hr:r<N)(hi:i<N)(U:i≠r)(x y:Nat->Int):det N B*Tt N (pt B r x) i y=Tt N B i y*Tt N B r x-Tt N B r y*Tt N B i x:=by
 have h1:det N B*Tt N (pt B r x) i y=det N (pt (pt B r x) i (λs=>det N B*y s)):=(Jv _ _ _ hi).symm;have h2:det N (pt (pt B r x) i (λs=>det N B*y s))=det N (pt (pt B r x) i (λs=>sm N λk=>Tt N B k y*B k s)):=Aq λj _ s hs=>by
  unfold pt;by_cases e:j=i
  .rw[aK e,aK e,t y s hs]
  .rw[aF e,aF e]
 rw[h1,h2,Ox _ hi];have a:det N (pt (pt B r x) i (B i))=Tt N B r x:=by
  have:pt (pt B r x) i (B i)=pt B r x:=by
   have:=El (pt B r x) i;rwa [mM _ _ U]at this
  rw[this];rfl
 have d:det N (pt (pt B r x) i (B r))=-Tt N B i x:=by
  rw[jUo hr hi (Ne.symm U),El];rfl
 have key:∀k,k<N->k≠i->k≠r->Tt N B k y*det N (pt (pt B r x) i (B k))=0:=λk hk h1 h2=>by
  rw[Oy hi hk (Ne.symm h1) (by rw[sW,mM _ _ h1,mM _ _ h2]),cU]
 by_cases R:i<r
 .rw[Vi R hr (λk hk h1 h2=>key k hk h1 h2),a,d,Int.mul_neg];rfl
 .rw[Vi (p:=r) (q:=i) #[] hi (λk hk h1 h2=>key k hk h2 h1),a,d,Int.mul_neg];lia
def jWU(B:Mx)(r:Nat)(x y:Nat->Int):Tt N (pt B r x) r y=Tt N B r y:=by unfold Tt;rw[pt_pt]
def det_pt(B:Mx)(r:Nat)(x:Nat->Int):det N (pt B r x)=Tt N B r x:=rfl
def Cr.turn{B:Mx}(t:Cr N B)(g:det N B≠0){r:Nat}(hr:r<N)(x:Nat->Int):Cr N (pt B r x):=by
 intro y s hs;apply Int.eq_of_mul_eq_mul_left g;have e:∀i,i<N->det N B*(Tt N (pt B r x) i y*(pt B r x) i s)=Tt N B r x*(Tt N B i y*B i s)+(-Tt N B r y)*(Tt N B i x*B i s)+(if i=r then det N B*Tt N B r y*x s else 0):=λi hi=>by
  by_cases h:i=r
  .subst h;rw[aK rfl,jWU,sW];grind
  .rw[aF h,mM _ _ h,←gO,exchT t hr hi h];grind
 have M:det N B*sm N (λi=>Tt N (pt B r x) i y*(pt B r x) i s)=sm N λi=>det N B*(Tt N (pt B r x) i y*(pt B r x) i s):=by
  have:=xU (det N B) 0 N (λi=>Tt N (pt B r x) i y*(pt B r x) i s) (λ_=>0);simp only[fV,Int.add_zero]at this;exact this.symm
 rw[M,iK e];have d:=xU 1 1 N (λi=>Tt N B r x*(Tt N B i y*B i s)+(-Tt N B r y)*(Tt N B i x*B i s)) (λi=>if i=r then det N B*Tt N B r y*x s else 0);simp only[fP]at d;rw[d,xU,t y s hs,t x s hs,oJ (p:=r) hr (λk _ hk=>aF hk),aK rfl,det_pt];grind
end
noncomputable def lp(u:Nat->Int):List Nat->Prop
 | []=>False
 |p::r=>0<u p∨(u p=0/\lp u r)
noncomputable def lpn(u:Nat->Int):List Nat->Prop
 | []=>True
 |p::r=>0<u p∨(u p=0/\lpn u r)
def lp.weak{u:Nat->Int}:∀{l:List Nat},lp u l->lpn u l
 | [],h=>h.elim
 |_::_,.inl h=>.inl h
 |_::_,.inr h=>.inr #[h.1,h.2.weak]
def qH{u v:Nat->Int}:∀{l:List Nat},(∀p∈l,u p=v p)->lp u l->lp v l
 | [],_,h=>h
 |p::r,e,h=>by
  have U:=e p bQ;rcases h with h |h
  .exact .inl (U▸h)
  .exact .inr #[U▸h.1,qH (λq F=>e q (bI _ F)) h.2]
def Ov{u:Nat->Int}{a:Int}(ha:0<a):∀{l:List Nat},lp u l->lp (λp=>a*u p) l
 | [],h=>h
 |p::r,h=>by
  rcases h with h |h
  .exact .inl (bK ha h)
  .exact .inr #[by show a*u p=0;rw[h.1,cU],Ov ha h.2]
def vG{u:Nat->Int}{a:Int}(ha:0<a):∀{l:List Nat},lp (λp=>a*u p) l->lp u l
 | [],h=>h
 |p::r,h=>by
  rcases h with h |h
  .left
   have h:0<a*u p:=h;rcases Int.lt_trichotomy (u p) 0 with z |z |z
   .have:=Int.mul_neg_of_pos_of_neg ha z;lia
   .rw[z,cU]at h;lia
   .exact z
  .right
   have h1:a*u p=0:=h.1;refine#[?_,vG ha h.2];rcases Int.mul_eq_zero.mp h1 with z |z
   .omega
   .exact z
def lp_add{u v:Nat->Int}{a b:Int}(ha:0<a)(hb:0<=b){l:List Nat}(h:lp u l)(k:lpn v l):lp (λp=>a*u p+b*v p) l:=by
 by_cases f:b=0
 .subst f;refine qH (λp _=>?_) (Ov ha h);lia
 .have hb:0<b:=#[];clear f
  induction l with
  |nil=>exact h.elim
  |cons p r ih=>
   rcases h with h |h
   .left
    have h1:=bK ha h;have h2:0<=b*v p:=by
     rcases k with k |k
     .exact dU #[] #[]
     .rw[k.1,cU];exact Int.le_refl _
    show 0<a*u p+b*v p;lia
   .rcases k with k |k
    .left
     have h1:=bK hb k;show 0<a*u p+b*v p;rw[h.1,cU];lia
    .exact .inr #[by show a*u p+b*v p=0;rw[h.1,k.1,cU,cU];rfl,ih h.2 k.2]
def Tj{u:Nat->Int}:∀{l:List Nat},(∀p∈l,u p=0)->¬lp u l
 | [],_,h=>h
 |p::r,e,h=>by
  have U:=e p bQ;rcases h with h |h
  .omega
  .exact Tj (λq F=>e q (bI _ F)) h.2
def lp_or{u:Nat->Int}:∀(l:List Nat),lp u l∨(∀p∈l,u p=0)∨lp (λp=>-u p) l
 | []=>.inr (.inl (λ_ h=>nomatch h))
 |p::r=>by
  rcases Int.lt_trichotomy (u p) 0 with z |z |z
  .exact .inr (.inr (.inl (by show 0< -u p;lia)))
  .rcases lp_or (u:=u) r with h |h |h
   .exact .inl (.inr #[z,h])
   .refine .inr (.inl λq F=>?_);rcases eK.mp F with rfl |F
    .exact z
    .exact h q F
   .exact .inr (.inr (.inr #[by show-u p=0;lia,h]))
  .exact .inl (.inl z)
structure Lpd where
 m:Nat
 n:Nat
 a:Nat->Nat->Int
 be:Nat->Int
 fl:Bool
namespace Lpd
variable(L:Lpd)
noncomputable def cv(j:Nat):Nat->Int:=if j<L.n then L.a j else e1 (j-L.n)
def B(s:Nat->Nat):Mx:=λi=>if i<L.m then L.cv (s i)else e1 i
def sg:Int:=if L.fl=true then -1 else 1
def sg2:L.sg*L.sg=1:=by unfold sg;split<;>rfl
def sg_abs(x:Int):(L.sg*x).natAbs=x.natAbs:=by unfold sg;split<;>lia
def D(s:Nat->Nat):Int:=L.sg*det (L.m+1) (L.B s)
def T(s:Nat->Nat)(i:Nat)(y:Nat->Int):Int:=L.sg*Tt (L.m+1) (L.B s) i y
noncomputable def li(p:Nat):Nat->Int:=if p=0 then L.be else e1 (p-1)
noncomputable def ls:List Nat:=range (L.m+1)
noncomputable def sput(s:Nat->Nat)(r c:Nat):Nat->Nat:=λi=>if i=r then c else s i
def B_put{r:Nat}(hr:r<L.m):L.B (sput s r c)=pt (L.B s) r (L.cv c):=by
 funext i
 unfold B sput pt;by_cases h:i=r
 .rw[aK #[],aK h,aK h]
 .rw[aF h,aF h]
structure Okn(s:Nat->Nat):Prop where
 ne:L.D s≠0
 cr:Cr (L.m+1) (L.B s)
structure Ok(s:Nat->Nat):Prop where
 pos:0<L.D s
 cr:Cr (L.m+1) (L.B s)
 bn:∀i,i<L.m->0<=L.T s i L.be
structure Okx(s:Nat->Nat):Prop where
 pos:0<L.D s
 cr:Cr (L.m+1) (L.B s)
 lex:∀i,i<L.m->lp (λp=>L.T s i (L.li p)) L.ls
def own(hi:i<L.m):L.T s i (L.cv (s i))=L.D s:=by
 have:=jZk (N:=L.m+1) (L.B s) i;have e:L.B s i=L.cv (s i):=by unfold B;rw[aK hi]
 rw[e]at this;unfold T D;rw[this]
def last_own(s:Nat->Nat):L.T s L.m (e1 L.m)=L.D s:=by
 have:=jZk (N:=L.m+1) (L.B s) L.m;have e:L.B s L.m=e1 L.m:=by unfold B;rw[aF (eO _)]
 rw[e]at this;unfold T D;rw[this]
def not_last(hi:i<L.m):L.T s i (e1 L.m)=0:=by
 have:=Pa (N:=L.m+1) (B:=L.B s) (i:=i) (j:=L.m) #[] #[] #[];have e:L.B s L.m=e1 L.m:=by unfold B;rw[aF (eO _)]
 rw[e]at this;unfold T;rw[this,cU]
def other(hi:i<L.m+1)(Z:j<L.m)(h:i≠j):L.T s i (L.cv (s j))=0:=by
 have:=Pa (N:=L.m+1) (B:=L.B s) (i:=i) (j:=j) hi #[] h;have e:L.B s j=L.cv (s j):=by unfold B;rw[aK Z]
 rw[e]at this;unfold T;rw[this,cU]
def sm_by(c:Int)(n:Nat)(f:Nat->Int):sm n (λk=>c*f k)=c*sm n f:=by
 have:=xU c 0 n f f;simp only[fV,Int.add_zero]at this;exact this
def T_lin(hi:i<L.m+1)(y:Nat->Int):L.T s i y=sm (L.m+1) λk=>y k*L.T s i (e1 k):=by
 unfold T;rw[Tt_lin hi,←sm_by];exact iK λk _=>by rw[Int.mul_left_comm]
def cr_T(h:Cr (L.m+1) (L.B s))(y:Nat->Int){r:Nat}(hr:r<L.m+1):(sm (L.m+1) λi=>L.T s i y*L.B s i r)=L.D s*y r:=by
 unfold T D;rw[gO,←h y r hr,←sm_by];exact iK λk _=>by rw[gO]
section
variable{L}
def Ok.n(o:L.Ok s):L.Okn s:=#[Int.ne_of_gt o.pos,o.cr]
def Okx.n(o:L.Okx s):L.Okn s:=#[Int.ne_of_gt o.pos,o.cr]
def Okx.bound_nonneg(o:L.Okx s)(hi:i<L.m):0<=L.T s i L.be:=by
 have h:=o.lex i hi;unfold ls at h;rw[List.range_succ_eq_map]at h;have e:L.li 0=L.be:=by unfold li;rw[aK rfl]
 rcases h with h |h
 .have h:0<L.T s i (L.li 0):=h;rw[e]at h;lia
 .have h:=h.1;simp only[e]at h;lia
def Okx.w(o:L.Okx s):L.Ok s:=#[o.pos,o.cr,λ_ hi=>o.bound_nonneg hi]
def Okn.exch(o:L.Okn s){r:Nat}(hr:r<L.m)(hi:i<L.m+1)(U:i≠r)(y:Nat->Int):L.D s*L.T (sput s r c) i y=L.T s i y*L.T s r (L.cv c)-L.T s r y*L.T s i (L.cv c):=by
 have h:=exchT o.cr (show r<L.m+1 by lia) hi U (L.cv c) y;unfold T D;rw[L.B_put hr];generalize Tt (L.m+1) (pt (L.B s) r (L.cv c)) i y=u at h⊢;have e1:L.sg*det (L.m+1) (L.B s)*(L.sg*u)=(L.sg*L.sg)*(det (L.m+1) (L.B s)*u):=by ac_rfl
 have C:∀x y:Int,L.sg*x*(L.sg*y)=(L.sg*L.sg)*(x*y):=λx y=>by ac_rfl
 rw[e1,C,C,L.sg2,h,fP,fP,fP]
def Okx.exch(o:L.Okx s){r:Nat}(hr:r<L.m)(hi:i<L.m+1)(U:i≠r)(y:Nat->Int):L.D s*L.T (sput s r c) i y=L.T s i y*L.T s r (L.cv c)-L.T s r y*L.T s i (L.cv c):=o.n.exch hr hi U y
def Ok.same{r:Nat}(hr:r<L.m)(y:Nat->Int):L.T (sput s r c) r y=L.T s r y:=by
 unfold T;rw[L.B_put hr,jWU]
def Ok.newD{r:Nat}(hr:r<L.m):L.D (sput s r c)=L.T s r (L.cv c):=by
 unfold D T;rw[L.B_put hr];rfl
def det_ne(h:L.D s≠0):det (L.m+1) (L.B s)≠0:=λz=>h (by unfold D;rw[z,cU])
def Okn.step(o:L.Okn s){r:Nat}(hr:r<L.m)(hp:L.T s r (L.cv c)≠0):L.Okn (sput s r c):=by
 refine#[by rw[Ok.newD hr];exact hp,?_];rw[L.B_put hr];exact o.cr.turn (det_ne o.ne) #[] _
def Okx.step(o:L.Okx s){r:Nat}(hr:r<L.m)(hp:0<L.T s r (L.cv c))
  (A:∀i,i<L.m->0<L.T s i (L.cv c)->¬lp (λp=>-(L.T s i (L.li p)*L.T s r (L.cv c)-L.T s r (L.li p)*L.T s i (L.cv c))) L.ls):L.Okx (sput s r c):=by
 have g:=o.pos;have f:0<L.D (sput s r c):=by rw[Ok.newD hr];exact hp
 have j:Cr (L.m+1) (L.B (sput s r c)):=by
  rw[L.B_put hr];exact o.cr.turn (det_ne #[]) #[] _
 refine#[f,j,λi hi=>?_];by_cases d:i=r
 .subst d;exact qH (λp _=>(Ok.same hi _).symm) (o.lex i hi)
 .have ex:=λy=>o.exch (c:=c) hr (show i<L.m+1 by lia) d y;by_cases hn:L.T s i (L.cv c)<=0
  .refine vG g (qH (λp _=>?_) (lp_add hp (b:=-L.T s i (L.cv c)) #[] (o.lex i hi) (o.lex r hr).weak));rw[ex];grind
  .have l:0<L.T s i (L.cv c):=#[];rcases lp_or (u:=λp=>L.T s i (L.li p)*L.T s r (L.cv c)-L.T s r (L.li p)*L.T s i (L.cv c)) L.ls with h |h |h
   .exact vG g (qH (λp _=>(ex _).symm) h)
   .exfalso;have z:∀k,k<L.m+1->L.T (sput s r c) i (e1 k)=0:=λk hk=>by
     by_cases a:k=L.m
     .rw[a];exact L.not_last hi
     .have h1:=h (k+1) (by unfold ls;exact gF.mpr #[]);have e:L.li (k+1)=e1 k:=by unfold li;rw[aF #[]];rfl
      simp only[e]at h1;have h2:=ex (e1 k);rw[h1]at h2;rcases Int.mul_eq_zero.mp h2 with q |q
      .omega
      .exact q
    have hw:L.T (sput s r c) i (L.cv (sput s r c i))=0:=by
     rw[L.T_lin #[]];exact kP λk hk=>by rw[z k hk,cU]
    rw[L.own hi]at hw;lia
   .exact absurd h (A i hi l)
def Fur(L:Lpd)(s t:Nat->Nat):Prop:=lp (λp=>L.T t L.m (L.li p)*L.D s-L.T s L.m (L.li p)*L.D t) L.ls
def Okx.further(o:L.Okx s){r:Nat}(hr:r<L.m)(b:L.T s L.m (L.cv c)<0):L.Fur s (sput s r c):=by
 refine qH (λp _=>?_) (Ov (a:=-L.T s L.m (L.cv c)) #[] (o.lex r hr));have:=o.exch (c:=c) (i:=L.m) hr #[] #[] (L.li p);rw[Ok.newD hr,fW _ (L.D s),this];grind
def Fur.trans{t w:Nat->Nat}(hs:0<L.D s)(y:0<L.D t)(hw:0<L.D w)(h1:L.Fur s t)(h2:L.Fur t w):L.Fur s w:=by
 refine vG y (qH (λp _=>?_) (lp_add hs (bT hw) h2 h1.weak));grind
def Fur.irrefl:¬L.Fur s s:=Tj λp _=>by lia
end
end Lpd
def To{d:Type}{p q:d->Bool}:∀{l:List d},(∀x∈l,p x=true->q x=true)->(∃x∈l,q x=true/\p x=false)->(l.filter p).length<(l.filter q).length
 | [],_,h=>by obtain⟨x,hx,_⟩:=h;cases hx
 |a::r,h1,h2=>by
  have hr:(r.filter p).length<=(r.filter q).length:=by
   have key:∀l:List d,(∀x∈l,p x=true->q x=true)->(l.filter p).length<=(l.filter q).length:=λl=>by
    induction l with
    |nil=>intro _;exact aP _
    |cons b t ih=>
     intro h;have e:=ih λx hx=>h x (bI _ hx);have hb:=h b bQ;rw[List.filter_cons,List.filter_cons];cases hp:p b with
     |true=>rw[hb hp];simp only[if_true,cP];lia
     |false=>
      cases q b with
      |true=>simp only[Bool.false_eq_true,if_false,if_true,cP];lia
      |false=>simpa using e
   exact key r λx hx=>h1 x (bI _ hx)
  have ha:=h1 a bQ;rw[List.filter_cons,List.filter_cons];obtain⟨x,hx,c,m⟩:=h2;rcases eK.mp hx with rfl |hx
  .rw[c,m];simp only[Bool.false_eq_true,if_false,if_true,cP];lia
  .have e:=To (l:=r) (p:=p) (q:=q) (λx hx=>h1 x (bI _ hx)) #[x,hx,c,m];cases hp:p a with
   |true=>rw[ha hp];simp only[if_true,cP];lia
   |false=>
    cases q a with
    |true=>simp only[Bool.false_eq_true,if_false,if_true,cP];lia
    |false=>simpa using e
noncomputable def allL(k:Nat):Nat->eG
 |0=>[[]]
 |m+1=>(allL k m).flatMap λl=>(range k).map λc=>c::l
def Zl{k:Nat}:∀{m:Nat}{l:List Nat},l.length=m->(∀c∈l,c<k)->l∈allL k m
 |0,l,h,_=>by
  have:l=[]:=List.eq_nil_of_length_eq_zero h;subst this;simp [allL]
 |m+1,[],h,_=>by simp at h
 |m+1,c::l,h,hc=>by
  simp only[allL,iW,cM,gF];exact#[l,Zl (by simpa using h) λx hx=>hc x (bI _ hx),c,hc c bQ,rfl]
namespace Lpd
variable{L:Lpd}
noncomputable def sf(l:List Nat):Nat->Nat:=λi=>l.getD i 0
def mu(L:Lpd)(s:Nat->Nat):Nat:=open Classical in ((allL (L.n+L.m) L.m).filter λt=>decide (0<L.D (sf t)/\L.Fur s (sf t))).length
def mu_lt{t:List Nat}(hs:0<L.D s)(y:0<L.D (sf t))(S:t.length=L.m)(hc:∀c∈t,c<L.n+L.m)(h:L.Fur s (sf t)):L.mu (sf t)<L.mu s:=by
 classical
 unfold mu;refine To (λx _ hx=>?_) #[t,Zl S hc,?_,?_]
 .have hx:=of_decide_eq_true hx;exact decide_eq_true #[hx.1,Fur.trans hs y hx.1 h hx.2]
 .exact decide_eq_true #[y,h]
 .exact decide_eq_false λz=>Fur.irrefl z.2
def Vj(n:Nat)(f g:Nat->Int):sm n (λk=>f k+g k)=sm n f+sm n g:=by
 have:=xU 1 1 n f g;simp only[fP]at this;exact this
def sm_mul(c:Int)(n:Nat)(f:Nat->Int):sm n (λk=>c*f k)=c*sm n f:=by
 have:=xU c 0 n f f;simp only[fV,Int.add_zero]at this;exact this
def jYd(g:Nat->Nat->Int)(m:Nat):∀n:Nat,sm n (λj=>sm m λi=>g i j)=sm m λi=>sm n λj=>g i j
 |0=>(kP λ_ _=>rfl).symm
 |n+1=>by
  show sm n (λj=>sm m λi=>g i j)+sm m (λi=>g i n)=sm m λi=>sm n (λj=>g i j)+g i n;rw[jYd g m n,Vj]
def sm_le:∀{n:Nat}{f g:Nat->Int},(∀k,k<n->f k<=g k)->sm n f<=sm n g
 |0,_,_,_=>Int.le_refl _
 |n+1,f,g,h=>Int.add_le_add (sm_le λk hk=>h k #[]) (h n #[])
def Jl{n:Nat}{f:Nat->Int}(h:∀k,k<n->0<=f k):0<=sm n f:=by
 have:=sm_le (n:=n) (f:=λ_=>0) (g:=f) h;rwa [kP λ_ _=>rfl]at this
def spr(m:Nat)(s:Nat->Nat)(t:Nat->Int)(j:Nat):Int:=sm m λi=>if s i=j then t i else 0
def spr_sum(m n:Nat)(s:Nat->Nat)(t:Nat->Int)(w:Nat->Int):(sm n λj=>spr m s t j*w j)=sm m λi=>if s i<n then t i*w (s i)else 0:=by
 have e:(sm n λj=>spr m s t j*w j)=sm n λj=>sm m λi=>if s i=j then t i*w j else 0:=iK λj _=>by
  unfold spr;rw[fW,←sm_mul];exact iK λi _=>by split<;>simp [fW]
 rw[e,jYd (λi j=>if s i=j then t i*w j else 0)];refine iK λi _=>?_;by_cases h:s i<n
 .rw[aK h,oJ (p:=s i) h]
  .rw[aK rfl]
  .intro k _ hk;rw[aF (λz=>hk z.symm)]
 .rw[aF h];exact kP λj Z=>aF #[]
def Ok.by_cols(o:L.Ok s)(hs:∀i,i<L.m->s i<L.n+L.m)(y:Nat->Int){r:Nat}(hr:r<L.m+1):
  (sm L.n λj=>spr L.m s (λi=>L.T s i y) j*L.a j r)+(sm L.m λi=>if s i<L.n then 0 else L.T s i y*e1 (s i-L.n) r)+(if r=L.m then L.T s L.m y else 0)=L.D s*y r:=by
 have h:=L.cr_T o.cr y hr;have h:(sm L.m λi=>L.T s i y*L.B s i r)+L.T s L.m y*L.B s L.m r=L.D s*y r:=h;rw[spr_sum,←h,←Vj];have e:(sm L.m λi=>(if s i<L.n then L.T s i y*L.a (s i) r else 0)+(if s i<L.n then 0 else L.T s i y*e1 (s i-L.n) r))=sm L.m λi=>L.T s i y*L.B s i r:=iK λi hi=>by
  have C:L.B s i=L.cv (s i):=by unfold B;rw[aK hi]
  rw[C];unfold cv;by_cases q:s i<L.n
  .rw[aK q,aK q,aK q,Int.add_zero]
  .rw[aF q,aF q,aF q,eS]
 rw[e];have C:L.B s L.m=e1 L.m:=by unfold B;rw[aF (eO _)]
 rw[C];unfold e1;by_cases q:r=L.m
 .rw[aK q,aK q,fE]
 .rw[aF q,aF q,cU]
def Ok.bound_nonneg(o:L.Ok s)(hi:i<L.m):0<=L.T s i L.be:=o.bn i hi
def spr_nonneg{t:Nat->Int}(h:∀i,i<m->0<=t i)(j:Nat):0<=spr m s t j:=Jl λi hi=>by
 split
 .exact h i hi
 .exact Int.le_refl _
def Ok.allowed(o:L.Ok s)(hs:∀i,i<L.m->s i<L.n+L.m){r:Nat}(hr:r<L.m):(sm L.n λj=>spr L.m s (λi=>L.T s i L.be) j*L.a j r)<=L.D s*L.be r:=by
 have h:=o.by_cols hs L.be (r:=r) #[];rw[aF #[]]at h;have:0<=sm L.m λi=>if s i<L.n then 0 else L.T s i L.be*e1 (s i-L.n) r:=Jl λi hi=>by
  split
  .exact Int.le_refl _
  .refine dU (o.bound_nonneg hi) ?_;unfold e1;split<;>decide
 lia
def Ok.no_spare(hs:∀i,i<L.m->s i<L.n+L.m)(y:Nat->Int):(sm L.m λi=>if s i<L.n then 0 else L.T s i y*e1 (s i-L.n) L.m)=0:=kP λi hi=>by
 split
 .rfl
 .have:=hs i hi;unfold e1;rw[aF #[],cU]
def Ok.earned(o:L.Ok s)(hs:∀i,i<L.m->s i<L.n+L.m)(hb:L.be L.m=0):(sm L.n λj=>spr L.m s (λi=>L.T s i L.be) j*L.a j L.m)=-L.T s L.m L.be:=by
 have h:=o.by_cols hs L.be (r:=L.m) #[];rw[aK rfl,Ok.no_spare hs,hb,cU]at h;lia
def goal_of(y:Nat->Int):L.T s L.m y=(sm L.m λk=>y k*L.T s L.m (e1 k))+y L.m*L.D s:=by
 rw[L.T_lin #[] y];show sm L.m _+y L.m*L.T s L.m (e1 L.m)=_;rw[L.last_own]
def Ok.ways_row(o:L.Ok s)(hs:∀i,i<L.m->s i<L.n+L.m){r:Nat}(b:∀i,i<L.m->L.T s i (L.cv c)<=0)(hr:r<L.m):(sm L.n λj=>(spr L.m s (λi=>-L.T s i (L.cv c)) j+if j=c then L.D s else 0)*L.a j r)<=0:=by
 have h:=o.by_cols hs (L.cv c) (r:=r) #[];rw[aF #[]]at h;have O:(sm L.m λi=>if s i<L.n then 0 else L.T s i (L.cv c)*e1 (s i-L.n) r)<=0:=by
  have:=Jl (n:=L.m) (f:=λi=>-(if s i<L.n then 0 else L.T s i (L.cv c)*e1 (s i-L.n) r)) λi hi=>by
   split
   .decide
   .have h1:=b i hi;unfold e1;split<;>lia
  have e:(sm L.m λi=>-(if s i<L.n then 0 else L.T s i (L.cv c)*e1 (s i-L.n) r))=-sm L.m λi=>if s i<L.n then 0 else L.T s i (L.cv c)*e1 (s i-L.n) r:=by
   have:=sm_mul (-1) L.m (λi=>if s i<L.n then 0 else L.T s i (L.cv c)*e1 (s i-L.n) r);rw[←Int.neg_one_mul,←this];exact iK λi _=>by rw[Int.neg_one_mul]
  lia
 have A:(sm L.n λj=>(spr L.m s (λi=>-L.T s i (L.cv c)) j+if j=c then L.D s else 0)*L.a j r)=-(sm L.n λj=>spr L.m s (λi=>L.T s i (L.cv c)) j*L.a j r)+(if c<L.n then L.D s*L.a c r else 0):=by
  have C:(sm L.n λj=>(spr L.m s (λi=>-L.T s i (L.cv c)) j+if j=c then L.D s else 0)*L.a j r)=sm L.n λj=>(-1)*(spr L.m s (λi=>L.T s i (L.cv c)) j*L.a j r)+(if j=c then L.D s*L.a j r else 0):=iK λj _=>by
   have:spr L.m s (λi=>-L.T s i (L.cv c)) j=-spr L.m s (λi=>L.T s i (L.cv c)) j:=by
    unfold spr;rw[←Int.neg_one_mul,←sm_mul];exact iK λi _=>by
     by_cases z:s i=j
     .rw[aK z,aK z];exact(Int.neg_one_mul _).symm
     .rw[aF z,aF z];rfl
   rw[this];split<;>grind
  rw[C,Vj,sm_mul];by_cases q:c<L.n
  .rw[aK q,oJ (p:=c) q (λk _ hk=>aF hk),aK rfl];lia
  .rw[aF q,kP (λk hk=>aF #[])];lia
 rw[A];unfold cv at h;by_cases q:c<L.n
 .rw[aK q];simp only[aK q]at h;unfold cv at O⊢;simp only[aK q]at O⊢;lia
 .rw[aF q];simp only[aF q]at h;unfold cv at O⊢;simp only[aF q]at O⊢;have:0<=L.D s*e1 (c-L.n) r:=by
   refine dU (bT o.pos) ?_;unfold e1;split<;>decide
  lia
def Ok.ways_goal(o:L.Ok s)(hs:∀i,i<L.m->s i<L.n+L.m)(hc:c<L.n+L.m):(sm L.n λj=>(spr L.m s (λi=>-L.T s i (L.cv c)) j+if j=c then L.D s else 0)*L.a j L.m)=L.T s L.m (L.cv c):=by
 have h:=o.by_cols hs (L.cv c) (r:=L.m) #[];rw[aK rfl,Ok.no_spare hs]at h;have C:(sm L.n λj=>(spr L.m s (λi=>-L.T s i (L.cv c)) j+if j=c then L.D s else 0)*L.a j L.m)=sm L.n λj=>(-1)*(spr L.m s (λi=>L.T s i (L.cv c)) j*L.a j L.m)+(if j=c then L.D s*L.a j L.m else 0):=iK λj _=>by
  have:spr L.m s (λi=>-L.T s i (L.cv c)) j=-spr L.m s (λi=>L.T s i (L.cv c)) j:=by
   unfold spr;rw[←Int.neg_one_mul,←sm_mul];exact iK λi _=>by
    by_cases z:s i=j
    .rw[aK z,aK z];exact(Int.neg_one_mul _).symm
    .rw[aF z,aF z];rfl
  rw[this];split<;>grind
 rw[C,Vj,sm_mul];by_cases q:c<L.n
 .rw[oJ (p:=c) q (λk _ hk=>aF hk),aK rfl];have e:L.cv c L.m=L.a c L.m:=by unfold cv;rw[aK q]
  rw[e]at h;lia
 .rw[kP (λk hk=>aF #[])];have e:L.cv c L.m=0:=by unfold cv;rw[aF q];unfold e1;rw[aF #[]]
  rw[e,cU]at h;lia
noncomputable def ins0(L:Lpd):Nat->Nat:=λi=>L.n+i
def B_start:∀i,L.B L.ins0 i=Im i:=λi=>by
 unfold B ins0 cv;by_cases h:i<L.m
 .rw[aK h,aF #[]];show e1 (L.n+i-L.n)=e1 i;rw[show L.n+i-L.n=i by lia]
 .rw[aF h];rfl
def Fk:L.B L.ins0=Im:=funext B_start
def jWg(h:L.fl=false):L.D L.ins0=1:=by unfold D;rw[Fk,Mo];unfold sg;rw[h];rfl
def T_start(h:L.fl=false)(hi:i<L.m+1)(y:Nat->Int):L.T L.ins0 i y=y i:=by
 unfold T;rw[Fk,Tt_one hi];unfold sg;rw[h];exact fP _
def Okn.start(h:L.fl=false):L.Okn L.ins0:=#[by rw[jWg h];decide,by rw[Fk];exact Cr_one]
def Okx.start(hf:L.fl=false)(hb:∀i,i<L.m->0<=L.be i):L.Okx L.ins0:=by
 refine#[?_,?_,λi hi=>?_]
 .rw[jWg hf];decide
 .rw[Fk];exact Cr_one
 .have e:∀y,L.T L.ins0 i y=y i:=λy=>T_start hf #[] y;have one:∀l:List Nat,i+1∈l->(∀p∈l,p=0->0<=L.be i)->lp (λp=>L.T L.ins0 i (L.li p)) l:=λl=>by
   induction l with
   |nil=>intro h;cases h
   |cons p r ih=>
    intro h1 h2;show 0<L.T L.ins0 i (L.li p)∨(L.T L.ins0 i (L.li p)=0/\_);rw[e];by_cases hp:p=0
    .have C:L.li p=L.be:=by unfold li;rw[aK hp]
     rw[C];have b:=hb i hi;by_cases f:L.be i=0
     .exact .inr #[f,ih (by rcases eK.mp h1 with q |q;lia;exact q) λp hp=>h2 p (bI _ hp)]
     .left;lia
    .have C:L.li p=e1 (p-1):=by unfold li;rw[aF hp]
     rw[C];unfold e1;by_cases q:i=p-1
     .rw[aK q];left;decide
     .rw[aF q];exact .inr #[rfl,ih (by rcases eK.mp h1 with q' |q';lia;exact q') λp hp=>h2 p (bI _ hp)]
  unfold ls;exact one _ (gF.mpr #[]) λ_ _ _=>hb i hi
def flip(L:Lpd):Lpd:={ L with fl:=!L.fl }
def jY5:L.flip.sg=-L.sg:=by
 unfold sg flip;cases L.fl<;>rfl
def Nn{y:Nat->Int}:L.flip.T s i y=-L.T s i y:=by
 show L.flip.sg*_=_;rw[jY5,Int.neg_mul];rfl
def flip_D:L.flip.D s=-L.D s:=by
 show L.flip.sg*_=_;rw[jY5,Int.neg_mul];rfl
def jUl(o:L.Okn s):L.flip.Okn s:=#[by rw[flip_D];have:=o.ne;lia,o.cr]
end Lpd
noncomputable def ofF{d:Type}(n:Nat)(f:Nat->d):List d:=(range n).map f
def bH(n:Nat)(f:Nat->d):(ofF n f).length=n:=by unfold ofF;rw[aA,gL]
def fC{n:Nat}(f:Nat->d)(h:k<n):(ofF n f)[k]?=some (f k):=by unfold ofF;rw[aX,List.getElem?_range h];rfl
def gM{n:Nat}{f:Nat->d}{x:d}(h:(ofF n f)[k]?=some x):k<n/\x=f k:=by
 have hk:k<n:=by have:=(aI.mp h).1;rwa [bH]at this
 rw[fC f hk]at h;exact#[hk,(aU h).symm]
def fN(n:Nat)(f:Nat->d):ofF (n+1) f=ofF n f++[f n]:=by unfold ofF;rw[List.range_succ,aV];rfl
def lO{n:Nat}{f:Nat->d}{x:d}(h:x∈ofF n f):∃k,k<n/\x=f k:=by
 obtain⟨k,hk,e⟩:=cM.mp h;exact#[k,gF.mp hk,e.symm]
def jF{n:Nat}{f g:Nat->d}(h:∀k,k<n->f k=g k):ofF n f=ofF n g:=eP λk hk=>h k (gF.mp hk)
def jYp(n:Nat)(f:Nat->Int):(ofF n f).sum=sm n f:=by
 induction n with
 |zero=>rfl
 |succ n ih=>rw[fN,List.sum_append,ih];show sm n f+(f n+0)=sm n f+f n;rw[Int.add_zero]
def ofF_set{n:Nat}{f:Nat->Int}:(ofF n f).set i v=ofF n λk=>if k=i then v else f k:=by
 apply List.ext_getElem?;intro k;rw[getElem?_set];by_cases hk:k<n
 .rw[fC (λk=>if k=i then v else f k) hk];by_cases e:i=k
  .rw[aK e,aK (by rw[bH];lia),aK e.symm]
  .rw[aF e,aF (Ne.symm e),fC _ hk]
 .rw[bU (l:=ofF n λk=>if k=i then v else f k) (by rw[bH];lia)];by_cases e:i=k
  .rw[aK e,aF (by rw[bH];lia)]
  .rw[aF e,bU (by rw[bH];lia)]
def iQ{l:List Int}(h:l[i]?=some x):l.getD i 0=x:=by rw[aN,h];rfl
def jJ7:∀{l:List Int}{p:Nat},(∀x∈l,BB p x)->BB (p+l.length) l.sum
 | [],p,_=>by show(0:Int).natAbs<_;exact eJ _
 |a::r,p,h=>by
  have i:=jJ7 (l:=r) (p:=p) λx hx=>h x (bI _ hx);have ha:=(h a bQ).mono (show p<=p+r.length by lia);rw[List.sum_cons,cP];exact(ha.add i).mono #[]
namespace Lpd
noncomputable def colL(L:Lpd)(j:Nat):List Int:=ofF (L.m+1) (L.a j)
noncomputable def keptL(L:Lpd)(s:Nat->Nat)(i:Nat):List Int:=ofF (L.m+1) (λk=>L.T s i (e1 k))++[L.T s i L.be]
noncomputable def numL(L:Lpd)(s:Nat->Nat)(c:Nat):List Int:=ofF (L.m+1) λi=>L.T s i (L.cv c)
noncomputable def insL(L:Lpd)(s:Nat->Nat):List Int:=ofF L.m λi=>(s i:Int)
structure Lim(L:Lpd):Prop where
 m1:L.m<=100
 n1:L.n<=100
 ba:∀j k,j<L.n->k<=L.m->BB 20000 (L.a j k)
 bc:∀s i c,L.Okn s->i<=L.m->BB 20000 (L.T s i (L.cv c))
 bk:∀s i k,L.Okn s->i<=L.m->k<=L.m->BB 20000 (L.T s i (e1 k))
 bb:∀s i,L.Okn s->i<=L.m->BB 20000 (L.T s i L.be)
 bD:∀s,L.Okn s->BB 9000 (L.D s)
def keptL_length(L:Lpd)(s:Nat->Nat)(i:Nat):(L.keptL s i).length=L.m+2:=by unfold keptL;rw[bF,bH];rfl
def keptL_get(L:Lpd)(s:Nat->Nat)(i:Nat)(h:k<=L.m):(L.keptL s i)[k]?=some (L.T s i (e1 k)):=by
 unfold keptL;rw[bV (by rw[bH];lia),fC _ #[]]
def keptL_last(L:Lpd)(s:Nat->Nat)(i:Nat):(L.keptL s i)[L.m+1]?=some (L.T s i L.be):=by
 unfold keptL;rw[bP (by rw[bH];lia),bH,kB];rfl
def Lim.kept{L:Lpd}(h:L.Lim)(o:L.Okn s)(hi:i<=L.m):∀x∈L.keptL s i,BB 20000 x:=λx hx=>by
 unfold keptL at hx;rcases cW.mp hx with hx |hx
 .obtain⟨k,hk,rfl⟩:=lO hx;exact h.bk s i k o hi #[]
 .rw[cJ.mp hx];exact h.bb s i o hi
def T_prod(L:Lpd)(s:Nat->Nat)(hi:i<=L.m)(Z:j<L.n):(sm (L.m+1) λk=>L.a j k*L.T s i (e1 k))=L.T s i (L.cv j):=by
 have e:L.cv j=L.a j:=by unfold cv;rw[aK Z]
 rw[e];exact(L.T_lin #[] _).symm
def cv_spare(L:Lpd)(k:Nat):L.cv (L.n+k)=e1 k:=by
 unfold cv;rw[aF #[],show L.n+k-L.n=k by lia]
def Okn.inj{L:Lpd}{s:Nat->Nat}(o:L.Okn s){i j:Nat}(hi:i<L.m)(Z:j<L.m)(h:i≠j):s i≠s j:=λe=>by
 have h1:=L.own (s:=s) hi;have h2:L.T s i (L.cv (s j))=0:=L.other #[] Z h;rw[←e,h1]at h2;exact o.ne h2
def Ok.inj{L:Lpd}{s:Nat->Nat}(o:L.Ok s){i j:Nat}(hi:i<L.m)(Z:j<L.m)(h:i≠j):s i≠s j:=o.n.inj hi Z h
def lx_lp{L:Lpd}{r:Nat}{x y:List Int}(hx:∀k,k<=L.m->x.getD k 0=L.T s r (e1 k))(b:x.getD (L.m+1) 0=L.T s r L.be)(g:x.getD (L.m+2) 0=L.T s r (L.cv c))
  (hy:∀k,k<=L.m->y.getD k 0=L.T s i (e1 k)) (j:y.getD (L.m+1) 0=L.T s i L.be) (u:y.getD (L.m+2) 0=L.T s i (L.cv c))
  (h:lx x y (L.m+2) ((L.m+1)::range L.m)≠some false):¬lp (λp=>-(L.T s i (L.li p)*L.T s r (L.cv c)-L.T s r (L.li p)*L.T s i (L.cv c))) L.ls:=by
 have key:∀l:List Nat,(∀p∈l,p<=L.m)->∀f:List Nat,f=l.map (λp=>if p=0 then L.m+1 else p-1)->lp (λp=>-(L.T s i (L.li p)*L.T s r (L.cv c)-L.T s r (L.li p)*L.T s i (L.cv c))) l->lx x y (L.m+2) f=some false:=by
  intro l
  induction l with
  |nil=>intro _ f _ h;exact h.elim
  |cons p t ih=>
   rintro S f rfl hp;have n:=ih (λq F=>S q (bI _ F)) _ rfl;have a:=S p bQ;have ex:x.getD (if p=0 then L.m+1 else p-1) 0=L.T s r (L.li p):=by
    unfold li;by_cases e:p=0
    .rw[aK e,aK e,b]
    .rw[aF e,aF e,hx _ #[]]
   have d:y.getD (if p=0 then L.m+1 else p-1) 0=L.T s i (L.li p):=by
    unfold li;by_cases e:p=0
    .rw[aK e,aK e,j]
    .rw[aF e,aF e,hy _ #[]]
   rw[cA];unfold lx;rw[ex,d,g,u];rcases hp with hp |⟨hp,D⟩
   .have hp:0< -(L.T s i (L.li p)*L.T s r (L.cv c)-L.T s r (L.li p)*L.T s i (L.cv c)):=hp;rw[aF #[],decide_eq_false #[]]
   .have hp:-(L.T s i (L.li p)*L.T s r (L.cv c)-L.T s r (L.li p)*L.T s i (L.cv c))=0:=hp;rw[aK #[]];exact n D
 intro z;refine h (key L.ls (λp hp=>?_) _ ?_ z)
 .have:=gF.mp hp;lia
 .unfold ls;rw[List.range_succ_eq_map,cA,List.map_map];show _=(L.m+1)::_
  congr 1
  conv=>lhs;rw[←List.map_id (range L.m)]
  exact eP λk _=>by show k=if Nat.succ k=0 then L.m+1 else Nat.succ k-1;rw[aF #[]];rfl
end Lpd
def Ro(row:List Int)(w:Nat):Prop:=row.length=w/\∀m∈row,BB 20000 m
def mn(t i:Addr)(H:Hp):Hp:=λx=>if x=t∨x=i then none else H x
def lP{t i:Addr}:aS (mn t i H) H:=λb o e=>by
 unfold mn at e;split at e
 .cases e
 .exact e
def iP{t i:Addr}(s:aS H Z):aS (mn t i H) (mn t i Z):=λb o e=>by
 unfold mn at e⊢;split at e
 .cases e
 .rename_i h;rw[aF h];exact s b o e
def xR{t i x:Addr}(h:H x=some o)(h1:x≠t)(h2:x≠i):mn t i H x=some o:=by
 unfold mn;rw[aF (λz=>z.elim h1 h2)];exact h
def nT{t i x:Addr}(h:x=t∨x=i):mn t i (upd H x o)=mn t i H:=by
 funext b
 unfold mn;by_cases hb:b=t∨b=i
 .rw[aK hb,aK hb]
 .rw[aF hb,aF hb,bZ (λe=>hb (by rw[e];exact h))]
def eA.mn{t i:Addr}:∀{ps:List Addr}{B:List (List Int)},t∉ps->i∉ps->eA H ps B->eA (mn t i H) ps B
 | [],[],_,_,_=>trivial
 |p::ps,r::B,h1,h2,h=>#[xR h.1 (λe=>h1 (by rw[e];exact bQ)) (λe=>h2 (by rw[e];exact bQ)),eA.mn (λz=>h1 (bI _ z)) (λz=>h2 (bI _ z)) h.2]
 | [],_::_,_,_,h=>h.elim
 |_::_,[],_,_,h=>h.elim
noncomputable def cfl(b sp k i:Addr):List (Str×V):=gY "inside" (.ref i) (gY "kept" (.ref k) (gY "spans" (.ref sp) (gY "begun" (.ref b) [])))
def mU(b sp k i:Addr):(cfl b sp k i).lookup ("begun":Str)=some (.ref b):=rfl
def Ar(b sp k i:Addr):(cfl b sp k i).lookup ("spans":Str)=some (.ref sp):=rfl
def jY(b sp k i:Addr):(cfl b sp k i).lookup ("kept":Str)=some (.ref k):=rfl
def nY(b sp k i:Addr):(cfl b sp k i).lookup ("inside":Str)=some (.ref i):=rfl
def jWW(b sp k i n:Addr):gY "kept" (.ref n) (cfl b sp k i)=cfl b sp n i:=rfl
structure nP(K:aR)(H:Hp)(t ins:Addr)(L:Lpd)(s:Nat->Nat)(dx b sp k:Addr)(bs:List Addr)(ss:List Int)(ks:List Addr):Prop where
 ob:H t=some (.ins (dY K "Corner") dx (cfl b sp k ins))
 hb:mn t ins H b=some (.lst (map ref bs))
 hbs:eA (mn t ins H) bs (ofF L.n L.colL)
 hs:mn t ins H sp=some (.lst (map int ss))
 sl:ss.length=L.n+L.m
 sb:∀x∈ss,BB 30000 x
 hk:mn t ins H k=some (.lst (map ref ks))
 hks:eA (mn t ins H) ks (ofF (L.m+1) (L.keptL s))
 hi:H ins=some (.lst (map int (L.insL s)))
def iV(K:aR)(H:Hp)(t ins:Addr)(L:Lpd)(s:Nat->Nat):Prop:=∃w b sp k bs v ks,nP K H t ins L s w b sp k bs v ks
section
variable{K:aR}{H H':Hp}{t ins:Addr}{L:Lpd}{s:Nat->Nat}{dx b sp k:Addr}{bs:List Addr}{ss:List Int}{ks:List Addr}
def nP.same(h:nP K H t ins L s dx b sp k bs ss ks)(e:aS H H'):nP K H' t ins L s dx b sp k bs ss ks:=
 #[e _ _ h.ob,iP e _ _ h.hb,h.hbs.same (iP e),iP e _ _ h.hs,h.sl,h.sb,iP e _ _ h.hk,h.hks.same (iP e),e _ _ h.hi]
def iV.same(h:iV K H t ins L s)(e:aS H H'):iV K H' t ins L s:=let⟨dx,b,sp,k,bs,ss,ks,c⟩:=h;#[dx,b,sp,k,bs,ss,ks,c.same e]
def nP.B(h:nP K H t ins L s dx b sp k bs ss ks):H b=some (.lst (map ref bs)):=lP _ _ h.hb
def nP.Bs(h:nP K H t ins L s dx b sp k bs ss ks):eA H bs (ofF L.n L.colL):=h.hbs.same lP
def nP.S(h:nP K H t ins L s dx b sp k bs ss ks):H sp=some (.lst (map int ss)):=lP _ _ h.hs
def nP.Kp(h:nP K H t ins L s dx b sp k bs ss ks):H k=some (.lst (map ref ks)):=lP _ _ h.hk
def nP.Ks(h:nP K H t ins L s dx b sp k bs ss ks):eA H ks (ofF (L.m+1) (L.keptL s)):=h.hks.same lP
def nP.bl(h:nP K H t ins L s dx b sp k bs ss ks):bs.length=L.n:=by rw[h.hbs.length,bH]
def nP.kl(h:nP K H t ins L s dx b sp k bs ss ks):ks.length=L.m+1:=by rw[h.hks.length,bH]
def nP.row(h:nP K H t ins L s dx b sp k bs ss ks)(hi:i<=L.m):∃p,ks[i]?=some p/\atI (map ref ks) (i:Int)=some (.ref p)/\H p=some (.lst (map int (L.keptL s i))):=by
 have S:=h.kl;obtain⟨p,hp⟩:∃p,ks[i]?=some p:=#[_,aC #[]];obtain⟨r,e1,C⟩:=h.Ks.get hp;obtain⟨_,rfl⟩:=gM e1;exact#[p,hp,fD (by rw[aX,hp];rfl),C]
def nP.last(h:nP K H t ins L s dx b sp k bs ss ks):∃p,ks[L.m]?=some p/\atI (map ref ks) (-1)=some (.ref p)/\H p=some (.lst (map int (L.keptL s L.m))):=by
 have S:=h.kl;obtain⟨p,hp,_,e⟩:=h.row (aP L.m);exact#[p,hp,yM (by rw[aA,S,aX,show L.m+1-1=L.m by lia,hp];rfl),e]
def nP.col(h:nP K H t ins L s dx b sp k bs ss ks)(Z:j<L.n):∃p,bs[j]?=some p/\atI (map ref bs) (j:Int)=some (.ref p)/\H p=some (.lst (map int (L.colL j))):=by
 have S:=h.bl;obtain⟨p,hp⟩:∃p,bs[j]?=some p:=#[_,aC #[]];obtain⟨r,e1,C⟩:=h.Bs.get hp;obtain⟨_,rfl⟩:=gM e1;exact#[p,hp,fD (by rw[aX,hp];rfl),C]
end
def Ea(K:aR)(H:Hp)(t ins:Addr)(L:Lpd)(s:Nat->Nat)(f:Addr):Prop:=∃w b sp k bs v ks,nP K H t ins L s w b sp k bs v ks/\f≠b/\f≠sp/\f≠k/\f∉bs/\f∉ks
section
variable{K:aR}{H H':Hp}{t ins f:Addr}{L:Lpd}{s:Nat->Nat}{dx b sp k:Addr}{bs:List Addr}{ss:List Int}{ks:List Addr}
def Ea.at(h:Ea K H t ins L s f):iV K H t ins L s:=let⟨dx,b,sp,k,bs,ss,ks,c,_⟩:=h;#[dx,b,sp,k,bs,ss,ks,c]
def Ea.same(h:Ea K H t ins L s f)(e:aS H H'):Ea K H' t ins L s f:=let⟨dx,b,sp,k,bs,ss,ks,c,r⟩:=h;#[dx,b,sp,k,bs,ss,ks,c.same e,r]
def La{xs ys:List Addr}(h:map ref xs=map ref ys):xs=ys:=(List.map_inj_right (λa b h=>by injection h)).mp h
def Ea.of(h:Ea K H t ins L s f)(P:nP K H t ins L s dx b sp k bs ss ks):f≠b/\f≠sp/\f≠k/\f∉bs/\f∉ks:=by
 obtain⟨j,d,c,n,i,l,a,g,r⟩:=h;have e:=aU (g.ob.symm.trans P.ob);injection e with _ _ e;have e1:d=b:=by have:=congrArg (List.lookup ("begun":Str)) e;rw[mU,mU]at this;injection this with this;injection this
 have C:c=sp:=by have:=congrArg (List.lookup ("spans":Str)) e;rw[Ar,Ar]at this;injection this with this;injection this
 have m:n=k:=by have:=congrArg (List.lookup ("kept":Str)) e;rw[jY,jY]at this;injection this with this;injection this
 subst e1 C m;have p:i=bs:=by have:=aU (g.hb.symm.trans P.hb);injection this with this;exact La this
 have T:a=ks:=by have:=aU (g.hk.symm.trans P.hk);injection this with this;exact La this
 subst p T;exact r
def iV.fresh(h:iV K H t ins L s)(hf:H f=none):Ea K H t ins L s f:=by
 obtain⟨dx,b,sp,k,bs,ss,ks,P⟩:=h;have no:∀{a:Addr}{o:HO},H a=some o->f≠a:=λe z=>by rw[←z,hf]at e;cases e
 refine#[dx,b,sp,k,bs,ss,ks,P,no P.B,no P.S,no P.Kp,λhm=>?_,λhm=>?_]
 .obtain⟨_,_,e⟩:=P.Bs.has hm;rw[hf]at e;cases e
 .obtain⟨_,_,e⟩:=P.Ks.has hm;rw[hf]at e;cases e
def Ah{x:Addr}(h1:x≠t)(h2:x≠ins):mn t ins (upd H x o)=upd (mn t ins H) x o:=by
 funext y
 unfold mn;by_cases e:y=x
 .rw[e,aF (λz=>z.elim h1 h2),aL,aL]
 .rw[bZ e,bZ e]
def Ea.upd(h:Ea K H t ins L s f)(h1:f≠t)(h2:f≠ins):Ea K (L2.upd H f o) t ins L s f:=by
 obtain⟨dx,b,sp,k,bs,ss,ks,P,n1,n2,C,a,c⟩:=h;refine#[dx,b,sp,k,bs,ss,ks,#[?_,?_,?_,?_,P.sl,P.sb,?_,?_,?_],n1,n2,C,a,c]
 .rw[bZ h1.symm];exact P.ob
 .rw[Ah h1 h2,bZ n1.symm];exact P.hb
 .rw[Ah h1 h2];exact P.hbs.put a
 .rw[Ah h1 h2,bZ n2.symm];exact P.hs
 .rw[Ah h1 h2,bZ C.symm];exact P.hk
 .rw[Ah h1 h2];exact P.hks.put c
 .rw[bZ h2.symm];exact P.hi
end
noncomputable def lo2(t b:Int):Int×Int:=(t.fdiv (Int.gcd t b:Nat),b.fdiv (Int.gcd t b:Nat))
def eN{t b:Int}(hb:0<b):Lo t b (lo2 t b).1 (lo2 t b).2:=jZa hb
def Lo.uniq{t b w o:Int}(hb:0<b)(h:Lo t b x y)(h':Lo t b w o):x=w/\y=o:=by
 have e:x*o=w*y:=by
  apply Int.eq_of_mul_eq_mul_left (show b≠0 by lia);have h1:=h.eq;have h2:=h'.eq;have:b*(x*o)=(x*b)*o:=by ac_rfl
  rw[this,h1];have:b*(w*y)=(w*b)*y:=by ac_rfl
  rw[this,h2];ac_rfl
 have u:y∣o:=by
  have:y∣x*o:=#[w,by rw[e,fW]];exact Int.natAbs_dvd_natAbs.mp (Nat.Coprime.dvd_of_dvd_mul_left (m:=x.natAbs) (Nat.Coprime.symm h.cop) (by rw[←cQ];exact Int.natAbs_dvd_natAbs.mpr this))
 have k:o∣y:=by
  have:o∣w*y:=#[x,by rw[←e,fW]];exact Int.natAbs_dvd_natAbs.mp (Nat.Coprime.dvd_of_dvd_mul_left (m:=w.natAbs) (Nat.Coprime.symm h'.cop) (by rw[←cQ];exact Int.natAbs_dvd_natAbs.mpr this))
 have l:=Int.le_of_dvd h'.pos u;have a:=Int.le_of_dvd h.pos k;have d:y=o:=#[];subst d;exact#[dN (Int.ne_of_gt h.pos) e,rfl]
def Lo.is{t b:Int}(hb:0<b)(h:Lo t b x y):(x,y)=lo2 t b:=by
 obtain⟨e1,C⟩:=h.uniq hb (eN hb);rw[e1,C]
def Lo.bb{t b:Int}{n:Nat}(h:Lo t b x y)(a:BB m t)(hb:BB n b):BB m x/\BB n y:=#[a.of_le h.bx,hb.of_le h.by_]
def mx1(g:Int):Int:=if 1>g then 1 else g
def uV(g:Int):0<mx1 g:=by unfold mx1;split<;>lia
noncomputable def whF(fs:eF):Int×Int:=lo2 (lc fs) (mx1 (gl (clr fs)))
noncomputable def whL(fs:eF):List Int:=uS (clr fs)
def jO(fs:eF):(whL fs).length=fs.length:=by unfold whL clr;rw[Bl,aA]
def jE{fs:eF}(h:∀f∈fs,0<f.2):0<(whF fs).1/\0<(whF fs).2:=by
 have l:=eN (t:=lc fs) (uV (gl (clr fs)));refine#[?_,l.pos];have e:=l.eq;have h1:=jZc h;have h2:0<lc fs*(lo2 (lc fs) (mx1 (gl (clr fs)))).2:=bK h1 l.pos;rw[←e]at h2;exact Classical.byContradiction λz=>by
  have:=Int.mul_nonpos_of_nonpos_of_nonneg (a:=(lo2 (lc fs) (mx1 (gl (clr fs)))).1) (b:=mx1 (gl (clr fs))) (by unfold whF at z;lia) (bT (uV _));lia
def Vg{fs:eF}(h:∀f∈fs,0<f.2)(hf:fs[i]?=some f):(whL fs).getD i 0*(f.2*(whF fs).2)=f.1*(whF fs).1:=by
 obtain⟨t,e1,C⟩:=Pl (jWX hf);have P:(whL fs).getD i 0=t:=iQ e1;rw[P];have C:t*mx1 (gl (clr fs))=f.1*((lc fs).fdiv f.2):=C;have l:=(eN (t:=lc fs) (uV (gl (clr fs)))).eq;have c:=clr_eq h (aJ hf);have g0:=uV (gl (clr fs));show t*(f.2*(lo2 (lc fs) (mx1 (gl (clr fs)))).2)=f.1*(lo2 (lc fs) (mx1 (gl (clr fs)))).1;generalize (lo2 (lc fs) (mx1 (gl (clr fs)))).1=X at*;generalize (lo2 (lc fs) (mx1 (gl (clr fs)))).2=Y at*;generalize mx1 (gl (clr fs))=g at*;generalize (lc fs).fdiv f.2=q at*;apply Int.eq_of_mul_eq_mul_left (show g≠0 by lia);have G:g*(t*(f.2*Y))=(t*g)*f.2*Y:=by ac_rfl
 have R:g*(f.1*X)=f.1*(X*g):=by ac_rfl
 rw[G,C,c,R,l];ac_rfl
def G9(f:Int×Int):Prop:=0<f.2/\BB 20000 f.1/\BB 9000 f.2
def Sb(t:Addr)(H Z:Hp):Prop:=∀b o,H b=some o->b≠t->Z b=some o
def IsI(H:Hp)(t:Addr):Prop:=∃C w fs,H t=some (.ins C w fs)
def Sb.of{t:Addr}(s:aS H Z):Sb t H Z:=λb o e _=>s b o e
def Sb.trans{t:Addr}{d:Hp}(a:Sb t H Z)(b:Sb t Z d):Sb t H d:=λc o e hc=>b c o (a c o e hc) hc
def Sb.at{t:Addr}:Sb t H (upd H t o):=λb u e hb=>by rw[bZ hb];exact e
def Sb.lst{t:Addr}(s:Sb t H Z)(i:IsI H t)(h:H a=some (.lst xs)):Z a=some (.lst xs):=by
 obtain⟨C,w,fs,e⟩:=i;exact s a _ h (kT h e (by intro z;cases z))
def Sb.rws{t:Addr}(s:Sb t H Z)(i:IsI H t):∀{ps:List Addr}{B:List (List Int)},eA H ps B->eA Z ps B
 | [],[],_=>trivial
 |_::_,_::_,h=>#[s.lst i h.1,s.rws i h.2]
 | [],_::_,h=>h.elim
 |_::_,[],h=>h.elim
def Sb.free{t d:Addr}(s:Sb t H Z)(h:Z d=none)(n:d≠t):H d=none:=by
 cases e:H d with
 |none=>rfl
 |some o=>have:=s d o e n;rw[h]at this;cases this
def eA.notI{t:Addr}{B:List (List Int)}(h:eA H ps B)(i:IsI H t):t∉ps:=λhm=>by
 obtain⟨C,w,fs,e⟩:=i;obtain⟨_,_,a⟩:=h.has hm;rw[e]at a;cases a
def eA.notN{t:Addr}{B:List (List Int)}(h:eA H ps B)(i:H t=none):t∉ps:=λhm=>by
 obtain⟨_,_,C⟩:=h.has hm;rw[i]at C;cases C
noncomputable def qD(K:aR)(H:Hp):List Addr->hJ->Prop
 | [],[]=>True
 |p::ps,r::rs=>(∃A,H p=some (.lst (map ref A))/\dC K H A r)/\qD K H ps rs
 |_,_=>False
def qD.same(s:aS H Z):∀{ps:List Addr}{B:hJ},qD K H ps B->qD K Z ps B
 | [],[],_=>trivial
 |_::_,_::_,h=>#[let⟨qs,a,b⟩:=h.1;#[qs,s _ _ a,b.same s],h.2.same s]
 | [],_::_,h=>h.elim
 |_::_,[],h=>h.elim
def qD.length:∀{ps:List Addr}{B:hJ},qD K H ps B->ps.length=B.length
 | [],[],_=>rfl
 |_::_,_::_,h=>by rw[cP,cP,h.2.length]
 | [],_::_,h=>h.elim
 |_::_,[],h=>h.elim
def qD.get{K:aR}{H:Hp}:∀{ps:List Addr}{B:hJ}{i:Nat}{p:Addr},qD K H ps B->ps[i]?=some p->∃r A,B[i]?=some r/\H p=some (.lst (map ref A))/\dC K H A r
 | [],[],_,_,_,e=>by simp at e
 |_::_,r::_,0,_,h,e=>by simp at e;subst e;obtain⟨A,a,b⟩:=h.1;exact#[r,A,rfl,a,b]
 |_::_,_::_,i+1,_,h,e=>by
  obtain⟨f,A,e1,C⟩:=h.2.get (i:=i) (by simpa using e);exact#[f,A,by simpa using e1,C]
 | [],_::_,_,_,h,_=>h.elim
 |_::_,[],_,_,h,_=>h.elim
def qD.append{A:List Addr}{w:hJ}(F:qD K H A w):∀{ps:List Addr}{B:hJ},qD K H ps B->qD K H (ps++A) (B++w)
 | [],[],_=>F
 |_::_,_::_,h=>#[h.1,qD.append F h.2]
 | [],_::_,h=>h.elim
 |_::_,[],h=>h.elim
noncomputable def xM(H:Hp):List Addr->hJ->Prop
 | [],[]=>True
 |p::ps,r::rs=>(∃f l,H p=some (.tup [.ref f,.ref l])/\H f=some (.tup [.int (whF r).1,.int (whF r).2])/\H l=some (.lst (map int (whL r))))/\xM H ps rs
 |_,_=>False
def xM.same(s:aS H Z):∀{ps:List Addr}{B:hJ},xM H ps B->xM Z ps B
 | [],[],_=>trivial
 |_::_,_::_,h=>#[let⟨f,l,a,b,c⟩:=h.1;#[f,l,s _ _ a,s _ _ b,s _ _ c],h.2.same s]
 | [],_::_,h=>h.elim
 |_::_,[],h=>h.elim
def xM.length:∀{ps:List Addr}{B:hJ},xM H ps B->ps.length=B.length
 | [],[],_=>rfl
 |_::_,_::_,h=>by rw[cP,cP,h.2.length]
 | [],_::_,h=>h.elim
 |_::_,[],h=>h.elim
def xM.get{H:Hp}:∀{ps:List Addr}{B:hJ}{i:Nat}{p:Addr},xM H ps B->ps[i]?=some p->∃r f l,B[i]?=some r/\H p=some (.tup [.ref f,.ref l])/\H f=some (.tup [.int (whF r).1,.int (whF r).2])/\H l=some (.lst (map int (whL r)))
 | [],[],_,_,_,e=>by simp at e
 |_::_,r::_,0,_,h,e=>by simp at e;subst e;obtain⟨f,l,a,b,c⟩:=h.1;exact#[r,f,l,rfl,a,b,c]
 |_::_,_::_,i+1,_,h,e=>by
  obtain⟨r,f,l,e1,C⟩:=h.2.get (i:=i) (by simpa using e);exact#[r,f,l,by simpa using e1,C]
 | [],_::_,_,_,h,_=>h.elim
 |_::_,[],_,_,h,_=>h.elim
def xM.append{A:List Addr}{w:hJ}(F:xM H A w):∀{ps:List Addr}{B:hJ},xM H ps B->xM H (ps++A) (B++w)
 | [],[],_=>F
 |_::_,_::_,h=>#[h.1,xM.append F h.2]
 | [],_::_,h=>h.elim
 |_::_,[],h=>h.elim
noncomputable def fov(f g:Int×Int):Int×Int:=lo2 (f.1*g.2) (f.2*g.1)
noncomputable def ftm(f g:Int×Int):Int×Int:=lo2 (f.1*g.1) (f.2*g.2)
def bnF(frs:hJ)(l:eF):eF:=List.zipWith (λb r=>ftm b (whF r)) l frs
noncomputable def bO(e:Bool)(frs:hJ)(l d:eF):Lpd where
 m:=frs.length
 n:=d.length
 a:=λj i=>if i<frs.length then(whL (frs.getD i [])).getD j 0 else-(whL d).getD j 0
 be:=λi=>(whL (bnF frs l)).getD i 0
 fl:=e
structure Fit(m n q:Nat):Prop where
 q1:1<=q
 m1:m<=100
 n1:n<=100
 le:min m n*q+q+(m+1)+(m+1)*(m+1)+1<=9000
structure BeO(frs:hJ)(fb fg:eF):Prop where
 lr:∀r∈frs,r.length=fg.length
 lb:fb.length=frs.length
 gr:∀r∈frs,∀f∈r,G9 f
 gb:∀f∈fb,G9 f
 gg:∀f∈fg,G9 f
 cr:∀r∈frs,∀x∈clr r,BB 9000 x
 cg:∀x∈clr fg,BB 9000 x
 cb:∀x∈clr (bnF frs fb),BB 9000 x
 wr:∀r∈frs,BB 20000 (whF r).1/\BB 20000 (whF r).2
 wb:BB 20000 (whF (bnF frs fb)).1/\BB 20000 (whF (bnF frs fb)).2
 wg:BB 20000 (whF fg).1/\BB 20000 (whF fg).2
 tb:∀b∈fb,∀r∈frs,BB 9000 (b.2*(whF r).2)/\BB 20000 (b.1*(whF r).1)
 lim:∀e,(bO e frs fb fg).Lim
 ox:∀e s,(bO e frs fb fg).Okn s->BB 9000 ((bO e frs fb fg).D s*(whF (bnF frs fb)).1)
 oy:∀e s,(bO e frs fb fg).Okn s->∀r∈frs,BB 9000 ((bO e frs fb fg).D s*(whF r).2*(whF fg).1)/\∀k,k<frs.length->BB 20000 ((bO e frs fb fg).T s frs.length (e1 k)*(whF r).1)
 fit:∃q q',Fit frs.length fg.length q'/\q<=9000/\(∀k,40*2^k<q->40*2^k<=q')/\(∀j k,BB q ((bO false frs fb fg).a j k))/\∀k,BB q ((bO false frs fb fg).be k)
def jA{frs:hJ}{l:eF}(h:l.length=frs.length):(bnF frs l).length=frs.length:=by unfold bnF;rw[List.length_zipWith];lia
def uX{frs:hJ}{l:eF}{b:Int×Int}{r:eF}(h1:l[i]?=some b)(h2:frs[i]?=some r):(bnF frs l)[i]?=some (ftm b (whF r)):=by
 unfold bnF;rw[List.getElem?_zipWith,h1,h2]
def Lpd.out{L:Lpd}(h:L.T s L.m (L.cv c)<0)(hi:i<L.m):s i≠c:=λe=>by
 have:=L.other (s:=s) (i:=L.m) (j:=i) #[] hi #[];rw[e]at this;lia
def spr_bb{L:Lpd}(ok:L.Ok s){f:Nat->Int}{n:Nat}(hf:∀i,i<L.m->BB n (f i))(j:Nat):BB n (Lpd.spr L.m s f j):=by
 by_cases h:∃i,i<L.m/\s i=j
 .obtain⟨i,hi,e⟩:=h;have:Lpd.spr L.m s f j=f i:=by
   unfold Lpd.spr;rw[oJ (p:=i) hi λk hk U=>aF λz=>ok.inj hk hi U (z.trans e.symm),aK e]
  rw[this];exact hf i hi
 .have:Lpd.spr L.m s f j=0:=kP λi hi=>aF λz=>h #[i,hi,z];rw[this];show(0:Int).natAbs<_;exact eJ _
def oO{a:Int}(ha:0<a)(h:0<=x*a):0<=x:=Classical.byContradiction λz=>by
 have:=Int.mul_neg_of_neg_of_pos (show x<0 by lia) ha;lia
def vH{t b:Int}(hb:0<b)(y:0<=t):0<=(lo2 t b).1:=by
 have l:=eN (t:=t) hb;refine oO hb ?_;rw[l.eq];exact dU y (bT l.pos)
def jZo{fs:eF}(h:∀f∈fs,0<f.2)(h0:∀f∈fs,0<=f.1)(i:Nat):0<=(whL fs).getD i 0:=by
 by_cases hi:i<fs.length
 .have e:=aC hi;have q:=Vg h e;have hm:=cD hi;have w:=jE h;refine oO (bK (h _ hm) w.2) ?_;rw[q];exact dU (h0 _ hm) (bT w.1)
 .rw[aN,bU (by rw[jO];lia)];exact Int.le_refl _
def jYJ{frs:hJ}{l d:eF}(B:BeO frs l d)(h0:∀f∈l,0<=f.1):∀f∈bnF frs l,0<=f.1:=λf hf=>by
 obtain⟨i,hi⟩:=cF hf;have r:i<frs.length:=by have:=(aI.mp hi).1;rwa [jA B.lb]at this
 have c:i<l.length:=by rw[B.lb];exact r
 have e1:=aC r;have C:=aC c;rw[uX C e1]at hi;obtain rfl:=aU hi;have X:=jE λf hf=>(B.gr _ (cD r) f hf).1;exact vH (bK (B.gb _ (cD c)).1 X.2) (dU (h0 _ (cD c)) (bT X.1))
def Au{n:Nat}{z:Int}(h:BB n (y*z))(hx:0<=x)(g:x<=y)(hz:0<=z):BB n (x*z):=h.of_le (by
 rw[cQ,cQ];exact fB #[] (aP _))
def lo2_le{t b:Int}(hb:0<b):(lo2 t b).2<=b:=by
 have l:=eN (t:=t) hb;have h1:=l.by_;have h2:=l.pos;lia
def Tw(K:aR)(H:Hp)(p q:Addr)(a b c d:Int):Prop:=SqT K H p [.int a,.int b]/\SqT K H q [.int c,.int d]/\BB 20000 a/\BB 20000 b/\BB 20000 c/\BB 20000 d
def dC.snoc{q:Addr}{fs:eF}(h:dC K H ps fs)(F:SqT K H q [.int g.1,.int g.2]):dC K H (ps++[q]) (fs++[g]):=dC.append (show dC K H [q] [g]from#[F,trivial]) h
noncomputable def nsm:Nat->(Nat->Nat)->Nat
 |0,_=>0
 |n+1,c=>nsm n c+c n
def lR:∀{n:Nat}{c d:Nat->Nat},(∀i,i<n->c i=d i)->nsm n c=nsm n d
 |0,_,_,_=>rfl
 |n+1,c,d,h=>by
  show nsm n c+c n=nsm n d+d n;rw[lR (n:=n) λi hi=>h i #[],h n #[]]
def jYr(c:Nat->Nat):∀{n k:Nat},k<=n->nsm n (λi=>c (skp k i))+c k=nsm (n+1) c
 |0,k,h=>by
  have:k=0:=#[];subst this;show 0+c 0=0+c 0;rfl
 |n+1,k,h=>by
  show nsm n (λi=>c (skp k i))+c (skp k n)+c k=nsm (n+1) c+c (n+1);by_cases e:k=n+1
  .subst e;have e1:nsm n (λi=>c (skp (n+1) i))=nsm n c:=lR λi hi=>by unfold skp;rw[aK #[]]
   have C:skp (n+1) n=n:=by unfold skp;rw[aK #[]]
   rw[e1,C];rfl
  .have m:=jYr c (n:=n) (k:=k) #[];have C:skp k n=n+1:=by unfold skp;rw[aF #[]]
   rw[C];lia
def jZi{n:Nat}(h:BB n x)(e:y.natAbs=x.natAbs):BB n y:=by unfold BB at*;lia
def jZf:∀{N:Nat}{M:Mx}{c:Nat->Nat},(∀i,i<N->∀r,r<N->BB (c i) (M i r))->BB (nsm N c+N*N+1) (det N M)
 |0,_,_,_=>by show(1:Int).natAbs<2^1;decide
 |n+1,M,c,h=>by
  have e:det (n+1) M=(ofF (n+1) λk=>sg k*M k 0*det n (mnr M k)).sum:=(jYp _ _).symm;rw[e];have:=jJ7 (l:=ofF (n+1) λk=>sg k*M k 0*det n (mnr M k)) (p:=nsm (n+1) c+n*n+1) λx hx=>by
   obtain⟨k,hk,rfl⟩:=lO hx;have m:=jZf (N:=n) (M:=mnr M k) (c:=λi=>c (skp k i)) λi hi r hr=>h _ (skp_lt hi) _ #[];have D:=h k hk 0 #[];have hs:=jYr c (n:=n) (k:=k) #[];refine jZi ((D.mul m).mono #[]) ?_;rw[cQ,cQ,sg_abs,Nat.one_mul,cQ]
  rw[bH]at this;refine this.mono ?_;have:(n+1)*(n+1)=n*n+n+n+1:=by rw[Nat.add_mul,Nat.mul_add];lia
  lia
def Na(h:1<=q)(k r:Nat):BB q (e1 k r):=by
 unfold e1;have h2:1<2^q:=Nat.one_lt_two_pow #[];split
 .show(1:Int).natAbs<_;exact h2
 .show(0:Int).natAbs<_;exact eJ _
def Jo(q:Nat):∀n,nsm n (λ_=>q)=n*q
 |0=>by rw[Nat.zero_mul];rfl
 |n+1=>by show nsm n (λ_=>q)+q=_;rw[Jo q n,Nat.add_mul,Nat.one_mul]
def nsm_pt(c:Nat->Nat)(i q:Nat):∀n,nsm n (λk=>if k=i then q else c k)<=nsm n c+q
 |0=>dW _
 |n+1=>by
  show nsm n (λk=>if k=i then q else c k)+(if n=i then q else c n)<=nsm n c+c n+q;by_cases e:n=i
  .rw[aK e];have:nsm n (λk=>if k=i then q else c k)=nsm n c:=lR λk hk=>aF #[];lia
  .rw[aF e];have:=nsm_pt c i q n;lia
def Er(c d:Nat->Nat):∀n,nsm n (λi=>c i+d i)=nsm n c+nsm n d
 |0=>rfl
 |n+1=>by show nsm n (λi=>c i+d i)+(c n+d n)=nsm n c+c n+(nsm n d+d n);rw[Er c d n];lia
def yH{c:Nat->Nat}:∀{n:Nat},(∀i,i<n->c i=0)->nsm n c=0
 |0,_=>rfl
 |n+1,h=>by show nsm n c+c n=0;rw[yH (n:=n) λi hi=>h i #[],h n #[]]
def Wv{s:Nat->Nat}{c:Nat}:∀{m:Nat},(∀i j,i<m->j<m->i≠j->s i≠s j)->nsm m (λi=>if s i=c then 1 else 0)<=1
 |0,_=>dW _
 |m+1,h=>by
  show nsm m (λi=>if s i=c then 1 else 0)+(if s m=c then 1 else 0)<=1;by_cases e:s m=c
  .rw[aK e,yH λi hi=>aF λz=>h i m #[] #[] #[] (z.trans e.symm)];exact aP _
  .rw[aF e];exact Wv λi j hi Z=>h i j #[] #[]
def jZg{s:Nat->Nat}{m:Nat}(h:∀i j,i<m->j<m->i≠j->s i≠s j):∀n,nsm m (λi=>if s i<n then 1 else 0)<=n
 |0=>by rw[yH λi _=>aF #[]];exact aP _
 |n+1=>by
  have h1:=jZg h n;have h2:=Wv (c:=n) h;have e:nsm m (λi=>if s i<n+1 then 1 else 0)=nsm m (λi=>(if s i<n then 1 else 0)+(if s i=n then 1 else 0)):=lR λi _=>by
   by_cases a:s i<n
   .rw[aK a,aK #[],aF #[]]
   .by_cases c:s i=n
    .rw[aF a,aK c,aK #[]]
    .rw[aF a,aF c,aF #[]]
  rw[e,Er];lia
def cnt_m{s:Nat->Nat}(n:Nat):∀m,nsm m (λi=>if s i<n then 1 else 0)<=m
 |0=>aP _
 |m+1=>by
  show nsm m (λi=>if s i<n then 1 else 0)+(if s m<n then 1 else 0)<=m+1;have:=cnt_m (s:=s) n m;split<;>lia
def Wi{s:Nat->Nat}(n q:Nat):∀m,nsm m (λi=>if s i<n then q else 1)<=nsm m (λi=>if s i<n then 1 else 0)*q+m
 |0=>dW _
 |m+1=>by
  show nsm m (λi=>if s i<n then q else 1)+(if s m<n then q else 1)<=(nsm m (λi=>if s i<n then 1 else 0)+(if s m<n then 1 else 0))*q+(m+1);have:=Wi (s:=s) n q m;rw[Nat.add_mul];split<;>lia
def nsm_in{n:Nat}(h:∀i j,i<m->j<m->i≠j->s i≠s j):nsm (m+1) (λi=>if i<m/\s i<n then q else 1)<=min m n*q+(m+1):=by
 show nsm m (λi=>if i<m/\s i<n then q else 1)+(if m<m/\s m<n then q else 1)<=_;rw[aF #[]];have e:nsm m (λi=>if i<m/\s i<n then q else 1)=nsm m (λi=>if s i<n then q else 1):=lR λi hi=>by
  by_cases a:s i<n
  .rw[aK a,aK #[hi,a]]
  .rw[aF a,aF λz=>a z.2]
 rw[e];have h1:=Wi (s:=s) n q m;have h2:=jZg h n;have A:=cnt_m (s:=s) n m;have y:nsm m (λi=>if s i<n then 1 else 0)*q<=min m n*q:=iR _ #[];lia
def B_bb{L:Lpd}(ha:∀j k,j<L.n->k<=L.m->BB q (L.a j k))(s:Nat->Nat){r:Nat}(hr:r<L.m+1):BB (if j<L.m/\s j<L.n then q else 1) (L.B s j r):=by
 unfold Lpd.B;by_cases h1:j<L.m
 .rw[aK h1];unfold Lpd.cv;by_cases h2:s j<L.n
  .rw[aK h2,aK #[h1,h2]];exact ha _ _ h2 #[]
  .rw[aF h2,aF λz=>h2 z.2];exact Na (aP _) _ _
 .rw[aF h1,aF λz=>h1 z.1];exact Na (aP _) _ _
def T_bbk{L:Lpd}{qy:Nat}(ha:∀j k,j<L.n->k<=L.m->BB q (L.a j k))(o:L.Okn s)(i:Nat){y:Nat->Int}(hy:∀k,k<=L.m->BB qy (y k)):BB (min L.m L.n*q+qy+(L.m+1)+(L.m+1)*(L.m+1)+1) (L.T s i y):=by
 have:=jZf (N:=L.m+1) (M:=pt (L.B s) i y) (c:=λk=>if k=i then qy else if k<L.m/\s k<L.n then q else 1) λj Z r hr=>by
  unfold pt;by_cases e:j=i
  .rw[aK e,aK e];exact hy r #[]
  .rw[aF e,aF e];exact B_bb ha s hr
 refine BB.mono (jZi this (L.sg_abs _)) ?_;have h2:=nsm_pt (λk=>if k<L.m/\s k<L.n then q else 1) i qy (L.m+1);have A:=nsm_in (n:=L.n) (q:=q) (s:=s) (m:=L.m) λi j hi Z h=>o.inj hi Z h;lia
def D_bbk{L:Lpd}(ha:∀j k,j<L.n->k<=L.m->BB q (L.a j k))(o:L.Okn s):BB (min L.m L.n*q+(L.m+1)+(L.m+1)*(L.m+1)+1) (L.D s):=by
 have:=jZf (N:=L.m+1) (M:=L.B s) (c:=λk=>if k<L.m/\s k<L.n then q else 1) λj _ r hr=>B_bb ha s hr;refine BB.mono (jZi this (L.sg_abs _)) ?_;have A:=nsm_in (n:=L.n) (q:=q) (s:=s) (m:=L.m) λi j hi Z h=>o.inj hi Z h;lia
theorem Fit.lim{L:Lpd}(F:Fit L.m L.n q)(ha:∀j k,j<L.n->k<=L.m->BB q (L.a j k))(hb:∀k,k<=L.m->BB q (L.be k)):L.Lim:=by
 obtain⟨q1,m1,n1,le⟩:=F;have P:∀s i(y:Nat->Int),L.Okn s->(∀k,k<=L.m->BB q (y k))->BB 20000 (L.T s i y):=λs i y o hy=>(T_bbk ha o i hy).mono #[];refine#[m1,n1,λj k Z hk=>(ha j k Z hk).mono #[],λs i c o _=>P s i _ o λk hk=>?_,λs i k o _ _=>P s i _ o λr _=>Na q1 _ _,λs i o _=>P s i _ o hb,λs o=>(D_bbk ha o).mono #[]];unfold Lpd.cv;split
 .exact ha _ _ (by assumption) hk
 .exact Na q1 _ _
def Gp(p r:Nat)(f:Int×Int):Prop:=0<f.2/\BB p f.1/\BB r f.2
def lc_bbg:∀(fs:eF)(n:Int)(m r:Nat),0<n->BB m n->(∀f∈fs,0<f.2)->(∀f∈fs,BB r f.2)->BB (m+r*fs.length) (fs.foldl lcf n)
 | [],_,_,_,_,h,_,_=>h
 |a::t,n,m,r,hn,h,h1,h2=>by
  rw[List.foldl_cons];obtain⟨R,_,_,_,X⟩:=jZb hn (h1 a bQ);have b:BB (m+r) (lcf n a):=h.mul ((h2 a bQ).of_le X);have:=lc_bbg t (lcf n a) (m+r) r R b (λf hf=>h1 f (bI _ hf)) λf hf=>h2 f (bI _ hf);rw[cP];refine this.mono ?_;rw[Nat.mul_add,Nat.mul_one];lia
def lc_bbp{fs:eF}{p r:Nat}(h:∀f∈fs,Gp p r f):BB (1+r*fs.length) (lc fs):=lc_bbg fs 1 1 r (by decide) (by show(1:Int).natAbs<2^1;decide) (λf hf=>(h f hf).1) λf hf=>(h f hf).2.2
def Ms{fs:eF}{p r:Nat}(h:∀f∈fs,Gp p r f)(F:BB q (lc fs)):∀x∈clr fs,BB (p+q) x:=λx hx=>by
 obtain⟨f,hf,rfl⟩:=cM.mp hx;have g:=h f hf;obtain⟨k,hk⟩:=(Cl fs 1 (by decide) λf hf=>(h f hf).1).2.2.1 f hf;have hk:lc fs=f.2*k:=hk;have O:(lc fs).fdiv f.2=k:=by rw[hk];exact Int.mul_fdiv_cancel_left _ (Int.ne_of_gt g.1)
 refine g.2.1.mul (F.of_le ?_);rw[O,hk,cQ];exact Nat.le_mul_of_pos_left _ (by have:=g.1;lia)
def mx1_bb{g:Int}(h1:1<=q)(h:BB q g):BB q (mx1 g):=by
 unfold mx1;split
 .show(1:Int).natAbs<_;exact Nat.one_lt_two_pow #[]
 .exact h
def jJx{fs:eF}{p r:Nat}(h:∀f∈fs,Gp p r f)(F:BB q (lc fs))(h1:1<=p+q):BB q (whF fs).1/\BB (p+q) (whF fs).2:=(eN (uV _)).bb F (mx1_bb h1 (jYU (Ms h F)))
def whL_bb{fs:eF}{p r:Nat}(h:∀f∈fs,Gp p r f)(F:BB q (lc fs))(i:Nat):BB (p+q) ((whL fs).getD i 0):=by
 by_cases hi:i<(whL fs).length
 .exact Ta (Ms h F) _ (mE hi)
 .rw[aN,bU #[]];show(0:Int).natAbs<_;exact eJ _
def kR(L:Lpd)(s:Nat->Nat):Prop:=∀i,i<L.m->s i<L.n+L.m
noncomputable def UnO(L:Lpd)(s:Nat->Nat):Option Nat->Prop
 |none=>∀c,c<L.n+L.m->0<=L.T s L.m (L.cv c)
 |some c=>c<L.n+L.m/\L.T s L.m (L.cv c)<0/\∀i,i<L.m->L.T s i (L.cv c)<=0
noncomputable def xD(L:Lpd)(s:Nat->Nat)(f:Nat->Int)(i j:Nat):Int×Int:=lo2 (Lpd.spr i s f j) (L.D s)
noncomputable def kL(L:Lpd)(s:Nat->Nat)(c j:Nat):Int×Int:=lo2 (Lpd.spr L.m s (λi=>-L.T s i (L.cv c)) j+if j=c then L.D s else 0) (L.D s)
noncomputable def kZ:Nat->(Nat->Int×Int)->(Nat->Int×Int)->Int×Int
 |0,_,_=>(0,1)
 |n+1,f,g=>((kZ n f g).1*(f n).2*(g n).2+(f n).1*(g n).1*(kZ n f g).2,(kZ n f g).2*(f n).2*(g n).2)
def kQ{f g:Nat->Int×Int}:∀{n:Nat},(∀k,k<n->0<(f k).2)->(∀k,k<n->0<(g k).2)->0<(kZ n f g).2
 |0,_,_=>by show(0:Int)<1;decide
 |n+1,h1,h2=>bK (bK (kQ (λk hk=>h1 k #[]) λk hk=>h2 k #[]) (h1 n #[])) (h2 n #[])
def uU{f g:Nat->Int×Int}{W:Int}{v:Nat->Int}:∀{n:Nat},(∀k,k<n->(f k).1*(g k).1*W=v k*((f k).2*(g k).2))->(kZ n f g).1*W=sm n v*(kZ n f g).2
 |0,_=>by show(0:Int)*W=0*1;simp
 |n+1,h=>by
  have m:=uU (n:=n) λk hk=>h k #[];have hn:=h n #[];show((kZ n f g).1*(f n).2*(g n).2+(f n).1*(g n).1*(kZ n f g).2)*W=(sm n v+v n)*((kZ n f g).2*(f n).2*(g n).2);generalize (kZ n f g).1=t at*;generalize (kZ n f g).2=b at*;grind
def jYh{P:Int×Int}{W S:Int}{c:Int×Int}(b:0<W)(F:0<P.2)(e:P.1*W=S*P.2)(h:S*c.2<=c.1*W):P.1*c.2<=c.1*P.2:=by
 have h1:S*c.2*P.2<=c.1*W*P.2:=Int.mul_le_mul_of_nonneg_right h (bT F);refine Int.le_of_mul_le_mul_right (a:=W) ?_ b;have e1:P.1*c.2*W=S*c.2*P.2:=by grind
 have C:c.1*P.2*W=c.1*W*P.2:=by grind
 rw[e1,C];exact h1
def prdF_ge{P:Int×Int}{W S:Int}{c:Int×Int}(b:0<W)(F:0<P.2)(e:P.1*W=S*P.2)(h:c.1*W<=S*c.2):c.1*P.2<=P.1*c.2:=by
 have h1:c.1*W*P.2<=S*c.2*P.2:=Int.mul_le_mul_of_nonneg_right h (bT F);refine Int.le_of_mul_le_mul_right (a:=W) ?_ b;have e1:P.1*c.2*W=S*c.2*P.2:=by grind
 have C:c.1*P.2*W=c.1*W*P.2:=by grind
 rw[e1,C];exact h1
def jY2{S D:Int}{W:Int×Int}(g:0<D)(b:0<W.1):(fov (lo2 S D) W).1*(D*W.1)=S*W.2*(fov (lo2 S D) W).2/\0<(fov (lo2 S D) W).2/\Int.gcd (fov (lo2 S D) W).1 (fov (lo2 S D) W).2=1:=by
 have l:=eN (t:=S) g;have z:=bK l.pos b;have m:=eN (t:=(lo2 S D).1*W.2) z;refine#[?_,m.pos,m.cop];have h1:=l.eq;have h2:=m.eq;have p1:=l.pos;show(lo2 ((lo2 S D).1*W.2) ((lo2 S D).2*W.1)).1*(D*W.1)=S*W.2*(lo2 ((lo2 S D).1*W.2) ((lo2 S D).2*W.1)).2;generalize (lo2 ((lo2 S D).1*W.2) ((lo2 S D).2*W.1)).1=X at*;generalize (lo2 ((lo2 S D).1*W.2) ((lo2 S D).2*W.1)).2=Y at*;generalize (lo2 S D).1=s at*;generalize (lo2 S D).2=d at*;apply Int.eq_of_mul_eq_mul_left (show d≠0 by lia);grind
def jX2{S D:Int}{W:Int×Int}(g:0<D)(b:0<W.1)(a:0<W.2)(v:0<=S):0<=(fov (lo2 S D) W).1:=by
 obtain⟨e,p,_⟩:=jY2 (S:=S) g b;refine oO (bK g b) ?_;rw[e];exact dU (dU v (bT a)) (bT p)
def fty_val{U D:Int}{w G:Int×Int}(g:0<D)(hw:0<w.2)(S:0<G.1):(fov (ftm (lo2 U D) w) G).1*(D*w.2*G.1)=U*w.1*G.2*(fov (ftm (lo2 U D) w) G).2/\0<(fov (ftm (lo2 U D) w) G).2/\Int.gcd (fov (ftm (lo2 U D) w) G).1 (fov (ftm (lo2 U D) w) G).2=1:=by
 have l:=eN (t:=U) g;have F:=bK l.pos hw;have m:=eN (t:=(lo2 U D).1*w.1) F;have T:=bK m.pos S;have N:=eN (t:=(lo2 ((lo2 U D).1*w.1) ((lo2 U D).2*w.2)).1*G.2) T;refine#[?_,N.pos,N.cop];have h1:=l.eq;have h2:=m.eq;have A:=N.eq;have p1:=l.pos;have R:=m.pos;show(lo2 ((lo2 ((lo2 U D).1*w.1) ((lo2 U D).2*w.2)).1*G.2) ((lo2 ((lo2 U D).1*w.1) ((lo2 U D).2*w.2)).2*G.1)).1*(D*w.2*G.1)=U*w.1*G.2*(lo2 ((lo2 ((lo2 U D).1*w.1) ((lo2 U D).2*w.2)).1*G.2) ((lo2 ((lo2 U D).1*w.1) ((lo2 U D).2*w.2)).2*G.1)).2;generalize (lo2 ((lo2 ((lo2 U D).1*w.1) ((lo2 U D).2*w.2)).1*G.2) ((lo2 ((lo2 U D).1*w.1) ((lo2 U D).2*w.2)).2*G.1)).1=X at*;generalize (lo2 ((lo2 ((lo2 U D).1*w.1) ((lo2 U D).2*w.2)).1*G.2) ((lo2 ((lo2 U D).1*w.1) ((lo2 U D).2*w.2)).2*G.1)).2=Y at*;generalize (lo2 ((lo2 U D).1*w.1) ((lo2 U D).2*w.2)).1=u at*;generalize (lo2 ((lo2 U D).1*w.1) ((lo2 U D).2*w.2)).2=k at*;generalize (lo2 U D).1=s at*;generalize (lo2 U D).2=d at*;apply Int.eq_of_mul_eq_mul_left (show d*k≠0 from Int.ne_of_gt (bK p1 R));grind
section
variable{fl:Bool}{frs:hJ}{fb fg:eF}{s:Nat->Nat}
noncomputable def rwF(frs:hJ)(i j:Nat):Int×Int:=(frs.getD i []).getD j (0,1)
def Wd(B:BeO frs fb fg)(hi:i<frs.length)(Z:j<fg.length):(bO fl frs fb fg).a j i*((rwF frs i j).2*(whF (frs.getD i [])).2)=(rwF frs i j).1*(whF (frs.getD i [])).1:=by
 have hm:frs.getD i []∈frs:=by rw[aN,aC hi];exact cD hi
 have S:=B.lr _ hm;have e:(bO fl frs fb fg).a j i=(whL (frs.getD i [])).getD j 0:=by show(if i<frs.length then _ else _)=_;rw[aK hi]
 rw[e];refine Vg (λf hf=>(B.gr _ hm f hf).1) ?_;unfold rwF;generalize frs.getD i []=l at*;rw[aN,aC #[]];rfl
def Ow(B:BeO frs fb fg)(Z:j<fg.length):-(bO fl frs fb fg).a j frs.length*((fg.getD j (0,1)).2*(whF fg).2)=(fg.getD j (0,1)).1*(whF fg).1:=by
 have e:(bO fl frs fb fg).a j frs.length=-(whL fg).getD j 0:=by show(if frs.length<frs.length then _ else _)=_;rw[aF (eO _)]
 rw[e,Int.neg_neg];refine Vg (λf hf=>(B.gg f hf).1) ?_;rw[aN,aC Z];rfl
def Ww(B:BeO frs fb fg)(hi:i<frs.length):(bO fl frs fb fg).be i*(whF (bnF frs fb)).2*((fb.getD i (0,1)).2*(whF (frs.getD i [])).2)=(fb.getD i (0,1)).1*(whF (frs.getD i [])).1*(whF (bnF frs fb)).1:=by
 have c:i<fb.length:=by rw[B.lb];exact hi
 have e1:fb[i]?=some (fb.getD i (0,1)):=by rw[aN,aC c];rfl
 have C:frs[i]?=some (frs.getD i []):=by rw[aN,aC hi];rfl
 have hm:=aJ C;have m:=aJ e1;have w:=jE λf hf=>(B.gr _ hm f hf).1;have z:=bK (B.gb _ m).1 w.2;have l:=eN (t:=(fb.getD i (0,1)).1*(whF (frs.getD i [])).1) z;have gbn:∀f∈bnF frs fb,0<f.2:=λf hf=>by
  obtain⟨k,hk⟩:=cF hf;have b:k<frs.length:=by have:=(aI.mp hk).1;rwa [jA B.lb]at this
  have a:k<fb.length:=by rw[B.lb];exact b
  rw[uX (aC a) (aC b)]at hk;obtain rfl:=aU hk;have w:=jE λf hf=>(B.gr _ (cD b) f hf).1;exact(eN (bK (B.gb _ (cD a)).1 w.2)).pos
 have q:=Vg gbn (uX e1 C);have e:(bO fl frs fb fg).be i=(whL (bnF frs fb)).getD i 0:=rfl;rw[e];have h1:=l.eq;have p1:=l.pos;have q:(whL (bnF frs fb)).getD i 0*((lo2 ((fb.getD i (0,1)).1*(whF (frs.getD i [])).1) ((fb.getD i (0,1)).2*(whF (frs.getD i [])).2)).2*(whF (bnF frs fb)).2)=(lo2 ((fb.getD i (0,1)).1*(whF (frs.getD i [])).1) ((fb.getD i (0,1)).2*(whF (frs.getD i [])).2)).1*(whF (bnF frs fb)).1:=q;generalize (lo2 ((fb.getD i (0,1)).1*(whF (frs.getD i [])).1) ((fb.getD i (0,1)).2*(whF (frs.getD i [])).2)).1=X at*;generalize (lo2 ((fb.getD i (0,1)).1*(whF (frs.getD i [])).1) ((fb.getD i (0,1)).2*(whF (frs.getD i [])).2)).2=Y at*;generalize (fb.getD i (0,1)).1=g at*;generalize (fb.getD i (0,1)).2=I at*;generalize (whF (frs.getD i [])).1=x at*;generalize (whF (frs.getD i [])).2=G at*;generalize (whF (bnF frs fb)).1=o at*;generalize (whF (bnF frs fb)).2=d at*;generalize (whL (bnF frs fb)).getD i 0=be at*;apply Int.eq_of_mul_eq_mul_left (show Y≠0 by lia);grind
noncomputable def xF(fl:Bool)(frs:hJ)(fb fg:eF)(s:Nat->Nat)(j:Nat):Int×Int:=fov (xD (bO fl frs fb fg) s (λi=>(bO fl frs fb fg).T s i (bO fl frs fb fg).be) frs.length j) (whF (bnF frs fb))
noncomputable def yF(fl:Bool)(frs:hJ)(fb fg:eF)(s:Nat->Nat)(k:Nat):Int×Int:=fov (ftm (lo2 ((bO fl frs fb fg).T s frs.length (e1 k)) ((bO fl frs fb fg).D s)) (whF (frs.getD k []))) (whF fg)
def Vm(B:BeO frs fb fg):0<(whF (bnF frs fb)).1/\0<(whF (bnF frs fb)).2:=jE λf hf=>by
 obtain⟨k,hk⟩:=cF hf;have b:k<frs.length:=by have:=(aI.mp hk).1;rwa [jA B.lb]at this
 have a:k<fb.length:=by rw[B.lb];exact b
 rw[uX (aC a) (aC b)]at hk;obtain rfl:=aU hk;have w:=jE λf hf=>(B.gr _ (cD b) f hf).1;exact(eN (bK (B.gb _ (cD a)).1 w.2)).pos
def Cj(B:BeO frs fb fg)(hi:i<frs.length):0<(whF (frs.getD i [])).1/\0<(whF (frs.getD i [])).2:=jE λf hf=>(B.gr _ (by rw[aN,aC hi];exact cD hi) f hf).1
def Ad(B:BeO frs fb fg)(hi:i<frs.length)(Z:j<fg.length):0<(rwF frs i j).2:=by
 have hm:frs.getD i []∈frs:=by rw[aN,aC hi];exact cD hi
 have S:=B.lr _ hm;have g:=B.gr _ hm;unfold rwF;generalize frs.getD i []=l at*;have:l.getD j (0,1)∈l:=by rw[aN,aC #[]];exact cD _
 exact(g _ this).1
def Rr(B:BeO frs fb fg)(ok:(bO fl frs fb fg).Ok s)(j:Nat):0<(xF fl frs fb fg s j).2/\Int.gcd (xF fl frs fb fg s j).1 (xF fl frs fb fg s j).2=1/\0<=(xF fl frs fb fg s j).1/\(xF fl frs fb fg s j).1*((bO fl frs fb fg).D s*(whF (bnF frs fb)).1)=Lpd.spr frs.length s (λi=>(bO fl frs fb fg).T s i (bO fl frs fb fg).be) j*(whF (bnF frs fb)).2*(xF fl frs fb fg s j).2:=by
 have w:=Vm B;obtain⟨e,p,c⟩:=jY2 (S:=Lpd.spr frs.length s (λi=>(bO fl frs fb fg).T s i (bO fl frs fb fg).be) j) ok.pos w.1;exact#[p,c,jX2 ok.pos w.1 w.2 (Lpd.spr_nonneg (λi hi=>ok.bound_nonneg hi) j),e]
def jZn(B:BeO frs fb fg)(ok:(bO fl frs fb fg).Ok s)(io:kR (bO fl frs fb fg) s)(hi:i<frs.length):(kZ fg.length (rwF frs i) (xF fl frs fb fg s)).1*(fb.getD i (0,1)).2<=(fb.getD i (0,1)).1*(kZ fg.length (rwF frs i) (xF fl frs fb fg s)).2:=by
 have w:=Vm B;have r:=Cj B hi;have O:=ok.pos;have u:=ok.allowed io (r:=i) hi;have l:=Ww (fl:=fl) B hi;have c:i<fb.length:=by rw[B.lb];exact hi
 have A:0<(fb.getD i (0,1)).2:=(B.gb _ (by rw[aN,aC c];exact cD c)).1;have e:=uU (n:=fg.length) (f:=rwF frs i) (g:=xF fl frs fb fg s) (W:=(whF (frs.getD i [])).1*(bO fl frs fb fg).D s*(whF (bnF frs fb)).1) (v:=λj=>((whF (frs.getD i [])).2*(whF (bnF frs fb)).2)*(Lpd.spr frs.length s (λi=>(bO fl frs fb fg).T s i (bO fl frs fb fg).be) j*(bO fl frs fb fg).a j i)) λj Z=>by
  have h1:=Wd (fl:=fl) B hi Z;have h2:=(Rr B ok j).2.2.2;generalize (xF fl frs fb fg s j).1=M at*;generalize (xF fl frs fb fg s j).2=H at*;generalize (rwF frs i j).1=b at*;generalize (rwF frs i j).2=U at*;generalize (whF (frs.getD i [])).1=x at*;generalize (whF (frs.getD i [])).2=G at*;generalize (whF (bnF frs fb)).1=o at*;generalize (whF (bnF frs fb)).2=d at*;generalize (bO fl frs fb fg).a j i=a at*;generalize Lpd.spr frs.length s (λi=>(bO fl frs fb fg).T s i (bO fl frs fb fg).be) j=S at*;generalize (bO fl frs fb fg).D s=D at*;grind
 rw[Lpd.sm_mul]at e;refine jYh (bK (bK r.1 O) w.1) (kQ (λj Z=>Ad B hi Z) λj _=>(Rr B ok j).1) e ?_;have u:sm fg.length (λj=>Lpd.spr frs.length s (λi=>(bO fl frs fb fg).T s i (bO fl frs fb fg).be) j*(bO fl frs fb fg).a j i)<=(bO fl frs fb fg).D s*(bO fl frs fb fg).be i:=u;generalize sm fg.length (λj=>Lpd.spr frs.length s (λi=>(bO fl frs fb fg).T s i (bO fl frs fb fg).be) j*(bO fl frs fb fg).a j i)=J at*;have m:=Int.mul_le_mul_of_nonneg_left u (bT (bK (bK r.2 w.2) A));generalize (whF (frs.getD i [])).1=x at*;generalize (whF (frs.getD i [])).2=G at*;generalize (whF (bnF frs fb)).1=o at*;generalize (whF (bnF frs fb)).2=d at*;generalize (bO fl frs fb fg).D s=D at*;generalize (bO fl frs fb fg).be i=be at*;generalize (fb.getD i (0,1)).1=t at*;generalize (fb.getD i (0,1)).2=I at*;have e1:G*d*J*I=G*d*I*J:=by grind
 have C:t*(x*D*o)=G*d*I*(D*be):=by grind
 rw[e1,C];exact m
def jUr(un:UnO (bO fl frs fb fg) s none)(hk:k<frs.length):0<=(bO fl frs fb fg).T s frs.length (e1 k):=by
 have:=un ((bO fl frs fb fg).n+k) (Nat.add_lt_add_left hk _);rwa [Lpd.cv_spare]at this
def Rq(B:BeO frs fb fg)(ok:(bO fl frs fb fg).Ok s)(un:UnO (bO fl frs fb fg) s none)(hk:k<frs.length):0<(yF fl frs fb fg s k).2/\Int.gcd (yF fl frs fb fg s k).1 (yF fl frs fb fg s k).2=1/\0<=(yF fl frs fb fg s k).1/\(yF fl frs fb fg s k).1*((bO fl frs fb fg).D s*(whF (frs.getD k [])).2*(whF fg).1)=(bO fl frs fb fg).T s frs.length (e1 k)*(whF (frs.getD k [])).1*(whF fg).2*(yF fl frs fb fg s k).2:=by
 have r:=Cj B hk;have g:=jE λf hf=>(B.gg f hf).1;obtain⟨e,p,c⟩:=fty_val (U:=(bO fl frs fb fg).T s frs.length (e1 k)) (w:=whF (frs.getD k [])) (G:=whF fg) ok.pos r.2 g.1;refine#[p,c,oO (bK (bK ok.pos r.2) g.1) ?_,e];have:0<=(bO fl frs fb fg).T s frs.length (e1 k)*(whF (frs.getD k [])).1*(whF fg).2*(fov (ftm (lo2 ((bO fl frs fb fg).T s frs.length (e1 k)) ((bO fl frs fb fg).D s)) (whF (frs.getD k []))) (whF fg)).2:=dU (dU (dU (jUr un hk) (bT r.1)) (bT g.2)) (bT p);rw[←e]at this;exact this
def ys_pay(B:BeO frs fb fg)(ok:(bO fl frs fb fg).Ok s)(un:UnO (bO fl frs fb fg) s none)(Z:j<fg.length):(fg.getD j (0,1)).1*(kZ frs.length (yF fl frs fb fg s) (λi=>rwF frs i j)).2<=(kZ frs.length (yF fl frs fb fg s) (λi=>rwF frs i j)).1*(fg.getD j (0,1)).2:=by
 have g:=jE λf hf=>(B.gg f hf).1;have O:=ok.pos;have l:=Ow (fl:=fl) B Z;have o:0<(fg.getD j (0,1)).2:=(B.gg _ (by rw[aN,aC Z];exact cD Z)).1;have e:=uU (n:=frs.length) (f:=yF fl frs fb fg s) (g:=λi=>rwF frs i j) (W:=(bO fl frs fb fg).D s*(whF fg).1) (v:=λi=>(whF fg).2*((bO fl frs fb fg).a j i*(bO fl frs fb fg).T s frs.length (e1 i))) λi hi=>by
  have h1:=Wd (fl:=fl) B hi Z;have h2:=(Rq B ok un hi).2.2.2;have r:=Cj B hi;show(yF fl frs fb fg s i).1*(rwF frs i j).1*_=_*((yF fl frs fb fg s i).2*(rwF frs i j).2);generalize (yF fl frs fb fg s i).1=M at*;generalize (yF fl frs fb fg s i).2=H at*;generalize (rwF frs i j).1=p at*;generalize (rwF frs i j).2=q at*;generalize (whF (frs.getD i [])).1=x at*;generalize (whF (frs.getD i [])).2=G at*;generalize (whF fg).1=h at*;generalize (whF fg).2=b at*;generalize (bO fl frs fb fg).a j i=a at*;generalize (bO fl frs fb fg).T s frs.length (e1 i)=U at*;generalize (bO fl frs fb fg).D s=D at*;apply Int.eq_of_mul_eq_mul_left (show G≠0 by lia);grind
 rw[Lpd.sm_mul]at e;refine prdF_ge (bK O g.1) (kQ (λi hi=>(Rq B ok un hi).1) λi hi=>Ad B hi Z) e ?_;have go:=Lpd.goal_of (L:=bO fl frs fb fg) (s:=s) ((bO fl frs fb fg).cv j);have hc:=un j (show j<fg.length+frs.length by lia);have c:(bO fl frs fb fg).cv j=(bO fl frs fb fg).a j:=by unfold Lpd.cv;rw[aK (show j<(bO fl frs fb fg).n from Z)]
 rw[go,c]at hc;have hc:0<=(sm frs.length λk=>(bO fl frs fb fg).a j k*(bO fl frs fb fg).T s frs.length (e1 k))+(bO fl frs fb fg).a j frs.length*(bO fl frs fb fg).D s:=hc;generalize (sm frs.length λk=>(bO fl frs fb fg).a j k*(bO fl frs fb fg).T s frs.length (e1 k))=J at*;generalize (bO fl frs fb fg).a j frs.length=d at*;generalize (bO fl frs fb fg).D s=D at*;generalize (whF fg).1=h at*;generalize (whF fg).2=b at*;generalize (fg.getD j (0,1)).1=h1 at*;generalize (fg.getD j (0,1)).2=h2 at*;have m:=Int.mul_le_mul_of_nonneg_left (show-d*D<=J by have:-d*D=-(d*D):=Int.neg_mul _ _;lia) (bT (bK g.2 o));have e1:h1*(D*h)=b*h2*(-d*D):=by grind
 have C:b*J*h2=b*h2*J:=by grind
 rw[e1,C];exact m
def jVk(B:BeO frs fb fg)(ok:(bO fl frs fb fg).Ok s)(io:kR (bO fl frs fb fg) s)(un:UnO (bO fl frs fb fg) s none):
  (kZ fg.length (λj=>fg.getD j (0,1)) (xF fl frs fb fg s)).1*(kZ frs.length (λi=>fb.getD i (0,1)) (yF fl frs fb fg s)).2=(kZ frs.length (λi=>fb.getD i (0,1)) (yF fl frs fb fg s)).1*(kZ fg.length (λj=>fg.getD j (0,1)) (xF fl frs fb fg s)).2:=by
 have g:=jE λf hf=>(B.gg f hf).1;have w:=Vm B;have O:=ok.pos;have q1:=uU (n:=fg.length) (f:=λj=>fg.getD j (0,1)) (g:=xF fl frs fb fg s) (W:=(whF fg).1*(bO fl frs fb fg).D s*(whF (bnF frs fb)).1) (v:=λj=>(-((whF fg).2*(whF (bnF frs fb)).2))*(Lpd.spr frs.length s (λi=>(bO fl frs fb fg).T s i (bO fl frs fb fg).be) j*(bO fl frs fb fg).a j frs.length)) λj u=>by
  have h1:=Ow (fl:=fl) B u;have h2:=(Rr B ok j).2.2.2;show(fg.getD j (0,1)).1*(xF fl frs fb fg s j).1*_=_*((fg.getD j (0,1)).2*(xF fl frs fb fg s j).2);generalize (xF fl frs fb fg s j).1=M at*;generalize (xF fl frs fb fg s j).2=H at*;generalize (fg.getD j (0,1)).1=m at*;generalize (fg.getD j (0,1)).2=y at*;generalize (whF fg).1=h at*;generalize (whF fg).2=b at*;generalize (whF (bnF frs fb)).1=o at*;generalize (whF (bnF frs fb)).2=d at*;generalize (bO fl frs fb fg).a j frs.length=a at*;generalize Lpd.spr frs.length s (λi=>(bO fl frs fb fg).T s i (bO fl frs fb fg).be) j=S at*;generalize (bO fl frs fb fg).D s=D at*;grind
 have p:=uU (n:=frs.length) (f:=λi=>fb.getD i (0,1)) (g:=yF fl frs fb fg s) (W:=(whF fg).1*(bO fl frs fb fg).D s*(whF (bnF frs fb)).1) (v:=λi=>((whF fg).2*(whF (bnF frs fb)).2)*((bO fl frs fb fg).be i*(bO fl frs fb fg).T s frs.length (e1 i))) λi hi=>by
  have h1:=Ww (fl:=fl) B hi;have h2:=(Rq B ok un hi).2.2.2;have r:=Cj B hi;show(fb.getD i (0,1)).1*(yF fl frs fb fg s i).1*_=_*((fb.getD i (0,1)).2*(yF fl frs fb fg s i).2);generalize (yF fl frs fb fg s i).1=M at*;generalize (yF fl frs fb fg s i).2=H at*;generalize (fb.getD i (0,1)).1=t at*;generalize (fb.getD i (0,1)).2=I at*;generalize (whF (frs.getD i [])).1=x at*;generalize (whF (frs.getD i [])).2=G at*;generalize (whF fg).1=h at*;generalize (whF fg).2=b at*;generalize (whF (bnF frs fb)).1=o at*;generalize (whF (bnF frs fb)).2=d at*;generalize (bO fl frs fb fg).be i=be at*;generalize (bO fl frs fb fg).T s frs.length (e1 i)=U at*;generalize (bO fl frs fb fg).D s=D at*;apply Int.eq_of_mul_eq_mul_left (show x*G≠0 from Int.ne_of_gt (bK r.1 r.2));grind
 rw[Lpd.sm_mul]at q1 p;have c:(bO fl frs fb fg).be frs.length=0:=by
  show(whL (bnF frs fb)).getD frs.length 0=0;rw[aN,bU (by rw[jO,jA B.lb];exact aP _)];rfl
 have R:(sm fg.length λj=>Lpd.spr frs.length s (λi=>(bO fl frs fb fg).T s i (bO fl frs fb fg).be) j*(bO fl frs fb fg).a j frs.length)=-(bO fl frs fb fg).T s frs.length (bO fl frs fb fg).be:=ok.earned io c;have go:=Lpd.goal_of (L:=bO fl frs fb fg) (s:=s) (bO fl frs fb fg).be;have go:(bO fl frs fb fg).T s frs.length (bO fl frs fb fg).be=(sm frs.length λk=>(bO fl frs fb fg).be k*(bO fl frs fb fg).T s frs.length (e1 k))+(bO fl frs fb fg).be frs.length*(bO fl frs fb fg).D s:=go;rw[c,fV,Int.add_zero]at go;rw[R]at q1;rw[←go]at p;have z:=bK (bK g.1 O) w.1;generalize (kZ fg.length (λj=>fg.getD j (0,1)) (xF fl frs fb fg s)).1=l at*;generalize (kZ fg.length (λj=>fg.getD j (0,1)) (xF fl frs fb fg s)).2=e at*;generalize (kZ frs.length (λi=>fb.getD i (0,1)) (yF fl frs fb fg s)).1=q at*;generalize (kZ frs.length (λi=>fb.getD i (0,1)) (yF fl frs fb fg s)).2=R2 at*;generalize (whF fg).1*(bO fl frs fb fg).D s*(whF (bnF frs fb)).1=Z at*;generalize (bO fl frs fb fg).T s frs.length (bO fl frs fb fg).be=tb at*;apply Int.eq_of_mul_eq_mul_left (show Z≠0 by lia);grind
def Xz(ok:(bO fl frs fb fg).Ok s)(un:UnO (bO fl frs fb fg) s (some c))(j:Nat):0<(kL (bO fl frs fb fg) s c j).2/\Int.gcd (kL (bO fl frs fb fg) s c j).1 (kL (bO fl frs fb fg) s c j).2=1/\0<=(kL (bO fl frs fb fg) s c j).1/\(kL (bO fl frs fb fg) s c j).1*(bO fl frs fb fg).D s=(Lpd.spr frs.length s (λi=>-(bO fl frs fb fg).T s i ((bO fl frs fb fg).cv c)) j+if j=c then(bO fl frs fb fg).D s else 0)*(kL (bO fl frs fb fg) s c j).2:=by
 have O:=ok.pos;have l:=eN (t:=Lpd.spr frs.length s (λi=>-(bO fl frs fb fg).T s i ((bO fl frs fb fg).cv c)) j+if j=c then(bO fl frs fb fg).D s else 0) O;refine#[l.pos,l.cop,vH O (Int.add_nonneg (Lpd.spr_nonneg (λi hi=>?_) j) ?_),l.eq]
 .have:=un.2.2 i hi;lia
 .split
  .omega
  .exact Int.le_refl _
def Wy(B:BeO frs fb fg)(ok:(bO fl frs fb fg).Ok s)(io:kR (bO fl frs fb fg) s)(un:UnO (bO fl frs fb fg) s (some c))(hi:i<frs.length):(kZ fg.length (rwF frs i) (kL (bO fl frs fb fg) s c)).1<=0:=by
 have r:=Cj B hi;have O:=ok.pos;have u:=ok.ways_row io (c:=c) (r:=i) un.2.2 hi;have u:(sm fg.length λj=>(Lpd.spr frs.length s (λi=>-(bO fl frs fb fg).T s i ((bO fl frs fb fg).cv c)) j+if j=c then(bO fl frs fb fg).D s else 0)*(bO fl frs fb fg).a j i)<=0:=u;have e:=uU (n:=fg.length) (f:=rwF frs i) (g:=kL (bO fl frs fb fg) s c) (W:=(whF (frs.getD i [])).1*(bO fl frs fb fg).D s) (v:=λj=>(whF (frs.getD i [])).2*((Lpd.spr frs.length s (λi=>-(bO fl frs fb fg).T s i ((bO fl frs fb fg).cv c)) j+if j=c then(bO fl frs fb fg).D s else 0)*(bO fl frs fb fg).a j i)) λj Z=>by
  have h1:=Wd (fl:=fl) B hi Z;have h2:=(Xz ok un j).2.2.2;generalize (Lpd.spr frs.length s (λi=>-(bO fl frs fb fg).T s i ((bO fl frs fb fg).cv c)) j+if j=c then(bO fl frs fb fg).D s else 0)=S at*;generalize (kL (bO fl frs fb fg) s c j).1=M at*;generalize (kL (bO fl frs fb fg) s c j).2=H at*;generalize (rwF frs i j).1=m at*;generalize (rwF frs i j).2=U at*;generalize (whF (frs.getD i [])).1=x at*;generalize (whF (frs.getD i [])).2=G at*;generalize (bO fl frs fb fg).a j i=a at*;generalize (bO fl frs fb fg).D s=D at*;grind
 rw[Lpd.sm_mul]at e;have p:=kQ (n:=fg.length) (f:=rwF frs i) (g:=kL (bO fl frs fb fg) s c) (λj Z=>Ad B hi Z) λj _=>(Xz ok un j).1;have:=jYh (c:=(0,1)) (bK r.1 O) p e (by
  show _*1<=0*_;rw[fE,fV];exact Int.mul_nonpos_of_nonneg_of_nonpos (bT r.2) u)
 simpa using this
def Rc(B:BeO frs fb fg)(ok:(bO fl frs fb fg).Ok s)(io:kR (bO fl frs fb fg) s)(un:UnO (bO fl frs fb fg) s (some c)):0<(kZ fg.length (λj=>fg.getD j (0,1)) (kL (bO fl frs fb fg) s c)).1:=by
 have g:=jE λf hf=>(B.gg f hf).1;have O:=ok.pos;have u:=ok.ways_goal io (c:=c) un.1;have u:(sm fg.length λj=>(Lpd.spr frs.length s (λi=>-(bO fl frs fb fg).T s i ((bO fl frs fb fg).cv c)) j+if j=c then(bO fl frs fb fg).D s else 0)*(bO fl frs fb fg).a j frs.length)=(bO fl frs fb fg).T s frs.length ((bO fl frs fb fg).cv c):=u;have e:=uU (n:=fg.length) (f:=λj=>fg.getD j (0,1)) (g:=kL (bO fl frs fb fg) s c) (W:=(whF fg).1*(bO fl frs fb fg).D s) (v:=λj=>(-(whF fg).2)*((Lpd.spr frs.length s (λi=>-(bO fl frs fb fg).T s i ((bO fl frs fb fg).cv c)) j+if j=c then(bO fl frs fb fg).D s else 0)*(bO fl frs fb fg).a j frs.length)) λj Z=>by
  have h1:=Ow (fl:=fl) B Z;have h2:=(Xz ok un j).2.2.2;show(fg.getD j (0,1)).1*(kL (bO fl frs fb fg) s c j).1*_=_*((fg.getD j (0,1)).2*(kL (bO fl frs fb fg) s c j).2);generalize (Lpd.spr frs.length s (λi=>-(bO fl frs fb fg).T s i ((bO fl frs fb fg).cv c)) j+if j=c then(bO fl frs fb fg).D s else 0)=S at*;generalize (kL (bO fl frs fb fg) s c j).1=M at*;generalize (kL (bO fl frs fb fg) s c j).2=H at*;generalize (fg.getD j (0,1)).1=m at*;generalize (fg.getD j (0,1)).2=U at*;generalize (whF fg).1=h at*;generalize (whF fg).2=b at*;generalize (bO fl frs fb fg).a j frs.length=a at*;generalize (bO fl frs fb fg).D s=D at*;grind
 rw[Lpd.sm_mul,u]at e;have p:=kQ (n:=fg.length) (f:=λj=>fg.getD j (0,1)) (g:=kL (bO fl frs fb fg) s c) (λj Z=>(B.gg _ (by rw[aN,aC Z];exact cD Z)).1) λj _=>(Xz ok un j).1;have hn:=un.2.1;have hn:(bO fl frs fb fg).T s frs.length ((bO fl frs fb fg).cv c)<0:=hn;have z:0<(-(whF fg).2)*(bO fl frs fb fg).T s frs.length ((bO fl frs fb fg).cv c)*(kZ fg.length (λj=>fg.getD j (0,1)) (kL (bO fl frs fb fg) s c)).2:=bK (Int.mul_pos_of_neg_of_neg #[] hn) p;rw[←e]at z;have q:=bK g.1 O;refine Classical.byContradiction λd=>?_;have:=Int.mul_nonpos_of_nonpos_of_nonneg (a:=(kZ fg.length (λj=>fg.getD j (0,1)) (kL (bO fl frs fb fg) s c)).1) #[] (bT q);lia
end
def Fok(f:Int×Int):Prop:=0<f.2/\Int.gcd f.1 f.2=1/\0<=f.1
namespace Lpd
noncomputable def rowL(L:Lpd)(i:Nat):List Int:=ofF L.n (λj=>L.a j i)++[L.be i]
def rowL_length(L:Lpd)(i:Nat):(L.rowL i).length=L.n+1:=by unfold rowL;rw[bF,bH];rfl
def rowL_get(L:Lpd)(i:Nat)(h:j<L.n):(L.rowL i)[j]?=some (L.a j i):=by
 unfold rowL;rw[bV (by rw[bH];exact h),fC _ h]
def rowL_last(L:Lpd)(i:Nat):(L.rowL i)[L.n]?=some (L.be i):=by
 unfold rowL;rw[bP (by rw[bH];exact aP _),bH,kB];rfl
def rowL_mem{L:Lpd}(h:x∈L.rowL i):(∃j,j<L.n/\x=L.a j i)∨x=L.be i:=by
 unfold rowL at h;rcases cW.mp h with h |h
 .exact .inl (lO h)
 .exact .inr (cJ.mp h)
def jVe(L:Lpd):L.flip.flip=L:=by
 unfold flip;cases L with
 |mk m n a be fl=>cases fl<;>rfl
def flip_kept(L:Lpd)(s:Nat->Nat)(i:Nat):L.flip.keptL s i=(L.keptL s i).map λx=>-x:=by
 unfold keptL;rw[aV];have e1:(ofF (L.m+1) λk=>L.T s i (e1 k)).map (λx=>-x)=ofF (L.m+1) λk=>-L.T s i (e1 k):=by
  unfold ofF;rw[List.map_map];rfl
 rw[e1];show ofF (L.m+1) (λk=>L.flip.T s i (My.e1 k))++[L.flip.T s i L.be]=_;rw[Nn,jF λk _=>Nn];rfl
def Ap{L:Lpd}(o:L.flip.Okn s):L.Okn s:=by
 have:=jUl o;rwa [jVe]at this
theorem Lim.flip{L:Lpd}(h:L.Lim):L.flip.Lim:=
 #[h.m1,h.n1,h.ba,λs i c o hi=>by rw[Nn];exact(h.bc s i c (Ap o) hi).neg,λs i k o hi hk=>by rw[Nn];exact(h.bk s i k (Ap o) hi hk).neg,λs i o hi=>by rw[Nn];exact(h.bb s i (Ap o) hi).neg,λs o=>by rw[flip_D];exact(h.bD s (Ap o)).neg]
end Lpd
def ib(n:Int):Nat:=Builtin.Int.intBits n
def Ru{n:Int}(h:BB q n):ib n<=q:=oS h
def jYQ(n:Int):BB (ib n) n:=by
 unfold ib BB Builtin.Int.intBits;by_cases h:n.natAbs=0
 .rw[h];exact eJ _
 .rw[aF (by simpa using h)];exact Nat.lt_log2_self
def ib_neg(n:Int):ib (-n)=ib n:=by
 have h1:=Ru (n:=-n) (q:=ib n) (jYQ n).neg;have h2:=Ru (n:=n) (q:=ib (-n)) (by have:=(jYQ (-n)).neg;rwa [Int.neg_neg]at this);lia
structure Vd(n b r:Int):Prop where
 zz:n=0->r=0
 nn:0<=n->0<=r
 bb:∀q:Nat,(ib n:Int)+b<=q->BB q r
def str_up{n b:Int}(hb:0<=b)(hn:0<=n):Vd n b (n*2^b.toNat):=by
 refine#[λz=>by rw[z,fV],λ_=>dU hn (bT (Int.pow_pos (by decide))),λq F=>?_];refine BB.mono (m:=ib n+b.toNat) ?_ #[];show(n*2^b.toNat).natAbs<2^(ib n+b.toNat);rw[cQ,Nat.pow_add,Int.natAbs_pow];exact Nat.mul_lt_mul_of_pos_right (jYQ n) (eJ _)
def Yt{n b:Int}(hb:0<=b)(hn:0<=n):Vd n (-b) (n.fdiv (2^b.toNat)):=by
 obtain⟨m,rfl⟩:∃m:Nat,n=(m:Int):=#[n.toNat,#[]];have e:((m:Int)).fdiv (2^b.toNat)=((m/2^b.toNat:Nat):Int):=by
  rw[Int.fdiv_eq_ediv_of_nonneg _ (bT (Int.pow_pos (by decide)))]
  push_cast;rfl
 rw[e];refine#[λz=>by rw[show m=0 by lia,Nat.zero_div];rfl,λ_=>Int.natCast_nonneg _,λq F=>?_];show((m/2^b.toNat:Nat):Int).natAbs<2^q;rw[Int.natAbs_natCast];have h:m<2^ib m:=jYQ (m:Int);refine(Nat.div_lt_iff_lt_mul (eJ _)).mpr (cH h ?_);rw[←Nat.pow_add];exact fK (by decide) #[]
def str_neg{n b r:Int}(h:Vd (-n) b r)(hn:n<0):Vd n b (-r):=#[λz=>by lia,λz=>by lia,λq F=>(h.bb q (by rw[ib_neg];exact F)).neg]
def LpR(s:List (List Int))(m n:Nat):Lpd:=#[m,n,λj i=>(s.getD i []).getD j 0,λi=>(s.getD i []).getD n 0,false]
def jUs{s:List (List Int)}{n:Nat}(h1:s.length=m+1)(h2:∀r∈s,r.length=n+1):ofF (m+1) (LpR s m n).rowL=s:=by
 refine List.ext_getElem? λi=>?_;by_cases hi:i<m+1
 .have e:s[i]?=some s[i]:=aC #[];rw[fC _ hi,e]
  congr 1
  have S:=h2 _ (aJ e);have t:s.getD i []=s[i]:=by rw[aN,e];rfl
  refine List.ext_getElem? λj=>?_;by_cases Z:j<n
  .rw[Lpd.rowL_get _ _ (show j<(LpR s m n).n from Z)];show some ((s.getD i []).getD j 0)=_;rw[t,Fh #[]]
  .by_cases a:j=n
   .subst a;have:=(LpR s m j).rowL_last i;rw[show(LpR s m j).n=j from rfl]at this;rw[this];show some ((s.getD i []).getD j 0)=_;rw[t,Fh #[]]
   .rw[bU (by rw[Lpd.rowL_length];show n+1<=j;lia),bU #[]]
 .rw[bU (by rw[bH];lia),bU #[]]
def Fj:mW xs none (some (-1))=xs.take (xs.length-1):=by
 unfold mW;rw[HT.sIx_none,List.drop_zero,Nat.sub_zero]
 congr 1
 unfold HT.sIx;simp;lia
def cut_row(L:Lpd)(i:Nat):mW (map int (L.rowL i)) none (some (-1))=map int (ofF L.n λj=>L.a j i):=by
 rw[Fj,aA,Lpd.rowL_length,Nat.add_sub_cancel,←map_take]
 congr 1
 unfold Lpd.rowL;rw[List.take_append_of_le_length (by rw[bH];exact aP _),take_of_length_le (by rw[bH];exact aP _)]
structure xG(H:Hp)(a:Addr)(rps:List Addr)(L:Lpd):Prop where
 ha:H a=some (.lst (map ref rps))
 hr:eA H rps (ofF (L.m+1) L.rowL)
def xG.same{g:List Addr}{L:Lpd}(h:xG H a g L)(s:aS H Z):xG Z a g L:=#[s _ _ h.ha,h.hr.same s]
def xG.len{g:List Addr}{L:Lpd}(h:xG H a g L):g.length=L.m+1:=by rw[h.hr.length,bH]
def xG.row{g:List Addr}{L:Lpd}(h:xG H a g L)(hi:i<=L.m):∃p,g[i]?=some p/\H p=some (.lst (map int (L.rowL i))):=by
 have S:=h.len;obtain⟨p,hp⟩:∃p,g[i]?=some p:=#[_,aC #[]];obtain⟨r,e1,C⟩:=h.hr.get hp;obtain⟨_,rfl⟩:=gM e1;exact#[p,hp,C]
def xG.inv{g:List Addr}{L:Lpd}(h:xG H a g L)(hp:g[i]?=some p):i<=L.m/\H p=some (.lst (map int (L.rowL i))):=by
 obtain⟨r,e1,C⟩:=h.hr.get hp;obtain⟨h1,rfl⟩:=gM e1;exact#[#[],C]
def yD{l:List d}{x y:d}(e:(l++[x])[h]?=some y):(l[h]?=some y/\h<l.length)∨(h=l.length/\y=x):=by
 by_cases R:h<l.length
 .rw[bV R]at e;exact .inl #[e,R]
 .have H:h=l.length:=by have:=(aI.mp e).1;rw[bF]at this;simp at this;lia
  rw[bP #[],H,kB]at e;cases e;exact .inr #[H,rfl]
def va(f:Int×Int):Rat:=(f.1:Rat)/(f.2:Rat)
def nQ{z:Int}(h:0<z):(0:Rat)<z:=by exact_mod_cast h
def mL(h:0<f.2):va f*f.2=f.1:=by
 unfold va;have:=nQ h;exact Rat.div_mul_cancel (by grind)
def nV{a b c:Rat}(hc:0<c)(h:a*c=b):a=b/c:=by
 have:c≠0:=by grind
 rw[←h,Rat.div_def,Rat.mul_assoc,Rat.mul_inv_cancel _ this,Rat.mul_one]
def Dp{a b c:Rat}(hc:0<c)(h:a*c=b*c):a=b:=by
 have h1:=nV hc h;have h2:=nV (a:=b) hc rfl;rw[h1,←h2]
def va_of{t b:Int}(hf:0<f.2)(hb:0<b)(e:f.1*b=t*f.2):va f=(t:Rat)/b:=by
 have h1:=mL hf;have h2:=nQ hf;have A:=nQ hb;have g:(f.1:Rat)*b=t*f.2:=by exact_mod_cast congrArg (λz:Int=>(z:Rat)) e
 refine nV A (Dp h2 ?_);rw[←g,←h1];grind
def va_lo{t b:Int}(hb:0<b)(l:Lo t b x y):va (x,y)=(t:Rat)/b:=va_of l.pos hb l.eq
def Eb(hf:0<f.2)(hg:0<g.2):va f<=va g↔f.1*g.2<=g.1*f.2:=by
 have h1:=mL hf;have h2:=mL hg;have p1:=nQ hf;have R:=nQ hg;have s:=Rat.mul_pos p1 R;have e1:va f*((f.2:Rat)*g.2)=((f.1*g.2:Int):Rat):=by rw[gT,←h1];grind
 have C:va g*((f.2:Rat)*g.2)=((g.1*f.2:Int):Rat):=by rw[gT,←h2];grind
 constructor
 .intro h;have:=fS h (c:=(f.2:Rat)*g.2) (by grind);rw[e1,C]at this;exact Rat.intCast_le_intCast.mp this
 .intro h;refine Rat.le_of_mul_le_mul_right (c:=(f.2:Rat)*g.2) ?_ s;rw[e1,C];exact Rat.intCast_le_intCast.mpr h
def Cf:va (1,1)=1:=by unfold va;decide+kernel
def zZ:va (0,1)=0:=by unfold va;decide+kernel
def tD(hf:0<f.2)(h:0<=f.1):0<=va f:=by
 have:=(Eb (f:=(0,1)) (g:=f) (by decide) hf).mpr (by simpa using h);rwa [zZ]at this
noncomputable def rsm:Nat->(Nat->Rat)->Rat
 |0,_=>0
 |n+1,f=>rsm n f+f n
def jZ{f g:Nat->Rat}:∀{n:Nat},(∀k,k<n->f k=g k)->rsm n f=rsm n g
 |0,_=>rfl
 |n+1,h=>by
  show rsm n f+f n=rsm n g+g n;rw[jZ (n:=n) λk hk=>h k #[],h n #[]]
def rG{f:Nat->Rat}{c:Rat}:∀{n:Nat},rsm n (λk=>f k*c)=rsm n f*c
 |0=>by show(0:Rat)=0*c;grind
 |n+1=>by
  show rsm n (λk=>f k*c)+f n*c=(rsm n f+f n)*c;rw[rG];grind
def Wc{f g:Nat->Rat}:∀{n:Nat},rsm n (λk=>f k+g k)=rsm n f+rsm n g
 |0=>by show(0:Rat)=0+0;grind
 |n+1=>by
  show rsm n (λk=>f k+g k)+(f n+g n)=rsm n f+f n+(rsm n g+g n);rw[Wc];grind
def rsm_le{f g:Nat->Rat}:∀{n:Nat},(∀k,k<n->f k<=g k)->rsm n f<=rsm n g
 |0,_=>by show(0:Rat)<=0;grind
 |n+1,h=>by
  show rsm n f+f n<=rsm n g+g n;have h1:=rsm_le (n:=n) λk hk=>h k #[];have h2:=h n #[];grind
def qJ{f:Nat->Rat}:∀{n:Nat},(∀k,k<n->0<=f k)->0<=rsm n f
 |0,_=>by show(0:Rat)<=0;grind
 |n+1,h=>by
  show 0<=rsm n f+f n;have h1:=qJ (n:=n) λk hk=>h k #[];have h2:=h n #[];grind
def Yw{f:Nat->Rat}:∀{n:Nat},(∀k,k<n->0<=f k)->rsm n f=0->∀k,k<n->f k=0
 |0,_,_,_,hk=>absurd hk (eU _)
 |n+1,h,e,k,hk=>by
  have e:rsm n f+f n=0:=e;have h1:=qJ (n:=n) λk hk=>h k #[];have h2:=h n #[];by_cases hn:k=n
  .subst hn;grind
  .exact Yw (n:=n) (λk hk=>h k #[]) (by grind) k #[]
def Yy{f:Nat->Rat}:∀{n:Nat},(∀k,k<n->f k=0)->rsm n f=0
 |0,_=>rfl
 |n+1,h=>by
  show rsm n f+f n=0;rw[Yy (n:=n) λk hk=>h k #[],h n #[]];grind
def Ce{f g:Nat->Int×Int}:∀{n:Nat},(∀k,k<n->0<(f k).2)->(∀k,k<n->0<(g k).2)->va (kZ n f g)=rsm n λk=>va (f k)*va (g k)
 |0,_,_=>zZ
 |n+1,hf,hg=>by
  have m:=Ce (n:=n) (λk hk=>hf k #[]) (λk hk=>hg k #[]);have p:=kQ (n:=n) (λk hk=>hf k #[]) (λk hk=>hg k #[]);have U:=hf n #[];have g2:=hg n #[];show va (kZ (n+1) f g)=rsm n (λk=>va (f k)*va (g k))+va (f n)*va (g n);rw[←m];have G:=mL p;have R:=mL U;have J:=mL g2;have q:0<(kZ (n+1) f g).2:=bK (bK p U) g2;refine Dp (nQ q) ?_;rw[mL q];show(((kZ n f g).1*(f n).2*(g n).2+(f n).1*(g n).1*(kZ n f g).2:Int):Rat)=(va (kZ n f g)+va (f n)*va (g n))*(((kZ n f g).2*(f n).2*(g n).2:Int):Rat);simp only[Rat.intCast_add,gT];rw[←G,←R,←J];grind
structure Gm(m n:Nat)(r:Nat->Nat->Rat)(v:Rat)(p q:Nat->Rat):Prop where
 p0:∀i,i<m->0<=p i
 p1:rsm m p=1
 q0:∀j,j<n->0<=q j
 q1:rsm n q=1
 lo:∀j,j<n->v<=rsm m λi=>p i*r i j
 hi:∀i,i<m->(rsm n λj=>r i j*q j)<=v
def Cn(a b:Rat):a/b=a*b⁻¹:=Rat.div_def a b
def game_of{n:Nat}{a:Nat->Nat->Rat}{x y:Nat->Rat}{S:Rat}(l:Rat)(S0:0<S)(x0:∀j,j<n->0<=x j)(y0:∀i,i<m->0<=y i)(hx:∀i,i<m->(rsm n λj=>a i j*x j)<=1)(hy:∀j,j<n->1<=rsm m λi=>y i*a i j)(sx:rsm n x=S)(sy:rsm m y=S):
  Gm m n (λi j=>a i j-l) (1/S-l) (λi=>y i/S) (λj=>x j/S):=by
 have c:S≠0:=by grind
 have sc:S*S⁻¹=1:=Rat.mul_inv_cancel _ c;have b:0<=S⁻¹:=by have:=Rat.inv_pos.mpr S0;grind
 have F:∀{k:Nat}{f:Nat->Rat},rsm k (λi=>f i/S)=rsm k f*S⁻¹:=λ{k f}=>by
  rw[←rG];exact jZ λi _=>Cn _ _
 refine#[λi hi=>?_,?_,λj Z=>?_,?_,λj Z=>?_,λi hi=>?_]
 .rw[Cn];exact Rat.mul_nonneg (y0 i hi) b
 .rw[F,sy,sc]
 .rw[Cn];exact Rat.mul_nonneg (x0 j Z) b
 .rw[F,sx,sc]
 .have e:(rsm m λi=>y i/S*(a i j-l))=(rsm m λi=>y i*a i j)*S⁻¹+(rsm m y*S⁻¹)*(-l):=by
   rw[←rG,←rG,←rG,←Wc];exact jZ λi _=>by rw[Cn];grind
  have h:=fS (hy j Z) b;rw[e,sy,sc,Cn];grind
 .have e:(rsm n λj=>(a i j-l)*(x j/S))=(rsm n λj=>a i j*x j)*S⁻¹+(rsm n x*S⁻¹)*(-l):=by
   rw[←rG,←rG,←rG,←Wc];exact jZ λi _=>by rw[Cn];grind
  have h:=fS (hx i hi) b;rw[e,sx,sc,Cn];grind
def pay_pos{a:Nat->Rat}{y:Nat->Rat}(y0:∀i,i<m->0<=y i)(hy:1<=rsm m λi=>y i*a i):0<rsm m y:=by
 have h:=qJ y0;by_cases z:rsm m y=0
 .have:=Yw y0 z;have:(rsm m λi=>y i*a i)=0:=Yy λi hi=>by rw[this i hi];grind
  grind
 .grind
def pay_le{n:Nat}{a x:Nat->Rat}(x0:∀j,j<n->0<=x j)(ha:∀j,j<n->1<=a j):rsm n x<=rsm n λj=>a j*x j:=rsm_le λj Z=>by
 have:=fS (ha j Z) (x0 j Z);grind
section
variable{fl:Bool}{frs:hJ}{fb fg:eF}{s:Nat->Nat}
def va_eqv(hf:0<f.2)(hg:0<g.2)(e:f.1*g.2=g.1*f.2):va f=va g:=by
 have h1:=(Eb hf hg).mpr #[];have h2:=(Eb hg hf).mpr #[];grind
theorem no_way(B:BeO frs fb fg)(ok:(bO fl frs fb fg).Ok s)(io:kR (bO fl frs fb fg) s)(hg:∀j,j<fg.length->fg.getD j (0,1)=(1,1))(G:∀i j,i<frs.length->j<fg.length->1<=va (rwF frs i j))(m1:1<=frs.length)(un:UnO (bO fl frs fb fg) s (some c)):False:=by
 have r:∀j,0<(kL (bO fl frs fb fg) s c j).2/\0<=va (kL (bO fl frs fb fg) s c j):=λj=>let h:=Xz ok un j;#[h.1,tD h.1 h.2.2.1];have g2:∀j,j<fg.length->0<(fg.getD j (0,1)).2:=λj Z=>by rw[hg j Z];decide
 have Y:∀j,j<fg.length->0<(rwF frs 0 j).2:=λj Z=>Ad B m1 Z;have h1:=Rc B ok io un;have p1:=kQ (n:=fg.length) (f:=λj=>fg.getD j (0,1)) (g:=kL (bO fl frs fb fg) s c) g2 λj _=>(r j).1;have e1:=Ce (n:=fg.length) (f:=λj=>fg.getD j (0,1)) (g:=kL (bO fl frs fb fg) s c) g2 λj _=>(r j).1;have h2:=Wy B ok io un m1;have R:=kQ (n:=fg.length) (f:=rwF frs 0) (g:=kL (bO fl frs fb fg) s c) Y λj _=>(r j).1;have C:=Ce (n:=fg.length) (f:=rwF frs 0) (g:=kL (bO fl frs fb fg) s c) Y λj _=>(r j).1;have m:va (kZ fg.length (rwF frs 0) (kL (bO fl frs fb fg) s c))<=0:=by
  have:=(Eb (g:=(0,1)) R (by decide)).mpr #[];rwa [zZ]at this
 have l:¬va (kZ fg.length (λj=>fg.getD j (0,1)) (kL (bO fl frs fb fg) s c))<=0:=λz=>by
  have:=(Eb (g:=(0,1)) p1 (by decide)).mp (by rw[zZ];exact z);lia
 refine l ?_;rw[e1];rw[C]at m;have:=pay_le (n:=fg.length) (a:=λj=>va (rwF frs 0 j)) (x:=λj=>va (kL (bO fl frs fb fg) s c j)) (λj _=>(r j).2) (λj Z=>G 0 j m1 Z);have P:(rsm fg.length λj=>va (fg.getD j (0,1))*va (kL (bO fl frs fb fg) s c j))=rsm fg.length λj=>va (kL (bO fl frs fb fg) s c j):=jZ λj Z=>by rw[hg j Z,Cf];grind
 rw[P];grind
structure LpG(m n:Nat)(a:Nat->Nat->Rat)(x y:Nat->Rat)(S:Rat):Prop where
 S0:0<S
 S1:S<=1
 x0:∀j,j<n->0<=x j
 y0:∀i,i<m->0<=y i
 hx:∀i,i<m->(rsm n λj=>a i j*x j)<=1
 hy:∀j,j<n->1<=rsm m λi=>y i*a i j
 sx:rsm n x=S
 sy:rsm m y=S
def lp_game(B:BeO frs fb fg)(ok:(bO fl frs fb fg).Ok s)(io:kR (bO fl frs fb fg) s)(un:UnO (bO fl frs fb fg) s none)(hb:∀i,i<frs.length->fb.getD i (0,1)=(1,1))(hg:∀j,j<fg.length->fg.getD j (0,1)=(1,1))(G:∀i j,i<frs.length->j<fg.length->1<=va (rwF frs i j))(m1:1<=frs.length)(n1:1<=fg.length):
  LpG frs.length fg.length (λi j=>va (rwF frs i j)) (λj=>va (xF fl frs fb fg s j)) (λi=>va (yF fl frs fb fg s i)) (rsm fg.length λj=>va (xF fl frs fb fg s j)):=by
 have x0:∀j,0<(xF fl frs fb fg s j).2/\0<=va (xF fl frs fb fg s j):=λj=>let h:=Rr B ok j;#[h.1,tD h.1 h.2.2.1];have y0:∀i,i<frs.length->0<(yF fl frs fb fg s i).2/\0<=va (yF fl frs fb fg s i):=λi hi=>let h:=Rq B ok un hi;#[h.1,tD h.1 h.2.2.1];have g2:∀j,j<fg.length->0<(fg.getD j (0,1)).2:=λj Z=>by rw[hg j Z];decide
 have I:∀j,j<frs.length->0<(fb.getD j (0,1)).2:=λj Z=>by rw[hb j Z];decide
 have hx:∀i,i<frs.length->(rsm fg.length λj=>va (rwF frs i j)*va (xF fl frs fb fg s j))<=1:=λi hi=>by
  have Y:∀j,j<fg.length->0<(rwF frs i j).2:=λj Z=>Ad B hi Z;have h:=jZn B ok io hi;have p:=kQ (n:=fg.length) (f:=rwF frs i) (g:=xF fl frs fb fg s) Y λj _=>(x0 j).1;rw[←Ce Y λj _=>(x0 j).1,←Cf];rw[hb i hi]at h;exact(Eb p (by decide)).mpr h
 have hy:∀j,j<fg.length->1<=rsm frs.length λi=>va (yF fl frs fb fg s i)*va (rwF frs i j):=λj Z=>by
  have Y:∀i,i<frs.length->0<(rwF frs i j).2:=λi hi=>Ad B hi Z;have h:=ys_pay B ok un Z;have p:=kQ (n:=frs.length) (f:=yF fl frs fb fg s) (g:=λi=>rwF frs i j) (λi hi=>(y0 i hi).1) Y;rw[←Ce (λi hi=>(y0 i hi).1) Y,←Cf];rw[hg j Z]at h;exact(Eb (by decide) p).mpr h
 have same:rsm fg.length (λj=>va (xF fl frs fb fg s j))=rsm frs.length λi=>va (yF fl frs fb fg s i):=by
  have h:=jVk B ok io un;have p1:=kQ (n:=fg.length) (f:=λj=>fg.getD j (0,1)) (g:=xF fl frs fb fg s) g2 λj _=>(x0 j).1;have R:=kQ (n:=frs.length) (f:=λi=>fb.getD i (0,1)) (g:=yF fl frs fb fg s) I λi hi=>(y0 i hi).1;have e:=va_eqv p1 R h;rw[Ce g2 λj _=>(x0 j).1,Ce I λi hi=>(y0 i hi).1]at e;have e1:(rsm fg.length λj=>va (fg.getD j (0,1))*va (xF fl frs fb fg s j))=rsm fg.length λj=>va (xF fl frs fb fg s j):=jZ λj Z=>by rw[hg j Z,Cf];grind
  have C:(rsm frs.length λj=>va (fb.getD j (0,1))*va (yF fl frs fb fg s j))=rsm frs.length λj=>va (yF fl frs fb fg s j):=jZ λj Z=>by rw[hb j Z,Cf];grind
  rw[e1,C]at e;exact e
 refine#[?_,?_,λj _=>(x0 j).2,λi hi=>(y0 i hi).2,hx,hy,rfl,same.symm]
 .rw[same];exact pay_pos (λi hi=>(y0 i hi).2) (hy 0 n1)
 .have:=pay_le (n:=fg.length) (a:=λj=>va (rwF frs 0 j)) (x:=λj=>va (xF fl frs fb fg s j)) (λj _=>(x0 j).2) (λj Z=>G 0 j m1 Z);have h:=hx 0 m1;grind
end
def Et{z:Int}(h:x*M=z*y)(g:Int.gcd x y=1):y∣M:=by
 have h1:y∣x*M:=#[z,by rw[h,fW]];have h2:=Int.natAbs_dvd_natAbs.mpr h1;rw[cQ]at h2;have c:Nat.Coprime y.natAbs x.natAbs:=by show Nat.gcd _ _=1;rw[Nat.gcd_comm];exact g
 exact Int.natAbs_dvd_natAbs.mp (c.dvd_of_dvd_mul_left h2)
def Nd(hf:0<f.2)(h:va f<=1):f.1<=f.2:=by
 rw[←Cf]at h;have:=(Eb hf (by decide)).mp h;simpa using this
def Co{n:Nat}(h:BB n M)(c:0<M)(d:x∣M):BB n x:=h.of_le (Nat.le_of_dvd #[] (Int.natAbs_dvd_natAbs.mpr d))
def va_add(hf:0<f.2)(hg:0<g.2):va (lo2 (f.1*g.2+g.1*f.2) (f.2*g.2))=va f+va g:=by
 have z:=bK hf hg;rw[show va (lo2 (f.1*g.2+g.1*f.2) (f.2*g.2))=((f.1*g.2+g.1*f.2:Int):Rat)/((f.2*g.2:Int):Rat)from va_lo z (eN z)];symm;refine nV (nQ z) ?_;have h1:=mL hf;have h2:=mL hg;simp only[Rat.intCast_add,gT];rw[←h1,←h2];grind
def jJy(hf:0<f.2)(hg:0<g.2):va (lo2 (f.1*g.2-g.1*f.2) (f.2*g.2))=va f-va g:=by
 have z:=bK hf hg;rw[show va (lo2 (f.1*g.2-g.1*f.2) (f.2*g.2))=((f.1*g.2-g.1*f.2:Int):Rat)/((f.2*g.2:Int):Rat)from va_lo z (eN z)];symm;refine nV (nQ z) ?_;have h1:=mL hf;have h2:=mL hg;simp only[Rat.intCast_sub,gT];rw[←h1,←h2];grind
def jJz(hg:0<g.2)(T:0<g.1):0<va g:=by
 have h2:=mL hg;have a:=nQ T;have:=tD hg (bT T);by_cases e:va g=0
 .rw[e]at h2;grind
 .grind
def jJ0(hf:0<f.2)(hg:0<g.2)(T:0<g.1):va (fov f g)=va f/va g:=by
 have z:=bK hf T;have l:=eN (t:=f.1*g.2) z;have e:va (fov f g)*((f.2*g.1:Int):Rat)=((f.1*g.2:Int):Rat):=by
  unfold fov;rw[show va (lo2 (f.1*g.2) (f.2*g.1))=((f.1*g.2:Int):Rat)/((f.2*g.1:Int):Rat)from va_lo z l];exact Rat.div_mul_cancel (by have:=nQ z;grind)
 have h1:=mL hf;have h2:=mL hg;have p1:=nQ hf;have R:=nQ hg;refine nV (jJz hg T) (Dp (Rat.mul_pos p1 R) ?_);simp only[gT]at e;rw[←h1,←h2]at e;grind
def sum_dvd(hf:0<f.2)(hg:0<g.2)(c:f.2∣M)(a:g.2∣M):(lo2 (f.1*g.2+g.1*f.2) (f.2*g.2)).2∣M:=by
 obtain⟨u,rfl⟩:=c;obtain⟨v,hv⟩:=a;have z:=bK hf hg;have l:=eN (t:=f.1*g.2+g.1*f.2) z;refine Et (x:=(lo2 (f.1*g.2+g.1*f.2) (f.2*g.2)).1) (z:=f.1*u+g.1*v) ?_ l.cop;have e:=l.eq;have b:f.2*g.2≠0:=#[];refine dN b ?_;generalize (lo2 (f.1*g.2+g.1*f.2) (f.2*g.2)).1=X at e⊢;generalize (lo2 (f.1*g.2+g.1*f.2) (f.2*g.2)).2=Y at e⊢;have:X*(f.2*u)*(f.2*g.2)=(X*(f.2*g.2))*(f.2*u):=by grind
 rw[this,e];grind
def Fc{f:Nat->Rat}{i:Nat}:∀{n:Nat},i<=n->(∀k,k<n->0<=f k)->rsm i f<=rsm n f
 |0,h,_=>by rw[show i=0 by lia];exact Rat.le_refl
 |n+1,h,h0=>by
  by_cases e:i=n+1
  .rw[e];exact Rat.le_refl
  .have h1:=Fc (n:=n) (i:=i) #[] λk hk=>h0 k #[];have h2:=h0 n #[];show _<=rsm n f+f n;grind
def fL(n:Nat):eF:=ofF n λ_=>(1,1)
def jJ(n:Nat):(fL n).length=n:=bH _ _
def Jn{n:Nat}(h:j<n):(fL n).getD j (0,1)=(1,1):=by
 rw[aN,show(fL n)[j]?=some (1,1)from fC _ h];rfl
def Fg{n:Nat}(h:f∈fL n):f=(1,1):=(lO h).choose_spec.2
noncomputable def lft(z:Int)(f:Int×Int):Int×Int:=lo2 (f.1*1+(1-z)*f.2) (f.2*1)
def rW(z:Int)(frs:hJ):hJ:=frs.map λr=>r.map (lft z)
structure Mnf(frs:hJ)(z:Int):Prop where
 at_:∃r∈frs,∃f∈r,z=f.1.fdiv f.2
 le:∀r∈frs,∀f∈r,z<=f.1.fdiv f.2
def va_lft{z:Int}(hf:0<f.2):va (lft z f)=va f+(1-z:Int):=by
 have:=va_add (g:=(1-z,1)) hf (by decide:(0:Int)<1);unfold lft;rw[this]
 congr 1
 unfold va;show((1-z:Int):Rat)/((1:Int):Rat)=_;rw[show((1:Int):Rat)=1 from rfl,Rat.div_def];grind
def fdiv_le(hf:0<f.2):((f.1.fdiv f.2:Int):Rat)<=va f:=by
 refine Rat.le_of_mul_le_mul_right (c:=(f.2:Rat)) ?_ (nQ hf);rw[mL hf,←gT];refine Rat.intCast_le_intCast.mpr ?_;have:=Int.mul_fdiv_add_fmod f.1 f.2;have h2:=Int.fmod_nonneg_of_pos f.1 hf;rw[fW];lia
def lft_ge{z:Int}(hf:0<f.2)(h:z<=f.1.fdiv f.2):1<=va (lft z f):=by
 rw[va_lft hf];have h1:=fdiv_le hf;have h2:(z:Rat)<=(f.1.fdiv f.2:Int):=Rat.intCast_le_intCast.mpr h;have A:((1-z:Int):Rat)=1-z:=by rw[Rat.intCast_sub];rfl
 rw[A];grind
def jYv{z:Int}{frs:hJ}{n:Nat}(hi:i<frs.length)(hr:∀r∈frs,r.length=n)(Z:j<n):rwF (rW z frs) i j=lft z (rwF frs i j):=by
 unfold rwF rW;have e:frs[i]?=some frs[i]:=aC hi;have S:=hr _ (cD hi);rw[aN (l:=frs.map _),aX,e,aN (l:=frs),e];show((frs[i]).map (lft z)).getD j (0,1)=lft z ((frs[i]).getD j (0,1));rw[aN,aX,aC #[],aN,aC #[]];rfl
structure WoO(R:hJ)(m n:Nat):Prop where
 B:BeO R (fL m) (fL n)
 mx:∀fl s,(bO fl R (fL m) (fL n)).Ok s->kR (bO fl R (fL m) (fL n)) s->∃M,0<M/\BB 4000 M/\∀j,j<n->(xF fl R (fL m) (fL n) s j).2∣M
 my:∀fl s,(bO fl R (fL m) (fL n)).Ok s->UnO (bO fl R (fL m) (fL n)) s none->∀k,k<m->BB 4000 (yF fl R (fL m) (fL n) s k).2
def Gm.congr{n:Nat}{r t:Nat->Nat->Rat}{v O:Rat}{p q u S:Nat->Rat}(h:Gm m n r v p q)(hr:∀i j,i<m->j<n->r i j=t i j)(hv:v=O)(hp:∀i,i<m->p i=u i)(F:∀j,j<n->q j=S j):Gm m n t O u S:=by
 refine#[λi hi=>hp i hi▸h.p0 i hi,?_,λj Z=>F j Z▸h.q0 j Z,?_,λj Z=>?_,λi hi=>?_]
 .rw[←h.p1];exact(jZ hp).symm
 .rw[←h.q1];exact(jZ F).symm
 .rw[←hv,←jZ λi hi=>show p i*r i j=u i*t i j by rw[hp i hi,hr i j hi Z]];exact h.lo j Z
 .rw[←hv,←jZ λj Z=>show r i j*q j=t i j*S j by rw[F j Z,hr i j hi Z]];exact h.hi i hi
def Yx{f:Nat->Rat}{n:Nat}(hi:i<n)(h:∀k,k<n->0<=f k):f i<=rsm n f:=by
 have h1:=Fc (f:=f) (i:=i+1) (n:=n) #[] h;have h2:=qJ (f:=f) (n:=i) λk hk=>h k #[];have A:rsm (i+1) f=rsm i f+f i:=rfl;grind
def Zr{a b:Int}(h:0<b):(a.fdiv b).natAbs<=a.natAbs:=by
 have e:=Int.mul_fdiv_add_fmod a b;have h1:=Int.fmod_nonneg_of_pos a h;have h2:=Int.fmod_lt_of_pos a h;generalize a.fdiv b=q at e⊢;generalize a.fmod b=r at e h1 h2;by_cases F:0<=q
 .have:q<=b*q:=by have:=Int.mul_le_mul_of_nonneg_right (show(1:Int)<=b by lia) F;lia
  lia
 .have:b*(q+1)<=q+1:=by have:=Int.mul_le_mul_of_nonpos_right (show(1:Int)<=b by lia) (show q+1<=0 by lia);lia
  have C:b*(q+1)=b*q+b:=by rw[Int.mul_add,fE]
  lia
def Mnf.bb{frs:hJ}{z:Int}{n:Nat}(h:Mnf frs z)(hg:∀r∈frs,∀f∈r,0<f.2/\BB n f.1/\BB n f.2):BB (n+1) (1-z):=by
 obtain⟨r,hr,f,hf,rfl⟩:=h.at_;obtain⟨U,t,_⟩:=hg r hr f hf;have h1:BB n (f.1.fdiv f.2):=t.of_le (Zr U);have:(f.1.fdiv f.2).natAbs<2^n:=h1;show(1-f.1.fdiv f.2).natAbs<2^(n+1);rw[Nat.pow_succ];have:=eJ n;lia
structure WoR(frs:hJ)(n:Nat):Prop where
 m1:1<=frs.length
 m2:frs.length<=100
 n1:1<=n
 n2:n<=100
 hr:∀r∈frs,r.length=n
 hg:∀r∈frs,∀f∈r,0<f.2/\BB 4000 f.1/\BB 4000 f.2
def lo2_dvd{u S:Int}(S0:0<S):(lo2 u S).2∣S:=Et (eN (t:=u) S0).eq (eN S0).cop
structure Ent(S N:Int)(f:Int×Int):Prop where
 p:0<f.2
 c:Int.gcd f.1 f.2=1
 d:f.2∣S
 e:f.1*S=N*f.2
def ent_lft{S z u:Int}(S0:0<S):Ent S (u+(1-z)*S) (lft z (lo2 u S)):=by
 have l:=eN (t:=u) S0;have F:0<(lo2 u S).2*1:=by have:=l.pos;lia
 have m:=eN (t:=(lo2 u S).1*1+(1-z)*(lo2 u S).2) F;have d0:(lo2 u S).2∣S:=lo2_dvd S0;have e1:=l.eq;have C:=m.eq;have p1:=l.pos;refine#[m.pos,m.cop,?_,?_]
 .exact jG (Et C m.cop) (by rw[fE];exact d0)
 .show(lo2 ((lo2 u S).1*1+(1-z)*(lo2 u S).2) ((lo2 u S).2*1)).1*S=(u+(1-z)*S)*(lo2 ((lo2 u S).1*1+(1-z)*(lo2 u S).2) ((lo2 u S).2*1)).2;generalize (lo2 ((lo2 u S).1*1+(1-z)*(lo2 u S).2) ((lo2 u S).2*1)).1=X at C⊢;generalize (lo2 ((lo2 u S).1*1+(1-z)*(lo2 u S).2) ((lo2 u S).2*1)).2=Y at C⊢;generalize (lo2 u S).1=A at e1 C;generalize (lo2 u S).2=B at e1 C p1;refine dN (show B≠0 by lia) ?_;have:X*S*B=X*(B*1)*S:=by grind
  rw[this,C];have:(A*1+(1-z)*B)*Y*S=(A*S+(1-z)*B*S)*Y:=by grind
  rw[this,e1];grind
def Bp{S N d:Int}(S0:0<S)(d0:0<=d)(a:d<=S)(e:x*S=N*d):x.natAbs<=N.natAbs:=by
 have h:x.natAbs*S.natAbs=N.natAbs*d.natAbs:=by rw[←cQ,e,cQ]
 have h2:N.natAbs*d.natAbs<=N.natAbs*S.natAbs:=Nat.mul_le_mul_left _ #[];exact Nat.le_of_mul_le_mul_right (show x.natAbs*S.natAbs<=N.natAbs*S.natAbs by lia) #[]
def ent_bb{S N:Int}(h:Ent S N f)(S0:0<S)(K:BB q N):BB q f.1:=K.of_le (Bp S0 (bT h.p) (Int.le_of_dvd S0 h.d) h.e)
structure RwE(S:Int)(q:Nat)(row:eF):Prop where
 h:∀f∈row,∃N,Ent S N f/\BB q N
def RwE.lcd{S:Int}{row:eF}(R:RwE S q row):lc row∣S:=(Cl row 1 (by decide) λf hf=>let⟨_,e,_⟩:=R.h f hf;e.p).2.2.2 S (Int.one_dvd _) λf hf=>let⟨_,e,_⟩:=R.h f hf;e.d
def RwE.clr{S:Int}{row:eF}(R:RwE S q row)(S0:0<S):∀x∈clr row,BB q x:=λx hx=>by
 obtain⟨f,hf,rfl⟩:=cM.mp hx;obtain⟨N,e,b⟩:=R.h f hf;have hp:∀f∈row,0<f.2:=λf hf=>let⟨_,e,_⟩:=R.h f hf;e.p;have c:=clr_eq hp hf;have lp:0<lc row:=jZc hp;have le:=e.e;have a:=e.p;refine b.of_le (Bp S0 (bT lp) (Int.le_of_dvd S0 R.lcd) ?_);refine dN (show f.2≠0 by lia) ?_;have:f.1*(lc row).fdiv f.2*S*f.2=f.1*(lc row).fdiv f.2*f.2*S:=by grind
 rw[this,c];have:f.1*lc row*S=f.1*S*lc row:=by grind
 rw[this,le];grind
def RwE.lc_bb{S:Int}{row:eF}(R:RwE S q row)(S0:0<S)(bS:BB k S):BB k (lc row):=Co bS S0 R.lcd
def Zh{f:Nat->Nat->Nat}{p:Nat}:∀m,nsm m (λk=>nsm p λi=>f k i)=nsm p λi=>nsm m λk=>f k i
 |0=>by show 0=nsm p λi=>0;rw[yH λ_ _=>rfl]
 |m+1=>by
  show nsm m (λk=>nsm p λi=>f k i)+nsm p (λi=>f m i)=nsm p λi=>nsm m (λk=>f k i)+f m i;rw[Zh m,Er]
def jYs{t n:Nat}:∀m,nsm m (λk=>if t=n+k then 1 else 0)=if n<=t/\t<n+m then 1 else 0
 |0=>by rw[aF #[]];rfl
 |m+1=>by
  show nsm m (λk=>if t=n+k then 1 else 0)+(if t=n+m then 1 else 0)=_;rw[jYs m];by_cases a:t=n+m
  .rw[aK a,aF #[],aK #[]]
  .by_cases b:n<=t/\t<n+m
   .rw[aF a,aK b,aK #[]]
   .rw[aF a,aF b,aF #[]]
def Cc(s:Nat->Nat)(m n k:Nat):Nat:=nsm m λi=>if s i=n+k then 1 else 0
def jWm{n:Nat}(h:¬Cc s m n k=0):∃i,i<m/\s i=n+k:=Classical.byContradiction λz=>h (yH λi hi=>aF λe=>z #[i,hi,e])
def out_few{n:Nat}(inj:∀i j,i<m->j<m->i≠j->s i≠s j)(io:∀i,i<m->s i<n+m):nsm m (λk=>if Cc s m n k=0 then 1 else 0)<=min m n:=by
 have e1:nsm m (λk=>(if Cc s m n k=0 then 1 else 0)+Cc s m n k)=nsm m λ_=>1:=lR λk _=>by
  have:Cc s m n k<=1:=Wv inj;by_cases z:Cc s m n k=0
  .rw[aK z,z]
  .rw[aF z];lia
 rw[Er,Jo,Nat.mul_one]at e1;have C:nsm m (Cc s m n)=nsm m λi=>if n<=s i then 1 else 0:=by
  show nsm m (λk=>nsm m λi=>if s i=n+k then 1 else 0)=_;rw[Zh];refine lR λi hi=>?_;rw[jYs];have:=io i hi;by_cases a:n<=s i
  .rw[aK a,aK #[a,this]]
  .rw[aF a,aF λz=>a z.1]
 have P:nsm m (λi=>(if s i<n then 1 else 0)+(if n<=s i then 1 else 0))=nsm m λ_=>1:=lR λi _=>by
  by_cases a:s i<n
  .rw[aK a,aF #[]]
  .rw[aF a,aK #[]]
 rw[Er,Jo,Nat.mul_one]at P;have h1:=jZg inj n;have h2:=cnt_m (s:=s) n m;lia
noncomputable def ipr:Nat->(Nat->Int)->Int
 |0,_=>1
 |n+1,f=>ipr n f*f n
def jYy{f:Nat->Int}:∀{n:Nat},(∀k,k<n->0<f k)->0<ipr n f
 |0,_=>by show(0:Int)<1;decide
 |n+1,h=>bK (jYy λk hk=>h k #[]) (h n #[])
def ipr_bb{f:Nat->Int}{c:Nat->Nat}:∀{n:Nat},(∀k,k<n->BB (c k) (f k))->BB (1+nsm n c) (ipr n f)
 |0,_=>by show(1:Int).natAbs<2^1;decide
 |n+1,h=>by
  have:=(ipr_bb (n:=n) λk hk=>h k #[]).mul (h n #[]);exact this.mono (by show 1+nsm n c+c n<=1+(nsm n c+c n);lia)
def jYz{f:Nat->Int}:∀{n k:Nat},k<n->f k∣ipr n f
 |0,_,h=>absurd h (eU _)
 |n+1,k,h=>by
  by_cases e:k=n
  .subst e;exact Int.dvd_mul_left _ _
  .exact jG (jYz (n:=n) #[]) (Int.dvd_mul_right _ _)
def jJ8{f:Nat->Int}{d:Int}:∀{n:Nat},(∀k,k<n->d∣f k)->d∣sm n f
 |0,_=>Int.dvd_zero _
 |n+1,h=>Int.dvd_add (jJ8 λk hk=>h k #[]) (h n #[])
def Wb{f:Nat->Int}{c:Int}:∀{n:Nat},c*sm n f=sm n λk=>c*f k
 |0=>cU _
 |n+1=>by show c*(sm n f+f n)=sm n (λk=>c*f k)+c*f n;rw[Int.mul_add,Wb]
section
variable{fl:Bool}{frs:hJ}{fb fg:eF}{s:Nat->Nat}
def gK(frs:hJ)(n:Nat)(s:Nat->Nat)(k:Nat):Int:=if Cc s frs.length n k=0 then(whF (frs.getD k [])).2 else 1
def x_dvd(B:BeO frs fb fg)(ok:(bO fl frs fb fg).Ok s)(hb:∀i,i<frs.length->fb.getD i (0,1)=(1,1))(m:j<fg.length):(xF fl frs fb fg s j).2∣(bO fl frs fb fg).D s*ipr frs.length (gK frs fg.length s):=by
 have w:=Vm B;obtain⟨H,b,_,xe⟩:=Rr B ok j;have key:(whF (bnF frs fb)).1∣(whF (bnF frs fb)).2*ipr frs.length (gK frs fg.length s)*Lpd.spr frs.length s (λi=>(bO fl frs fb fg).T s i (bO fl frs fb fg).be) j:=by
  unfold Lpd.spr;rw[Wb];refine jJ8 λi hi=>?_;by_cases e:s i=j
  .rw[aK e];show(whF (bnF frs fb)).1∣(whF (bnF frs fb)).2*ipr frs.length (gK frs fg.length s)*(bO fl frs fb fg).T s i (bO fl frs fb fg).be;rw[(bO fl frs fb fg).T_lin (s:=s) (i:=i) (show i<frs.length+1 by lia),Wb];refine jJ8 λk hk=>?_;by_cases a:k<frs.length
   .by_cases z:Cc s frs.length fg.length k=0
    .obtain⟨g,F⟩:=jYz (f:=gK frs fg.length s) a;have t:gK frs fg.length s k=(whF (frs.getD k [])).2:=by unfold gK;rw[aK z]
     rw[t]at F;have l:=Ww (fl:=fl) B a;rw[hb k a]at l;refine#[(whF (frs.getD k [])).1*g*(bO fl frs fb fg).T s i (e1 k),?_];rw[F];have:(bO fl frs fb fg).be k*(whF (bnF frs fb)).2*(1*(whF (frs.getD k [])).2)=1*(whF (frs.getD k [])).1*(whF (bnF frs fb)).1:=l;grind
    .obtain⟨Q,d,J⟩:=jWm z;have U:i≠Q:=λh=>by subst h;lia
     have o:=(bO fl frs fb fg).other (s:=s) (i:=i) (j:=Q) (show i<frs.length+1 by lia) d U;rw[J,show fg.length+k=(bO fl frs fb fg).n+k from rfl,Lpd.cv_spare]at o;rw[o,cU,cU];exact Int.dvd_zero _
   .have hk:k<frs.length+1:=hk;have c:(bO fl frs fb fg).be k=0:=by
     show(whL (bnF frs fb)).getD k 0=0;rw[aN,bU (by rw[jO,jA B.lb];lia)];rfl
    rw[c,fV,cU];exact Int.dvd_zero _
  .rw[aF e,cU];exact Int.dvd_zero _
 obtain⟨Z,u⟩:=key;refine Et (z:=Z) ?_ b;refine dN (show(whF (bnF frs fb)).1≠0 by lia) ?_;generalize (xF fl frs fb fg s j).1=X at xe⊢;generalize (xF fl frs fb fg s j).2=Y at xe⊢;generalize ipr frs.length (gK frs fg.length s)=P at u⊢;generalize Lpd.spr frs.length s (λi=>(bO fl frs fb fg).T s i (bO fl frs fb fg).be) j=T at xe u;have:X*((bO fl frs fb fg).D s*P)*(whF (bnF frs fb)).1=X*((bO fl frs fb fg).D s*(whF (bnF frs fb)).1)*P:=by grind
 rw[this,xe];have:T*(whF (bnF frs fb)).2*Y*P=(whF (bnF frs fb)).2*P*T*Y:=by grind
 rw[this,u];grind
end
def Wm(k:Nat):lc (fL k)=1:=by
 have h1:∀f∈fL k,f.2=1:=λf hf=>by rw[Fg hf]
 have a:=Cl (fL k) 1 (by decide) (λf hf=>by rw[h1 f hf];decide);have d:lc (fL k)∣1:=a.2.2.2 1 (Int.dvd_refl _) λf hf=>by rw[h1 f hf];exact Int.dvd_refl _
 have h1:=Int.le_of_dvd (by decide) d;have h2:0<lc (fL k):=a.1;lia
structure GmS(frs:hJ)(n:Nat)(S:Int):Prop where
 hr:∀row∈frs,row.length=n
 S0:0<S
 bS:BB 31 S
 RE:∀row∈frs,RwE S 210 row
 n2:n<=24
 sz:frs.length<=4∨(frs.length<=6/\n<=2)
section
variable{frs:hJ}{n:Nat}{S:Int}
def GmS.wr(g:GmS frs n S){row:eF}(h:row∈frs):BB 31 (whF row).1/\BB 210 (whF row).2:=(eN (uV _)).bb ((g.RE row h).lc_bb g.S0 g.bS) (mx1_bb (by decide) (jYU ((g.RE row h).clr g.S0)))
def GmS.gr(g:GmS frs n S):∀row∈frs,∀f∈row,Gp 210 31 f:=λrow h f hf=>by
 obtain⟨N,e,b⟩:=(g.RE row h).h f hf;exact#[e.p,ent_bb e g.S0 b,Co g.bS g.S0 e.d]
def rH:∀f∈fL k,Gp 1 1 f:=λf hf=>by
 have a:BB 1 (1:Int):=by show(1:Int).natAbs<2^1;decide
 rw[Fg hf];exact#[by decide,a,a]
def GmS.gbn(g:GmS frs n S):∀f∈bnF frs (fL frs.length),Gp 31 210 f:=λf hf=>by
 have hb:(fL frs.length).length=frs.length:=jJ _;obtain⟨i,hi⟩:=cF hf;have r:i<frs.length:=by have:=(aI.mp hi).1;rwa [jA hb]at this
 have C:(fL frs.length)[i]?=some (1,1):=fC _ r;rw[uX C (aC r)]at hi;obtain rfl:=aU hi;have w:=jE λf hf=>(g.gr _ (cD r) f hf).1;have wb:=g.wr (cD r);have z:0<1*(whF frs[i]).2:=by have:=w.2;lia
 have lo:=eN (t:=1*(whF frs[i]).1) z;have lb:=lo.bb (by rw[fP];exact wb.1) (by rw[fP];exact wb.2);exact#[lo.pos,lb.1,lb.2]
def GmS.hlm(g:GmS frs n S):BB (1+210*frs.length) (lc (bnF frs (fL frs.length))):=(lc_bbp g.gbn).mono (by rw[jA (jJ _)];exact aP _)
def GmS.ha(g:GmS frs n S)(e:Bool)(j k:Nat):BB 210 ((bO e frs (fL frs.length) (fL n)).a j k):=by
 show BB 210 (if k<frs.length then(whL (frs.getD k [])).getD j 0 else-(whL (fL n)).getD j 0);by_cases h:k<frs.length
 .rw[aK h];have hm:frs.getD k []∈frs:=by rw[aN,aC h];exact cD h
  by_cases hi:j<(whL (frs.getD k [])).length
  .exact Ta ((g.RE _ hm).clr g.S0) _ (mE hi)
  .rw[aN,bU #[]];show(0:Int).natAbs<_;exact eJ _
 .rw[aF h];exact((whL_bb rH (q:=1) (by rw[Wm];show(1:Int).natAbs<2^1;decide) j).neg).mono (by decide)
def GmS.D_bb(g:GmS frs n S)(e:Bool)(o:(bO e frs (fL frs.length) (fL n)).Okn s):BB 1459 ((bO e frs (fL frs.length) (fL n)).D s):=by
 have h:=D_bbk (L:=bO e frs (fL frs.length) (fL n)) (q:=210) (λj k _ _=>g.ha e j k) o;have t:=jJ n;refine h.mono ?_;show min frs.length (fL n).length*210+(frs.length+1)+(frs.length+1)*(frs.length+1)+1<=1459;rw[t];have sz:=g.sz;have h1:(frs.length+1)*(frs.length+1)<=7*7:=fB #[] #[];lia
def GmS.T_bb(g:GmS frs n S)(e:Bool)(o:(bO e frs (fL frs.length) (fL n)).Okn s)(i qy:Nat){y:Nat->Int}(hy:∀k,BB qy (y k)):BB (1459+qy) ((bO e frs (fL frs.length) (fL n)).T s i y):=by
 have h:=T_bbk (L:=bO e frs (fL frs.length) (fL n)) (q:=210) (qy:=qy) (λj k _ _=>g.ha e j k) o i λk _=>hy k;have t:=jJ n;refine h.mono ?_;show min frs.length (fL n).length*210+qy+(frs.length+1)+(frs.length+1)*(frs.length+1)+1<=1459+qy;rw[t];have sz:=g.sz;have h1:(frs.length+1)*(frs.length+1)<=7*7:=fB #[] #[];lia
def GmS.beo(g:GmS frs n S):BeO frs (fL frs.length) (fL n):=by
 have C:=jJ frs.length;have t:=jJ n;have sz:=g.sz;have n2:=g.n2;have gbn:=g.gbn;have hlm:=g.hlm;have a:BB 1 (1:Int):=by show(1:Int).natAbs<2^1;decide
 have l:BB 1 (lc (fL n)):=by rw[Wm];exact a
 have wg:=jJx (rH (k:=n)) l (by decide);have wb:=jJx gbn hlm #[];have d:∀e k,BB (31+(1+210*frs.length)) ((bO e frs (fL frs.length) (fL n)).be k):=λe k=>whL_bb gbn hlm k;refine#[λr h=>by rw[t];exact g.hr r h,C,λrow h f hf=>?_,λf hf=>?_,λf hf=>?_,λrow h x hx=>?_,λx hx=>?_,λx hx=>?_,λrow h=>?_,?_,?_,λb m row h=>?_,λe=>#[?_,?_,λj k Z hk=>(g.ha e j k).mono (by decide),λs i c o _=>?_,λs i k o _ _=>?_,λs i o _=>?_,λs o=>?_],λe s o=>?_,λe s o row h=>#[?_,λk hk=>?_],?_]
 .have q:=g.gr row h f hf;exact#[q.1,q.2.1.mono (by decide),q.2.2.mono (by decide)]
 .have q:=rH f hf;exact#[q.1,q.2.1.mono (by decide),q.2.2.mono (by decide)]
 .have q:=rH f hf;exact#[q.1,q.2.1.mono (by decide),q.2.2.mono (by decide)]
 .exact((g.RE row h).clr g.S0 x hx).mono (by decide)
 .exact(Ms rH l x hx).mono (by decide)
 .exact(Ms gbn hlm x hx).mono #[]
 .exact#[(g.wr h).1.mono (by decide),(g.wr h).2.mono (by decide)]
 .exact#[wb.1.mono #[],wb.2.mono #[]]
 .exact#[wg.1.mono (by decide),wg.2.mono (by decide)]
 .exact#[((rH b m).2.2.mul (g.wr h).2).mono (by decide),((rH b m).2.1.mul (g.wr h).1).mono (by decide)]
 .show frs.length<=100;lia
 .show(fL n).length<=100;lia
 .refine(g.T_bb e o i 210 λk=>?_).mono (by decide);unfold Lpd.cv;split
  .exact g.ha e _ _
  .exact Na (by decide) _ _
 .exact(g.T_bb e o i 1 λr=>Na (aP _) _ _).mono (by decide)
 .exact(g.T_bb e o i _ (d e)).mono #[]
 .exact(g.D_bb e o).mono (by decide)
 .exact((g.D_bb e o).mul wb.1).mono #[]
 .exact(((g.D_bb e o).mul (g.wr h).2).mul wg.1).mono (by decide)
 .exact((g.T_bb e o frs.length 1 λr=>Na (aP _) _ _).mul (g.wr h).1).mono (by decide)
 .by_cases y:frs.length<=4
  .refine#[31+(1+210*frs.length)+210,1090,#[by decide,#[],#[],?_],#[],λk h=>by lia,λj k=>(g.ha false j k).mono #[],λk=>(d false k).mono #[]];have h1:(frs.length+1)*(frs.length+1)<=5*5:=fB #[] #[];have h2:min frs.length (fL n).length*1090<=4*1090:=iR _ #[];lia
  .refine#[31+(1+210*frs.length)+210,2560,#[by decide,#[],#[],?_],#[],λk h=>?_,λj k=>(g.ha false j k).mono #[],λk=>(d false k).mono #[]]
   .have h1:(frs.length+1)*(frs.length+1)<=7*7:=fB #[] #[];have h2:min frs.length (fL n).length*2560<=2*2560:=iR _ #[];lia
   .by_cases hk:k<=6
    .have:=fK (show 0<2 by decide) hk;lia
    .have:=fK (show 0<2 by decide) (show 7<=k by lia);lia
end
def GmS.wo{frs:hJ}{n:Nat}{S:Int}(g:GmS frs n S):WoO frs frs.length n:=by
 have B:=g.beo;have t:=jJ n;have sz:=g.sz;refine#[B,λfl s ok io=>#[_,?_,?_,λj Z=>x_dvd B ok (λi hi=>Jn hi) (by rw[t];exact Z)],λfl s ok un k hk=>?_]
 .refine bK ok.pos (jYy λk hk=>?_);unfold gK;split
  .exact(Cj B hk).2
  .decide
 .have inj:∀i j,i<frs.length->j<frs.length->i≠j->s i≠s j:=λi j hi Z h=>ok.n.inj hi Z h;have b:=out_few (n:=(fL n).length) inj io;have h1:=ipr_bb (f:=gK frs (fL n).length s) (c:=λk=>if Cc s frs.length (fL n).length k<1 then 210 else 1) (n:=frs.length) λk hk=>by
   unfold gK;by_cases z:Cc s frs.length (fL n).length k=0
   .rw[aK z,aK #[]];exact(g.wr (by rw[aN,aC hk];exact cD hk)).2
   .rw[aF z,aF #[]];show(1:Int).natAbs<2^1;decide
  have h2:=Wi (s:=Cc s frs.length (fL n).length) 1 210 frs.length;have e:nsm frs.length (λk=>if Cc s frs.length (fL n).length k<1 then 1 else 0)=nsm frs.length (λk=>if Cc s frs.length (fL n).length k=0 then 1 else 0):=lR λk _=>by
   by_cases z:Cc s frs.length (fL n).length k=0
   .rw[aK z,aK #[]]
   .rw[aF z,aF #[]]
  rw[e]at h2;rw[t]at b h2 h1⊢;have A:=iR 210 b;exact((g.D_bb fl ok.n).mul h1).mono #[]
 .obtain⟨v,d,_,l⟩:=Rq B ok un hk;have w:=Cj B hk;have x:=jE λf hf=>(B.gg f hf).1;have a:BB 1 (lc (fL n)):=by rw[Wm];show(1:Int).natAbs<2^1;decide
  have wg:=jJx (rH (k:=n)) a (by decide);have hm:frs.getD k []∈frs:=by rw[aN,aC hk];exact cD hk
  exact Co ((((g.D_bb fl ok.n).mul (g.wr hm).2).mul wg.1).mono (by decide)) (bK (bK ok.pos w.2) x.1) (Et l d)
def floor_b{S u:Int}(S0:0<S):(lo2 u S).1.fdiv (lo2 u S).2*S<=u/\u<((lo2 u S).1.fdiv (lo2 u S).2+1)*S:=by
 have l:=eN (t:=u) S0;have e:=l.eq;have p:=l.pos;have h:=Int.mul_fdiv_add_fmod (lo2 u S).1 (lo2 u S).2;have h1:=Int.fmod_nonneg_of_pos (lo2 u S).1 p;have h2:=Int.fmod_lt_of_pos (lo2 u S).1 p;generalize (lo2 u S).1.fdiv (lo2 u S).2=z at h⊢;generalize (lo2 u S).1.fmod (lo2 u S).2=r at h h1 h2;generalize (lo2 u S).1=A at e h;generalize (lo2 u S).2=B at e h p h2;have I:u*B=z*S*B+r*S:=by rw[←e,←h];grind
 have K:0<=r*S:=dU h1 (bT S0);have i:r*S<B*S:=Int.mul_lt_mul_of_pos_right h2 S0;constructor
 .exact Int.le_of_mul_le_mul_right (show z*S*B<=u*B by lia) p
 .refine Int.lt_of_mul_lt_mul_right (a:=B) ?_ (bT p);have:(z+1)*S*B=z*S*B+B*S:=by grind
  lia
def lwR(S:Int)(us:List (List Int)):hJ:=us.map λrow=>row.map λu=>lo2 u S
structure Sh5(us:List (List Int))(n:Nat):Prop where
 m1:1<=us.length
 n1:1<=n
 n24:n<=24
 sz:us.length<=4∨(us.length<=6/\n<=2)
 hr:∀row∈us,row.length=n
 hu:∀row∈us,∀u∈row,BB 206 u
def Dt(S:Int)(us:List (List Int)):(lwR S us).length=us.length:=by unfold lwR;rw[aA]
def Sh5.wor{us:List (List Int)}{n:Nat}(h:Sh5 us n):WoR (lwR 12 us) n:=by
 have sz:=h.sz;have n24:=h.n24;refine#[by rw[Dt];exact h.m1,by rw[Dt];lia,h.n1,#[],λr hr=>?_,λr hr f hf=>?_]
 .obtain⟨row,hm,rfl⟩:=cM.mp hr;rw[aA];exact h.hr row hm
 .obtain⟨row,hm,rfl⟩:=cM.mp hr;obtain⟨u,hu,rfl⟩:=cM.mp hf;have l:=eN (t:=u) (b:=12) (by decide);have b:=l.bb (h.hu row hm u hu) (n:=4) (by unfold BB;decide);exact#[l.pos,b.1.mono (by decide),b.2.mono (by decide)]
def Sh5.wo{us:List (List Int)}{n:Nat}{z:Int}(g:Sh5 us n)(mn:Mnf (lwR 12 us) z):WoO (rW z (lwR 12 us)) (lwR 12 us).length n:=by
 have B:(rW z (lwR 12 us)).length=(lwR 12 us).length:=by unfold rW;rw[aA]
 have e:=Dt 12 us;have sz:=g.sz;obtain⟨r,hr,f,hf,a⟩:=mn.at_;obtain⟨row,d,rfl⟩:=cM.mp hr;obtain⟨U,p,rfl⟩:=cM.mp hf;have l:=floor_b (u:=U) (S:=12) (by decide);rw[←a]at l;have c:=g.hu row d U p;have b:∀u:Int,BB 206 u->BB 210 (u+(1-z)*12):=λu hu=>by
  unfold BB at*;have k:(2:Nat)^206*4<2^210:=by decide
  have K:1000<(2:Nat)^206:=by decide
  generalize (2:Nat)^210=W at k⊢;generalize (2:Nat)^206=V at*;lia
 rw[←B];refine GmS.wo (S:=12) #[λrow hm=>?_,by decide,by show(12:Int).natAbs<2^31;decide,λrow hm=>#[λf hf=>?_],g.n24,#[]]
 .obtain⟨Z,h1,rfl⟩:=cM.mp hm;obtain⟨Y,h2,rfl⟩:=cM.mp h1;rw[aA,aA];exact g.hr Y h2
 .obtain⟨Z,h1,rfl⟩:=cM.mp hm;obtain⟨Y,h2,rfl⟩:=cM.mp h1;obtain⟨m,A,rfl⟩:=cM.mp hf;obtain⟨u,y,rfl⟩:=cM.mp A;exact#[_,ent_lft (by decide),b u (g.hu Y h2 u y)]
noncomputable def tv(q:List Nat):List V:=q.map λn:Nat=>int (n:Int)
noncomputable def tk(q:List Nat):List Key:=q.map λn:Nat=>(Sum.inl (n:Int):Key)
def Ka(q:List Nat):(tk q).map kV=tv q:=by
 unfold tk tv;rw[List.map_map];exact eP λn _=>rfl
def tv_app(a b:List Nat):tv (a++b)=tv a++tv b:=aV
def iH(q:List Nat):(tv q).length=q.length:=aA _
def pH{q:List Nat}{x:V}(h:(tv q)[i]?=some x):∃n,q[i]?=some n/\x=.int (n:Nat):=by
 unfold tv at h;rw[aX]at h;cases e:q[i]? with
 |none=>rw[e]at h;cases h
 |some n=>rw[e]at h;exact#[n,rfl,(aU h).symm]
def jYX{q:List Nat}{n:Nat}(h:q[i]?=some n):(tv q)[i]?=some (.int (n:Nat)):=by
 unfold tv;rw[aX,h];rfl
def Cg:∀{a b:List Nat},tk a=tk b->a=b
 | [],[],_=>rfl
 | [],_::_,h=>by simp [tk]at h
 |_::_,[],h=>by simp [tk]at h
 |x::a,y::b,h=>by
  simp only[tk,cA,List.cons.injEq,Sum.inl.injEq]at h;have h1:x=y:=by have:=h.1;lia
  rw[h1,Cg (a:=a) (b:=b) h.2]
noncomputable def fG:List Nat->eG
 | []=>[[]]
 |s::rs=>(fG rs).flatMap λb=>(range s).map λc=>b++[c]
noncomputable def Mw:List Nat->Nat->List Nat
 | [],_=>[]
 |s::rs,n=>Mw rs (n/s)++[n%s]
noncomputable def rE:List Nat->Nat
 | []=>1
 |s::rs=>rE rs*s
def Sw(s:Nat):∀m:Nat,range (m*s)=(range m).flatMap λi=>(range s).map λc=>i*s+c
 |0=>by simp
 |m+1=>by
  rw[Nat.succ_mul,List.range_add,List.range_succ,List.flatMap_append,Sw s m];simp
def Wh:∀B:List Nat,(∀s∈B,1<=s)->fG B=(range (rE B)).map (Mw B)
 | [],_=>by simp [fG,rE,Mw]
 |s::B,h=>by
  have hs:1<=s:=h s (bQ ..);have hr:=Wh B λt y=>h t (bI _ y);show(fG B).flatMap _=(range (rE B*s)).map (Mw (s::B));rw[hr,Sw,List.map_flatMap,List.flatMap_map]
  congr 1
  funext i
  rw[List.map_map];refine eP λc hc=>?_;have D:c<s:=gF.mp hc;show Mw B i++[c]=Mw B ((i*s+c)/s)++[(i*s+c)%s];rw[Nat.mul_comm i s,Nat.mul_add_div #[],Nat.div_eq_of_lt D,Nat.mul_add_mod,Nat.mod_eq_of_lt D,Nat.add_zero]
def jJk(B:List Nat)(h:∀s∈B,1<=s):(fG B).length=rE B:=by rw[Wh B h,aA,gL]
def Ol:∀B:List Nat,(∀s∈B,s<=6)->rE B<=6^B.length
 | [],_=>aP _
 |s::B,h=>by
  show rE B*s<=6^(B.length+1);rw[Nat.pow_succ];exact fB (Ol B λt y=>h t (bI _ y)) (h s (bQ ..))
def jP:∀(B:List Nat)(q:List Nat),q∈fG B->q.length=B.length
 | [],q,h=>by simp [fG]at h;subst h;rfl
 |s::B,q,h=>by
  simp only[fG,iW,cM]at h;obtain⟨b,hb,c,_,rfl⟩:=h;simp [jP B b hb]
def qK:∀B:List Nat,(fG B).Nodup
 | []=>by simp [fG]
 |s::B=>by
  show List.Nodup ((fG B).flatMap _);unfold List.Nodup;rw[List.pairwise_flatMap];refine#[λb _=>?_,(qK B).imp λ{a b} f x hx y hy e=>?_]
  .rw[List.pairwise_map];exact List.nodup_range.imp λ{c d} p e=>p (by simpa using e)
  .obtain⟨c,_,rfl⟩:=cM.mp hx;obtain⟨d,_,rfl⟩:=cM.mp hy;have:=(List.append_inj' e rfl).1;exact f this
structure Sz(ns:List Nat):Prop where
 len:ns.length<=3
 ge:∀n∈ns,1<=n
 le:∀n∈ns,n<=6
def Sz.rev(h:Sz ns):Sz ns.reverse:=#[by rw[cK];exact h.len,λn hn=>h.ge n (List.mem_reverse.mp hn),λn hn=>h.le n (List.mem_reverse.mp hn)]
def Sz.many(h:Sz ns):rE ns<=216:=dE (Ol ns h.le) (dE (fK (by decide) h.len) (by decide))
def Sz.ord(h:Sz ns):(fG ns).length<=216:=by rw[jJk ns h.ge];exact h.many
noncomputable def wo{d:Type}(h:Nat)(q:List d):List d:=q.take h++q.drop (h+1)
def Ps(H:Hp)(xs:List V)(A:eG):Prop:=xs.length=A.length/\∀(i:Nat)(q:List Nat),A[i]?=some q->∃a:Addr,xs[i]?=some (ref a)/\H a=some (.tup (tv q))
def Kb(H Z:Hp):Prop:=∀a xs,H a=some (.tup xs)->Z a=some (.tup xs)
def qL(s:aS H Z):Kb H Z:=λa T h=>s a _ h
def tH{l:Addr}(h:H l=some (.lst xs)):Kb H (upd H l o):=λa M e=>by
 rw[bZ (kT e h (by intro z;cases z))];exact e
def Ps.keep(p:Ps H xs A)(k:Kb H Z):Ps Z xs A:=#[p.1,λi q e=>let⟨a,h1,h2⟩:=p.2 i q e;#[a,h1,k a _ h2]]
def Ps.same(p:Ps H xs A)(s:aS H Z):Ps Z xs A:=p.keep (qL s)
def Ps.nil:Ps H [] []:=#[rfl,λi q e=>by simp at e]
def Ps.app{B:eG}(p:Ps H xs A)(r:Ps H ys B):Ps H (xs++ys) (A++B):=by
 refine#[by rw[bF,bF,p.1,r.1],λi q e=>?_];by_cases hi:i<A.length
 .rw[bV hi]at e;rw[bV (by rw[p.1];exact hi)];exact p.2 i q e
 .rw[bP #[]]at e;rw[bP (by rw[p.1];lia),p.1];exact r.2 _ q e
def Ps.one{q:List Nat}(h:H a=some (.tup (tv q))):Ps H [.ref a] [q]:=by
 refine#[rfl,λi S e=>?_];cases i with
 |zero=>simp at e;subst e;exact#[a,rfl,h]
 |succ i=>simp at e
def Ps.get{H:Hp}{xs:List V}{A:eG}{i:Nat}{x:V}(p:Ps H xs A)(h:xs[i]?=some x):∃q a,A[i]?=some q/\x=.ref a/\H a=some (.tup (tv q)):=by
 have S:i<A.length:=by rw[←p.1];exact(aI.mp h).1
 obtain⟨a,e1,C⟩:=p.2 i A[i] (aC S);rw[h]at e1;exact#[A[i],a,aC S,aU e1,C]
def Ps.at(p:Ps H xs A)(h:i<A.length):∃q a,A[i]?=some q/\xs[i]?=some (.ref a)/\H a=some (.tup (tv q)):=by
 obtain⟨a,e1,C⟩:=p.2 i A[i] (aC h);exact#[A[i],a,aC h,e1,C]
def lW{n:Nat}(h:n<=216):n<=sizeLine:=by rw[sizeLine_eq];lia
def Hy{n:Nat}(h:n<=216):n<sizeLine:=by rw[sizeLine_eq];lia
def Xs{l:List d}{x:d}(h:l[i]?=some x):l.drop i=x::l.drop (i+1):=by
 obtain⟨S,e⟩:=aI.mp h;rw[List.drop_eq_getElem_cons S,e]
def bb6{n:Nat}(h:n<=6):BB 3 (n:Int):=by unfold BB;lia
def Vl:mW xs none (some (h:Int))=xs.take h:=by
 unfold mW;rw[HT.sIx_none,HT.sIx_nat,List.drop_zero,Nat.sub_zero];by_cases e:h<=xs.length
 .rw[gU e]
 .rw[Nat.min_eq_right #[],bY,take_of_length_le #[]]
def Oz:mW xs (some (h:Int)) none=xs.drop h:=by
 unfold mW;rw[HT.sIx_none,HT.sIx_nat];by_cases e:h<=xs.length
 .rw[gU e,take_of_length_le (by rw[hE];lia)]
 .rw[Nat.min_eq_right #[],List.drop_eq_nil_of_le (aP _),List.drop_eq_nil_of_le #[]];simp
def Ai(xs:List V)(lo hi:Option Int):(mW xs lo hi).length<=xs.length:=zO xs lo hi
def Ds{l:List d}{x:d}(h:l.Nodup)(e:l[i]?=some x):x∉l.take i:=by
 intro hm;have h2:(l.take (i+1)).Nodup:=(List.take_sublist (i+1) l).nodup h;have a:l.take (i+1)=l.take i++[x]:=by rw[List.take_add_one,e];rfl
 rw[a,List.nodup_append]at h2;exact h2.2.2 x hm x (List.mem_singleton_self x) rfl
def Kd(H:Hp)(kvs:List (List Key×V))(I:List Nat->List V)(q:List Nat):Prop:=∃l,mJ kvs (tk q)=some (.ref l)/\H l=some (.lst (I q))
def Kd.same{q:List Nat}(c:Kd H kvs I q)(s:aS H Z):Kd Z kvs I q:=let⟨l,h1,h2⟩:=c;#[l,h1,s _ _ h2]
def Sy:∀B:List Nat,(∀s∈B,1<=s)->0<rE B
 | [],_=>Nat.one_pos
 |s::B,h=>Nat.mul_pos (Sy B λt y=>h t (bI _ y)) (h s (bQ ..))
def Ym{k:List Key}{v:V}(h:mJ kvs k=some v):∃p∈kvs,p.1=k/\p.2=v:=by
 unfold mJ at h;obtain⟨p,hp,e⟩:=Option.map_eq_some_iff.mp h;exact#[p,List.mem_of_find?_eq_some hp,by have:=List.find?_some hp;simpa using this,e]
def Mj:∀(B q:List Nat),q∈fG B->∀(i n c:Nat),B.reverse[i]?=some n->q[i]?=some c->c<n
 | [],q,h=>by intro i n c e;simp at e
 |s::B,q,h=>by
  simp only[fG,iW,cM,gF]at h;obtain⟨b,hb,x,hx,rfl⟩:=h;intro i n c e1 C;have S:=jP B b hb;rw[List.reverse_cons]at e1;by_cases hi:i<B.length
  .rw[bV (by rw[cK];exact hi)]at e1;rw[bV (by rw[S];exact hi)]at C;exact Mj B b hb i n c e1 C
  .rw[bP (by rw[cK];lia),cK]at e1;rw[bP (by rw[S];lia),S]at C;cases e3:i-B.length with
   |zero=>rw[e3]at e1 C;simp at e1 C;lia
   |succ k=>rw[e3]at e1;simp at e1
def Kc(H:Hp)(kvs:List (List Key×V))(I:List Nat->List V)(A:eG):Prop:=kvs.length=A.length/\∀(i:Nat)(q:List Nat),A[i]?=some q->∃l,kvs[i]?=some (tk q,ref l)/\H l=some (.lst (I q))
def Vn:∀{kvs:List (List Key×V)},(kvs.map (·.1)).Nodup->∀(i:Nat){k:List Key}{v:V},kvs[i]?=some (k,v)->mJ kvs k=some v
 | [],_,i,k,v,h=>by simp at h
 |p::kvs,nd,i,k,v,h=>by
  rw[cA,List.nodup_cons]at nd;cases i with
  |zero=>
   simp at h;subst h;exact kN rfl
  |succ i=>
   simp at h;have hm:k∈kvs.map (·.1):=cM.mpr #[_,aJ h,rfl];rw[kO (λe=>nd.1 (by rw[e];exact hm))];exact Vn nd.2 i h
def Kc.keys(h:Kc H kvs I A):kvs.map (·.1)=A.map tk:=by
 refine List.ext_getElem? λi=>?_;rw[aX,aX];cases e:A[i]? with
 |none=>
  have:kvs[i]?=none:=by
   rw[List.getElem?_eq_none_iff]at e⊢;rw[h.1];exact e
  rw[this];rfl
 |some q=>
  obtain⟨l,e1,_⟩:=h.2 i q e;rw[e1];rfl
def Kc.cells(h:Kc H kvs I A)(nd:A.Nodup):∀q∈A,Kd H kvs I q:=by
 intro q F;obtain⟨i,hi,e⟩:=List.getElem_of_mem F;obtain⟨l,e1,C⟩:=h.2 i q (by rw[aC hi,e]);refine#[l,Vn ?_ i e1,C];rw[h.keys];unfold List.Nodup;rw[List.pairwise_map];exact nd.imp λf e=>f (Cg e)
def Kc.same(h:Kc H kvs I A)(s:aS H Z):Kc Z kvs I A:=#[h.1,λi q e=>let⟨l,e1,e2⟩:=h.2 i q e;#[l,e1,s _ _ e2]]
def Kc.snoc{b:List Nat}{l:Addr}(h:Kc H kvs I (A.take i))(hb:A[i]?=some b)(S:H l=some (.lst (I b))):Kc H (kvs++[(tk b,.ref l)]) I (A.take (i+1)):=by
 rw[dO hb];refine#[by rw[bF,bF,h.1];rfl,λj q e=>?_];by_cases Z:j<(A.take i).length
 .rw[bV Z]at e;rw[bV (by rw[h.1];exact Z)];exact h.2 j q e
 .rw[bP #[]]at e;rw[bP (by rw[h.1];lia),h.1];cases z:j-(A.take i).length with
  |zero=>rw[z]at e;simp at e;subst e;exact#[l,rfl,S]
  |succ n=>rw[z]at e;simp at e
def Kc.new{b:List Nat}(h:Kc H kvs I (A.take i))(nd:A.Nodup)(hb:A[i]?=some b):mJ kvs (tk b)=none:=by
 cases e:mJ kvs (tk b)with
 |none=>rfl
 |some v=>
  obtain⟨p,hp,e1,_⟩:=Ym e;have hm:tk b∈kvs.map (·.1):=cM.mpr #[p,hp,e1];rw[h.keys]at hm;obtain⟨q,F,eq⟩:=cM.mp hm;rw[Cg eq]at F;exact absurd F (Ds nd hb)
def Kc.off(h:Kc H kvs I A)(k:∀b T,H b=some (.lst T)->Z b=some (.lst T)):Kc Z kvs I A:=#[h.1,λi q e=>let⟨l,e1,e2⟩:=h.2 i q e;#[l,e1,k _ _ e2]]
def Kc.cong{a:List Nat->List V}(h:Kc H kvs I A)(k:∀q∈A,a q=I q):Kc H kvs a A:=#[h.1,λi q e=>let⟨l,e1,e2⟩:=h.2 i q e;#[l,e1,by rw[k q (aJ e)];exact e2]]
def Ou:∀(B q:List Nat),q.length=B.length->(∀(i n c:Nat),B.reverse[i]?=some n->q[i]?=some c->c<n)->q∈fG B
 | [],q,hl,_=>by
  have:q=[]:=List.eq_nil_of_length_eq_zero hl;subst this;simp [fG]
 |s::B,q,hl,h=>by
  rw[cP]at hl;have R:B.length<q.length:=#[];have F:q[B.length]?=some q[B.length]:=aC R;have e:q=q.take B.length++[q[B.length]]:=by
   have:=dO F;rw[take_of_length_le #[]]at this;exact this
  have hb:q.take B.length∈fG B:=by
   refine Ou B _ (by rw[cR];lia) λi n c e1 C=>?_;have hi:i<B.length:=by have:=(aI.mp e1).1;rwa [cK]at this
   refine h i n c ?_ ?_
   .rw[List.reverse_cons,bV (by rw[cK];exact hi)];exact e1
   .rw[List.getElem?_take_of_lt hi]at C;exact C
  have hc:q[B.length]<s:=by
   refine h B.length s _ ?_ F;rw[List.reverse_cons,bP (by rw[cK];lia),cK,kB];rfl
  simp only[fG,iW,cM,gF];exact#[_,hb,_,hc,e.symm]
def jUZ{q:List Nat}{n:Nat}(F:q∈fG ns.reverse)(hn:ns[i]?=some n)(hc:c<n):q.set i c∈fG ns.reverse:=by
 refine Ou _ _ (by rw[fZ];exact jP _ q F) λj l m e1 C=>?_;rw[List.reverse_reverse]at e1;by_cases Z:j=i
 .subst Z;rw[hn]at e1;obtain rfl:=aU e1;have S:j<q.length:=by
   have:=(aI.mp C).1;rwa [fZ]at this
  rw[List.getElem?_set_self S]at C;obtain rfl:=aU C;exact hc
 .rw[List.getElem?_set_ne #[]]at C;exact Mj _ q F j l m (by rw[List.reverse_reverse];exact e1) C
def tv_iv(q:List Nat):tv q=map int (q.map λn:Nat=>(n:Int)):=by
 unfold tv;rw[List.map_map];rfl
noncomputable def gG:eG->eG
 | []=>[[]]
 |c::rs=>(gG rs).flatMap λb=>c.map λx=>b++[x]
def Zb:∀B:List Nat,fG B=gG (B.map range)
 | []=>rfl
 |s::B=>by show(fG B).flatMap _=(gG (B.map range)).flatMap _;rw[Zb B]
def rN:∀A:eG,(gG A).length=rE (A.map List.length)
 | []=>rfl
 |c::rs=>by
  show((gG rs).flatMap _).length=rE (rs.map List.length)*c.length;rw[←rN rs];generalize gG rs=l
  induction l with
  |nil=>simp
  |cons b l ih=>rw[List.flatMap_cons,bF,aA,ih,cP,Nat.succ_mul];lia
def tF:∀(cs:eG)(q:List Nat),q∈gG cs->q.length=cs.length
 | [],q,h=>by simp [gG]at h;subst h;rfl
 |c::rs,q,h=>by
  simp only[gG,iW,cM]at h;obtain⟨b,hb,x,_,rfl⟩:=h;simp [tF rs b hb]
def Dq:∀A:eG,(∀c∈A,c.Nodup)->(gG A).Nodup
 | [],_=>by simp [gG]
 |c::rs,h=>by
  show List.Nodup ((gG rs).flatMap _);unfold List.Nodup;rw[List.pairwise_flatMap];refine#[λb _=>?_,(Dq rs λd hd=>h d (.tail _ hd)).imp λ{a b} f x hx y hy e=>?_]
  .rw[List.pairwise_map];exact(h c (.head _)).imp λ{x y} g e=>g (by simpa using e)
  .obtain⟨_,_,rfl⟩:=cM.mp hx;obtain⟨_,_,rfl⟩:=cM.mp hy;exact f (List.append_inj' e rfl).1
def Om:∀(cs:eG)(q:List Nat),q∈gG cs->∀(i:Nat) c x,cs.reverse[i]?=some c->q[i]?=some x->x∈c
 | [],q,h=>by intro i n c e;simp at e
 |s::rs,q,h=>by
  simp only[gG,iW,cM]at h;obtain⟨b,hb,x,hx,rfl⟩:=h;intro i n c e1 C;have S:=tF rs b hb;rw[List.reverse_cons]at e1;by_cases hi:i<rs.length
  .rw[bV (by rw[cK];exact hi)]at e1;rw[bV (by rw[S];exact hi)]at C;exact Om rs b hb i n c e1 C
  .rw[bP (by rw[cK];lia),cK]at e1;rw[bP (by rw[S];lia),S]at C;cases e3:i-rs.length with
   |zero=>rw[e3]at e1 C;simp at e1 C;rw[←e1,←C];exact hx
   |succ k=>rw[e3]at e1;simp at e1
structure Ch(cs:eG):Prop where
 len:cs.length<=3
 le:∀c∈cs,c.length<=6
def Ch.rev(h:Ch cs):Ch cs.reverse:=#[by rw[cK];exact h.len,λn hn=>h.le n (List.mem_reverse.mp hn)]
def Ch.many(h:Ch cs):(gG cs).length<=6^cs.length:=by
 rw[rN];have:=Ol (cs.map List.length) λs hs=>by obtain⟨c,hc,rfl⟩:=cM.mp hs;exact h.le c hc
 rwa [aA]at this
def Ch.ord(h:Ch cs):(gG cs).length<=216:=dE h.many (dE (fK (by decide) h.len) (by decide))
def Lg(H:Hp)(xs:List V)(cs:eG):Prop:=xs.length=cs.length/\∀(i:Nat) c,cs[i]?=some c->∃a:Addr,xs[i]?=some (.ref a)/\H a=some (.lst (tv c))
def Lg.same(h:Lg H xs cs)(s:aS H Z):Lg Z xs cs:=#[h.1,λi n e=>let⟨c,e1,e2⟩:=h.2 i n e;#[c,e1,s _ _ e2]]
def Lg.nil:Lg H [] []:=#[rfl,λi q e=>by simp at e]
def Lg.app{B:eG}(p:Lg H xs A)(r:Lg H ys B):Lg H (xs++ys) (A++B):=by
 refine#[by rw[bF,bF,p.1,r.1],λi q e=>?_];by_cases hi:i<A.length
 .rw[bV hi]at e;rw[bV (by rw[p.1];exact hi)];exact p.2 i q e
 .rw[bP #[]]at e;rw[bP (by rw[p.1];lia),p.1];exact r.2 _ q e
def Lg.one{q:List Nat}(h:H a=some (.lst (tv q))):Lg H [.ref a] [q]:=by
 refine#[rfl,λi S e=>?_];cases i with
 |zero=>simp at e;subst e;exact#[a,rfl,h]
 |succ i=>simp at e
def Lg.snoc{c:List Nat}(h:Lg H xs cs)(hc:H a=some (.lst (tv c))):Lg H (xs++[.ref a]) (cs++[c]):=h.app (.one hc)
def Lg.get{H:Hp}{xs:List V}{cs:eG}{i:Nat}{x:V}(h:Lg H xs cs)(e:xs[i]?=some x):∃c a,cs[i]?=some c/\x=.ref a/\H a=some (.lst (tv c)):=by
 have S:i<cs.length:=by rw[←h.1];exact(aI.mp e).1
 obtain⟨c,e1,C⟩:=h.2 i cs[i] (aC S);rw[e]at e1;exact#[cs[i],c,aC S,aU e1,C]
def Lg.take(h:Lg H xs cs)(n:Nat):Lg H (xs.take n) (cs.take n):=by
 refine#[by rw[cR,cR,h.1],λi c e=>?_];have hi:i<n:=by have:=(aI.mp e).1;rw[cR]at this;lia
 rw[List.getElem?_take_of_lt hi]at e⊢;exact h.2 i c e
def Lg.drop(h:Lg H xs cs)(n:Nat):Lg H (xs.drop n) (cs.drop n):=by
 refine#[by rw[hE,hE,h.1],λi c e=>?_];rw[List.getElem?_drop]at e⊢;exact h.2 _ c e
def Lg.wo(h:Lg H xs cs)(n:Nat):Lg H (xs.take n++xs.drop (n+1)) (wo n cs):=(h.take n).app (h.drop (n+1))
structure Kp(ns:List Nat)(ks:eG):Prop where
 len:ks.length=ns.length
 ne:∀k∈ks,k≠[]
 nd:∀k∈ks,k.Nodup
 lt:∀(i:Nat) k n,ks[i]?=some k->ns[i]?=some n->k.length<=n/\∀x∈k,x<n
def Nc{l:List d}{x:d}(m:x∈wo h l):x∈l:=by
 rcases cW.mp m with z |z
 .exact mem_of_mem_take z
 .exact List.mem_of_mem_drop z
def Kp.le(K:Kp ns ks){B:Nat}(h:∀n∈ns,n<=B):∀c∈ks,c.length<=B:=λc hc=>by
 obtain⟨i,hi⟩:=cF hc;have S:i<ns.length:=by rw[←K.len];exact(aI.mp hi).1
 exact dE (K.lt i c _ hi (aC S)).1 (h _ (cD S))
def Kp.ch(K:Kp ns ks)(sz:Sz ns):Ch ks:=#[by rw[K.len];exact sz.len,K.le sz.le]
def Ch.wo(h:Ch cs)(n:Nat):Ch (wo n cs):=#[by have:=h.len;unfold My.wo;rw[bF,cR,hE];lia,λc hc=>h.le c (Nc hc)]
noncomputable def jn(b:List Nat)(h c:Nat):List Nat:=b.take h++c::b.drop h
def wo_len{l:List d}(S:h<l.length):(wo h l).length+1=l.length:=by unfold wo;rw[bF,cR,hE];lia
def Ic{k b:List Nat}(K:Kp ns ks)(hb:b∈gG (wo h ks).reverse)(hk:ks[h]?=some k)(hc:c∈k):jn b h c∈fG ns.reverse:=by
 have S:=(aI.mp hk).1;have g:=wo_len S;have bl:=tF _ b hb;rw[cK]at bl;have kl:=K.len;have w:(b.take h).length=h:=by rw[cR];lia
 unfold jn;refine Ou _ _ (by rw[bF,cP,w,hE,cK];lia) λi n x e1 C=>?_;rw[List.reverse_reverse]at e1;have hi:=(aI.mp e1).1;have a:ks[i]?=some ks[i]:=aC #[];refine(K.lt i _ n a e1).2 x ?_;rcases Nat.lt_trichotomy i h with z |z |z
 .rw[bV #[],List.getElem?_take_of_lt z]at C;refine Om _ b hb i _ x ?_ C;rw[List.reverse_reverse];unfold wo;rw[bV (by rw[cR];lia),List.getElem?_take_of_lt z];exact a
 .subst z;rw[bP #[],w,kB]at C;simp at C;rw[hk]at a;rw[←aU a,←C];exact hc
 .rw[bP #[],w,show i-h=(i-h-1)+1 by lia,Lq1,List.getElem?_drop]at C;refine Om _ b hb (i-1) _ x ?_ (by rw[show i-1=h+(i-h-1) by lia];exact C);rw[List.reverse_reverse];unfold wo;rw[bP (by rw[cR];lia),cR,List.getElem?_drop,show h+1+(i-1-min h ks.length)=i by lia];exact a
def Fm(h:A.Nodup):(A.map tk).Nodup:=by
 unfold List.Nodup;rw[List.pairwise_map];exact h.imp λ{a b} f e=>f (Cg e)
def Kp.range(h:∀n∈ns,1<=n):Kp ns (ns.map range):=by
 refine#[aA _,λk hk=>?_,λk hk=>?_,λi k n e1 C=>?_]
 .obtain⟨n,hn,rfl⟩:=cM.mp hk;intro e;have h1:=congrArg List.length e;rw[gL]at h1;have h2:=h n hn;have A:n=0:=h1;lia
 .obtain⟨n,hn,rfl⟩:=cM.mp hk;exact List.nodup_range
 .rw[aX,C]at e1;obtain rfl:=aU e1;exact#[by rw[gL];exact aP _,λx hx=>gF.mp hx]
noncomputable def rdP(H:Hp)(l:Addr):Int×Int:=match H l with
 |some (.tup [.int a,.int b])=>(a,b)
 |_=>(0,0)
def Hz{l:Addr}{a b:Int}(h:H l=some (.tup [.int a,.int b])):rdP H l=(a,b):=by unfold rdP;rw[h]
structure PrA(H:Hp)(ls:List Addr)(qs:eF):Prop where
 eq:qs=ls.map (rdP H)
 all:∀l∈ls,∃a b:Int,H l=some (.tup [.int a,.int b])
section
variable{H H':Hp}{ls ms:List Addr}{qs rs:eF}{l:Addr}{a b:Int}
def PrA.keep(h:PrA H ls qs)(k:Kb H H'):PrA H' ls qs:=#[by rw[h.eq];exact eP λl m=>by obtain⟨a,b,e⟩:=h.all l m;rw[Hz e,Hz (k _ _ e)],λl m=>let⟨a,b,e⟩:=h.all l m;#[a,b,k _ _ e]]
def PrA.same(h:PrA H ls qs)(s:aS H H'):PrA H' ls qs:=h.keep (qL s)
def PrA.off{r:Addr}(h:PrA H ls qs)(hr:H r=some (.lst ys)):PrA (upd H r o) ls qs:=h.keep (tH hr)
def PrA.nil:PrA H [] []:=#[rfl,λ_ h=>nomatch h]
def PrA.app(h:PrA H ls qs)(g:PrA H ms rs):PrA H (ls++ms) (qs++rs):=#[by rw[h.eq,g.eq,aV],λl m=>(cW.mp m).elim (h.all l) (g.all l)]
def PrA.one(e:H l=some (.tup [.int a,.int b])):PrA H [l] [(a,b)]:=#[by rw[cA,Hz e];rfl,λx m=>by rw[cJ.mp m];exact#[a,b,e]]
def PrA.len(h:PrA H ls qs):ls.length=qs.length:=by rw[h.eq,aA]
def PrA.at(h:PrA H ls qs)(e:ls[i]?=some l):∃a b:Int,qs[i]?=some (a,b)/\H l=some (.tup [.int a,.int b]):=by
 obtain⟨a,b,S⟩:=h.all l (aJ e);exact#[a,b,by rw[h.eq,aX,e,Option.map_some,Hz S],S]
def PrA.sub(h:PrA H ls qs)(m:∀l∈ms,l∈ls):PrA H ms (ms.map (rdP H)):=#[rfl,λl x=>h.all l (m l x)]
def PrA.perm(h:PrA H ls qs)(p:ms.Perm ls):PrA H ms (ms.map (rdP H))/\(ms.map (rdP H)).Perm qs:=#[h.sub λl m=>p.mem_iff.mp m,by rw[h.eq];exact p.map _]
def PrA.take(h:PrA H ls qs)(i:Nat):PrA H (ls.take i) (qs.take i):=#[by rw[h.eq,map_take],λl m=>h.all l (mem_of_mem_take m)]
def PrA.drop(h:PrA H ls qs)(i:Nat):PrA H (ls.drop i) (qs.drop i):=#[by rw[h.eq,List.map_drop],λl m=>h.all l (List.mem_of_mem_drop m)]
def yJ{d:Type}:∀(l:List d)(i:Nat),l.eraseIdx i=l.take i++l.drop (i+1)
 | [],i=>by simp
 |a::l,0=>by simp
 |a::l,i+1=>by rw[List.eraseIdx_cons_succ,yJ l i];rfl
def PrA.erase(h:PrA H ls qs)(i:Nat):PrA H (ls.eraseIdx i) (qs.eraseIdx i):=by rw[yJ,yJ];exact(h.take i).app (h.drop (i+1))
def jUj{q:Addr}{c d:Int}(hf:H p=some (.tup [.int a,.int b]))(hg:H q=some (.tup [.int c,.int d])):DEq K H 1 (.ref p) (.ref q) (decide ((a,b)=(c,d))):=by
 by_cases e:p=q
 .subst e;rw[hf]at hg;have:a=c/\b=d:=by simpa using hg
  exact .inl (.inl #[rfl,#[p,rfl],decide_eq_true (by rw[this.1,this.2])])
 .refine .inr #[λz=>e (by injection z),p,q,_,_,rfl,rfl,.inr #[SqT.of hf,SqT.of hg,λj=>if j=0 then a==c else b==d,λj x y h1 h2=>?_,?_]]
  .match j,h1,h2 with
   |0,h1,h2=>simp at h1 h2;subst h1 h2;exact .inr #[_,_,rfl,rfl,rfl]
   |1,h1,h2=>simp at h1 h2;subst h1 h2;exact .inr #[_,_,rfl,rfl,rfl]
   |n+2,h1,_=>simp at h1
  .show decide ((a,b)=(c,d))=(((a==c)&&((b==d)&&true))&&true);rw[Bool.and_true,Bool.and_true];by_cases h1:a=c
   .by_cases h2:b=d
    .subst h1 h2;simp
    .simp [h2]
   .simp [h1]
def jVm:∀{fs w:eF},fs.length=w.length->decide (fs=w)=(range fs.length).all λj=>decide (fs.getD j (0,0)=w.getD j (0,0)):=by
 intro fs w S;by_cases h:fs=w
 .subst h;simp
 .rw[decide_eq_false h];refine(Bool.eq_false_iff.mpr λz=>h ?_).symm;refine List.ext_getElem S λj h1 h2=>?_;have:=of_decide_eq_true (List.all_eq_true.mp z j (gF.mpr h1));rwa [aN,aN,aC h1,aC h2]at this
def PrA.req{x y:Addr}(ha:SqL K H x (ls.map ref))(hb:SqL K H y (ms.map ref))(hp:PrA H ls qs)(F:PrA H ms rs):REq K H (DEq K H 1) (.ref x) (.ref y) (decide (qs=rs)):=by
 refine#[x,y,_,_,rfl,rfl,.inl #[ha,hb,?_]];rw[aA,aA,hp.len,F.len];by_cases S:qs.length=rs.length
 .refine .inr #[S,λj=>decide (qs.getD j (0,0)=rs.getD j (0,0)),λj u v hx hy=>?_,jVm S];obtain⟨p,rfl,h1⟩:=eC hx;obtain⟨q,rfl,h2⟩:=eC hy;obtain⟨a,b,e,hf⟩:=hp.at h1;obtain⟨c,d,C,hg⟩:=F.at h2;show DEq K H 1 _ _ (decide (qs.getD j (0,0)=rs.getD j (0,0)));rw[aN,aN,e,C];exact jUj hf hg
 .exact .inl #[S,decide_eq_false λz=>S (by rw[z])]
end
def prK(ns:List Nat)(i:Nat):eF:=(range i).flatMap λh=>(range (ns.getD h 0)).map λc:Nat=>((h:Int),(c:Int))
noncomputable abbrev prs(ns:List Nat):eF:=prK ns ns.length
def On(ns:List Nat)(i:Nat):prK ns (i+1)=prK ns i++(range (ns.getD i 0)).map λc:Nat=>((i:Int),(c:Int)):=by
 unfold prK;rw[List.range_succ,List.flatMap_append];simp
def Em{a b:Int}:(a,b)∈prs ns↔∃h c n:Nat,a=h/\b=c/\ns[h]?=some n/\c<n:=by
 unfold prs prK;simp only[iW,gF,cM,Prod.mk.injEq];constructor
 .rintro⟨h,H,c,hc,rfl,rfl⟩;rw[aN,aC H]at hc;exact#[h,c,_,rfl,rfl,aC H,hc]
 .rintro⟨h,c,n,rfl,rfl,e,hc⟩;refine#[h,(aI.mp e).1,c,?_,rfl,rfl];rw[aN,e];exact hc
def Mh{ns:List Nat}(h:∀n∈ns,n<=6):∀i,(prK ns i).length<=6*i
 |0=>aP _
 |i+1=>by
  have:=Mh h i;have:ns.getD i 0<=6:=by
   rw[aN];cases e:ns[i]? with
   |none=>exact dW _
   |some n=>exact h n (aJ e)
  rw[On,bF,aA,gL];lia
noncomputable abbrev ky(q:Int×Int):Int:=1000*q.1+q.2
def Sx(e:P.length<=3)(m2:2<=P.length)(hm:∀n∈P,1<=n/\n<=3):(prs P).Pairwise (λx y=>ky x<ky y)/\2<=(prs P).length/\(prs P).length<=9:=by
 match P,e,m2,hm with
 | [a,b],_,_,hm=>
  have h1:=hm a (by simp);have h2:=hm b (by simp);rcases(show a=1∨a=2∨a=3 by lia)with rfl |rfl |rfl<;>rcases(show b=1∨b=2∨b=3 by lia)with rfl |rfl |rfl<;>decide+kernel
 | [a,b,c],_,_,hm=>
  have h1:=hm a (by simp);have h2:=hm b (by simp);have A:=hm c (by simp);rcases(show a=1∨a=2∨a=3 by lia)with rfl |rfl |rfl<;>rcases(show b=1∨b=2∨b=3 by lia)with rfl |rfl |rfl<;>rcases(show c=1∨c=2∨c=3 by lia)with rfl |rfl |rfl<;>decide+kernel
 |_::_::_::_::_,h,_,_=>simp at h
 | [],_,h,_=>simp at h
 | [_],_,h,_=>simp at h
def jYg(hm:∀n∈P,1<=n/\n<=3):∀q∈prs P,-500<q.2/\q.2<500:=λq h=>by
 obtain⟨x,c,n,_,e,hn,hc⟩:=Em.mp h;have:=hm n (aJ hn);rw[e];lia
def jYf{A:eF}(p:A.Perm (prs P))(s:A.Pairwise (λx y=>ky x<=ky y))(st:(prs P).Pairwise (λx y=>ky x<ky y))(lo:∀q∈prs P,-500<q.2/\q.2<500):A=prs P:=by
 refine List.Perm.eq_of_pairwise (le:=λx y=>ky x<=ky y) (λx y hx hy a b=>?_) s (st.imp λl=>bT l) p;have h1:=lo x (p.mem_iff.mp hx);have h2:=lo y hy;obtain⟨M,H⟩:=x;obtain⟨B,v⟩:=y;have e1:M=B:=by simp only[ky]at a b;simp only at h1 h2;lia
 have C:H=v:=by simp only[ky]at a b;lia
 rw[e1,C]
def vJ{d:Type}:∀{l:List d}{i:Nat}{x:d},l[i]?=some x->(x::l.eraseIdx i).Perm l
 | [],i,x,e=>by simp at e
 |a::l,0,x,e=>by simp at e;subst e;exact .refl _
 |a::l,i+1,x,e=>by
  rw[List.eraseIdx_cons_succ];exact(List.Perm.swap _ _ _).trans ((vJ (l:=l) (i:=i) (by simpa using e)).cons a)
def seqI{n:Nat}(h:k<n):seqIndex? (k:Int) n=some k:=(Wo (by unfold ixN;rw[aK #[],aK #[],bW])).1
def jX3(ls:List Addr)(k:Nat):(map ref ls).eraseIdx k=map ref (ls.eraseIdx k):=by rw[yJ,yJ,aV,map_take,List.map_drop]
def ixI{n:Nat}(h:k<n):ixN n (k:Int)=some k:=by unfold ixN;rw[aK #[],aK #[],bW]
def Lj:LS:=["_law_script","_law_k"]
def eI(K:aR):Sp:=λvs H Q _=>∃a ns k,vs=[.ref a,.int k]/\SqL K H a (map int ns)/\0<=k/\Q (.int (ns.getD k.toNat 0)) H
def yZ(K:aR):TS:=(cB (gA (dD (tOp kM (aE 1) (tCB (iD K) (aH (aE 0) bE)))) (cX (tOp (gB K) (aE 0) (aE 1))) eL) (cX (tC (.int 0))))
def Xg{K}:RdS K eI yZ Lj:=by
 rintro j H Q E ⟨a,ns,k,rfl,v,hk,q⟩;rw[show start Lj [ref a,int k]=[some (.ref a),some (.int k)]from rfl];(dsimp?[yZ]);refine#[_,.inl v,mV (λS=>?_) (λS=>?_)]
 .rw[aA]at S;exact#[_,v,_,Eu hk S,q]
 .rw[aA]at S;rw[aN,bU #[]]at q;exact q
def Um:LS:=["_law_script","_law_hands"]
def Dg(K:aR):Sp:=λvs H Q _=>∃a ns,vs=[.ref a]/\SqL K H a (map int ns)/\∀l P Z,aS H Z->Z l=some (.lst (tv P))->P.length<=3->2<=P.length->(∀n∈P,1<=n/\n<=3)->Q (.ref l) Z
def vY(K:aR):TE:=(tOp hV (tC (.int 1)) (tOp gR (cC (eI K) [] E0 (aH (aE 1) (aH (tOp hV (tC (.int 1)) (aE 0)) bE))) (tOp jQ (tC (.int 5)) (aE 2))))
def Ak(K:aR):TS:=(cB (cN (tOp hV (tC (.int 2)) (tOp gR (cC (eI K) [] E0 (aH (aE 0) (aH (tC (.int 0)) bE))) (tC (.int 2)))) (aY 1)) (cX (dH (iJ (aH (aE 1) bE)) [0,1] (vY K))))
def jZ2{K}:RdS K Dg Ak Um:=by
 rintro j H Q E ⟨a,ns,rfl,v,q⟩;rw[show start Um [ref a]=[some (.ref a),none]from rfl];(dsimp?[Ak,dH,iJ];try simp_arith[Ak,eI,dH,iJ])
 refine#[ns,v,by decide,by decide,#[],#[],?_];have hm:∃m:Nat,2+ns.getD (Int.toNat 0) 0%2=(m:Int)/\2<=m/\m<=3:=#[(2+ns.getD (Int.toNat 0) 0%2).toNat,#[],#[],#[]];obtain⟨m,B,m2,e⟩:=hm;rw[B,bW];refine kH (lo:=0) (n:=m) (W:=WEq H λi J=>∃P:List Nat,J=tv P/\P.length=i/\∀n∈P,1<=n/\n<=3) (by rw[sizeLine_eq];lia) #[rfl,[],rfl,rfl,by simp] ?_ ?_
 .rintro i M Y hi _ ⟨rfl,P,rfl,A,m2⟩;(dsimp?[vY,dA,cA,cY,bJ];try simp_arith[vY,eI,dA,cA,cY,bJ,eS])
  refine#[ns,v,#[],#[],rfl,P++[(1+ns.getD (1+(i:Int)).toNat 0%(5-(m:Int))).toNat],?_,by rw[bF,A];rfl,λn hn=>?_]
  .have:=Int.emod_nonneg (ns.getD (1+(i:Int)).toNat 0) (show(5-(m:Int))≠0 by lia);unfold tv;rw[aV,cA,cY,Int.toNat_of_nonneg #[]]
  .rcases cW.mp hn with hn |hn
   .exact m2 n hn
   .have a:=Int.emod_nonneg (ns.getD (1+(i:Int)).toNat 0) (show(5-(m:Int))≠0 by lia);have b:=Int.emod_lt_of_pos (ns.getD (1+(i:Int)).toNat 0) (show 0<(5-(m:Int)) by lia);rw[cJ.mp hn];lia
 .rintro M Y _ ⟨rfl,P,rfl,A,m2⟩ l S;exact q l P _ (aS.upd S) aL #[] #[] m2
def Uw:LS:=["_law_script","_law_k","_law_cell","_law_j"]
def Dl(K:aR):Sp:=λvs H Q _=>∃a ns,∃k:Nat,vs=[.ref a,.int k]/\SqL K H a (map int ns)/\∀z:Int,0<=z->z<2147483587->Q (.int z) H
def wO(K:aR):TS:=(cX (tOp gR (aE 2) (tC (.int 2147483587))))
def Hk(K:aR):TS:=(cN (tOp jH (aE 2) (tC (.int 2147483587))) (aY 2))
def wN(K:aR):TS:=(cB (gP (iJ (aH (tOp gR (aE 1) (tC (.int 8))) bE)) (aY 3) (Hk K)) (wO K))
def Iy(K:aR):TS:=(cB (cN (tC (.int 0)) (aY 2)) (cB (gA (dD (tOp kM (tOp hV (tC (.int 1)) (tOp gR (tOp Bd (aE 1) (tC (.int 8))) (tC (.int 62)))) (tCB (iD K) (aH (aE 0) bE)))) (cN (tOp jH (tOp (gB K) (aE 0) (tOp hV (tC (.int 1)) (tOp gR (tOp Bd (aE 1) (tC (.int 8))) (tC (.int 62))))) (tOp Bc (tC (.int 10)) (tC (.int 64)))) (aY 2)) eL) (wN K)))
def jZ9{K}:RdS K Dl Iy Uw:=by
 rintro j H Q E ⟨a,ns,k,rfl,v,q⟩;rw[show start Uw [ref a,int k]=[some (.ref a),some (.int k),none,none]from rfl];have f:∀c:Int,wN K (eQ Q) [some (.ref a),some (.int k),some (.int c),none] H:=by
  intro c;(dsimp?[wN,gP,iJ]);have x:=Int.emod_nonneg (k:Int) (show(8:Int)≠0 by decide);have G:=Int.emod_lt_of_pos (k:Int) (show(0:Int)<8 by decide);refine#[by decide,#[],#[],tI (lo:=0) (g:=aY 3) (D:={ nx:=wO K (eQ Q),rt:=Q }) (SEq H λ_ O=>∃c o,O=[some (.ref a),some (.int k),some (.int c),o]) ?_ ?_ ?_]
  .exact#[rfl,c,none,rfl]
  .rintro i O Y _ ⟨rfl,c,o,rfl⟩;(dsimp?[Hk]);exact#[#[by decide,BB.mono (m:=40) (by unfold BB;decide) (by decide)],rfl,_,_,rfl]
  .rintro O Y ⟨rfl,c,o,rfl⟩;(dsimp?[wO]);exact#[by decide,q _ (Int.emod_nonneg _ (by decide)) (Int.emod_lt_of_pos _ (by decide))]
 (dsimp?[Iy]);refine#[#[by decide,by decide],by decide,_,.inl v,mV (λS=>?_) (λ_=>f 0)];rw[aA]at S;have x:=Int.emod_nonneg ((k:Int)/8) (show(62:Int)≠0 by decide);exact#[#[by decide,by decide],by decide,_,v,_,Eu #[] S,#[by decide,by decide,by decide],_,rfl,#[by decide,BB.mono (m:=220) (by unfold BB;decide) (by decide)],f _]
def Uu:LS:=["_law_script","_law_k","_law_cell","_law_number"]
def vE(K:aR):Sp:=λvs H Q _=>∃a ns,∃k:Nat,vs=[.ref a,.int k]/\SqL K H a (map int ns)/\k<=1000/\∀z:Int,0<=z->z<2147483587->Q (.int z) H
def wF(K:aR):TS:=(cB (cN (tOp hV (tOp gR (aE 2) (tOp Bc (tC (.int 10)) (tC (.int 18)))) (tOp fQ (tC (.int 48271)) (tOp hV (aE 1) (tC (.int 1))))) (aY 3)) (cB (cN (tOp hV (tOp gR (tOp fQ (aE 3) (aE 3)) (tC (.int 2147483629))) (tOp fQ (tC (.int 69621)) (aE 1))) (aY 3)) (cX (tOp gR (tOp fQ (aE 3) (aE 3)) (tC (.int 2147483587))))))
def wE(K:aR):TS:=(cB (gA (dD (tOp Aw (tCB (iD K) (aH (aE 0) bE)) (tC (.int 0)))) (cN (tOp (gB K) (aE 0) (tOp gR (aE 1) (tCB cMin (aH (tC (.int 63)) (aH (tCB (iD K) (aH (aE 0) bE)) bE))))) (aY 2)) eL) (wF K))
def wD(K:aR):TS:=(cB (gA (dD (tOp rEq (tOp gR (tOp jH (aE 2) (tOp Bc (tC (.int 10)) (tC (.int 6)))) (tC (.int 2))) (tC (.int 1)))) (cX (cC (Dl K) [] E0 (aH (aE 0) (aH (aE 1) bE)))) eL) (wE K))
def Ix(K:aR):TS:=(cB (cN (tC (.int 0)) (aY 2)) (cB (gA (dD (tOp Aw (tCB (iD K) (aH (aE 0) bE)) (tC (.int 0)))) (cN (tOp (gB K) (aE 0) (tC (.int 0))) (aY 2)) eL) (wD K)))
def jZ7{K}:RdS K vE Ix Uu:=by
 rintro j H Q E ⟨a,ns,k,rfl,v,hk,q⟩;rw[show start Uu [ref a,int k]=[some (.ref a),some (.int k),none,none]from rfl];have Z:∀c:Int,wF K (eQ Q) [some (.ref a),some (.int k),some (.int c),none] H:=by
  intro c;(dsimp?[wF]);have x:=Int.emod_nonneg c (show(10^Int.toNat 18:Int)≠0 by decide);have G:=Int.emod_lt_of_pos c (show(0:Int)<10^Int.toNat 18 by decide);have b:(10^Int.toNat 18:Int)=1000000000000000000:=by decide
  have t:BB 64 (c%10^Int.toNat 18+48271*((k:Int)+1)):=by
   rw[b]at x G⊢;unfold BB;have:(2:Nat)^64=18446744073709551616:=by decide
   rw[this];lia
  refine#[#[by decide,by decide,by decide],by decide,.l (by unfold BB;decide),.l t,by decide,.l (by unfold BB;decide),?_];have r:=Int.emod_nonneg ((c%10^Int.toNat 18+48271*((k:Int)+1))*(c%10^Int.toNat 18+48271*((k:Int)+1))) (show(2147483629:Int)≠0 by decide);have z:=Int.emod_lt_of_pos ((c%10^Int.toNat 18+48271*((k:Int)+1))*(c%10^Int.toNat 18+48271*((k:Int)+1))) (show(0:Int)<2147483629 by decide);generalize (c%10^Int.toNat 18+48271*((k:Int)+1))*(c%10^Int.toNat 18+48271*((k:Int)+1))%2147483629=y at r z;refine#[.l ?_,by decide,q _ (Int.emod_nonneg _ (by decide)) (Int.emod_lt_of_pos _ (by decide))];unfold BB;have:(2:Nat)^64=18446744073709551616:=by decide
  rw[this];lia
 have Y:∀c:Int,wE K (eQ Q) [some (.ref a),some (.int k),some (.int c),none] H:=by
  intro c;(dsimp?[wE,cMin]);refine#[_,.inl v,mV (λD=>?_) (λ_=>Z c)];rw[aA]at D;refine#[_,.inl v,?_];rw[aA];have hm:0<(if(ns.length:Int)<63 then(ns.length:Int)else 63)/\(if(ns.length:Int)<63 then(ns.length:Int)else 63)<=ns.length:=by split<;>lia
  generalize (if(ns.length:Int)<63 then(ns.length:Int)else 63)=m at hm;have F:=Int.emod_nonneg (k:Int) (show m≠0 by lia);have T:=Int.emod_lt_of_pos (k:Int) hm.1;exact#[hm.1,_,v,_,Eu F #[],Z _]
 have f:∀c:Int,wD K (eQ Q) [some (.ref a),some (.int k),some (.int c),none] H:=by
  intro c;(dsimp?[wD]);exact#[#[by decide,by decide,by decide],#[by decide,BB.mono (m:=40) (by unfold BB;decide) (by decide)],by decide,mV (λ_=>#[_,_,k,rfl,v,q]) (λ_=>Y c)]
 (dsimp?[Ix]);refine#[_,.inl v,mV (λD=>?_) (λ_=>f 0)];rw[aA]at D;exact#[_,v,_,Eu (by decide) D,f _]
def Zz:LS:=["_law_script","_law_place_here","_law_way","_law_cell","_law_number","_law_far"]
def Ji(K:aR):Sp:=λvs H Q _=>∃a ns,∃k w:Nat,vs=[.ref a,.int k,.int w]/\SqL K H a (map int ns)/\k<=1000/\w<16/\∀(u:Int) H',aS H H'->u.natAbs<10^60->Q (.int u) H'
def Ku(K:aR):TS:=(cB (cN (tOp (gB K) (nO (aH (tOp Bc (tC (.int 10)) (tC (.int 18))) (aH (tOp Bc (tC (.int 10)) (tC (.int 60))) bE))) (tOp Bd (aE 2) (tC (.int 15)))) (aY 5)) (cX (tOp jQ (tOp gR (tOp hV (aE 3) (aE 4)) (tOp jQ (tOp fQ (tC (.int 2)) (aE 5)) (tC (.int 1)))) (tOp jQ (aE 5) (tC (.int 1))))))
def Kt(K:aR):TS:=(cB (gA (dD (tOp kM (aE 2) (tC (.int 11)))) (cX (tOp gR (aE 4) (tC (.int 3)))) eL) (Ku K))
def Ew(K:aR):TS:=(cB (cN (cC (eI K) [] E0 (aH (aE 0) (aH (tOp gR (aE 1) (tCB cMax (aH (tC (.int 1)) (aH (tCB cMin (aH (tC (.int 63)) (aH (tCB (iD K) (aH (aE 0) bE)) bE))) bE)))) bE))) (aY 3)) (cB (cN (cC (vE K) [] E0 (aH (aE 0) (aH (aE 1) bE))) (aY 4)) (cB (gA (dD (tOp kM (aE 2) (tC (.int 6)))) (cX (tOp jQ (tOp gR (aE 4) (tC (.int 61))) (tC (.int 30)))) eL) (Kt K))))
def jWy{K}:RdS K Ji Ew Zz:=by
 rintro j H Q E ⟨a,ns,k,w,rfl,v,hk,hw,q⟩;rw[show start Zz [ref a,int k,int w]=[some (.ref a),some (.int k),some (.int w),none,none,none]from rfl];(dsimp?[Ew,cMax,cMin];try simp_arith[Ew,cMax,cMin,eI,vE])
 refine#[_,.inl v,?_];rw[aA];have hm:0<(if(if(ns.length:Int)<63 then(ns.length:Int)else 63)>1 then(if(ns.length:Int)<63 then(ns.length:Int)else 63)else 1):=by
  split
  .omega
  .decide
 generalize (if(if(ns.length:Int)<63 then(ns.length:Int)else 63)>1 then(if(ns.length:Int)<63 then(ns.length:Int)else 63)else 1)=D at hm;have b:(100:Nat)<10^60:=by decide
 refine#[hm,_,v,Int.emod_nonneg _ #[],_,k,rfl,v,hk,λz g F=>mV (λ_=>#[by decide,q _ _ (aS.refl _) ?_]) (λt=>?_)]
 .have h1:=Int.emod_nonneg z (show(61:Int)≠0 by decide);have h2:=Int.emod_lt_of_pos z (show(0:Int)<61 by decide);lia
 generalize ns.getD ((k:Int)%D).toNat 0=c;(dsimp?[Kt]);refine mV (λ_=>#[by decide,q _ _ (aS.refl _) ?_]) (λe=>?_)
 .have h1:=Int.emod_nonneg z (show(3:Int)≠0 by decide);have h2:=Int.emod_lt_of_pos z (show(0:Int)<3 by decide);lia
 (dsimp?[Ku]);obtain⟨M,f,d,i⟩:∃M:Int,atI [int (10^Int.toNat 18),int (10^Int.toNat 60)] ((w:Int)/15)=some (.int M)/\0<M/\M<=10^60:=by
  by_cases h:w=15
  .rw[h];exact#[_,lA,by decide,by decide]
  .rw[show(w:Int)/15=0 by lia];exact#[_,lX,by decide,by decide]
 refine#[#[by decide,by decide,by decide],#[by decide,by decide,by decide],sz2,λp hp=>#[#[by decide,by decide],_,SqL.of aL,_,f,_,rfl,.l (by show(2:Int).natAbs<2^64;decide),#[],_,rfl,q _ _ (aS.upd hp) ?_]];have h1:=Int.emod_nonneg (c+z) (show 2*M-1≠0 by lia);have h2:=Int.emod_lt_of_pos (c+z) (show(0:Int)<2*M-1 by lia);lia
def Uq:LS:=["_law_play_here","_law_sizes_here","_law_flips","_law_k"]
def Dh(K:aR):Sp:=λvs H Q _=>∃p s P q,∃f:Int,∃k:Nat,vs=[.ref p,.ref s,.int f,.int k]/\H p=some (.tup (tv q))/\SqL K H s (tv P)/\k<3/\k<q.length/\k<P.length/\(∀n∈P,n<=3)/\(∀c∈q,c<3)/\∀(v:Int) H',aS H H'->-3<=v->v<=3->Q (.int v) H'
def Iu(K:aR):TS:=(cB (gA (dD (tOp rEq (tOp gR (tOp jH (aE 2) (tOp (gB K) (nO (aH (tC (.int 1)) (aH (tC (.int 2)) (aH (tC (.int 4)) bE)))) (aE 3))) (tC (.int 2))) (tC (.int 1)))) (cX (tOp jQ (tOp jQ (tOp (gB K) (aE 1) (aE 3)) (tC (.int 1))) (tOp (eY K) (aE 0) (aE 3)))) eL) (cX (tOp (eY K) (aE 0) (aE 3))))
def jZ4{K}:RdS K Dh Iu Uq:=by
 rintro j H Q E ⟨p,s,P,q,f,k,rfl,hp,hs,i,m,T,hm,F,go⟩;rw[show start Uq [ref p,ref s,int f,int k]=[some (.ref p),some (.ref s),some (.int f),some (.int k)]from rfl];have e:∃w:Int,0<w/\w<=4/\atI [int 1,int 2,int 4] (k:Int)=some (.int w):=by
  have h1:k=0∨k=1∨k=2:=#[];rcases h1 with rfl |rfl |rfl
  .exact#[1,by decide,by decide,lX]
  .exact#[2,by decide,by decide,lA]
  .exact#[4,by decide,by decide,atI2]
 obtain⟨w,r,g,e⟩:=e;have eq:=aC m;have B:=aC T;have y:=F _ (cD m);have a:=hm _ (cD T);generalize q[k]=c at eq y;generalize P[k]=n at B a;have b:atI (tv q) (k:Int)=some (.int c):=fD (by unfold tv;rw[aX,eq];rfl);have d:atI (tv P) (k:Int)=some (.int n):=fD (by unfold tv;rw[aX,B];rfl);(dsimp?[Iu]);refine#[sz3,λl S=>?_];have M:=aS.upd (o:=lst [int 1,int 2,int 4]) S;refine#[_,SqL.of aL,_,e,_,rfl,#[#[],by unfold BB;have:=Nat.pow_lt_pow_right (show 1<2 by decide) (show 3<9000 by decide);lia],by decide,mV (λ_=>?_) λ_=>?_]
 .exact#[_,M.seq hs,_,d,_,rfl,_,SqT.of (M _ _ hp),_,b,_,rfl,go _ _ M #[] #[]]
 .exact#[_,SqT.of (M _ _ hp),_,b,go _ _ M #[] #[]]
def Li:LS:=["_law_play_here","_law_sizes_here","_law_flips","_law_hand","_law_spots","_law_off"]
def wT(K:aR):Sp:=λvs H Q _=>∃p s P q,∃f:Int,∃k:Nat,vs=[.ref p,.ref s,.int f,.int k]/\H p=some (.tup (tv q))/\SqL K H s (tv P)/\k<P.length/\P.length<=3/\q.length=P.length/\(∀n∈P,n<=3)/\(∀c∈q,c<3)/\∀(v:Int) H',aS H H'->-100000<=v->v<=100000->Q (.int v) H'
def qP(K:aR):TE:=(cC (Dh K) [] E0 (aH (aE 1) (aH (aE 2) (aH (aE 3) (aH (aE 0) bE)))))
def yY(K:aR):TS:=(cB (cN (dH (iJ (aH (tCB (iD K) (aH (aE 1) bE)) bE)) [0,1,2] (qP K)) (aY 4)) (cB (cN (tOp jQ (tOp (gB K) (aE 4) (aE 3)) (tOp jH (tOp jQ (tCB (cSum K) (aH (aE 4) bE)) (tOp (gB K) (aE 4) (aE 3))) (tCB (iD K) (aH (aE 1) bE)))) (aY 5)) (cX (tOp jQ (tC (.int 0)) (tOp fQ (tOp fQ (tC (.int 100)) (aE 5)) (aE 5))))))
def Xf{K}:RdS K wT yY Li:=by
 rintro j H Q E ⟨p,s,P,q,f,k,rfl,hp,hs,T,m3,ql,hm,F,go⟩;rw[show start Li [ref p,ref s,int f,int k]=[some (.ref p),some (.ref s),some (.int f),some (.int k),none,none]from rfl];(dsimp?[yY,dH,iJ,cSum]);have U:(tv P).length=P.length:=aA ..;refine#[_,.inl hs,#[],#[],?_];rw[U,bW];refine kH (lo:=0) (n:=P.length) (λi J Y=>aS H Y/\∃d:List Int,J=map int d/\d.length=i/\∀w∈d,-3<=w/\w<=3) (by rw[sizeLine_eq];lia) #[aS.refl _,[],rfl,rfl,by simp] ?_ ?_
 .rintro i J Y hi _ ⟨N,d,rfl,g,wb⟩;(dsimp?[qP,dA,cA,cY,bJ];try simp_arith[qP,dA,cA,cY,bJ,eS])
  refine#[p,s,P,q,f,i,rfl,N _ _ hp,N.seq hs,#[],#[],hi,hm,F,λv u X r z=>#[N.trans X,d++[v],by rw[aV];rfl,by rw[bF,g];rfl,λw hw=>?_]];rcases cW.mp hw with hw |hw
  .exact wb w hw
  .rw[cJ.mp hw];exact#[r,z]
 .rintro J Y _ ⟨N,d,rfl,g,wb⟩ l S;have X:=N.trans (aS.upd (o:=lst (map int d)) S);have R:∀{d:List Int},(∀w∈d,-3<=w/\w<=3)->-(3*(d.length:Int))<=d.sum/\d.sum<=3*d.length:=by
   intro d
   induction d with
   |nil=>intro _;exact#[Int.le_refl _,Int.le_refl _]
   |cons a d ih=>
    intro h;have h1:=h a (bQ ..);have h2:=ih λw hw=>h w (bI _ hw);rw[List.sum_cons,cP];lia
  have x:=R wb;have M:=aC (l:=d) (i:=k) #[];have bk:=wb _ (aJ M);have m:atI (map int d) (k:Int)=some (.int (d[k]'#[])):=fD (by rw[aX,M];rfl);generalize d[k]'#[]=c at M bk m;have y:SqL K (upd Y l (.lst (map int d))) l (map int d):=SqL.of aL;have g:d.length=P.length:=g;have B:0<P.length:=#[];generalize G:d.sum-c=A;have C:-12<=A/\A<=12:=#[];have fd:=Zr (a:=A) (b:=(P.length:Int)) #[];refine#[_,y,_,m,d,y,_,y,_,m,_,rfl,_,.inl (X.seq hs),?_];rw[U,G];generalize A.fdiv (P.length:Int)=D at fd;have t:BB 10 (c-D):=by unfold BB;lia
  have I:BB 10 (100:Int):=by unfold BB;decide
  have Z:-20<=c-D/\c-D<=20:=#[];refine#[#[#[],by unfold BB;have:=Nat.pow_lt_pow_right (show 1<2 by decide) (show 3<9000 by decide);lia],_,rfl,.b I t,.b (I.mul t) t,go _ _ X ?_ ?_]
  .generalize c-D=O at Z;have e:O*O=((O.natAbs*O.natAbs:Nat):Int):=Int.natAbs_mul_self.symm;have h1:O.natAbs*O.natAbs<=20*20:=fB #[] #[];rw[gO,e];lia
  .generalize c-D=O at Z;have e:O*O=((O.natAbs*O.natAbs:Nat):Int):=Int.natAbs_mul_self.symm;rw[gO,e];lia
def Uj:LS:=["_law_script","_law_order_here","_law_sizes_here","_law_way","_law_chained_here","_law_flips","_law_found","_law_k","_law_row","_law_hand","_law_unit_here"]
structure UD(H0 H:Hp)(d:Addr)(kv:List (List Key×V))(qs:eG)(ad:List Nat->Addr)(un:List Nat->List Int)(n b:Nat):Prop where
 hd:H d=some (.dT kv)
 d0:H0 d=none
 ks:kv.map (·.1)=qs.map tk
 at_:∀q∈qs,mJ kv (tk q)=some (.ref (ad q))/\H (ad q)=some (.lst (map int (un q)))/\H0 (ad q)=none/\(un q).length=n/\∀u∈un q,BB b u
 inj:∀q∈qs,∀r∈qs,ad q=ad r->q=r
def UD.same{e:Hp}{d:Addr}{kv:List (List Key×V)}{k:List Nat->Addr}{un:List Nat->List Int}{n b:Nat}(U:UD e H d kv A k un n b)(s:aS H Z):UD e Z d kv A k un n b:=#[s _ _ U.hd,U.d0,U.ks,λq F=>let⟨a,b,c⟩:=U.at_ q F;#[a,s _ _ b,c],U.inj]
def UD.put{d l:Addr}{kv:List (List Key×V)}{k:List Nat->Addr}{un:List Nat->List Int}{n b:Nat}{q:List Nat}{us:List Int}(U:UD F H d kv (A.take i) k un n b)(nd:A.Nodup)(eq:A[i]?=some q)(S:H l=some (.lst (map int us)))(o:F l=none)(f:∀r∈A.take i,k r≠l)(y:us.length=n)(M:∀u∈us,BB b u):
  UD F (upd H d (.dT (sV kv (tk q) (.ref l)))) d (kv++[(tk q,.ref l)]) (A.take (i+1)) (λr=>if r=q then l else k r) (λr=>if r=q then us else un r) n b:=by
 have j:=Ds nd eq;have D:mJ kv (tk q)=none:=by
  cases e:mJ kv (tk q)with
  |none=>rfl
  |some v=>
   obtain⟨w,hw,P,_⟩:=Ym e;have m:tk q∈kv.map (·.1):=cM.mpr #[w,hw,P];rw[U.ks]at m;obtain⟨r,hr,p⟩:=cM.mp m;exact absurd (by rw[Cg p]at hr;exact hr) j
 have hd:=U.hd;have off:∀c T,H c=some (.lst T)->(upd H d (.dT (sV kv (tk q) (.ref l)))) c=some (.lst T):=λc T h=>by rw[bZ λz=>by rw[z,hd]at h;cases h];exact h
 rw[dO eq];refine#[by rw[aL,yG _ D],U.d0,by rw[aV,U.ks,aV];rfl,λr hr=>?_,λr hr t s e=>?_]
 .rw[←yG (.ref l) D,Nv];show(if tk r=tk q then _ else _)=some (ref (if r=q then l else k r))/\(upd H d (.dT (sV kv (tk q) (.ref l)))) (if r=q then l else k r)=some (.lst (map int (if r=q then us else un r)))/\F (if r=q then l else k r)=none/\(if r=q then us else un r).length=n/\∀u∈(if r=q then us else un r),BB b u;by_cases e:r=q
  .subst e;rw[aK rfl,aK rfl,aK rfl];exact#[rfl,off _ _ S,o,y,M]
  .rw[aF e,aF e,aF λz=>e (Cg z)];rcases cW.mp hr with hr |hr
   .obtain⟨a,b,c⟩:=U.at_ r hr;exact#[a,off _ _ b,c]
   .exact absurd (cJ.mp hr) e
 .have e:(if r=q then l else k r)=(if t=q then l else k t):=e;have g:∀{x},x∈A.take i++[q]->x≠q->x∈A.take i:=λhx ne=>(cW.mp hx).resolve_right λz=>ne (cJ.mp z);by_cases e1:r=q
  .by_cases C:t=q
   .rw[e1,C]
   .rw[aK e1,aF C]at e;exact absurd e.symm (f t (g s C))
  .by_cases C:t=q
   .rw[aF e1,aK C]at e;exact absurd e (f r (g hr e1))
   .rw[aF e1,aF C]at e;exact U.inj r (g hr e1) t (g s C) e
def Dd(K:aR):Sp:=λvs H Q _=>∃sc ns o s xs P,vs=[.ref sc,.ref o,.ref s]/\SqL K H sc (map int ns)/\H o=some (.lst xs)/\Ps H xs (fG P.reverse)/\SqL K H s (tv P)/\P.length<=3/\(∀n∈P,1<=n/\n<=3)/\∀d kv k un Z,aS H Z->UD H Z d kv (fG P.reverse) k un P.length 200->Q (.ref d) Z
def nX(F:Hp)(pre:St)(d:Addr)(A:eG)(n:Nat):NS:=λi O Y=>∃kv k un R U r T,O=pre++[some (.ref d),R,U,r,T]/\aS F Y/\UD F Y d kv (A.take i) k un n 200
def zN(F:Hp)(pre:St)(l:Addr):NS:=λj O Y=>∃us r T,O=pre++[some (.ref l),r,T]/\aS F Y/\Y l=some (.lst (map int us))/\us.length=j/\∀u∈us,BB 200 u
def pW(K:aR):TS:=(Ee (aE 6) (tOp (gB K) (aE 1) (aE 7)) (aE 8))
def vR(K:aR):TS:=(iS (tBM K "list" kU (aE 8) (aH (aE 10) bE)))
def Gg(K:aR):TS:=(cB (gA (tB (aE 4)) (cN (tOp hV (tOp jQ (tOp gR (aE 10) (tC (.int 7))) (tC (.int 3))) (cC (wT K) [] E0 (aH (tOp (gB K) (aE 1) (aE 7)) (aH (aE 2) (aH (aE 5) (aH (aE 9) bE)))))) (aY 10)) eL) (vR K))
def vT(K:aR):TS:=(cB (cN (cC (Ji K) [] E0 (aH (aE 0) (aH (tOp hV (tOp fQ (aE 7) (tCB (iD K) (aH (aE 2) bE))) (aE 9)) (aH (aE 3) bE)))) (aY 10)) (Gg K))
def Gf(K:aR):TS:=(cB (gP (iJ (aH (tCB (iD K) (aH (aE 2) bE)) bE)) (aY 9) (vT K)) (pW K))
def vS(K:aR):TS:=(cB (cN (nO bE) (aY 8)) (Gf K))
def Ge(K:aR):TS:=(cB (gP (iJ (aH (tCB (iD K) (aH (aE 1) bE)) bE)) (aY 7) (vS K)) (cX (aE 6)))
def Gc(K:aR):TS:=(cB (cN uR (aY 6)) (Ge K))
def vQ(K:aR):TS:=(cB (cN (tOp gR (cC (eI K) [] E0 (aH (aE 0) (aH (tC (.int 6)) bE))) (tC (.int 8))) (aY 5)) (Gc K))
def vP(K:aR):TS:=(cB (cN (tOp rEq (tOp gR (cC (eI K) [] E0 (aH (aE 0) (aH (tC (.int 5)) bE))) (tC (.int 3))) (tC (.int 1))) (aY 4)) (vQ K))
def Aj(K:aR):TS:=(cB (cN (tOp gR (cC (eI K) [] E0 (aH (aE 0) (aH (tC (.int 4)) bE))) (tC (.int 16))) (aY 3)) (vP K))
def jZz{K}:RdS K Dd Aj Uj:=by
 rintro vs H Q E ⟨sc,ns,o,s,T,P,rfl,hS,ho,A,hs,e,hm,q⟩;rw[show start Uj [ref sc,ref o,ref s]=[some (.ref sc),some (.ref o),some (.ref s),none,none,none,none,none,none,none,none]from rfl];have sz:Sz P:=#[e,λn h=>(hm n h).1,λn h=>by have:=(hm n h).2;lia];have a4:=sz.rev.ord;have pn:=A.1;have tl:(tv P).length=P.length:=aA ..;(dsimp?[Aj,vP,vQ];try simp_arith[Aj,vP,vQ,eI])
 refine#[ns,hS,by decide,by decide,ns,hS,by decide,by decide,ns,hS,by decide,by decide,?_];have hw:∃w:Nat,ns.getD (Int.toNat 4) 0%16=(w:Int)/\w<16:=#[(ns.getD (Int.toNat 4) 0%16).toNat,#[],#[]];obtain⟨w,ew,a3⟩:=hw;rw[ew];generalize decide (ns.getD (Int.toNat 5) 0%3=1)=ch;generalize ns.getD (Int.toNat 6) 0%8=fl;(dsimp?[Gc,uR]);intro d hd;have su:=aS.upd (o:=HO.dT []) hd;(dsimp?[Ge,gP,iJ]);refine#[_,.inl (SqL.of (su _ _ ho)),#[],#[],?_];rw[show((T.length:Nat):Int).toNat=(fG P.reverse).length by lia];refine tI (lo:=0) (g:=aY 7) (D:={ nx:=cX (aE 6) (eQ Q),rt:=Q }) (nX H [some (.ref sc),some (.ref o),some (.ref s),some (.int w),some (.bl ch),some (.int fl)] d (fG P.reverse) P.length) #[[],λ_=>0,λ_=>[],none,none,none,none,rfl,su,aL,hd,rfl,λq F=>by simp at F,λq F=>by simp at F] ?_ ?_
 .rintro i O Y hi ⟨kv,k,un,R,o2,o3,o4,rfl,N,U⟩;obtain⟨pq,pa,eq,ea,a1⟩:=(A.same N).at hi;have F:=aJ eq;have p:pq.length=P.length:=by rw[jP _ pq F,cK]
  have qc:∀c∈pq,c<3:=λc hc=>by
   obtain⟨j,ej⟩:=cF hc;have jl:=(aI.mp ej).1;have em:=aC (l:=P) (i:=j) #[];have:=Mj _ pq F j _ c (by rw[List.reverse_reverse];exact em) ej;have:=(hm _ (aJ em)).2;lia
  have t:atI T (i:Int)=some (.ref pa):=fD ea;(dsimp?[vS,Lca,Lna];try simp_arith[vS,Lca,Lna,eS])
  refine#[sz0,λl S=>?_];have sl:=aS.upd (o:=lst []) S;(dsimp?[Gf,gP,iJ]);refine#[_,.inl ((N.trans sl).seq hs),#[],#[],?_];rw[tl,bW];refine tI (lo:=0) (g:=aY 9) (D:={ nx:=pW K { nx:=nX H [some (.ref sc),some (.ref o),some (.ref s),some (.int w),some (.bl ch),some (.int fl)] d (fG P.reverse) P.length (i+1),ct:=nX H [some (.ref sc),some (.ref o),some (.ref s),some (.int w),some (.bl ch),some (.int fl)] d (fG P.reverse) P.length (i+1),bk:=cX (aE 6) (eQ Q),rt:=Q },rt:=Q,ct:=nX H [some (.ref sc),some (.ref o),some (.ref s),some (.int w),some (.bl ch),some (.int fl)] d (fG P.reverse) P.length (i+1),bk:=cX (aE 6) (eQ Q) }) (zN Y [some (.ref sc),some (.ref o),some (.ref s),some (.int w),some (.bl ch),some (.int fl),some (.ref d),some (.int i)] l) #[[],_,_,rfl,sl,aL,rfl,by simp] ?_ ?_
  .rintro j O H4 Z ⟨us,o5,o6,rfl,X,y,x,M⟩;have J:=N.trans X;(dsimp?[vT,Lca,Lna];try simp_arith[vT,Lca,Lna,eS])
   refine#[_,.inl (J.seq hs),.b (m:=10) (n:=10) (by unfold BB;lia) (by unfold BB;lia),?_];have kb:i*P.length+j<=1000:=by
    have:i*P.length<=216*3:=fB #[] e;lia
   rw[tl,show((i:Int)*(P.length:Int)+j)=((i*P.length+j:Nat):Int) by push_cast;rfl];refine#[sc,ns,_,w,rfl,J.seq hS,kb,a3,λu G I hu=>?_];have fin:∀(v:Int) C,aS H4 C->BB 200 v->vR K { nx:=zN Y [some (.ref sc),some (.ref o),some (.ref s),some (.int w),some (.bl ch),some (.int fl),some (.ref d),some (.int i)] l (j+1),ct:=zN Y [some (.ref sc),some (.ref o),some (.ref s),some (.int w),some (.bl ch),some (.int fl),some (.ref d),some (.int i)] l (j+1),bk:=pW K { nx:=nX H [some (.ref sc),some (.ref o),some (.ref s),some (.int w),some (.bl ch),some (.int fl)] d (fG P.reverse) P.length (i+1),ct:=nX H [some (.ref sc),some (.ref o),some (.ref s),some (.int w),some (.bl ch),some (.int fl)] d (fG P.reverse) P.length (i+1),bk:=cX (aE 6) (eQ Q),rt:=Q },rt:=Q } [some (.ref sc),some (.ref o),some (.ref s),some (.int w),some (.bl ch),some (.int fl),some (.ref d),some (.int i),some (.ref l),some (.int j),some (.int v)] C:=by
    intro v C B hv;have a2:=B _ _ y;(dsimp?[vR,iS,tBM,kU]);refine#[.inl #[rfl,_,SqL.of a2],_,a2,by rw[aA,sizeLine_eq];lia,us++[v],_,_,rfl,(X.trans B).put S,by rw[aL,aV];rfl,by rw[bF,x];rfl,λz f=>?_];rcases cW.mp f with f |f
    .exact M z f
    .rw[cJ.mp f];exact hv
   have a5:(10:Nat)^60<2^200:=by decide
   have a6:1000000<(2:Nat)^200:=by decide
   (dsimp?[Gg]);cases ch with
   |false=>exact Dz (fin u G I (by unfold BB;lia))
   |true=>
    refine Mv #[by decide,_,SqL.of ((J.trans I) _ _ ho),_,t,pa,s,P,pq,fl,j,rfl,I _ _ (X _ _ a1),(J.trans I).seq hs,Z,e,p,λn h=>(hm n h).2,qc,λv C B v1 v2=>#[_,rfl,fin _ C (I.trans B) ?_]];unfold BB;lia
  .rintro O H4 ⟨us,o5,o6,rfl,X,y,x,M⟩;have l0:=N.free S;have a:=U.same X;have kl:kv.length<=216:=by
    have:kv.length=(kv.map (·.1)).length:=(aA ..).symm;rw[U.ks,aA,cR]at this;lia
   (dsimp?[pW,Ee,Lca,Lna]);refine#[_,SqL.of ((N.trans X) _ _ ho),_,t,_,.inr #[kv,tk pq,pa,a.hd,rfl,by rw[Ka];exact X _ _ a1,by rw[sizeLine_eq];lia,rfl],_,_,_,_,_,_,_,rfl,(N.trans X).put hd,a.put (qK _) eq y l0 (λr hr z=>?_) x M];have:=(U.at_ r hr).2.1;rw[z,S]at this;cases this
 .rintro O Y ⟨kv,k,un,R,o2,o3,o4,rfl,N,U⟩;rw[bY]at U;(dsimp?[Lca,Lna]);exact q d kv k un Y N U
def jJJ:LS:=["_law_sizes_here","_law_number","_law_found","_law_size"]
def Jj(K:aR):Sp:=λvs H Q _=>∃l ns k,vs=[.ref l,.int (k:Nat)]/\SqL K H l (tv ns)/\Sz ns/\∀p Z,aS H Z->Z p=some (.tup (tv (Mw ns.reverse k)))->Q (.ref p) Z
def jVa(l:Addr)(H:Hp)(ns:List Nat)(k:Nat):NS:=λi O Y=>∃n a x o,O=[some (.ref l),some (.int (n:Nat)),some (.ref a),o]/\aS H Y/\Y a=some (.tup (tv x))/\x.length=i/\Mw (ns.reverse.drop i) n++x=Mw ns.reverse k
def Kv(K:aR):TS:=(cB (cN (tOp xP (iX (aH (tOp gR (aE 1) (aE 3)) bE)) (aE 2)) (aY 2)) (cN (tOp jH (aE 1) (aE 3)) (aY 1)))
def Oe(K:aR):TS:=(cB (cN (iX bE) (aY 2)) (cB (gP (iRev K (aE 0)) (aY 3) (Kv K)) (cX (aE 2))))
def jWz{K}:RdS K Jj Oe jJJ:=by
 rintro j H Q E ⟨l,ns,k,rfl,v,sz,q⟩;rw[show start jJJ [ref l,int k]=[some (.ref l),some (.int k),none,none]from rfl];(dsimp?[Oe,gP,iRev]);refine#[sz0,λa ha=>?_];have M:aS H (upd H a (.tup [])):=aS.upd ha;refine#[_,M.seq v,for_rev (K:=K) (a:=l) (xs:=tv ns) (g:=aY 3) (D:={ nx:=cX (aE 2) (eQ Q),rt:=Q }) (jVa l H ns k) ?_ ?_ ?_ ?_]
 .exact#[k,a,[],none,rfl,M,aL,rfl,by simp]
 .rintro i O Y _ ⟨_,_,_,_,_,N,_⟩;exact N.seq v
 .rintro i x O Y r hi ⟨n,a,x,o,rfl,N,G,hx,e⟩;obtain⟨m,hm,rfl⟩:=pH hi;rw[iH]at hm r;have m1:=sz.ge m (aJ hm);have b:=sz.le m (aJ hm);have A:=sz.len;(dsimp?[Kv,xP]);refine#[#[],sz1,λp hp=>#[_,aL,_,(aS.upd hp) _ _ G,?_,λp1 u X y=>#[#[#[],(bb6 b).mono (by decide)],?_]]]
  .rw[iH];exact lW (by show 1+_<=_;lia)
  .refine#[n/m,p1,(n%m)::x,some (.int m),?_,N.trans ((aS.upd hp).trans X),?_,by rw[cP,hx],?_]
   .rw[Int.fdiv_eq_ediv_of_nonneg _ #[]];rfl
   .rw[y];rfl
   .rw[Xs (l:=ns.reverse) (i:=i) (x:=m) (by rw[List.getElem?_reverse r];exact hm)]at e;rw[←e];show _=(Mw (ns.reverse.drop (i+1)) (n/m)++[n%m])++x;rw[List.append_assoc];rfl
 .rintro O Y ⟨n,a,x,o,rfl,N,G,hx,e⟩;(dsimp![aE,tC,tOp,rI0,rNe,iO,cX,dD]);rw[iH,List.drop_eq_nil_of_le (by rw[cK];exact aP _)]at e;exact q a Y N (by rw[G,←e];rfl)
def Ut:LS:=["_law_sizes_here","_law_many","_law_size"]
def Dj(K:aR):Sp:=λvs H Q _=>∃l ns,vs=[.ref l]/\SqL K H l (tv ns)/\Sz ns/\∀p xs Z,aS H Z->H p=none->Z p=some (.lst xs)->Ps Z xs (fG ns.reverse)->Q (.ref p) Z
def jXv(l:Addr)(H:Hp)(ns:List Nat):NS:=λi O Y=>Y=H/\∃o,O=[some (.ref l),some (.int (rE (ns.take i).reverse:Nat)),o]
def pY(K:aR):TE:=(cC (Jj K) [] E0 (aH (aE 1) (aH (aE 0) bE)))
def wC(K:aR):TS:=(cX (dH (iJ (aH (aE 1) bE)) [0] (pY K)))
def Hd(K:aR):TS:=(cN (tOp fQ (aE 1) (aE 2)) (aY 1))
def Iw(K:aR):TS:=(cB (cN (tC (.int 1)) (aY 1)) (cB (gP (cZ K (aE 0)) (aY 2) (Hd K)) (wC K)))
def jZ6{K}:RdS K Dj Iw Ut:=by
 rintro j H Q E ⟨l,ns,rfl,v,sz,q⟩;rw[show start Ut [ref l]=[some (.ref l),none,none]from rfl];(dsimp?[Iw,gP,cZ]);refine#[#[_,v],jI (K:=K) (a:=l) (xs:=tv ns) (g:=aY 2) (D:={ nx:=wC K _,rt:=Q }) (jXv l H ns) ?_ ?_ ?_ ?_]
 .exact#[rfl,none,rfl]
 .rintro i O Y _ ⟨rfl,_⟩;exact v
 .rintro i x O Y hi ⟨rfl,o,rfl⟩;obtain⟨n,hn,rfl⟩:=pH hi;have s:=sz.le n (aJ hn);(dsimp?[Hd]);refine#[.r ((bb6 s).mono (by decide)),rfl,some (.int n),?_];rw[dO hn,List.reverse_append];show _=[some (ref l),some (int ((rE (ns.take i).reverse*n:Nat):Int)),_];rw[Int.natCast_mul]
 .rintro O Y ⟨rfl,o,rfl⟩;rw[iH,bY];(dsimp?[wC,dH,iJ]);have hm:=sz.rev.many;rw[bW];refine#[#[],#[],kH (W:=λk J G=>aS Y G/\Ps G J ((range k).map (Mw ns.reverse))) (lW hm) #[aS.refl _,Ps.nil] ?_ ?_]
  .rintro k J G hk _ ⟨T,w⟩;show pY K [some (.int (0+k)),some (.ref l)] G _;(dsimp?[pY];try simp_arith[pY,eS])
   refine#[l,ns,k,rfl,T.seq v,sz,λp C F hp=>#[T.trans F,?_]];rw[List.range_succ,aV];exact(w.same F).app (Ps.one hp)
  .rintro J G f ⟨T,w⟩ p hp;refine q p J _ (T.trans (aS.upd hp)) (T.free hp) aL ?_;rw[Wh _ sz.rev.ge];exact w.same (aS.upd hp)
def Zy:LS:=["_law_play_here","_law_hand","_law_choice"]
def tE(_:aR):Sp:=λvs H Q _=>∃a J h c,vs=[.ref a,.int (h:Nat),.int c]/\H a=some (.tup (map int J))/\h<J.length/\J.length<=100/\∀p Z,aS H Z->Z p=some (.tup (map int (J.set h c)))->Q (.ref p) Z
def Od(K:aR):TS:=(cX (tOp xP (tOp xP (tSl Va (aE 0) iE (mQ (aE 1))) (iX (aH (aE 2) bE))) (tSl Va (aE 0) (mQ (tOp hV (aE 1) (tC (.int 1)))) iE)))
def jWx{K}:RdS K tE Od Zy:=by
 rintro j H Q E ⟨a,J,h,c,rfl,ha,S,e,q⟩;rw[show start Zy [ref a,int h,int c]=[some (.ref a),some (.int h),some (.int c)]from rfl];(dsimp?[Od,xP,Va]);have B:=Ai (map int J) none (some (h:Int));have f:=Ai (map int J) (some ((h:Int)+1)) none;rw[aA]at B f;refine#[_,ha,λp1 U M h1=>#[sz1,λR D=>?_]];have d:aS U (upd U R (.tup [.int c])):=aS.upd D;refine#[_,d _ _ h1,_,aL,lW (by show _+1<=216;lia),λg Y N A=>?_];refine#[_,N _ _ (d _ _ (M _ _ ha)),λi u X y=>?_];refine#[_,X _ _ A,_,y,lW (by rw[bF];show _+1+_<=216;lia),λb G I O=>q b G (M.trans (d.trans (N.trans (X.trans I)))) ?_];rw[O,Vl,show((h:Int)+1)=((h+1:Nat):Int) by lia,Oz,List.set_eq_take_append_cons_drop,aK S,aV,cA,map_take,List.map_drop,List.append_assoc];rfl
def Uv:LS:=["_law_script","_law_sizes_here","_law_units_here","_law_hand","_law_number","_law_at","_law_one","_law_other","_law_by","_law_play_here","_law_row","_law_total"]
structure UR(H0 H:Hp)(kv:List (List Key×V))(qs:eG)(ad:List Nat->Addr)(un:List Nat->List Int)(n b:Nat):Prop where
 ks:kv.map (·.1)=qs.map tk
 at_:∀q∈qs,mJ kv (tk q)=some (.ref (ad q))/\H (ad q)=some (.lst (map int (un q)))/\H0 (ad q)=none/\(un q).length=n/\∀u∈un q,BB b u
 inj:∀q∈qs,∀r∈qs,ad q=ad r->q=r
section
variable{H0 H H':Hp}{d:Addr}{kv:List (List Key×V)}{qs:eG}{ad:List Nat->Addr}{un:List Nat->List Int}{n b c:Nat}
def UD.ur(U:UD H0 H d kv qs ad un n b):UR H0 H kv qs ad un n b:=#[U.ks,U.at_,U.inj]
def UR.lists(U:UR H0 H kv qs ad un n b)(s:∀a T,H a=some (.lst T)->H' a=some (.lst T)):UR H0 H' kv qs ad un n b:=#[U.ks,λq F=>let⟨a,b,c⟩:=U.at_ q F;#[a,s _ _ b,c],U.inj]
def UR.mono(U:UR H0 H kv qs ad un n b)(h:b<=c):UR H0 H kv qs ad un n c:=#[U.ks,λq F=>let⟨a,b,d,e,f⟩:=U.at_ q F;#[a,b,d,e,λu hu=>(f u hu).mono h],U.inj]
def UR.set{q:List Nat}(U:UR H0 H kv qs ad un n b)(F:q∈qs)(hv:BB b v):UR H0 (upd H (ad q) (.lst (map int ((un q).set h v)))) kv qs ad (λr=>if r=q then(un q).set h v else un r) n b:=by
 refine#[U.ks,λr hr=>?_,U.inj];obtain⟨G,R,J,M,k⟩:=U.at_ r hr;show _/\_=some (lst (map int (if r=q then(un q).set h v else un r)))/\_/\(if r=q then(un q).set h v else un r).length=n/\∀u∈(if r=q then(un q).set h v else un r),BB b u;by_cases e:r=q
 .subst e;rw[aK rfl];refine#[G,aL,J,by rw[fZ];exact M,λu hu=>?_];rcases mem_or_eq_of_mem_set hu with hu |rfl
  .exact k u hu
  .exact hv
 .rw[aF e];exact#[G,by rw[bZ λz=>e (U.inj r hr q F z)];exact R,J,M,k]
def UR.key(U:UR H0 H kv qs ad un n b)(nd:qs.Nodup){w:List Key×V}(e:kv[i]?=some w):∃q∈qs,qs[i]?=some q/\w.1=tk q/\w.2=.ref (ad q):=by
 have e1:(kv.map (·.1))[i]?=some w.1:=by rw[aX,e];rfl
 rw[U.ks,aX]at e1;cases eq:qs[i]? with
 |none=>rw[eq]at e1;cases e1
 |some q=>
  rw[eq]at e1;have C:w.1=tk q:=(aU e1).symm;have F:=aJ eq;have v:=Vn (by rw[U.ks];exact Fm nd) i (show kv[i]?=some (w.1,w.2)from e);rw[C,(U.at_ q F).1]at v;exact#[q,F,rfl,C,(aU v).symm]
end
def Dk(K:aR):Sp:=λvs H Q _=>∃(F:Hp)(sc s d:Addr)(ns:List Int)(P:List Nat),∃kv k un,vs=[.ref sc,.ref s,.ref d]/\SqL K F sc (map int ns)/\SqL K F s (tv P)/\2<=P.length/\P.length<=3/\(∀n∈P,1<=n/\n<=3)/\aS F H/\UD F H d kv (fG P.reverse) k un P.length 200/\∀a Z,aS F Z->UD F Z d kv (fG P.reverse) k a P.length 204->Q .non Z
def Pt(F:Hp)(pre:St)(d:Addr)(ob:Obj)(kv:List (List Key×V))(A:eG)(k:List Nat->Addr)(n b:Nat)(hb:Addr)(B:HO)(X:Nat->(List Nat->List Int)->Prop):NS:=λi O Y=>∃un R U r,O=pre++[R,U,r]/\aS F Y/\Y d=some (.frz ob (.dT kv))/\Y hb=some B/\UR F Y kv A k un n b/\X i un
def Hj(K:aR):TS:=(cN (tOp jQ (tOp hV (tOp jH (aE 11) (tOp hV (tOp (eY K) (aE 8) (tC (.int 0))) (tOp (eY K) (aE 8) (tC (.int 1))))) (tOp Bd (aE 4) (tC (.int 9)))) (tC (.int 1))) (xL (aE 10) (aE 3) oP))
def Hi(K:aR):TS:=(cB (cN (tOp hV (aE 11) (tOp fQ (tOp (eY K) (aE 8) (tC (.int 1))) (tOp (gB K) (xO (aE 2) (cC (tE K) [] E0 (aH (aE 9) (aH (aE 3) (aH (aE 7) bE))))) (aE 3)))) (aY 11)) (Hj K))
def wM(K:aR):TS:=(gA (dD (tOp rEq (tOp (eY K) (aE 9) (aE 3)) (aE 5))) (cB (cN (tOp fQ (tOp (eY K) (aE 8) (tC (.int 0))) (tOp (gB K) (xO (aE 2) (cC (tE K) [] E0 (aH (aE 9) (aH (aE 3) (aH (aE 6) bE))))) (aE 3))) (aY 11)) (Hi K)) eL)
def wK(K:aR):TG:=(jR K 2 (dZ (aY 9) (dZ (aY 10) jS)))
def wI(K:aR):TS:=(Ci (gP (Cm (aE 2)) (wK K) (wM K)))
def wL(K:aR):TS:=(gA (dD (tOp rNe (tOp (eY K) (aE 9) (aE 3)) (aE 5))) (cN (tOp fQ (tOp (gB K) (aE 10) (aE 3)) (tOp hV (tOp (eY K) (aE 8) (tC (.int 0))) (tOp (eY K) (aE 8) (tC (.int 1))))) (xL (aE 10) (aE 3) oP)) eL)
def wJ(K:aR):TG:=(jR K 2 (dZ (aY 9) (dZ (aY 10) jS)))
def Hh(K:aR):TS:=(cB (Ci (gP (Cm (aE 2)) (wJ K) (wL K))) (wI K))
def Hg(K:aR):TS:=(cB (cN (iX (aH (tOp hV (tC (.int 1)) (tOp gR (aE 4) (tC (.int 3)))) (aH (tOp hV (tC (.int 1)) (tOp gR (tOp Bd (aE 4) (tC (.int 3))) (tC (.int 3)))) bE))) (aY 8)) (Hh K))
def Hf(K:aR):TS:=(cB (cN (tOp gR (tOp hV (aE 5) (tC (.int 2))) (tOp (gB K) (aE 1) (aE 3))) (aY 7)) (Hg K))
def He(K:aR):TS:=(cB (cN (tOp gR (tOp hV (aE 5) (tC (.int 1))) (tOp (gB K) (aE 1) (aE 3))) (aY 6)) (Hf K))
def wH(K:aR):TS:=(gA (dD (tOp Aw (tOp (gB K) (aE 1) (aE 3)) (tC (.int 2)))) (cB (cN (tOp gR (cC (eI K) [] E0 (aH (aE 0) (aH (tC (.int 9)) bE))) (tOp (gB K) (aE 1) (aE 3))) (aY 5)) (He K)) eL)
def wG(K:aR):TS:=(cB (cN (tOp gR (cC (eI K) [] E0 (aH (aE 0) (aH (tC (.int 8)) bE))) (tC (.int 27))) (aY 4)) (wH K))
def Al(K:aR):TS:=(cB (cN (tOp gR (cC (eI K) [] E0 (aH (aE 0) (aH (tC (.int 7)) bE))) (tCB (iD K) (aH (aE 1) bE))) (aY 3)) (wG K))
def mean_bb{A t u w:Int}(h0:1<=A)(h1:1<=t)(b:BB 203 u)(l:BB 203 v)(r:-10<=w)(x:w<=10):BB 204 ((A*u+t*v).fdiv (A+t)+w):=by
 have hn:0<A+t:=#[];have e:=Int.mul_fdiv_add_fmod (A*u+t*v) (A+t);have m0:=Int.fmod_nonneg_of_pos (A*u+t*v) hn;have m1:=Int.fmod_lt_of_pos (A*u+t*v) hn;have k:(2:Nat)^203*2=2^204:=by decide
 have K:100<(2:Nat)^203:=by decide
 unfold BB at*;generalize (2:Nat)^204=W at k⊢;generalize (2:Nat)^203=V at*;generalize (A*u+t*v).fdiv (A+t)=f at e⊢;generalize (A*u+t*v).fmod (A+t)=m at e m0 m1;have G:A*u<=A*(V:Int):=Int.mul_le_mul_of_nonneg_left #[] #[];have R:t*v<=t*(V:Int):=Int.mul_le_mul_of_nonneg_left #[] #[];have J:A*(-(V:Int))<=A*u:=Int.mul_le_mul_of_nonneg_left #[] #[];have M:t*(-(V:Int))<=t*v:=Int.mul_le_mul_of_nonneg_left #[] #[];have c:f<=V:=by
  refine Int.le_of_mul_le_mul_left (a:=A+t) ?_ hn;rw[Int.add_mul A t (V:Int)];lia
 have lo:-(V:Int)-1<=f:=by
  refine Int.le_of_mul_le_mul_left (a:=A+t) ?_ hn;have:(A+t)*(-(V:Int)-1)=A*(-(V:Int))+t*(-(V:Int))-(A+t):=by grind
  lia
 lia
def UR.turn{kv:List (List Key×V)}{k:List Nat->Addr}{un:List Nat->List Int}{b:Nat}{w:List Key×V}{I s:Addr}(R:UR F Y kv (fG P.reverse) k un P.length b)(S:h<P.length)(hw:kv[i]?=some w)(c:Y s=none)(d:Y I=some (.tup (w.1.map kV))):
  ∃r e u,upd Y s (.tup [.ref I,w.2])=u/\aS Y u/\u s=some (.tup [.ref I,.ref (k r)])/\r∈fG P.reverse/\(fG P.reverse)[i]?=some r/\r.length=P.length/\UR F u kv (fG P.reverse) k un P.length b/\u I=some (.tup (tv r))/\r[h]?=some e/\atI (tv r) (h:Int)=some (.int e):=by
 obtain⟨r,hr,m,f,g⟩:=R.key (qK P.reverse) hw;rw[f,Ka]at d;have X:=aS.upd (o:=tup [ref I,w.2]) c;have rn:r.length=P.length:=by rw[jP _ r hr,cK]
 have j:=aC (l:=r) (i:=h) #[];exact#[r,_,_,rfl,X,by rw[aL,g],hr,m,rn,R.lists λa T h=>X _ _ h,X _ _ d,j,fD (by unfold tv;rw[aX,j];rfl)]
def jZ8{K}:RdS K Dk Al Uv:=by
 rintro vs H Q E ⟨H0,sc,s,d,ns,P,kv,ad,un,rfl,v,hs,m2,m3,hm,f,U,q⟩;rw[show start Uv [ref sc,ref s,ref d]=[some (.ref sc),some (.ref s),some (.ref d),none,none,none,none,none,none,none,none,none]from rfl];have tl:(tv P).length=P.length:=aA ..;(dsimp?[Al,wG];try simp_arith[Al,wG,eI])
 refine#[ns,f.seq v,by decide,_,.inl (f.seq hs),by rw[tl];lia,ns,f.seq v,by decide,by decide,?_];have hh:∃h:Nat,ns.getD (Int.toNat 7) 0%((tv P).length:Int)=(h:Int)/\h<P.length:=by
  have a:=Int.emod_nonneg (ns.getD (Int.toNat 7) 0) (show((tv P).length:Int)≠0 by rw[tl];lia);have b:=Int.emod_lt_of_pos (ns.getD (Int.toNat 7) 0) (show 0<((tv P).length:Int) by rw[tl];lia);exact#[(ns.getD (Int.toNat 7) 0%((tv P).length:Int)).toNat,#[],#[]]
 obtain⟨h,eh,S⟩:=hh;rw[eh];have hx:0<=ns.getD (Int.toNat 8) 0%27/\ns.getD (Int.toNat 8) 0%27<27:=#[];generalize ns.getD (Int.toNat 8) 0%27=x at hx;have em:=aC S;have bm:=hm _ (aJ em);have am:atI (tv P) (h:Int)=some (.int P[h]):=fD (by unfold tv;rw[aX,em];rfl);generalize P[h]=m at em bm am;(dsimp?[wH];try simp_arith[wH,eI])
 refine#[_,f.seq hs,_,am,_,rfl,mV (λe7=>?_) λ_=>q un H f #[U.hd,U.d0,U.ks,(U.ur.mono (c:=204) (by decide)).at_,U.inj]];have n3:m=3:=#[];subst n3;refine#[ns,f.seq v,by decide,_,f.seq hs,_,am,_,rfl,by decide,?_];have d4:∃a:Nat,ns.getD (Int.toNat 9) 0%((3:Nat):Int)=(a:Int)/\a<3:=#[(ns.getD (Int.toNat 9) 0%((3:Nat):Int)).toNat,#[],#[]];obtain⟨a,ea,a3⟩:=d4;rw[ea];(dsimp?[He,Hf]);refine#[_,f.seq hs,_,am,_,rfl,by decide,_,f.seq hs,_,am,_,rfl,by decide,?_];have h1:∃o:Nat,((a:Int)+1)%((3:Nat):Int)=(o:Int)/\o<3:=#[(((a:Int)+1)%((3:Nat):Int)).toNat,#[],#[]];have h2:∃o:Nat,((a:Int)+2)%((3:Nat):Int)=(o:Int)/\o<3:=#[(((a:Int)+2)%((3:Nat):Int)).toNat,#[],#[]];obtain⟨o1,e1,d6⟩:=h1;obtain⟨o2,C,d7⟩:=h2;rw[e1,C];(dsimp?[Hg]);refine#[by decide,#[by decide,by decide],by decide,sz2,λbp d8=>?_];have c5:1<=1+x%3/\1+x%3<=3:=#[];have c6:1<=1+x/3%3/\1+x/3%3<=3:=#[];generalize 1+x%3=A at c5;generalize 1+x/3%3=t at c6;have sb:=aS.upd (o:=tup [int A,int t]) d8;have U1:=U.same sb;have M:=f.trans sb;have c7:(upd H bp (.tup [.int A,.int t])) bp=some (.tup [.int A,.int t]):=aL;generalize upd H bp (.tup [.int A,.int t])=H1 at U1 M c7;have nd:=qK P.reverse;have e8:∀q∈fG P.reverse,q.length=P.length:=λq F=>by rw[jP _ q F,cK]
 have offD:∀{G:Hp}{u o:HO},G d=some u->(∀T,u≠.lst T)->∀a T,G a=some (.lst T)->(upd G d o) a=some (.lst T):=λhu ne a T h=>by rw[bZ λz=>by rw[z,hu]at h;exact ne _ (aU h)];exact h
 have b4:∀{G:Hp}{u o:HO},G d=some u->(∀T,u≠.tup T)->∀a T,G a=some (.tup T)->(upd G d o) a=some (.tup T):=λhu ne a T h=>by rw[bZ λz=>by rw[z,hu]at h;exact ne _ (aU h)];exact h
 (dsimp?[Hh,Ci,gP,Cm]);intro NF nf;refine#[kv,U1.hd,λob=>?_];refine Js (g:=wJ K) (tb:=wL K) (D:=jYY NF { nx:=wI K (eQ Q),rt:=Q }) (Pt H0 [some (.ref sc),some (.ref s),some (.ref d),some (.int h),some (.int x),some (.int a),some (.int o1),some (.int o2),some (.ref bp)] d ob kv (fG P.reverse) ad P.length 203 bp (.tup [.int A,.int t]) λi un=>∀j q,i<=j->(fG P.reverse)[j]?=some q->∀u∈un q,BB 200 u) #[un,none,none,none,rfl,M.put U.d0,aL,b4 U1.hd (λ_ z=>by cases z) _ _ c7,(U1.ur.mono (by decide)).lists (offD U1.hd λ_ z=>by cases z),λj q _ e=>(U.at_ q (aJ e)).2.2.2.2] ?_ ?_ ?_
 .rintro i O Y _ ⟨_,_,_,_,_,_,a4,_⟩;exact a4
 .rintro i w ka pp O Y hw ⟨a6,p1,p2,p3,rfl,N,a4,b2,R,X⟩ b9 c3;obtain⟨r,rh,H4,e4,s4,p4,hr,ei,rn,R4,b7,c8,ah⟩:=R.turn S hw b9 c3;rw[e4];obtain⟨_,b8,r0,rl,rb⟩:=R4.at_ r hr;have J:=N.trans s4;have a7:=s4 _ _ a4;have a5:=s4 _ _ b2;have er:=aC (l:=a6 r) (i:=h) #[];have bu:=X i r (aP _) ei _ (aJ er);have au:atI (map int (a6 r)) (h:Int)=some (.int ((a6 r)[h]'#[])):=fD (by rw[aX,er];rfl);generalize (a6 r)[h]'#[]=u at er bu au;(dsimp?[wJ,wL,xL,oP,Lca,Lna]);refine#[_,SqT.of p4,rfl,_,_,rfl,_,_,rfl,rfl,?_];refine#[_,rfl,_,SqT.of b7,_,ah,rfl,?_];by_cases e:rh=a
  .subst e;rw[aF (by simp)];exact#[a6,_,_,_,rfl,J,a7,a5,R4,λj q Z=>X j q #[]]
  .rw[aK (by simp;lia)];have b6:BB 3 (A+t):=by unfold BB;lia
   have bv:BB 203 (u*(A+t)):=bu.mul b6;refine#[_,rfl,_,SqL.of b8,_,au,_,SqT.of a5,_,lX,_,SqT.of a5,_,lA,_,rfl,_,rfl,_,rfl,.b bu b6,_,rfl,_,b8,h,by rw[aA,rl];exact uW #[] #[],?_];rw[←List.map_set];have dr:d≠ad r:=λz=>by rw[z,b8]at a7;cases a7
   have br:bp≠ad r:=λz=>by rw[z,b8]at a5;cases a5
   refine#[_,_,_,_,rfl,J.put r0,by rw[bZ dr];exact a7,by rw[bZ br];exact a5,R4.set hr bv,λj q Z ej=>?_];have:q≠r:=λz=>by
    subst z;have:=(List.getElem?_inj (aI.mp ei).1 nd).mp (ei.trans ej.symm);lia
   show ∀u∈(if q=r then _ else a6 q),BB 200 u;rw[aF this];exact X j q #[] ej
 .rintro O Y ⟨a6,p1,p2,p3,rfl,N,a4,b2,R,_⟩;refine#[d,kv,ob,(nf d λo u z=>by rw[U1.hd]at z;cases z),a4,?_];have I:=N.put (o:=.dT kv) U.d0;have c9:=b4 (o:=.dT kv) a4 (λ_ z=>by cases z) _ _ b2;have R5:=R.lists (offD (o:=.dT kv) a4 λ_ z=>by cases z);have d5:(upd Y d (.dT kv)) d=some (.dT kv):=aL;generalize upd Y d (.dT kv)=H5 at I c9 R5 d5;(dsimp?[wI,Ci,gP,Cm,Lca,Lna]);intro d9 e0;refine#[kv,d5,λob=>?_];refine Js (g:=wK K) (tb:=wM K) (D:=jYY d9 (eQ Q)) (Pt H0 [some (.ref sc),some (.ref s),some (.ref d),some (.int h),some (.int x),some (.int a),some (.int o1),some (.int o2),some (.ref bp)] d ob kv (fG P.reverse) ad P.length 204 bp (.tup [.int A,.int t]) λ_ un=>∀q∈fG P.reverse,q[h]?≠some a->∀u∈un q,BB 203 u) #[a6,p1,p2,p3,rfl,I.put U.d0,aL,b4 d5 (λ_ z=>by cases z) _ _ c9,(R5.mono (by decide)).lists (offD d5 λ_ z=>by cases z),λq F _=>(R5.at_ q F).2.2.2.2] ?_ ?_ ?_
  .rintro i O Y _ ⟨_,_,_,_,_,_,a4,_⟩;exact a4
  .rintro i w ka pp O Y hw ⟨a8,p1,p2,p3,rfl,N,a4,b2,R,X⟩ b9 c3;obtain⟨r,rh,H4,e4,s4,p4,hr,ei,rn,R4,b7,c8,ah⟩:=R.turn S hw b9 c3;rw[e4];obtain⟨_,_,r0,rl,rb⟩:=R4.at_ r hr;have J:=N.trans s4;have a7:=s4 _ _ a4;have a5:=s4 _ _ b2;(dsimp?[wK,wM,xL,oP,xO,Lca,Lna]);refine#[_,SqT.of p4,rfl,_,_,rfl,_,_,rfl,rfl,_,rfl,_,SqT.of b7,_,ah,rfl,?_];by_cases e:rh=a
   .subst e;rw[aK rfl];have tz:∀r:List Nat,map int (r.map λn:Nat=>(n:Int))=tv r:=λr=>by unfold tv;rw[List.map_map];rfl
    have other:∀(o:Nat)(G:Hp)(y:Addr),o<3->o≠rh->aS H4 G->G y=some (.tup (tv (r.set h o)))->∃l u,Ln G d (.ref y) (some (.ref l))/\SqL K G l (map int (a8 (r.set h o)))/\atI (map int (a8 (r.set h o))) (h:Int)=some (.int u)/\BB 203 u:=by
     intro o G y o3 ne sG hy;have mem:=jUZ hr em o3;obtain⟨v1,v2,_,v4,v5⟩:=R4.at_ _ mem;have eu:=aC (l:=a8 (r.set h o)) (i:=h) #[];refine#[_,(a8 (r.set h o))[h]'#[],.inr #[kv,tk (r.set h o),y,.inr #[ob,sG _ _ a7],rfl,by rw[Ka];exact hy,v1.symm],SqL.of (sG _ _ v2),fD (by rw[aX,eu];rfl),X _ mem ?_ _ (aJ eu)];rw[List.getElem?_set_self #[]];simp only[ne_eq,Option.some.injEq];exact ne
    have d3:∀(o:Nat)(G:Hp)(Q':VK),aS H4 G->(∀y G',aS G G'->G' y=some (.tup (tv (r.set h o)))->Q' (.ref y) G')->tE K [.ref ka,.int h,.int o] G Q' E0:=λo G Q' sG k=>#[ka,r.map λn:Nat=>(n:Int),h,o,rfl,by rw[tz];exact sG _ _ b7,by rw[aA];lia,by rw[aA];lia,λy G' s' hy=>k y G' s' (by rw[hy,show(r.map λn:Nat=>(n:Int)).set h (o:Int)=(r.set h o).map λn:Nat=>(n:Int) by rw[List.map_set],tz])];refine#[_,SqT.of a5,_,lX,d3 o1 H4 _ (aS.refl _) λy G1 I hy=>?_];obtain⟨l1,u1,d1,q1,a1,c1⟩:=other o1 G1 y d6 #[] I hy;have e3:BB 3 A:=by unfold BB;lia
    have e5:BB 3 t:=by unfold BB;lia
    refine#[_,d1,_,rfl,_,q1,_,a1,_,rfl,_,rfl,.b e3 c1,?_];(dsimp?[Hi,xO]);refine#[_,SqT.of (I _ _ a5),_,lA,d3 o2 G1 _ I λy2 G2 B e6=>?_];have b3:=I.trans B;obtain⟨l2,u2,d2,p,a2,c2⟩:=other o2 G2 y2 d7 #[] b3 e6;refine#[_,d2,_,rfl,_,p,_,a2,_,rfl,_,rfl,.b e5 c2,?_];have a9:=b3 _ _ (R4.at_ r hr).2.1;have b5:=b3 _ _ a5;have c4:=b3 _ _ a7;have R6:=R4.lists λa T h=>b3 _ _ h;have w0:-10<=x/9-1/\x/9-1<=10:=#[];(dsimp?[Hj,xL,oP]);refine#[_,SqT.of b5,_,lX,_,SqT.of b5,_,lA,_,rfl,_,rfl,#[#[],by unfold BB;have:=Nat.pow_lt_pow_right (show 1<2 by decide) (show 3<9000 by decide);lia],#[by decide,by decide],_,a9,h,by rw[aA,rl];exact uW #[] #[],?_];rw[←List.map_set];have dr:d≠ad r:=λz=>by rw[z,a9]at c4;cases c4
    have br:bp≠ad r:=λz=>by rw[z,a9]at b5;cases b5
    have mb:=mean_bb c5.1 c6.1 c1 c2 w0.1 w0.2;rw[show(A*u1+t*u2).fdiv (A+t)+(x/9-1)=(A*u1+t*u2).fdiv (A+t)+x/9-1 by lia]at mb;refine#[_,_,_,_,rfl,(J.trans b3).put r0,by rw[bZ dr];exact c4,by rw[bZ br];exact b5,R6.set hr mb,λq F ne=>?_];have:q≠r:=λz=>by rw[z,c8]at ne;exact ne rfl
    show ∀u∈(if q=r then _ else a8 q),BB 203 u;rw[aF this];exact X q F ne
   .rw[aF (by simp;lia)];exact#[a8,_,_,_,rfl,J,a7,a5,R4,X]
  .rintro O Y ⟨a8,p1,p2,p3,rfl,N,a4,b2,R,_⟩;refine#[d,kv,ob,(e0 d λo u z=>by rw[d5]at z;cases z),a4,?_];have R5:=R.lists (offD (o:=.dT kv) a4 λ_ z=>by cases z);exact q a8 _ (N.put U.d0) #[aL,U.d0,R5.ks,R5.at_,R5.inj]
def Lh:LS:=["_law_one","_law_other"]
def qA(_:aR):Sp:=λvs H Q _=>∃a b,vs=[.int a,.int b]/\Q (.int (Int.gcd a b:Nat)) H
def zR(K:aR):TS:=(Xu 0 1 (aH (aE 1) (aH (tOp gR (aE 0) (aE 1)) bE)))
def yV(K:aR):TS:=(cB (cN (tCB Hx (aH (aE 0) bE)) (aY 0)) (cB (cN (tCB Hx (aH (aE 1) bE)) (aY 1)) (cB (qE (dD (tOp Aw (aE 1) (tC (.int 0)))) (zR K)) (cX (aE 0)))))
def Xe{K}:RdS K qA yV Lh:=by
 rintro l H Q E ⟨a,b,rfl,k⟩;rw[show start Lh [int a,int b]=[some (.int a),some (.int b)]from rfl];(dsimp![yV,cB,cN,aY,aE,Aw,aH,bE,tCB,Hx,jZj]);refine Nu (λO Z=>Z=H/\∃g s,O=[some (.int g),some (.int s)]/\0<=g/\0<=s/\Int.gcd g s=Int.gcd a b) (λO _=>(intO (O.getD 1 none)).toNat) ?_ ?_ ?_
 .exact#[rfl,_,_,rfl,#[],#[],by simp [Int.gcd]]
 .rintro O Z ⟨rfl,g,s,rfl,hg,hs,e⟩;(dsimp![zR,aE,tC,tOp,rI0,rI,gR,cX,dD,aH,bE,Xu,cT]);refine mV (λhp=>?_) (λhp=>?_)
  .have h1:=Int.emod_nonneg g (b:=s) #[];have h2:=Int.emod_lt_of_pos g hp;simp [hp,h1,hs];refine#[?_,?_]
   .rw[←e,Int.gcd_comm g s,Int.emod_def,Int.gcd_sub_mul_left_right]
   .show max (g%s) 0<s;lia
  .have D:s=0:=#[];subst D;rw[←e,Int.gcd_zero_right]at k;have:((g.natAbs:Nat):Int)=g:=#[];rw[this]at k;exact k
 .intro O Z c d y h;dsimp only[dD,tOp,tC,rI0]at h⊢
  first
  | (obtain⟨v,hv,q⟩:=Ab h
     exact Aa hv (jUm q λi q=>y _ _ q))
  | (obtain⟨v,hv,i,j,hi,f,b,hb,q⟩:=Ab h
     exact Aa hv #[i,j,hi,f,b,hb,y _ _ q])
def Qc:LS:=["_law_top","_law_bottom","_law_by"]
def zF(_:aR):Sp:=λvs H Q _=>∃t b,vs=[.int t,.int b]/\0<b/\BB 9000 b/\∀x y p Z,aS H Z->Z p=some (.tup [.int x,.int y])->Lo t b x y->Q (.ref p) Z
def uZ(K:aR):TS:=(cB (cN (cC (qA K) [] E0 (aH (aE 0) (aH (aE 1) bE))) (aY 2)) (cX (iX (aH (tOp jH (aE 0) (aE 2)) (aH (tOp jH (aE 1) (aE 2)) bE)))))
def jJb{K}:RdS K zF uZ Qc:=by
 rintro j H Q E ⟨t,b,rfl,hb,bb,q⟩;rw[show start Qc [int t,int b]=[some (.int t),some (.int b),none]from rfl]
 (try dsimp only[uZ,cB,cN,aY,aE,tC,tOp,tUn,rI0,rI,rU,hV,jQ,fQ,jH,Bd,gR,Bc,iU,kM,rLeI,Aw,rGeI,rEq,rNe,iO,cX,gA,dD,tB,Xv,eL,cC,aH,bE,iX,nO,tCB,Hx,iD,cIsB,tSl,mQ,iE,uP,gB,eY,Ed,tOrV,Mt,tOr,Ya,Xu,iN,jR,dZ,jS,Lq0,Lq1,Ls0,Ls1,Lca,Lna,gD,gE,gC];try simp only[uZ,cB,cN,aY,aE,tC,tOp,tUn,rI0,rI,rU,hV,jQ,fQ,jH,Bd,gR,Bc,iU,kM,rLeI,Aw,rGeI,rEq,rNe,iO,cX,gA,dD,tB,Xv,eL,cC,aH,bE,iX,nO,tCB,Hx,iD,cIsB,tSl,mQ,iE,uP,gB,eY,Ed,tOrV,Mt,tOr,Ya,Xu,iN,jR,dZ,jS,Lq0,Lq1,Ls0,Ls1,Option.some.injEq,exists_eq_left',exists_eq_left,V.int.injEq,V.ref.injEq,V.bl.injEq,V.ty.injEq,List.cons.injEq,and_true,true_and,cS,exists_and_left,cT,Lca,Lna,and_assoc,qA,gD,gE,gC,iA,lB,iZ])
 have a:=bb.gcd (i:=t) #[];have g0:0<Int.gcd t b:=Int.gcd_pos_of_ne_zero_right _ #[];exact#[#[#[],a],#[#[],a],sz2,λp hp=>q _ _ p _ (aS.upd hp) aL (jZa hb)]
def Bw:LS:=["sizes","size"]
def qV(K:aR):Sp:=λvs H Q _=>∃l ns,vs=[.ref l]/\SqL K H l (tv ns)/\2<=ns.length/\Sz ns/\Q .non H
def Qz(l:Addr)(H:Hp):NS:=λ_ O Y=>Y=H/\∃o,O=[some (.ref l),o]
def tT(K:aR):TS:=(gA (tOr (dD (tOp kM (aE 1) (tC (.int 1)))) (dD (tOp Aw (aE 1) (tC (.int 6))))) iN eL)
def sL(K:aR):TS:=(cB (gA (tOr (dD (tOp kM (tCB (iD K) (aH (aE 0) bE)) (tC (.int 2)))) (dD (tOp Aw (tCB (iD K) (aH (aE 0) bE)) (tC (.int 3))))) iN eL) (gP (cZ K (aE 0)) (aY 1) (tT K)))
def Ql{K}:RdS K qV sL Bw:=by
 rintro j H Q E ⟨l,ns,rfl,v,h2,sz,q⟩;have A:=sz.len;rw[show start Bw [ref l]=[some (.ref l),none]from rfl];(dsimp?[sL,gP,cZ]);refine#[_,.inl v,?_];rw[iH,aF #[]];refine#[_,.inl v,?_];rw[iH,aF #[]];refine#[#[_,v],jI (K:=K) (a:=l) (xs:=tv ns) (g:=aY 1) (D:=(eQ Q)) (Qz l H) ?_ ?_ ?_ ?_]
 .exact#[rfl,none,rfl]
 .rintro i O Y _ ⟨rfl,_⟩;exact v
 .rintro i x O Y hi ⟨rfl,o,rfl⟩;obtain⟨n,hn,rfl⟩:=pH hi;have P:=sz.ge n (aJ hn);have g2:=sz.le n (aJ hn);(dsimp?[tT]);rw[aF #[],aF #[]];exact#[rfl,_,rfl]
 .rintro O Y ⟨rfl,o,rfl⟩;exact q
def Bq:LS:=["lists","told","choices","longer","begun"]
def nD(_:aR):Sp:=λvs H Q _=>∃l ls cs,vs=[.ref l]/\H l=some (.lst ls)/\Lg H ls cs/\Ch cs/\∀p xs Z,aS H Z->H p=none->Z p=some (.lst xs)->Ps Z xs (gG cs.reverse)->Q (.ref p) Z
def Mu(c:List Nat)(b:List Nat):eG:=c.map λx=>b++[x]
def Qy(l:Addr)(H:Hp)(cs:eG):NS:=λi O Y=>∃t xs R U r,O=[some (.ref l),some (.ref t),R,U,r]/\aS H Y/\H t=none/\Y t=some (.lst xs)/\Ps Y xs (gG (cs.take i).reverse)
def Lu(l t a:Addr)(c:List Nat)(H:Hp)(A:eG):NS:=λj O Y=>∃g ys r,O=[some (.ref l),some (.ref t),some (.ref a),some (.ref g),r]/\aS H Y/\H g=none/\Y g=some (.lst ys)/\Ps Y ys ((A.take j).flatMap (Mu c))
def nZ(K:aR):TS:=(cN (aE 3) (aY 1))
def oA(K:aR):TE:=(tOp xP (aE 1) (iX (aH (aE 0) bE)))
def tK(K:aR):TS:=(iS (tBM K "list" Md (aE 3) (aH (dH (cZ K (aE 2)) [4] (oA K)) bE)))
def tJ(K:aR):TS:=(cB (cN (nO bE) (aY 3)) (cB (gP (cZ K (aE 1)) (aY 4) (tK K)) (nZ K)))
def sF(K:aR):TS:=(cB (cN (nO (aH (iX bE) bE)) (aY 1)) (cB (gP (cZ K (aE 0)) (aY 2) (tJ K)) (cX (aE 1))))
def Ti(c:List Nat):∀A:eG,(A.flatMap (Mu c)).length=A.length*c.length
 | []=>by simp
 |b::A=>by rw[List.flatMap_cons,bF,Ti c A,cP,Nat.succ_mul,Mu,aA];lia
def Qh{K}:RdS K nD sF Bq:=by
 rintro vs H Q E ⟨l,ls,cs,rfl,v,o,ch,q⟩;rw[show start Bq [ref l]=[some (.ref l),none,none,none,none]from rfl];(dsimp?[sF,gP,cZ]);refine#[sz0,λa ha=>#[sz1,λt y=>?_]];have M:aS H (upd H a (.tup [])):=aS.upd ha;have s2:aS (upd H a (.tup [])) (upd (upd H a (.tup [])) t (.lst [.ref a])):=aS.upd y;have N:=M.trans s2;refine#[#[_,SqL.of (N _ _ v)],jI (K:=K) (a:=l) (xs:=ls) (g:=aY 2) (D:={ nx:=cX (aE 1) (eQ Q),rt:=Q }) (Qy l H cs) ?_ ?_ ?_ ?_]
 .exact#[t,_,none,none,none,rfl,N,M.free y,aL,Ps.one (s2 _ _ aL)]
 .rintro i O Y _ ⟨_,_,_,_,_,_,X,_⟩;exact SqL.of (X _ _ v)
 .rintro i x O Y hi ⟨t,T,R,U,r,rfl,X,y,P,A⟩;obtain⟨n,c,hn,rfl,hc⟩:=(o.same X).get hi;have a5:i<cs.length:=(aI.mp hn).1;have s:=ch.le n (aJ hn);have a3:=ch.len;have a2:Ch (cs.take i).reverse:=Ch.rev #[by rw[cR];lia,λd hd=>ch.le d (mem_of_mem_take hd)];have a4:(gG (cs.take i).reverse).length<=36:=dE a2.many (dE (fK (j:=2) (by decide) (by rw[cK,cR];lia)) (by decide));have e:T.length=(gG (cs.take i).reverse).length:=A.1;(dsimp?[tJ,gP,cZ]);refine#[sz0,λg hg=>?_];have I:aS Y (upd Y g (.lst [])):=aS.upd hg;refine#[#[_,SqL.of (I _ _ P)],jI (K:=K) (a:=t) (xs:=T) (g:=aY 4) (D:={ nx:=nZ K _,rt:=Q }) (Lu l t c n Y (gG (cs.take i).reverse)) ?_ ?_ ?_ ?_]
  .exact#[g,[],_,rfl,I,hg,aL,Ps.nil]
  .rintro j O u _ ⟨_,_,_,_,B,_⟩;exact SqL.of (B _ _ P)
  .rintro j x O u Z ⟨g,ys,o4,rfl,B,hg,S,py⟩;obtain⟨b,a,hb,rfl,ha⟩:=(A.same B).get Z;have a6:j<(gG (cs.take i).reverse).length:=(aI.mp hb).1;have hy:ys.length=j*n.length:=by rw[py.1,Ti,cR];congr 1;lia
   have a1:=B _ _ hc;(dsimp?[tK,iS,tBM,dH,cZ]);refine#[.inl #[rfl,_,SqL.of S],#[_,SqL.of a1],dQ (K:=K) (a:=c) (xs:=tv n) (λk J G=>aS u G/\Ps G J (Mu (n.take k) b)) ?_ #[aS.refl _,Ps.nil] ?_ ?_ ?_]
   .rw[iH];exact lW #[]
   .rintro k J G _ ⟨s7,_⟩;exact SqL.of (s7 _ _ a1)
   .rintro k x J G hk _ ⟨s7,w⟩;obtain⟨m,hm,rfl⟩:=pH hk;show oA K [some (.int m),some (.ref a)] G _;(dsimp?[oA,xP]);refine#[sz1,λz f=>?_];have F:aS G (upd G z (.tup [.int m])):=aS.upd f;refine#[_,F _ _ (s7 _ _ ha),_,aL,?_,λp C s9 hp=>#[s7.trans (F.trans s9),?_]]
    .rw[iH];have:=tF _ b (aJ hb);rw[cK,cR]at this;exact lW (by show _+1<=216;lia)
    .unfold Mu;rw[dO hm,aV];exact(w.same (F.trans s9)).app (Ps.one (by rw[hp,tv_app];rfl))
   .rintro J G f ⟨s7,w⟩ p hp;rw[iH,bY]at w;rw[iH]at f;have F:aS G (upd G p (.lst J)):=aS.upd hp;refine#[g,p,ys,J,rfl,rfl,F _ _ (s7 _ _ S),aL,?_,?_]
    .rw[hy,f];have:j*n.length+n.length<=216:=by
      have h1:(j+1)*n.length<=36*6:=fB #[] s;rw[Nat.succ_mul]at h1;exact h1
     exact lW this
    .refine#[g,_,_,rfl,((B.trans s7).trans F).put hg,hg,aL,?_];rw[dO hb,List.flatMap_append];refine Ps.keep (Ps.app ((py.same s7).same F) ?_) (tH (F _ _ (s7 _ _ S)));rw[List.flatMap_cons,List.flatMap_nil,cS];exact w.same F
  .rintro O u ⟨g,ys,o4,rfl,B,hg,S,py⟩;(dsimp?[nZ]);refine#[g,ys,_,_,_,rfl,X.trans B,X.free hg,S,?_];rw[e,bY]at py;rw[dO hn,List.reverse_append];exact py
 .rintro O Y ⟨t,T,R,U,r,rfl,X,y,P,A⟩;(dsimp![aE,tC,tOp,rI0,rNe,iO,cX,dD]);rw[o.1,bY]at A;exact q t T Y X y P A
def Qe:LS:=["sizes"]
def zH(K:aR):Sp:=λvs H Q _=>∃l ns,vs=[.ref l]/\SqL K H l (tv ns)/\Sz ns/\∀p xs Z,aS H Z->H p=none->Z p=some (.lst xs)->Ps Z xs (fG ns.reverse)->Q (.ref p) Z
def Bi(K:aR):TE:=(Ec (aE 0))
def Cw(K:aR):TS:=(cX (cC (nD K) [] E0 (aH (dH (cZ K (aE 0)) [] (Bi K)) bE)))
def rng_tv(n:Nat):map int (uO n)=tv (range n):=by unfold uO tv;rw[List.map_map];rfl
def Sz.ch(sz:Sz ns):Ch (ns.map range):=#[by rw[aA];exact sz.len,λc hc=>by obtain⟨n,hn,rfl⟩:=cM.mp hc;rw[gL];exact sz.le n hn]
def Wk{n:Nat}(o:Lg Y ys ((ns.take i).map range))(hn:ns[i]?=some n)(hp:Y p=none):Lg (upd Y p (.lst (map int (uO n)))) (ys++[.ref p]) ((ns.take (i+1)).map range):=by
 rw[dO hn,aV];exact(o.same (aS.upd hp)).snoc (by rw[aL,rng_tv])
def jJd{K}:RdS K zH Cw Qe:=by
 rintro j H Q E ⟨l,ns,rfl,v,sz,q⟩;rw[show start Qe [ref l]=[some (.ref l)]from rfl];have C:=sz.len;(dsimp?[Cw,dH,cZ]);refine#[#[_,v],dQ (K:=K) (a:=l) (xs:=tv ns) (λi J Y=>aS H Y/\Lg Y J ((ns.take i).map range)) ?_ #[aS.refl _,Lg.nil] ?_ ?_ ?_]
 .rw[iH];exact lW #[]
 .rintro i M Y _ ⟨N,_⟩;exact N.seq v
 .rintro i x M Y hi _ ⟨N,o⟩;obtain⟨n,hn,rfl⟩:=pH hi;have s:=sz.le n (aJ hn);(dsimp?[Bi,dA,cY,Ec]);exact#[n,rfl,#[],λp hp=>#[N.trans (aS.upd hp),Wk o hn hp]]
 .rintro M Y _ ⟨N,o⟩ p hp;rw[iH,bY]at o;have X:aS Y (upd Y p (.lst M)):=aS.upd hp;refine#[p,M,ns.map range,rfl,aL,o.same X,sz.ch,λu T Z I g F A=>q u T Z ((N.trans X).trans I) ((N.trans X).free g) F ?_];rw[Zb,List.map_reverse];exact A
def Bx:LS:=["cells","plays","hands","play"]
def qW(K:aR):Sp:=λvs H Q _=>∃c p kvs xs A d I,vs=[.ref c,.ref p,.int (d:Nat)]/\H c=some (.dT kvs)/\H p=some (.lst xs)/\Ps H xs A/\(∀q∈A,Kd H kvs I q)/\(∀q∈A,(I q).length=d)/\kvs.length=A.length/\Q .non H
def Ra(c p:Addr)(d:Nat)(H:Hp):NS:=λ_ O Y=>Y=H/\∃o,O=[some (.ref c),some (.ref p),some (.int d),o]
def oG(K:aR):TS:=(gA (dD (tOp rNe (tCB cLenT (aH (aE 0) bE)) (tCB (iD K) (aH (aE 1) bE)))) iN eL)
def tU(K:aR):TS:=(cB (gA (tB (Vu (aE 3) (aE 0))) iN eL) (gA (dD (tOp rNe (tCB (iD K) (aH (xO (aE 0) (aE 3)) bE)) (aE 2))) iN eL))
def sM(K:aR):TS:=(cB (gP (cZ K (aE 1)) (aY 3) (tU K)) (oG K))
def Qm{K}:RdS K qW sM Bx:=by
 rintro j H Q E ⟨c,p,N,T,A,d,I,rfl,hc,hp,k,ok,e,S,q⟩;rw[show start Bx [ref c,ref p,int d]=[some (.ref c),some (.ref p),some (.int d),none]from rfl];(dsimp?[sM,gP,cZ]);refine#[#[_,SqL.of hp],jI (K:=K) (a:=p) (xs:=T) (g:=aY 3) (D:={ nx:=oG K _,rt:=Q }) (Ra c p d H) ?_ ?_ ?_ ?_]
 .exact#[rfl,none,rfl]
 .rintro i O Y _ ⟨rfl,_⟩;exact SqL.of hp
 .rintro i x O Y hi ⟨rfl,o,rfl⟩;obtain⟨b,a,hb,rfl,ha⟩:=k.get hi;obtain⟨l,hv,P⟩:=ok b (aJ hb);have f:=e b (aJ hb);have y:Y a=some (.tup ((tk b).map kV)):=by rw[Ka];exact ha
  (dsimp?[tU,Vu,xO]);refine#[_,Ln.t hc y,?_];rw[hv];refine Dz ?_;refine#[_,by rw[←hv];exact Ln.t hc y,?_];exact#[l,rfl,_,.inl (SqL.of P),iteNS (by rw[f]) #[rfl,_,rfl]]
 .rintro O Y ⟨rfl,o,rfl⟩;(dsimp?[oG,cLenT]);refine#[_,hc,_,.inl (SqL.of hp),?_];rw[S,k.1];refine iteNS rfl q
def Hu:LS:=["self","sizes","cells","plays","play"]
noncomputable def Cd(m d:Addr):List (Str×V):=gY "cells" (.ref d) (gY "many" (.ref m) [])
structure sX(K:aR)(H:Hp)(t:Addr)(ns:List Nat)(cont:List Nat->List V):Prop where
 ob:∃dx m d kv,H t=some (.ins (dY K "Table") dx (Cd m d))/\H m=some (.lst (tv ns))/\H d=some (.dT kv)/\∀q∈fG ns.reverse,Kd H kv cont q
def sS(K:aR):Sp:=λvs H Q _=>∃t w s c ns kvs I,vs=[.ref t,.ref s,.ref c]/\H t=some (.ins (dY K "Table") w [])/\SqL K H s (tv ns)/\2<=ns.length/\Sz ns/\H c=some (.dT kvs)/\(∀q∈fG ns.reverse,Kd H kvs I q)/\(∀q∈fG ns.reverse,(I q).length=ns.length)/\kvs.length=(fG ns.reverse).length/\
 ∀Z,Sb t H Z->sX K Z t ns I->Q .non Z
def Rl(K:aR)(t w s c p m d:Addr)(ns:List Nat)(I:List Nat->List V)(H:Hp)(xs:List V):NS:=λi O Y=>∃kvs o,O=[some (.ref t),some (.ref s),some (.ref c),some (.ref p),o]/\Sb t H Y/\Y t=some (.ins (dY K "Table") w (Cd m d))/\Y m=some (.lst (tv ns))/\Y p=some (.lst xs)/\Ps Y xs (fG ns.reverse)/\
 H d=none/\Y d=some (.dT kvs)/\kvs.length<=i/\∀q∈(fG ns.reverse).take i,Kd Y kvs I q
def wY(K:aR):TS:=(Ee (gW K (aE 0) "cells") (aE 4) (tCB (pN K) (aH (xO (aE 2) (aE 4)) bE)))
def wQ(K:aR):TS:=(cB (iS (cC (qV K) [] E0 (aH (aE 1) bE))) (cB (cN (cC (zH K) [] E0 (aH (aE 1) bE)) (aY 3)) (cB (iS (cC (qW K) [] E0 (aH (aE 2) (aH (aE 3) (aH (tCB (iD K) (aH (aE 1) bE)) bE))))) (cB (xK K (aE 0) (tCB (pN K) (aH (aE 1) bE)) "many") (cB (xK K (aE 0) uR "cells") (gP (cZ K (aE 3)) (aY 4) (wY K)))))))
def cm:¬("many":Str)="cells":=by decide+kernel
def Tm(m d:Addr):(Cd m d).lookup ("many":Str)=some (.ref m):=by
 unfold Cd;rw[lE,aF cm,lE,aK rfl]
def Py(m d:Addr):(Cd m d).lookup ("cells":Str)=some (.ref d):=by
 unfold Cd;rw[lE,aK rfl]
def Mn(m d:Addr){x:Str}(h1:¬x="cells")(h2:¬x="many"):(Cd m d).lookup x=none:=by
 unfold Cd;rw[lE,aF h1,lE,aF h2]
 all_goals rfl
def Sb.keepT{t w:Addr}{fs:List (Str×V)}(s:Sb t H Z)(h:H t=some (.ins C w fs)):Kb H Z:=λa T e=>s a _ e (kT e h (by intro z;cases z))
def Sb.put{t d:Addr}(s:Sb t H G)(h:H d=none):Sb t H (upd G d o):=λb u e hb=>by rw[bZ (dJ e h)];exact s b u e hb
def Ri{K vs H Q E}(T:TabK K)(h:sS K vs H Q E):wQ K (eQ Q) (start Hu vs) H:=by
 obtain⟨t,w,s,c,ns,N,I,rfl,y,v,h2,sz,hc,ok,oh,S,q⟩:=h;rw[show start Hu [ref t,ref s,ref c]=[some (.ref t),some (.ref s),some (.ref c),none,none]from rfl];(dsimp?[wQ,iS,xK,uR,pN,gP,cZ]);refine#[s,ns,rfl,v,h2,sz,s,ns,rfl,v,sz,λp xs U M hp hP A=>?_];refine#[_,.inl (M.seq v),?_];rw[iH];refine#[c,p,N,xs,fG ns.reverse,ns.length,I,rfl,M _ _ hc,hP,A,λq F=>(ok q F).same M,oh,S,?_];refine#[_,.inl (M.seq v),λm hm=>?_];have s2:aS U (upd U m (.lst (tv ns))):=aS.upd hm;generalize C:upd U m (.lst (tv ns))=j at s2;have m2:j m=some (.lst (tv ns)):=by rw[←C];exact aL
 have t2:j t=some (.ins (dY K "Table") w []):=s2 _ _ (M _ _ y);refine#[_,w,[],t2,T.cl,T.nM,by show 0<1000;decide,λd hd=>?_];have t3:(upd j t (.ins (dY K "Table") w (gY "many" (.ref m) []))) t=some (.ins (dY K "Table") w (gY "many" (.ref m) [])):=aL;have R:t≠d:=dJ t3 hd;refine#[_,w,_,(by rw[bZ R];exact t3),T.cl,T.nC,by show 1<1000;decide,?_];have b1:Sb t j (upd (upd (upd j t (.ins (dY K "Table") w (gY "many" (.ref m) []))) d (.dT [])) t (.ins (dY K "Table") w (Cd m d))):=(Sb.at.trans (Sb.of (aS.upd hd))).trans Sb.at;have X:(upd (upd (upd j t (.ins (dY K "Table") w (gY "many" (.ref m) []))) d (.dT [])) t (.ins (dY K "Table") w (Cd m d))) d=some (.dT []):=by rw[bZ R.symm];exact aL
 have J:(upd (upd (upd j t (.ins (dY K "Table") w (gY "many" (.ref m) []))) d (.dT [])) t (.ins (dY K "Table") w (Cd m d))) t=some (.ins (dY K "Table") w (Cd m d)):=aL;have a3:H d=none:=Sb.free ((Sb.of (M.trans s2)).trans Sb.at) hd R.symm;rw[show gY "cells" (ref d) (gY "many" (ref m) [])=Cd m d from rfl];generalize (upd (upd (upd j t (.ins (dY K "Table") w (gY "many" (.ref m) []))) d (.dT [])) t (.ins (dY K "Table") w (Cd m d)))=H5 at b1 X J;have b0:Sb t H H5:=(Sb.of (M.trans s2)).trans b1;have mt:m≠t:=kT m2 t2 (by intro z;cases z);have pt:p≠t:=kT (s2 _ _ hP) t2 (by intro z;cases z);have p5:H5 p=some (.lst xs):=b1 _ _ (s2 _ _ hP) pt;have k:Ps H5 xs (fG ns.reverse):=(A.same s2).keep (b1.keepT t2);have a7:(fG ns.reverse).length<=216:=sz.rev.ord;refine#[p,rfl,#[_,SqL.of p5],jI (K:=K) (a:=p) (xs:=xs) (g:=aY 4) (D:=(eQ Q)) (Rl K t w s c p m d ns I H xs) ?_ ?_ ?_ ?_]
 .exact#[[],none,rfl,b0,J,b1 _ _ m2 mt,p5,k,a3,X,aP _,λq F=>(by simp at F)]
 .rintro i O G _ ⟨_,_,_,_,_,_,hp,_⟩;exact SqL.of hp
 .rintro i x O G hi ⟨kv,o,rfl,Z,tG,mG,pG,a1,hd,dG,hk,u⟩;obtain⟨b,a,hb,rfl,ha⟩:=a1.get hi;have r:i<(fG ns.reverse).length:=(aI.mp hb).1;obtain⟨l,hv,P⟩:=ok b (aJ hb);have cG:G c=some (.dT N):=Z _ _ hc (kT hc y (by intro z;cases z));have lG:G l=some (.lst (I b)):=Z _ _ P (kT P y (by intro z;cases z));have aG:G a=some (.tup ((tk b).map kV)):=by rw[Ka];exact ha
  (dsimp?[wY,Ee,xO,gW,pN]);refine#[_,by rw[←hv];exact Ln.t cG aG,?_];refine#[l,rfl,_,.inl (SqL.of lG),λf a4=>?_];have B:aS G (upd G f (.lst (I b))):=aS.upd a4;have Y:(upd G f (.lst (I b))) d=some (.dT kv):=B _ _ dG;refine#[_,_,_,B _ _ tG,T.cl,T.nC,_,Py _ _,d,rfl,_,DPut.t Y (B _ _ aG) (Hy #[]),?_];refine#[_,_,rfl,(Z.trans (Sb.of B)).put hd,?_,?_,?_,?_,hd,aL,?_,?_]
  .rw[bZ (kT (B _ _ tG) Y (by intro z;cases z))];exact B _ _ tG
  .rw[bZ (kT (B _ _ mG) Y (by intro z;cases z))];exact B _ _ mG
  .rw[bZ (kT (B _ _ pG) Y (by intro z;cases z))];exact B _ _ pG
  .exact(a1.same B).keep λb xs e=>by rw[bZ (kT e Y (by intro z;cases z))];exact e
  .have:=zM kv (tk b) (ref f);lia
  .intro q F;rw[dO hb]at F;have a5:f≠d:=kT aL Y (by intro z;cases z);by_cases e:q=b
   .subst e;exact#[f,by rw[Nv,aK rfl],by rw[bZ a5];exact aL]
   .have n:q∈(fG ns.reverse).take i:=by
     rcases cW.mp F with h |h
     .exact h
     .exact absurd (cJ.mp h) e
    obtain⟨l2,a6,a2⟩:=u q n;exact#[l2,by rw[Nv,aF (λz=>e (Cg z))];exact a6,by rw[bZ (kT (B _ _ a2) Y (by intro z;cases z))];exact B _ _ a2]
 .rintro O G ⟨kv,o,rfl,Z,tG,mG,_,_,_,dG,_,u⟩;rw[show xs.length=(fG ns.reverse).length from A.1,bY]at u;exact q G Z #[w,m,d,kv,tG,mG,dG,u]
def sX.same{t:Addr}(h:sX K H t ns I)(s:aS H Z):sX K Z t ns I:=let⟨dx,m,d,kv,h1,h2,h3,h4⟩:=h.ob;#[dx,m,d,kv,s _ _ h1,s _ _ h2,s _ _ h3,λq F=>(h4 q F).same s]
def sX.ins{t:Addr}(h:sX K H t ns I):∃w m d,H t=some (.ins (dY K "Table") w (Cd m d)):=let⟨w,m,d,_,h1,_⟩:=h.ob;#[w,m,d,h1]
def Ul:LS:=["_law_units_here","_law_sizes_here","_law_cells","_law_play_here","_law_row"]
structure Vc(K:aR)(H:Hp)(t:Addr)(ns:List Nat)(e:List Nat->Nat->Int×Int):Prop where
 ex:∃cont,sX K H t ns cont/\∀q∈fG ns.reverse,∃ps,cont q=map ref ps/\dC K H ps (ofF ns.length (e q))
def Vc.same{t:Addr}(h:Vc K H t ns e)(s:aS H Z):Vc K Z t ns e:=let⟨c,a,b⟩:=h.ex;#[c,a.same s,λq F=>let⟨ps,x,y⟩:=b q F;#[ps,x,y.same s]]
def De(K:aR):Sp:=λvs H Q _=>∃(F:Hp)(d s:Addr)(P:List Nat),∃kv k un,vs=[.ref d,.ref s]/\SqL K H s (tv P)/\2<=P.length/\P.length<=3/\(∀n∈P,1<=n/\n<=3)/\UD F H d kv (fG P.reverse) k un P.length 204/\∀t e Z,aS H Z->Vc K Z t P e->(∀q∈fG P.reverse,∀i,i<P.length->∃u,e q i=lo2 u 12/\BB 204 u)->Q (.ref t) Z
def FrL(K:aR)(H:Hp)(vs:List V)(us:List Int):Prop:=∃ps,vs=map ref ps/\dC K H ps (us.map λu=>lo2 u 12)
def jXu(K:aR)(b:Hp)(d s c:Addr)(ob:Obj)(kv:List (List Key×V))(A:eG)(un:List Nat->List Int):NS:=λi O Y=>∃a I R U,O=[some (.ref d),some (.ref s),some (.ref c),R,U]/\aS b Y/\Y c=some (.dT a)/\Kc Y a I (A.take i)/\∀q∈A.take i,FrL K Y (I q) (un q)
def vV(K:aR):TS:=(cX (Bb (dY K "Table") (sS K) [] E0 (aH (tCB (pN K) (aH (aE 1) bE)) (aH (aE 2) bE))))
def Gx(K:aR):TE:=(cC (zF K) [] E0 (aH (aE 0) (aH (tC (.int 12)) bE)))
def vX(K:aR):TS:=(Ee (aE 2) (aE 3) (dH (cZ K (aE 4)) [] (Gx K)))
def vW(K:aR):TG:=(jR K 2 (dZ (aY 3) (dZ (aY 4) jS)))
def Gw(K:aR):TS:=(cB (Ci (gP (Cm (aE 0)) (vW K) (vX K))) (vV K))
def Iq(K:aR):TS:=(cB (cN uR (aY 2)) (Gw K))
def SqT.offD{r:Addr}{kv:List (List Key×V)}(h:SqT K H p xs)(hr:Rd H r (.dT kv)):SqT K (upd H r o) p xs:=by
 have n:∀{u:HO},H p=some u->(u=.tup xs∨∃o,u=.frz o (.tup xs))->p≠r:=λhp hu e=>by
  subst e;rcases hr with hr |⟨o,hr⟩<;>rw[hp]at hr<;>cases hr<;>rcases hu with hu |⟨_,hu⟩<;>cases hu
 rcases h with(h |⟨o,h⟩)|h
 .exact .inl (.inl (by rw[bZ (n h (.inl rfl))];exact h))
 .exact .inl (.inr #[o,by rw[bZ (n h (.inr #[_,rfl]))];exact h])
 .exact .inr h
def dC.offD{r:Addr}{kv:List (List Key×V)}(hr:Rd H r (.dT kv)):∀{ps:List Addr}{fs:eF},dC K H ps fs->dC K (upd H r o) ps fs
 | [],[],_=>trivial
 |_::_,_::_,⟨h,t⟩=>#[SqT.offD h hr,dC.offD hr t]
def jZ1{K}:RdS K De Iq Ul:=by
 rintro vs H Q E ⟨H0,d,s,P,kv,k,un,rfl,hs,m2,m3,hm,U,q⟩;rw[show start Ul [ref d,ref s]=[some (.ref d),some (.ref s),none,none,none]from rfl];(dsimp?[Iq,uR]);intro c hc;(dsimp?[Gw,Ci,gP,Cm]);intro NF nf;have cd:d≠c:=λz=>by have:=U.hd;rw[z,hc]at this;cases this
 have b0:(upd H c (.dT [])) d=some (.dT kv):=by rw[bZ cd];exact U.hd
 refine#[kv,b0,λob=>?_];have nd:=qK P.reverse;have sz:Sz P:=#[m3,λn h=>(hm n h).1,λn h=>by have:=(hm n h).2;lia];have d1:=sz.rev.ord;have cb:(upd H d (.frz ob (.dT kv))) c=none:=by rw[bZ (Ne.symm cd)];exact hc
 have base:aS (upd H d (.frz ob (.dT kv))) (upd (upd H c (.dT [])) d (.frz ob (.dT kv))):=λb o e=>by
  by_cases z:b=d
  .rw[z,aL]at e⊢;exact e
  .rw[bZ z]at e⊢;rw[bZ λw=>by rw[w,hc]at e;cases e];exact e
 have RB:UR H0 (upd H d (.frz ob (.dT kv))) kv (fG P.reverse) k un P.length 204:=U.ur.lists λa T h=>by rw[bZ λz=>by rw[z,U.hd]at h;cases h];exact h
 have db:(upd H d (.frz ob (.dT kv))) d=some (.frz ob (.dT kv)):=aL;have thaw:∀Z,aS (upd H d (.frz ob (.dT kv))) Z->aS H (upd Z d (.dT kv)):=λZ s b v e=>by
  by_cases z:b=d
  .rw[z,aL,←e,z,U.hd]
  .rw[bZ z];exact s b v (by rw[bZ z];exact e)
 have c1:(upd (upd H c (.dT [])) d (.frz ob (.dT kv))) c=some (.dT []):=by rw[bZ (Ne.symm cd)];exact aL
 generalize upd H d (.frz ob (.dT kv))=Hb at cb base RB db thaw;refine Js (g:=vW K) (tb:=vX K) (D:=jYY NF { nx:=vV K (eQ Q),rt:=Q }) (jXu K Hb d s c ob kv (fG P.reverse) un) #[[],λ_=>[],none,none,rfl,base,c1,#[rfl,λi q e=>by simp at e],λq F=>by simp at F] ?_ ?_ ?_
 .rintro i O Y _ ⟨_,_,_,_,_,N,_⟩;exact N _ _ db
 .rintro i w ka pp O Y hw ⟨a1,I,R,o2,rfl,N,a7,kc,fl⟩ b9 b1;obtain⟨r,hr,ei,c2,c3⟩:=RB.key nd hw;rw[c2]at b1;rw[c3];obtain⟨_,b2,_,M,rb⟩:=RB.at_ r hr;have X:=aS.upd (o:=tup [ref ka,ref (k r)]) b9;have c4:=N.trans X;have a4:=c4 _ _ b2;(dsimp?[vW,vX,Ee,dH,cZ]);refine#[_,SqT.of aL,rfl,_,_,rfl,_,_,rfl,rfl,_,rfl,#[_,SqL.of a4],dQ (K:=K) (a:=k r) (xs:=map int (un r)) (λj J G=>aS (upd Y pp (.tup [.ref ka,.ref (k r)])) G/\FrL K G J ((un r).take j)) (by rw[aA,sizeLine_eq];lia) #[aS.refl _,[],rfl,trivial] ?_ ?_ ?_]
  .rintro j J G _ ⟨s5,_⟩;exact SqL.of (s5 _ _ a4)
  .rintro j x J G hx _ ⟨s5,B,rfl,hf⟩;obtain⟨u,rfl,hu⟩:=fR hx;(dsimp?[Gx]);refine#[u,12,rfl,by decide,by unfold BB;have:=Nat.pow_lt_pow_right (show 1<2 by decide) (show 4<9000 by decide);show 12<_;lia,λx y p H6 s6 hp lo=>#[s5.trans s6,B++[p],by rw[aV];rfl,?_]];rw[dO hu,aV];have e:(x,y)=lo2 u 12:=by
    obtain⟨e1,C⟩:=(eN (t:=u) (b:=12) (by decide)).uniq (by decide) lo;exact Prod.ext e1.symm C.symm
   refine dC.snoc (hf.same s6) ?_;show SqT K H6 p [int (lo2 u 12).1,int (lo2 u 12).2];rw[←e];exact SqT.of hp
  .rintro J G _ ⟨s5,fz⟩ p b3;rw[aA,bY]at fz;have s6:=s5.trans (aS.upd (o:=lst J) b3);have p6:(upd G p (.lst J)) p=some (.lst J):=aL;have b4:FrL K (upd G p (.lst J)) J (un r):=let⟨A,a,b⟩:=fz;#[A,a,b.same (aS.upd b3)];generalize upd G p (.lst J)=H6 at s6 p6 b4;have m:=X.trans s6;have a2:=m _ _ a7;have n0:=kc.new nd ei;have nt:=Ds nd ei;have kl:=kc.1;rw[cR]at kl;have a5:∀b T,H6 b=some (.lst T)->(upd H6 c (.dT (a1++[(tk r,.ref p)]))) b=some (.lst T):=λb T e=>by rw[bZ λz=>by rw[z,a2]at e;cases e];exact e
   have a6:∀{vs:List V}{us:List Int},FrL K H6 vs us->FrL K (upd H6 c (.dT (a1++[(tk r,.ref p)]))) vs us:=λ⟨A,a,b⟩=>#[A,a,dC.offD (.inl a2) b];refine#[_,.inr #[a1,tk r,ka,a2,rfl,m _ _ b1,by rw[sizeLine_eq];lia,rfl],a1++[(tk r,.ref p)],λS=>if S=r then J else I S,_,_,rfl,(N.trans m).put cb,by rw[aL,yG _ n0],?_,λS a3=>?_]
   .rw[yG _ n0];refine Kc.snoc (((kc.same m).off a5).cong λS h'=>aF λ(z:S=r)=>nt (by rw[←z];exact h')) ei (a5 _ _ ?_);rw[aK rfl];exact p6
   .rw[yG _ n0];rw[dO ei]at a3;show FrL K _ (if S=r then J else I S) (un S);by_cases e:S=r
    .rw[aK e,e];exact a6 b4
    .rw[aF e];rcases cW.mp a3 with a3 |a3
     .obtain⟨A,a,b⟩:=fl S a3;exact a6 #[A,a,b.same m]
     .exact absurd (cJ.mp a3) e
 .rintro O Y ⟨a1,I,R,o2,rfl,N,a7,kc,fl⟩;have c5:kv.length=(fG P.reverse).length:=by rw[←aA (f:=(·.1)),U.ks,aA]
  rw[c5,bY]at kc fl;refine#[d,kv,ob,(nf d λo u z=>by rw[b0]at z;cases z),N _ _ db,?_];have s5:=thaw _ N;have d3:=N _ _ db;have b5:(upd Y d (.dT kv)) c=some (.dT a1):=by rw[bZ (Ne.symm cd)];exact a7
  have a8:Kc (upd Y d (.dT kv)) a1 I (fG P.reverse):=kc.off λb T e=>by rw[bZ λz=>by rw[z,d3]at e;cases e];exact e
  have a9:∀q∈fG P.reverse,FrL K (upd Y d (.dT kv)) (I q) (un q):=λq F=>let⟨A,a,b⟩:=fl q F;#[A,a,dC.offD (.inr #[ob,d3]) b];generalize upd Y d (.dT kv)=G at s5 b5 a8 a9;(dsimp?[vV,Bb,pN]);refine#[tv P,.inl (s5.seq hs),λsl c6=>?_];have s6:=aS.upd (o:=lst (tv P)) c6;have b6:(upd G sl (.lst (tv P))) sl=some (.lst (tv P)):=aL;have a2:=s6 _ _ b5;generalize upd G sl (.lst (tv P))=H6 at s6 b6 a2;intro t dx ht c7 ne;have s7:aS H6 (upd (upd H6 dx (.own t)) t (.ins (dY K "Table") dx [])):=(aS.upd c7).put ht;have t7:(upd (upd H6 dx (.own t)) t (.ins (dY K "Table") dx [])) t=some (.ins (dY K "Table") dx []):=aL;generalize (upd (upd H6 dx (.own t)) t (.ins (dY K "Table") dx []))=H7 at s7 t7;have cl:∀q∈fG P.reverse,(I q).length=P.length:=λq F=>by
   obtain⟨A,a,b⟩:=a9 q F;rw[a,aA,b.length,aA];exact(U.at_ q F).2.2.2.1
  refine#[t,dx,sl,c,P,a1,I,rfl,t7,SqL.of (s7 _ _ b6),m2,sz,s7 _ _ a2,λq F=>(a8.cells nd q F).same (s6.trans s7),cl,a8.1,λH8 b8 c8=>#[rfl,?_]];have c9:aS H6 H8:=λb u e=>b8 b u (s7 b u e) (dJ e ht);have b7:=s6.trans c9;refine q t (λq i=>lo2 ((un q).getD i 0) 12) H8 (s5.trans b7) #[I,c8,λq F=>?_] λq F i hi=>#[_,rfl,?_]
  .obtain⟨A,a,b⟩:=a9 q F;refine#[A,a,?_];have e:(un q).map (λu=>lo2 u 12)=ofF P.length λi=>lo2 ((un q).getD i 0) 12:=by
    have l:=(U.at_ q F).2.2.2.1;refine List.ext_getElem? λj=>?_;by_cases hj:j<P.length
    .rw[fC _ hj,aX,aC #[],aN,aC #[]];rfl
    .rw[bU (by rw[aA];lia),bU (by rw[bH];lia)]
   rw[←e];exact b.same b7
  .have l:=(U.at_ q F).2.2.2;exact l.2 _ (mE #[])
def Ur:LS:=["_law_script","_law_sizes_here","_law_pairs_here","_law_hand","_law_choice","_law_found"]
def Di(K:aR):Sp:=λvs H Q _=>∃a b ns P,vs=[.ref a,.ref b]/\SqL K H a (map int ns)/\H b=some (.lst (tv P))/\P.length<=3/\(∀n∈P,1<=n/\n<=3)/\∀p ls A Z,aS H Z->Z p=some (.lst (map ref ls))->PrA Z ls A->A.Perm (prs P)->Q (.ref p) Z
def vI(a b p:Addr)(H:Hp)(r:Option V)(B:Nat->eF):NS:=λi O Y=>∃ls R U,O=[some (.ref a),some (.ref b),some (.ref p),R,U,none]/\(r=none∨R=r)/\aS H Y/\Y p=some (.lst (map ref ls))/\PrA Y ls (B i)
def Pb(a b p f:Addr)(P:List Nat)(H:Hp):NS:=λm O Y=>∃ls w A B R U,O=[some (.ref a),some (.ref b),some (.ref p),R,U,some (.ref f)]/\aS H Y/\Y p=some (.lst (map ref ls))/\Y f=some (.lst (map ref w))/\PrA Y ls A/\PrA Y w B/\m=ls.length/\(B++A).Perm (prs P)
def Hc(K:aR):TS:=(iS (tBM K "list" kU (aE 5) (aH (tBM K "list" jZJ (aE 2) (aH (tOp gR (cC (eI K) [] E0 (aH (aE 0) (aH (tOp hV (tC (.int 10)) (tCB (iD K) (aH (aE 5) bE))) bE))) (tCB (iD K) (aH (aE 2) bE))) bE)) bE)))
def Ha(K:aR):TS:=(cB (qE (dD (tOp (rNeD K 0) (aE 2) (nO bE))) (Hc K)) (cX (aE 5)))
def pX(K:aR):TS:=(cB (cN (nO bE) (aY 5)) (Ha K))
def wB(K:aR):TS:=(iS (tBM K "list" kU (aE 2) (aH (iX (aH (aE 3) (aH (aE 4) bE))) bE)))
def vZ(K:aR):TS:=(gP (iJ (aH (tOp (gB K) (aE 1) (aE 3)) bE)) (aY 4) (wB K))
def Gz(K:aR):TS:=(cB (gP (iJ (aH (tCB (iD K) (aH (aE 1) bE)) bE)) (aY 3) (vZ K)) (pX K))
def Iv(K:aR):TS:=(cB (cN (nO bE) (aY 2)) (Gz K))
def jZ5{K}:RdS K Di Iv Ur:=by
 rintro vs H Q E ⟨a,b,ns,P,rfl,hS,hb,m3,hm,q⟩;rw[show start Ur [ref a,ref b]=[some (.ref a),some (.ref b),none,none,none,none]from rfl];have t:∀n∈P,n<=6:=λn hn=>by have:=hm n hn;lia
 (dsimp?[Iv]);refine#[sz0,λp hp=>?_];have M:=aS.upd (o:=lst []) hp;(dsimp?[Gz,gP,iJ]);refine#[_,.inl (SqL.of (M _ _ hb)),?_];rw[iH,bW];refine#[#[],#[],tI (lo:=0) (g:=aY 3) (D:={ nx:=pX K (eQ Q),rt:=Q }) (vI a b p H none (prK P)) ?_ ?_ ?_]
 .exact#[[],_,_,rfl,.inl rfl,M,aL,PrA.nil]
 .rintro i O Y hi ⟨ls,R,U,rfl,_,N,F,pa⟩;have d:i<P.length:=#[];obtain⟨n,hn⟩:∃n,P[i]?=some n:=#[_,aC d];have pl:=Mh t i;(dsimp?[vZ,gP,iJ];try simp_arith[vZ,gP,iJ,eS])
  refine#[_,SqL.of (N _ _ hb),_,fD (jYX hn),_,rfl,?_];have:=hm n (aJ hn);rw[bW];refine#[#[],#[],tI (lo:=0) (g:=aY 4) (D:={ nx:=vI a b p H none (prK P) (i+1),rt:=Q,ct:=vI a b p H none (prK P) (i+1),bk:=pX K (eQ Q) }) (vI a b p H (some (.int i)) λj=>prK P i++(range j).map λc:Nat=>((i:Int),(c:Int))) ?_ ?_ ?_]
  .exact#[ls,_,_,rfl,.inr rfl,N,F,by show PrA Y ls (prK P i++[]);rw[cS];exact pa]
  .rintro j O H4 hj ⟨ls,R,U,rfl,r,X,F,T⟩;obtain rfl:=r.resolve_left (by simp);(dsimp?[wB,iS,tBM,kU];try simp_arith[wB,iS,tBM,kU,eS])
   have l:=T.len;rw[bF,aA,gL]at l;refine#[.inl #[rfl,_,SqL.of F],sz2,λc hc=>#[_,aS.upd hc _ _ F,by rw[aA];exact Hy #[],ls++[c],_,_,rfl,.inr rfl,(X.trans (aS.upd hc)).put hp,by rw[aL,aV];rfl,?_]];show PrA _ _ (prK P i++(range (j+1)).map λc:Nat=>((i:Int),(c:Int)));rw[List.range_succ,aV,←List.append_assoc];exact((T.same (aS.upd hc)).app (PrA.one aL)).off (aS.upd hc _ _ F)
  .rintro O H4 ⟨ls,R,U,rfl,r,X,F,T⟩;refine#[ls,_,_,rfl,.inl rfl,X,F,?_];rw[On,show P.getD i 0=n by rw[aN,hn];rfl];exact T
 .rintro O Y ⟨ls,R,U,rfl,_,N,F,pa⟩;(dsimp?[pX,Ha,rNeD]);refine#[sz0,λf hf=>?_];have a1:=F;refine#[Pb a b p f P H,#[_,ls,[],_,[],_,_,rfl,N.trans (aS.upd hf),aS.upd hf _ _ F,aL,pa.same (aS.upd hf),PrA.nil,rfl,.refl _],?_];rintro m O H4 ⟨ls,w,A,B,R,U,rfl,X,F,s,pq,pr,rfl,pm⟩;have a2:p≠f:=λe=>by rw[e]at a1;rw[a1]at hf;cases hf
  (dsimp?[rNeD]);refine#[sz0,λe he=>?_];have I:=aS.upd (o:=lst []) he;have fl:=pm.length_eq;have l:=pq.len;have l2:=pr.len;have pl:(prs P).length<=6*P.length:=Mh t P.length;rw[bF]at fl;by_cases hz:ls=[]
  .subst hz;refine#[true,REq.refs (ps:=[]) (SqL.of (I _ _ F)) (SqL.of aL),Dz ?_];(dsimp![aE,cX]);obtain rfl:A=[]:=by simpa using pq.eq
   rw[cS]at pm;exact q f w B _ (X.trans I) (I _ _ s) (pr.same I) pm
  .refine#[false,#[p,e,_,_,rfl,rfl,.inl #[SqL.of (I _ _ F),SqL.of aL,.inl #[by simpa using hz,rfl]]],Mv ?_];refine#[λG Z=>∃m',m'<ls.length/\Pb a b p f P H m' G Z,λ_ _ h=>h,?_];have J:=List.length_pos_iff.mpr hz;(dsimp?[Hc,iS,tBM,kU,jZJ]);refine#[.inl #[rfl,_,SqL.of (I _ _ s)],.inl #[rfl,_,SqL.of (I _ _ F)],_,.inl (SqL.of (I _ _ s)),a,ns,_,rfl,(X.trans I).seq hS,#[],_,.inl (SqL.of (I _ _ F)),_,rfl,?_];generalize ns.getD _ 0=z;rw[aA];have e1:=Int.emod_nonneg z (show(ls.length:Int)≠0 by lia);have C:=Int.emod_lt_of_pos z (show(0:Int)<ls.length by lia);obtain⟨k,hk⟩:∃k:Nat,z%(ls.length:Int)=k:=#[(z%ls.length).toNat,#[]];rw[hk]at e1 C⊢;have a3:k<ls.length:=#[];obtain⟨y,hy⟩:∃y,ls[k]?=some y:=#[_,aC a3];obtain⟨u,v,eq,S⟩:=pq.at hy;have x:(upd (upd H4 e (.lst [])) p (.lst ((map ref ls).eraseIdx k))) f=some (.lst (map ref w)):=by rw[bZ a2.symm];exact I _ _ s
   refine#[#[],_,I _ _ F,#[],#[],k,seqI (by rw[aA];exact a3),_,by rw[aX,hy];rfl,_,x,by rw[aA];exact Hy #[],(ls.eraseIdx k).length,?_,ls.eraseIdx k,w++[y],A.eraseIdx k,B++[(u,v)],_,_,rfl,((X.trans I).put hp).put (N.free hf),?_,?_,?_,?_,rfl,?_]
   .have:=(vJ hy).length_eq;rw[cP]at this;lia
   .rw[bZ a2,aL,jX3]
   .rw[aL,aV];rfl
   .exact(((pq.same I).off (I _ _ F)).off x).erase k
   .exact(((pr.same I).off (I _ _ F)).off x).app (PrA.one ((tH x) _ _ ((tH (I _ _ F)) _ _ (I _ _ S))))
   .rw[List.append_assoc];exact((vJ eq).append_left B).trans pm
def zX:LS:=["self","play","hand","size"]
def pM(K:aR):Sp:=λvs H Q _=>∃t a ns I q,vs=[.ref t,.ref a]/\sX K H t ns I/\H a=some (.tup (tv q))/\q∈fG ns.reverse/\∀l Z,aS H Z->H l=none->Z l=some (.lst (I q))->Q (.ref l) Z
def Lx(t a:Addr)(H:Hp):NS:=λ_ O Y=>∃R U,O=[some (.ref t),some (.ref a),R,U]/\aS H Y
def nF(K:aR):TS:=(cX (tCB (pN K) (aH (xO (gW K (aE 0) "cells") (aE 1)) bE)))
def rR(K:aR):TS:=(gA (tOr (dD (tOp kM (tOp (eY K) (aE 1) (aE 2)) (tC (.int 0)))) (dD (tOp rGeI (tOp (eY K) (aE 1) (aE 2)) (aE 3)))) iN eL)
def nG(K:aR):TG:=(jR K 2 (dZ (aY 2) (dZ (aY 3) jS)))
def qR(K:aR):TS:=(cB (gP (xS K (gW K (aE 0) "many")) (nG K) (rR K)) (nF K))
def Lr{K vs H Q E}(T:TabK K)(h:pM K vs H Q E):qR K (eQ Q) (start zX vs) H:=by
 obtain⟨t,a,ns,I,q,rfl,⟨w,m,d,kv,y,hm,hd,ok⟩,ha,F,k⟩:=h;have hql:q.length=ns.length:=by rw[jP _ q F,cK]
 rw[show start zX [ref t,ref a]=[some (.ref t),some (.ref a),none,none]from rfl];(dsimp?[qR,gP,xS,gW]);refine#[_,_,_,y,T.cl,T.nM,_,Tm _ _,m,rfl,#[_,SqL.of hm],Fi (K:=K) (a:=m) (xs:=tv ns) (g:=nG K) (D:={ nx:=nF K (eQ Q),rt:=Q }) (Lx t a H) ?_ ?_ ?_ ?_]
 .exact#[_,_,rfl,aS.refl _]
 .rintro i O Y _ ⟨_,_,_,N⟩;exact SqL.of (N _ _ hm)
 .rintro i x p O Y hi ⟨R,U,rfl,N⟩ hp;obtain⟨n,hn,rfl⟩:=pH hi;have r:i<q.length:=by rw[hql];exact(aI.mp hn).1
  have b:q[i]?=some q[i]:=aC r;have lt:=Mj _ q F i n q[i] (by rw[List.reverse_reverse];exact hn) b;have X:aS Y (upd Y p (.tup [.int i,.int n])):=aS.upd hp;(dsimp?[nG,rR]);refine#[_,SqT.of aL,rfl,_,_,rfl,_,_,rfl,rfl,_,rfl,_,SqT.of (X _ _ (N _ _ ha)),_,fD (jYX b),_,rfl,?_];rw[aF #[]];refine#[_,rfl,_,SqT.of (X _ _ (N _ _ ha)),_,fD (jYX b),_,rfl,_,rfl,?_];rw[aF #[]];exact#[_,_,rfl,N.trans X]
 .rintro O Y ⟨R,U,rfl,N⟩;(dsimp?[nF,xO,gW,pN]);obtain⟨l,hv,P⟩:=ok q F;exact#[_,_,_,N _ _ y,T.cl,T.nC,_,Py _ _,d,rfl,_,(by rw[←hv];exact Ln.t (N _ _ hd) (by rw[Ka];exact N _ _ ha)),l,rfl,_,.inl (SqL.of (N _ _ P)),λf o=>k f _ (N.trans (aS.upd o)) (N.free o) aL]
def jJZ:LS:=["rest","hand","choice"]
def Jk(_:aR):Sp:=λvs H Q _=>∃a q h c,vs=[.ref a,.int (h:Nat),.int (c:Nat)]/\H a=some (.tup (tv q))/\q.length<=100/\∀p Z,aS H Z->Z p=some (.tup (tv (q.take h++c::q.drop h)))->Q (.ref p) Z
def Of(K:aR):TS:=(cX (tOp xP (tOp xP (tSl Va (aE 0) iE (mQ (aE 1))) (iX (aH (aE 2) bE))) (tSl Va (aE 0) (mQ (aE 1)) iE)))
def jW0{K}:RdS K Jk Of jJZ:=by
 rintro j H Q E ⟨a,q,h,c,rfl,ha,S,k⟩;rw[show start jJZ [ref a,int h,int c]=[some (.ref a),some (.int h),some (.int c)]from rfl];(dsimp?[Of,xP,Va]);have e1:=Ai (tv q) none (some (h:Int));have C:=Ai (tv q) (some (h:Int)) none;rw[iH]at e1 C;refine#[_,ha,λp1 U M h1=>#[sz1,λz f=>?_]];have d:aS U (upd U z (.tup [.int c])):=aS.upd f;refine#[_,d _ _ h1,_,aL,lW (by show _+1<=216;lia),λg Y N A=>#[_,N _ _ (d _ _ (M _ _ ha)),λe u X y=>#[_,X _ _ A,_,y,?_,λb G I O=>?_]]]
 .rw[bF];exact lW (by show _+1+_<=216;lia)
 .refine k b G ((((M.trans d).trans N).trans X).trans I) ?_;rw[O,Vl,Oz];simp only[tv,aV,cA,map_take,List.map_drop,List.append_assoc,Lca,Lna]
def Bv:LS:=["table","rest","hand","choice"]
def qU(K:aR):Sp:=λvs H Q _=>∃t r ns I b i c v,vs=[.ref t,.ref r,.int (i:Nat),.int (c:Nat)]/\sX K H t ns I/\H r=some (.tup (tv b))/\b.length<=100/\b.take i++c::b.drop i∈fG ns.reverse/\(I (b.take i++c::b.drop i))[i]?=some v/\∀Z,aS H Z->Q v Z
def oM(K:aR):TS:=(cX (tOp (gB K) (eZ (dY K "Table") "earned" (pM K) [] E0 (aE 0) (aH (cC (Jk K) [] E0 (aH (aE 1) (aH (aE 2) (aH (aE 3) bE)))) bE)) (aE 2)))
def Qk{K}:RdS K qU oM Bv:=by
 rintro a H Q E ⟨t,r,ns,I,b,i,c,v,rfl,T,hr,hb,F,hv,k⟩;rw[show start Bv [ref t,ref r,int i,int c]=[some (.ref t),some (.ref r),some (.int i),some (.int c)]from rfl];obtain⟨w,m0,d0,y⟩:=T.ins;(dsimp?[oM,eZ];try simp_arith[oM,eZ,if_true])
 refine#[w,_,y,Mn _ _ (by decide+kernel) (by decide+kernel),r,b,i,c,rfl,hr,hb,λR U M D=>#[t,R,ns,I,_,rfl,T.same M,D,F,λl j d _ O=>?_]];exact#[_,rfl,_,SqL.of O,_,fD hv,k _ (M.trans d)]
def Qf:LS:=["table","hand","choice","others"]
def rL(K:aR):Sp:=λvs H Q _=>∃(t o:Addr)(ns:List Nat)(e:List Nat->Nat->Int×Int)(bs:eG)(h c:Nat)(xs:List V),vs=[.ref t,.int h,.int c,.ref o]/\Vc K H t ns e/\H o=some (.lst xs)/\Ps H xs bs/\h<ns.length/\(∀b∈bs,b.length<=3/\jn b h c∈fG ns.reverse)/\bs.length<=216/\
 ∀l A Z,aS H Z->Z l=some (.lst (map ref A))->dC K Z A (bs.map λb=>e (jn b h c) h)->Q (.ref l) Z
def Bj(K:aR):TE:=(cC (qU K) [] E0 (aH (aE 1) (aH (aE 0) (aH (aE 2) (aH (aE 3) bE)))))
def Cy(K:aR):TS:=(cX (dH (cZ K (aE 3)) [0,1,2] (Bj K)))
def jJe{K}:RdS K rL Cy Qf:=by
 rintro j H Q E ⟨t,o,ns,e,bs,h,c,k,rfl,T,ho,g,hn,hb,bl,q⟩;rw[show start Qf [ref t,int h,int c,ref o]=[some (.ref t),some (.int h),some (.int c),some (.ref o)]from rfl];(dsimp?[Cy,dH,cZ]);refine#[#[_,SqL.of ho],dQ (K:=K) (a:=o) (xs:=k) (λi J Y=>aS H Y/\∃A,J=map ref A/\dC K Y A ((bs.take i).map λb=>e (jn b h c) h)) (by rw[g.1];exact lW bl) #[aS.refl _,[],rfl,trivial] ?_ ?_ ?_]
 .rintro i J Y _ ⟨N,_⟩;exact SqL.of (N _ _ ho)
 .rintro i x J Y hi _ ⟨N,A,rfl,F⟩;obtain⟨b,a,C,rfl,ha⟩:=g.get hi;obtain⟨Z,d⟩:=hb b (aJ C);obtain⟨I,r,fr⟩:=T.ex;obtain⟨B,n,hf⟩:=fr _ d;have M:=hf.length;rw[bH]at M;obtain⟨p,hp⟩:∃p,B[h]?=some p:=#[_,aC #[]];obtain⟨f,m,s⟩:=hf.get hp;obtain⟨_,rfl⟩:=gM m;(dsimp?[Bj,dA,cA,cY,bJ]);refine#[t,a,ns,I,b,h,c,.ref p,rfl,r.same N,N _ _ ha,#[],d,by rw[show b.take h++c::b.drop h=jn b h c from rfl,n,aX,hp];rfl,λu X=>#[N.trans X,A++[p],by rw[aV];rfl,?_]];rw[dO C,aV];exact dC.snoc (F.same X) (X.tup (N.tup s))
 .rintro J Y _ ⟨N,A,rfl,F⟩ l S;rw[g.1,bY]at F;exact q l A _ (N.trans (aS.upd S)) aL (F.same (aS.upd S))
def Br:LS:=["row"]
def qS(K:aR):Sp:=λvs H Q _=>∃a ps fs,vs=[.ref a]/\SqL K H a (map ref ps)/\dC K H ps fs/\(∀f∈fs,0<f.2/\BB 4000 f.2)/\fs≠[]/\fs.length<=100/\∀z Z,aS H Z->(∃f∈fs,z=f.1.fdiv f.2)->(∀f∈fs,z<=f.1.fdiv f.2)->Q (.int z) Z
def tL(K:aR):TE:=(tOp jH (tOp (eY K) (aE 0) (tC (.int 0))) (tOp (eY K) (aE 0) (tC (.int 1))))
def sH(K:aR):TS:=(cX (tCB (Mz K) (aH (dH (cZ K (aE 0)) [] (tL K)) bE)))
def Qi{K}:RdS K qS sH Br:=by
 rintro j H Q E ⟨a,A,fs,rfl,v,hf,hg,ne,hn,q⟩;have hpl:=hf.length;rw[show start Br [ref a]=[some (.ref a)]from rfl];(dsimp?[sH,dH,cZ,Mz]);refine#[#[_,v],dQ (K:=K) (a:=a) (xs:=map ref A) (λi J Y=>aS H Y/\J=map int ((fs.take i).map λf=>f.1.fdiv f.2)) (by rw[aA,sizeLine_eq];lia) #[aS.refl _,rfl] ?_ ?_ ?_]
 .rintro i J Y _ ⟨N,_⟩;exact N.seq v
 .rintro i x J Y hi _ ⟨N,rfl⟩;obtain⟨p,rfl,hp⟩:=eC hi;obtain⟨f,C,s⟩:=(hf.same N).get hp;have g:=hg f (aJ C);(dsimp?[tL]);refine#[_,s,_,lX,_,s,_,lA,_,rfl,_,rfl,#[#[],g.2.mono (by decide)],N,?_];rw[dO C,aV,aV];rfl
 .rintro J Y _ ⟨N,rfl⟩ p hp;rw[aA,hpl,bY];refine#[_,SqL.of aL,λe=>ne (map_eq_nil_iff.mp e),λz c G=>?_];obtain⟨f,b,rfl⟩:=cM.mp c;exact q _ _ (N.trans (aS.upd hp)) #[f,b,rfl] λg m=>G _ (cM.mpr #[g,m,rfl])
def Uh:LS:=["rows"]
def Db(K:aR):Sp:=λvs H Q _=>∃a g frs n,vs=[.ref a]/\SqL K H a (map ref g)/\qD K H g frs/\WoR frs n/\∀z p Z,aS H Z->Z p=some (.tup [.int (1-z),.int 1])->Mnf frs z->Q (.ref p) Z
def Ga(K:aR):TE:=(cC (qS K) [] E0 (aH (aE 0) bE))
def Ik(K:aR):TS:=(cX (iX (aH (tOp jQ (tC (.int 1)) (tCB (Mz K) (aH (dH (cZ K (aE 0)) [] (Ga K)) bE))) (aH (tC (.int 1)) bE))))
def jZv{K}:RdS K Db Ik Uh:=by
 rintro j H Q E ⟨a,g,frs,n,rfl,v,hf,W,q⟩;have hpl:=hf.length;have m2:=W.m2;rw[show start Uh [ref a]=[some (.ref a)]from rfl];(dsimp?[Ik,dH,cZ,Mz]);refine#[#[_,v],dQ (K:=K) (a:=a) (xs:=map ref g) (λi J Y=>aS H Y/\∃zz:List Int,J=map int zz/\zz.length=i/\(∀z∈zz,∃r∈frs,∃f∈r,z=f.1.fdiv f.2)/\∀(k:Nat) z r,zz[k]?=some z->frs[k]?=some r->∀f∈r,z<=f.1.fdiv f.2) (by rw[aA,sizeLine_eq];lia) #[aS.refl _,[],rfl,rfl,(λ_ h=>nomatch h),λk z r e=>by simp at e] ?_ ?_ ?_]
 .rintro i J Y _ ⟨N,_⟩;exact N.seq v
 .rintro i x J Y hi _ ⟨N,zz,rfl,w,F,T⟩;obtain⟨p,rfl,hp⟩:=eC hi;obtain⟨r,A,I,d,D⟩:=hf.get hp;have m:=aJ I;have M:=W.hr r m;have n1:=W.n1;have n2:=W.n2;(dsimp?[Ga]);refine#[p,A,r,rfl,N.seq (SqL.of d),D.same N,λf c=>#[(W.hg r m f c).1,(W.hg r m f c).2.2],λe=>by rw[e]at M;simp at M;lia,#[],λz u X#[f,s,e] le=>#[N.trans X,zz++[z],by rw[aV];rfl,by rw[bF,w];rfl,λl o=>?_,λk l P e1 C B c=>?_]]
  .rcases cW.mp o with h |h
   .exact F l h
   .rw[cJ.mp h];exact#[r,m,f,s,e]
  .rcases yD e1 with⟨e1,_⟩|⟨O,rfl⟩
   .exact T k l P e1 C B c
   .rw[O,w,I]at C;obtain rfl:=aU C;exact le B c
 .rintro J Y _ ⟨N,zz,rfl,w,F,T⟩ p hp;rw[aA,hpl]at w;have m1:=W.m1;refine#[_,SqL.of aL,λe=>by rw[e]at w;simp at w;lia,λz R G=>#[sz2,λt y=>q z t _ ((N.trans (aS.upd hp)).trans (aS.upd y)) aL #[F z R,λr hr f c=>?_]]];obtain⟨k,hk⟩:=cF hr;have b:k<zz.length:=by have:=(aI.mp hk).1;lia
  have h1:=G _ (cD b);have h2:=T k _ r (aC b) hk f c;lia
def Ux:LS:=["one","other","great","small","left"]
def lD(_:aR):Sp:=λvs H Q _=>∃a b,vs=[.int a,.int b]/\Q (.int (Int.gcd a b:Nat)) H
def Hl(K:aR):TS:=(cB (cN (tOp gR (aE 2) (aE 3)) (aY 4)) (cB (cN (aE 3) (aY 2)) (cN (aE 4) (aY 3))))
def Iz(K:aR):TS:=(cB (cN (tCB Hx (aH (aE 0) bE)) (aY 2)) (cB (cN (tCB Hx (aH (aE 1) bE)) (aY 3)) (cB (qE (dD (tOp rNe (aE 3) (tC (.int 0)))) (Hl K)) (cX (aE 2)))))
def jXJ{K}:RdS K lD Iz Ux:=by
 rintro j H Q E ⟨a,b,rfl,k⟩;rw[show start Ux [int a,int b]=[some (.int a),some (.int b),none,none,none]from rfl];(dsimp![Iz,cB,cN,aY,aE,aH,bE,tCB,Hx,jZj]);refine Nu (λO Z=>Z=H/\∃g s l,O=[some (.int a),some (.int b),some (.int g),some (.int s),l]/\0<=g/\0<=s/\Int.gcd g s=Int.gcd a b) (λO _=>(intO (O.getD 3 none)).toNat) ?_ ?_ ?_
 .exact#[rfl,_,_,_,rfl,#[],#[],by simp [Int.gcd]]
 .rintro O Z ⟨rfl,g,s,l,rfl,hg,hs,e⟩;(dsimp![Hl,cB,cN,aY,aE,tC,tOp,rI,gR,rNe,iO,cX,dD]);by_cases D:s=0
  .subst D;simp only[decide_true,Bool.not_true,Option.some.injEq,exists_eq_left',exists_eq_left,V.int.injEq,V.ref.injEq,V.bl.injEq,List.cons.injEq,and_true,true_and,exists_and_left,and_assoc,gD,gE,gC,iA,lB,iZ];rw[←e,Int.gcd_zero_right]at k;have:((g.natAbs:Nat):Int)=g:=#[];rw[this]at k;simpa using k
  .have hp:0<s:=#[];have h1:=Int.emod_nonneg g D;have h2:=Int.emod_lt_of_pos g hp;simp [D,hp,h1,hs];refine#[?_,?_]
   .rw[←e,Int.gcd_comm g s,Int.emod_def,Int.gcd_sub_mul_left_right]
   .show max (g%s) 0<s;lia
 .intro O Z c d y h;dsimp only[dD,tOp,tC,rNe]at h⊢
  first
  | (obtain⟨v,hv,hs,q⟩:=Ab h
     exact Aa hv #[hs,y _ _ q])
  | (obtain⟨v,hv,hs,b,hb,q⟩:=Ab h
     exact Aa hv #[hs,b,hb,y _ _ q])
def jWc:LS:=["top","bottom","shared"]
def mY(_:aR):Sp:=λvs H Q _=>∃t b,vs=[.int t,.int b]/\b≠0/\BB 9000 b/\∀x y p Z,aS H Z->Z p=some (.tup [.int x,.int y])->Lo t b x y->Q (.ref p) Z
def Lz(K:aR):TS:=(cB (gA (dD (tOp rEq (aE 1) (tC (.int 0)))) iN eL) (cB (cN (cC (lD K) [] E0 (aH (aE 0) (aH (aE 1) bE))) (aY 2)) (cB (gA (dD (tOp kM (aE 1) (tC (.int 0)))) (cN (tUn iU (aE 2)) (aY 2)) eL) (cX (iX (aH (tOp jH (aE 0) (aE 2)) (aH (tOp jH (aE 1) (aE 2)) bE)))))))
def jVz{K}:RdS K mY Lz jWc:=by
 rintro j H Q E ⟨t,b,rfl,hb,bb,q⟩;rw[show start jWc [int t,int b]=[some (.int t),some (.int b),none]from rfl]
 (try dsimp only[Lz,cB,cN,aY,aE,tC,tOp,tUn,rI0,rI,rU,jH,iU,kM,rEq,iO,cX,gA,dD,eL,cC,aH,bE,iX,iN,Lq0,Lq1,Ls0,Ls1,gD,gE,gC];try simp only[Lz,cB,cN,aY,aE,tC,tOp,tUn,rI0,rI,rU,jH,iU,kM,rEq,iO,cX,gA,dD,eL,cC,aH,bE,iX,iN,Lq0,Lq1,Ls0,Ls1,Option.some.injEq,exists_eq_left',V.int.injEq,V.bl.injEq,List.cons.injEq,and_true,true_and,cS,exists_and_left,cT,and_assoc,lD,exists_eq_left,V.ref.injEq,gD,gE,gC,iA,lB,iZ])
 rw[aF hb];have a:=bb.gcd (i:=t) hb;have g0:0<Int.gcd t b:=Int.gcd_pos_of_ne_zero_right _ hb;refine mV (λhn=>?_) (λhn=>?_)
 .refine#[#[#[],a.neg],#[#[],a.neg],sz2,λp hp=>q _ _ p _ (aS.upd hp) aL (lo_neg hn)]
 .refine#[#[#[],a],#[#[],a],sz2,λp hp=>q _ _ p _ (aS.upd hp) aL (jZa #[])]
def N_plus:LS:=["one","other"]
def Mb(K:aR):Sp:=λvs H Q _=>∃p q a b c d,vs=[.ref p,.ref q]/\Tw K H p q a b c d/\0<b/\0<d/\BB 9000 (b*d)/\∀r Z,aS H Z->Z r=some (.tup [.int (lo2 (a*d+c*b) (b*d)).1,.int (lo2 (a*d+c*b) (b*d)).2])->Q (.ref r) Z
def jJ3(K:aR):TS:=(cX (cC (mY K) [] E0 (aH (tOp hV (tOp fQ (tOp (eY K) (aE 0) (tC (.int 0))) (tOp (eY K) (aE 1) (tC (.int 1)))) (tOp fQ (tOp (eY K) (aE 1) (tC (.int 0))) (tOp (eY K) (aE 0) (tC (.int 1))))) (aH (tOp fQ (tOp (eY K) (aE 0) (tC (.int 1))) (tOp (eY K) (aE 1) (tC (.int 1)))) bE))))
def rd_plus{K}:RdS K Mb jJ3 N_plus:=by
 rintro j H Q E ⟨p,q,a,b,c,d,rfl,⟨hp,F,ba,bb,bc,f⟩,A,d0,e,k⟩;rw[show start N_plus [ref p,ref q]=[some (.ref p),some (.ref q)]from rfl];(dsimp?[jJ3]);refine#[_,hp,_,lX,_,F,_,lA,_,rfl,_,rfl,.b ba f,_,F,_,lX,_,hp,_,lA,_,rfl,_,rfl,.b bc bb,_,hp,_,lA,_,F,_,lA,_,rfl,_,rfl,.b bb f,?_];have z:0<b*d:=bK A d0;refine#[_,_,rfl,#[],e,λx y r Z s h l=>k r Z s ?_];obtain⟨e1,C⟩:=l.uniq z (eN z);rw[←e1,←C];exact h
def Zx:LS:=["row","lift"]
def Jh(K:aR):Sp:=λvs H Q _=>∃a t ps fs,∃z:Int,vs=[.ref a,.ref t]/\SqL K H a (map ref ps)/\dC K H ps fs/\SqT K H t [.int (1-z),.int 1]/\BB 9000 (1-z)/\(∀f∈fs,0<f.2/\BB 4000 f.1/\BB 4000 f.2)/\fs.length<=100/\∀l A Z,aS H Z->Z l=some (.lst (map ref A))->dC K Z A (fs.map (lft z))->Q (.ref l) Z
def Kr(K:aR):TE:=(cC (Mb K) [] E0 (aH (aE 0) (aH (aE 1) bE)))
def Oa(K:aR):TS:=(cX (dH (cZ K (aE 0)) [1] (Kr K)))
def jWw{K}:RdS K Jh Oa Zx:=by
 rintro j H Q E ⟨a,t,c,fs,z,rfl,v,hf,y,b,hg,hn,q⟩;have hpl:=hf.length;rw[show start Zx [ref a,ref t]=[some (.ref a),some (.ref t)]from rfl];(dsimp?[Oa,dH,cZ]);refine#[#[_,v],dQ (K:=K) (a:=a) (xs:=map ref c) (λi J Y=>aS H Y/\∃A,J=map ref A/\dC K Y A ((fs.take i).map (lft z))) (by rw[aA,sizeLine_eq];lia) #[aS.refl _,[],rfl,trivial] ?_ ?_ ?_]
 .rintro i J Y _ ⟨N,_⟩;exact N.seq v
 .rintro i x J Y hi _ ⟨N,A,rfl,F⟩;obtain⟨p,rfl,hp⟩:=eC hi;obtain⟨f,C,s⟩:=(hf.same N).get hp;have g:=hg f (aJ C);have one:BB 20000 (1:Int):=by show(1:Int).natAbs<2^20000;exact Nat.one_lt_two_pow (by decide)
  (dsimp?[Kr,dA,cA,cY,bJ]);refine#[_,_,_,_,_,_,rfl,#[s,N.tup y,g.2.1.mono (by decide),g.2.2.mono (by decide),b.mono (by decide),one],g.1,by decide,by rw[fE];exact g.2.2.mono (by decide),λr u X hr=>#[N.trans X,A++[r],by rw[aV];rfl,?_]];rw[dO C,aV];exact dC.snoc (F.same X) (SqT.of hr)
 .rintro J Y _ ⟨N,A,rfl,F⟩ l S;rw[aA,hpl,bY]at F;exact q l A _ (N.trans (aS.upd S)) aL (F.same (aS.upd S))
def jWf:LS:=["one","other"]
def Fa(K:aR):Sp:=λvs H Q _=>∃p q a b c d,vs=[.ref p,.ref q]/\Tw K H p q a b c d/\Q (.bl (decide (a*d<c*b))) H
def Vt(K:aR):TS:=(cX (tOp kM (tOp fQ (tOp (eY K) (aE 0) (tC (.int 0))) (tOp (eY K) (aE 1) (tC (.int 1)))) (tOp fQ (tOp (eY K) (aE 1) (tC (.int 0))) (tOp (eY K) (aE 0) (tC (.int 1))))))
def jV2{K}:RdS K Fa Vt jWf:=by
 rintro j H Q E ⟨p,q,a,b,c,d,rfl,⟨hp,F,ba,bb,bc,f⟩,k⟩;rw[show start jWf [ref p,ref q]=[some (.ref p),some (.ref q)]from rfl];(dsimp![Vt,aE,tC,tOp,rI0,rI,fQ,kM,cX,eY]);exact#[_,hp,_,lX,_,F,_,lA,_,rfl,_,rfl,.b ba f,_,F,_,lX,_,hp,_,lA,_,rfl,_,rfl,.b bc bb,k]
def Uz:LS:=["row","number","fraction"]
def Dm(K:aR):Sp:=λvs H Q _=>∃a ps fs,vs=[.ref a]/\SqL K H a (map ref ps)/\dC K H ps fs/\(∀f∈fs,G9 f)/\fs.length<=100/\∀l p Z,aS H Z->Z l=some (.lst (map int (clr fs)))->Z p=some (.tup [.int (lc fs),.ref l])->Q (.ref p) Z
def jXw(a:Addr)(F:Hp)(fs:eF):NS:=λi O Y=>Y=F/\∃o,O=[some (.ref a),some (.int (lc (fs.take i))),o]/\BB (9000*i+1) (lc (fs.take i))
noncomputable def jX4(F:Hp)(fs:eF):Nat->List V->Hp->Prop:=WEq F λi ys=>ys=map int ((clr fs).take i)
def Hn(K:aR):TE:=(tOp fQ (tOp (eY K) (aE 0) (tC (.int 0))) (tOp jH (aE 1) (tOp (eY K) (aE 0) (tC (.int 1)))))
def wP(K:aR):TS:=(cX (iX (aH (aE 1) (aH (dH (cZ K (aE 0)) [1] (Hn K)) bE))))
def Wz(K:aR):TS:=(cN (tOp fQ (aE 1) (tOp jH (tOp (eY K) (aE 2) (tC (.int 1))) (cC (lD K) [] E0 (aH (aE 1) (aH (tOp (eY K) (aE 2) (tC (.int 1))) bE))))) (aY 1))
def Jb(K:aR):TS:=(cB (cN (tC (.int 1)) (aY 1)) (cB (gP (cZ K (aE 0)) (aY 2) (Wz K)) (wP K)))
def jXX{K}:RdS K Dm Jb Uz:=by
 rintro j H Q E ⟨a,A,fs,rfl,v,hf,hg,hn,q⟩;have hpl:=hf.length;have t:∀f∈fs,0<f.2:=λf hf=>(hg f hf).1;rw[show start Uz [ref a]=[some (.ref a),none,none]from rfl];(dsimp![Jb,gP,cZ,cB,cN,aY,aE,tC]);refine#[#[_,v],jI (K:=K) (a:=a) (xs:=map ref A) (g:=aY 2) (D:={ nx:=wP K (eQ Q),rt:=Q }) (jXw a H fs) ?_ ?_ ?_ ?_]
 .exact#[rfl,none,rfl,by show BB 1 1;unfold BB;decide]
 .rintro i O Y _ ⟨rfl,_⟩;exact v
 .rintro i x O Y hi ⟨rfl,o,rfl,bl⟩;obtain⟨p,rfl,hp⟩:=eC hi;obtain⟨f,C,s⟩:=hf.get hp;have c:=hg f (aJ C);have lp:0<lc (fs.take i):=jZc λf hf=>t f (mem_of_mem_take hf);obtain⟨w,_,_,_,X⟩:=jZb lp c.1;have e:=lc_snoc C;have R:i<fs.length:=(aI.mp C).1;have y:=c.2.2.of_le X;have d:f.2≠0:=Int.ne_of_gt c.1;have g0:0<Int.gcd (lc (fs.take i)) f.2:=Int.gcd_pos_of_ne_zero_right _ d;unfold lcf at e
  (try dsimp only[cN,aY,aE,tC,tOp,rI,fQ,jH,cC,aH,bE,eY,Lq0,Lq1,Ls0,Ls1,gD,gE,gC];try simp only[lD,cN,aY,aE,tC,tOp,rI,fQ,jH,cC,aH,bE,eY,Lq0,Lq1,Ls0,Ls1,Option.some.injEq,exists_eq_left',V.int.injEq,V.ref.injEq,List.cons.injEq,and_true,cS,exists_and_left,and_assoc,exists_eq_left,V.bl.injEq,true_and,gD,gE,gC,iA,lB,iZ])
  refine#[_,s,_,lA,_,s,_,lA,_,rfl,_,rfl,#[#[],c.2.2.gcd d],.b (m:=900001) (n:=9000) (bl.mono #[]) y,?_];rw[←e];refine#[rfl,_,rfl,?_];rw[e];exact(bl.mul y).mono #[]
 .rintro O Y ⟨rfl,o,rfl,bl⟩;rw[aA,hpl,bY]at bl⊢;(dsimp![wP,dH,cZ,aE,cX,aH,bE,iX]);refine#[#[_,v],dQ (K:=K) (a:=a) (xs:=map ref A) (jX4 Y fs) ?_ ?_ ?_ ?_ ?_]
  .rw[aA,hpl,sizeLine_eq];lia
  .exact#[rfl,by simp]
  .rintro i M u _ ⟨rfl,_⟩;exact v
  .rintro i x M u hi _ ⟨rfl,rfl⟩;obtain⟨p,rfl,hp⟩:=eC hi;obtain⟨f,C,s⟩:=hf.get hp;have c:=hg f (aJ C);obtain⟨k,hk⟩:=(Cl fs 1 (by decide) t).2.2.1 f (aJ C);have hk:lc fs=f.2*k:=hk;have d:f.2≠0:=Int.ne_of_gt c.1;have r:(lc fs).fdiv f.2=k:=by rw[hk];exact Int.mul_fdiv_cancel_left _ d
   have bk:BB (9000*fs.length+1) ((lc fs).fdiv f.2):=by
    refine bl.of_le ?_;rw[r,hk,cQ];exact Nat.le_mul_of_pos_left _ #[]
   (dsimp![Hn,dA,cA,cY,bJ,aE,tC,tOp,rI,fQ,jH,eY]);refine#[_,s,_,lX,_,s,_,lA,_,rfl,#[d,c.2.2],_,rfl,.b (m:=20000) (n:=900001) c.2.1 (bk.mono #[]),rfl,?_];show _=map int (List.take (i+1) (clr fs));rw[dO (jWX C),aV];rfl
  .rintro M u _ ⟨rfl,rfl⟩ l S;have F:(clr fs).length=fs.length:=by unfold clr;rw[aA]
   rw[aA,hpl,←F,bY];refine#[sz2,λp hp=>q l p _ ((aS.upd S).trans (aS.upd hp)) (aS.upd hp _ _ aL) aL]
def Zv:LS:=["row","told","number"]
def Am(K:aR):Sp:=λvs H Q _=>∃a ns,vs=[.ref a]/\SqL K H a (map int ns)/\Q (.int (gl ns)) H
def jVQ(a:Addr)(F:Hp)(ns:List Int):NS:=λi O Y=>Y=F/\∃o,O=[some (.ref a),some (.int (gl (ns.take i))),o]
def jJY(K:aR):TS:=(cB (cN (cC (lD K) [] E0 (aH (aE 1) (aH (aE 2) bE))) (aY 1)) (gA (dD (tOp rEq (aE 1) (tC (.int 1)))) (cX (aE 1)) eL))
def Ny(K:aR):TS:=(cB (cN (tC (.int 0)) (aY 1)) (cB (gP (cZ K (aE 0)) (aY 2) (jJY K)) (cX (aE 1))))
def jWu{K}:RdS K Am Ny Zv:=by
 rintro j H Q E ⟨a,ns,rfl,v,q⟩;rw[show start Zv [ref a]=[some (.ref a),none,none]from rfl];(dsimp![Ny,gP,cZ,cB,cN,aY,aE,tC,cX]);refine#[#[_,v],jI (K:=K) (a:=a) (xs:=map int ns) (g:=aY 2) (D:={ nx:=cX (aE 1) (eQ Q),rt:=Q }) (jVQ a H ns) ?_ ?_ ?_ ?_]
 .exact#[rfl,none,rfl]
 .rintro i O Y _ ⟨rfl,_⟩;exact v
 .rintro i x O Y hi ⟨rfl,o,rfl⟩;obtain⟨c,rfl,hc⟩:=fR hi;have e:=gl_snoc hc;unfold glf at e
  (try dsimp only[cB,cN,aY,aE,tC,tOp,rEq,iO,cX,gA,dD,eL,cC,aH,bE,Lq0,Lq1,Ls0,Ls1,gD,gE,gC];try simp only[lD,cB,cN,aY,aE,tC,tOp,rEq,iO,cX,gA,dD,eL,cC,aH,bE,Lq0,Lq1,Ls0,Ls1,Option.some.injEq,exists_eq_left',V.int.injEq,V.bl.injEq,List.cons.injEq,and_true,true_and,cS,exists_and_left,cT,and_assoc,exists_eq_left,V.ref.injEq,gD,gE,gC,iA,lB,iZ])
  rw[←e];refine mV (λh1=>?_) (λh1=>?_)
  .have e1:=gl_one h1;rw[h1];rwa [e1]at q
  .exact#[rfl,_,rfl]
 .rintro O Y ⟨rfl,o,rfl⟩;(dsimp![aE,tC,tOp,rI0,rNe,iO,cX,dD]);rwa [aA,bY]
def jWd:LS:=["row","common"]
def Oh(K:aR):Sp:=λvs H Q _=>∃a ns,vs=[.ref a]/\SqL K H a (map int ns)/\ns.length<=1000/\(∀n∈ns,BB 9000 n)/\∀l Z,aS H Z->H l=none->Z l=some (.lst (map int (uS ns)))->Q (.ref l) Z
noncomputable def jUp(F:Hp)(ns:List Int):Nat->List V->Hp->Prop:=λi ys Y=>Y=F/\ys=map int ((ns.take i).map λn=>n.fdiv (gl ns))
def Pi(K:aR):TE:=(tOp jH (aE 0) (aE 1))
def Vr(K:aR):TS:=(cB (cN (cC (Am K) [] E0 (aH (aE 0) bE)) (aY 1)) (cB (gA (dD (tOp kM (aE 1) (tC (.int 2)))) (cX (tCB (pN K) (aH (aE 0) bE))) eL) (cX (dH (cZ K (aE 0)) [1] (Pi K)))))
def jV0{K}:RdS K Oh Vr jWd:=by
 rintro j H Q E ⟨a,ns,rfl,v,hn,hb,q⟩;rw[show start jWd [ref a]=[some (.ref a),none]from rfl];(dsimp![Vr,dH,cZ,pN,cB,cN,aY,aE,tC,tOp,rI0,kM,cX,gA,dD,eL,cC,aH,bE,tCB,cS,cT]);refine#[_,_,rfl,v,_,rfl,mV (λh2=>?_) (λh2=>?_)]
 .refine#[_,.inl v,λl S=>q l _ (aS.upd S) S ?_];unfold uS;rw[aK h2];exact aL
 .refine#[#[_,v],dQ (K:=K) (a:=a) (xs:=map int ns) (jUp H ns) ?_ ?_ ?_ ?_ ?_]
  .rw[aA,sizeLine_eq];lia
  .exact#[rfl,rfl]
  .rintro i M Y _ ⟨rfl,_⟩;exact v
  .rintro i x M Y hi _ ⟨rfl,rfl⟩;obtain⟨c,rfl,hc⟩:=fR hi;(dsimp![Pi,dA,cA,cY,bJ,aE,tOp,rI,jH]);refine#[#[#[],jYU hb],rfl,?_];rw[dO hc];simp
  .rintro M Y _ ⟨rfl,rfl⟩ p hp;refine q p _ (aS.upd hp) hp ?_;rw[aA,bY];unfold uS;rw[aF h2];exact aL
def jWa:LS:=["row","made"]
def yB(K:aR):Sp:=λvs H Q _=>∃a ps fs,vs=[.ref a]/\SqL K H a (map ref ps)/\dC K H ps fs/\(∀f∈fs,G9 f)/\fs.length<=100/\(∀x∈clr fs,BB 9000 x)/\
 ∀r f l Z,aS H Z->Z r=some (.tup [.ref f,.ref l])->Z f=some (.tup [.int (whF fs).1,.int (whF fs).2])->Z l=some (.lst (map int (whL fs)))->Q (.ref r) Z
def Vp(K:aR):TS:=(cB (cN (cC (Dm K) [] E0 (aH (aE 0) bE)) (aY 1)) (cX (iX (aH (cC (mY K) [] E0 (aH (tOp (eY K) (aE 1) (tC (.int 0))) (aH (tCB cMax (aH (cC (Am K) [] E0 (aH (tOp (eY K) (aE 1) (tC (.int 1))) bE)) (aH (tC (.int 1)) bE))) bE))) (aH (cC (Oh K) [] E0 (aH (tOp (eY K) (aE 1) (tC (.int 1))) bE)) bE)))))
def jVx{K}:RdS K yB Vp jWa:=by
 rintro g H Q E ⟨a,A,fs,rfl,v,hf,hg,hn,hb,q⟩;rw[show start jWa [ref a]=[some (.ref a),none]from rfl];(dsimp![Vp,cMax,cB,cN,aY,aE,tC,tOp,cX,cC,aH,bE,iX,tCB,eY,cS]);refine#[_,_,_,rfl,v,hf,hg,hn,λl p U M S hp=>#[_,rfl,_,SqT.of hp,_,lX,_,rfl,_,SqT.of hp,_,lA,_,_,rfl,SqL.of S,_,rfl,?_]];have F:(clr fs).length=fs.length:=by unfold clr;rw[aA]
 have z:=uV (gl (clr fs));have e:BB 9000 (mx1 (gl (clr fs))):=by
  unfold mx1;split
  .show(1:Int).natAbs<2^9000;exact Nat.one_lt_two_pow (by decide)
  .exact jYU hb
 refine#[_,_,rfl,show mx1 (gl (clr fs))≠0 by lia,e,λx y f j d b lo=>?_];obtain⟨e1,C⟩:=lo.uniq z (eN z);have s:j f=some (.tup [.int (whF fs).1,.int (whF fs).2]):=by unfold whF;rw[←e1,←C];exact b
 refine#[_,rfl,_,SqT.of (d _ _ hp),_,lA,_,_,rfl,SqL.of (d _ _ S),#[],hb,λm Y N _ c=>?_];refine#[sz2,λr hr=>q r f m _ (((M.trans d).trans N).trans (aS.upd hr)) aL (aS.upd hr _ _ (N _ _ s)) (aS.upd hr _ _ c)]
def jWb:LS:=["one","other"]
def Ey(K:aR):Sp:=λvs H Q _=>∃p q a b c d,vs=[.ref p,.ref q]/\Tw K H p q a b c d/\0<b/\0<d/\BB 9000 (b*d)/\∀r Z,aS H Z->Z r=some (.tup [.int (lo2 (a*c) (b*d)).1,.int (lo2 (a*c) (b*d)).2])->Q (.ref r) Z
def Vq(K:aR):TS:=(cX (cC (mY K) [] E0 (aH (tOp fQ (tOp (eY K) (aE 0) (tC (.int 0))) (tOp (eY K) (aE 1) (tC (.int 0)))) (aH (tOp fQ (tOp (eY K) (aE 0) (tC (.int 1))) (tOp (eY K) (aE 1) (tC (.int 1)))) bE))))
def jVy{K}:RdS K Ey Vq jWb:=by
 rintro j H Q E ⟨p,q,a,b,c,d,rfl,⟨hp,F,ba,bb,bc,f⟩,A,d0,e,k⟩;rw[show start jWb [ref p,ref q]=[some (.ref p),some (.ref q)]from rfl];(dsimp![Vq,aE,tC,tOp,rI,fQ,cX,cC,aH,bE,eY,cS]);refine#[_,hp,_,lX,_,F,_,lX,_,rfl,_,rfl,.b ba bc,_,hp,_,lA,_,F,_,lA,_,rfl,_,rfl,.b bb f,?_];have z:0<b*d:=bK A d0;refine#[_,_,rfl,#[],e,λx y r Z s h l=>k r Z s ?_];obtain⟨e1,C⟩:=l.uniq z (eN z);rw[←e1,←C];exact h
def Ug:LS:=["row"]
def vB(K:aR):Sp:=λvs H Q _=>∃a ns,vs=[.ref a]/\SqL K H a (map int ns)/\ns≠[]/\ns.length<=200/\∀(M:Nat) H',aS H H'->(∀n∈ns,ib n<=M)->(∃n∈ns,ib n=M)->Q (.int M) H'
def Fz(K:aR):TE:=(tBM0 K "int" Yc (aE 0))
def Ij(K:aR):TS:=(cX (tCB (Yj K) (aH (dH (cZ K (aE 0)) [] (Fz K)) bE)))
def jZu{K}:RdS K vB Ij Ug:=by
 rintro j H Q E ⟨a,ns,rfl,ha,ne,F,q⟩;rw[show start Ug [ref a]=[some (.ref a)]from rfl];(dsimp?[Ij,dH,cZ,Yj]);refine#[#[_,ha],dQ (K:=K) (a:=a) (xs:=map int ns) (λi J Y=>Y=H/\J=map int ((ns.take i).map λn=>(ib n:Int))) (by rw[aA,sizeLine_eq];lia) #[rfl,rfl] ?_ ?_ ?_]
 .rintro i J Y _ ⟨rfl,_⟩;exact ha
 .rintro i x J Y hi _ ⟨rfl,rfl⟩;obtain⟨n,rfl,hn⟩:=fR hi;(dsimp?[Fz,tBM0,Yc]);refine#[rfl,?_];rw[dO hn,aV,aV];rfl
 .rintro J Y _ ⟨rfl,rfl⟩ p hp;rw[aA,bY];refine#[_,SqL.of aL,λz=>ne (map_eq_nil_iff.mp z),λM c G=>?_];obtain⟨n,hn,rfl⟩:=cM.mp c;refine q (ib n) _ (aS.upd hp) (λm hm=>?_) #[n,hn,rfl];have:=G _ (cM.mpr #[m,hm,rfl]);lia
def Lk:LS:=["rows","place"]
def kJ(K:aR):Sp:=λvs H Q _=>∃a ps B,∃k:Int,∃c:Nat,vs=[.ref a,.int k]/\SqL K H a (map ref ps)/\eA H ps B/\B.length<=200/\(∀r∈B,atI (map int r) k=some (.int (r.getD c 0)))/\∀l Z,aS H Z->H l=none->Z l=some (.lst (map int (B.map λr=>r.getD c 0)))->Q (.ref l) Z
def zS(K:aR):TE:=(tOp (gB K) (aE 0) (aE 1))
def zA(K:aR):TS:=(cX (dH (cZ K (aE 0)) [1] (zS K)))
def Xh{K}:RdS K kJ zA Lk:=by
 rintro j H Q E ⟨a,A,B,k,c,rfl,v,hr,hn,hc,q⟩;have hpl:=hr.length;rw[show start Lk [ref a,int k]=[some (.ref a),some (.int k)]from rfl];(dsimp![zA,dH,cZ,aE,cX]);refine#[#[_,v],dQ (K:=K) (a:=a) (xs:=map ref A) (WEq H λi J=>J=map int ((B.take i).map λr=>r.getD c 0)) ?_ #[rfl,rfl] ?_ ?_ ?_]
 .rw[aA,sizeLine_eq];lia
 .rintro i M Y _ ⟨rfl,_⟩;exact v
 .rintro i x M Y hi _ ⟨rfl,rfl⟩;obtain⟨p,rfl,hp⟩:=eC hi;obtain⟨r,n,d⟩:=hr.get hp;(dsimp![zS,dA,cA,cY,bJ,aE,tOp,gB]);refine#[_,SqL.of d,_,hc r (aJ n),rfl,?_];show _=map int ((B.take (i+1)).map λr=>r.getD c 0);rw[dO n,aV,aV];rfl
 .rintro M Y _ ⟨rfl,rfl⟩ l S;rw[aA,hpl,bY];exact q l _ (aS.upd S) S aL
def N_span:LS:=["column"]
def Ma(K:aR):Sp:=λvs H Q _=>∃a ns,vs=[.ref a]/\SqL K H a (map int ns)/\ns.length<=200/\(∀n∈ns,BB 20000 n)/\∀n Z,aS H Z->BB 30000 n->Q (.int n) Z
def Sc(K:aR):TE:=(tCB Hx (aH (aE 0) bE))
def jJ2(K:aR):TS:=(cX (tOp hV (tC (.int 1)) (tCB (cSum K) (aH (dH (cZ K (aE 0)) [] (Sc K)) bE))))
def rd_span{K}:RdS K Ma jJ2 N_span:=by
 rintro j H Q E ⟨a,ns,rfl,v,hn,hb,q⟩;rw[show start N_span [ref a]=[some (.ref a)]from rfl];(dsimp![jJ2,dH,cZ,cSum,aE,tC,tOp,rI0,hV,cX,aH,bE,tCB]);refine#[#[_,v],dQ (K:=K) (a:=a) (xs:=map int ns) (WEq H λi J=>J=map int ((ns.take i).map λn=>(n.natAbs:Int))) ?_ #[rfl,rfl] ?_ ?_ ?_]
 .rw[aA,sizeLine_eq];lia
 .rintro i M Y _ ⟨rfl,_⟩;exact v
 .rintro i x M Y hi _ ⟨rfl,rfl⟩;obtain⟨c,rfl,hc⟩:=fR hi;(dsimp![Sc,jZj,aE,aH,bE,tCB,Hx]);refine#[rfl,?_];show _=map int ((ns.take (i+1)).map λn=>(n.natAbs:Int));rw[dO hc,aV,aV];rfl
 .rintro M Y _ ⟨rfl,rfl⟩ l S;rw[aA,bY];refine#[_,SqL.of aL,q _ _ (aS.upd S) ?_];have h1:=jJ7 (l:=ns.map λn=>(n.natAbs:Int)) (p:=20000) λx hx=>by
   obtain⟨n,hm,rfl⟩:=cM.mp hx;have:=hb n hm;unfold BB at this⊢;rwa [Int.natAbs_natCast]
  rw[aA]at h1;have one:BB (20000+ns.length) 1:=by show(1:Int).natAbs<2^_;exact Nat.one_lt_two_pow #[]
  exact(one.add h1).mono #[]
def N_unit:LS:=["many","place"]
def Vy(K:aR):Sp:=λvs H Q _=>∃n k:Nat,vs=[.int n,.int k]/\n<=200/\∀l Z,aS H Z->H l=none->Z l=some (.lst (map int (ofF n λr=>if r=k then 1 else 0)))->Q (.ref l) Z
def Sa(K:aR):TE:=(tIf (dD (tOp rEq (aE 0) (aE 1))) (tC (.int 1)) (tC (.int 0)))
def jJ1(K:aR):TS:=(cX (dH (iJ (aH (aE 0) bE)) [1] (Sa K)))
def rd_unit{K}:RdS K Vy jJ1 N_unit:=by
 rintro j H Q E ⟨n,k,rfl,hn,q⟩;rw[show start N_unit [int n,int k]=[some (.int n),some (.int k)]from rfl];(dsimp![jJ1,dH,iJ,aE,cX,aH,bE]);refine#[#[],#[],kH (lo:=0) (W:=WEq H λi J=>J=map int (ofF i λr=>if r=k then 1 else 0)) (by rw[sizeLine_eq];lia) #[rfl,rfl] ?_ ?_]
 .rintro i M Y _ _ ⟨rfl,rfl⟩;(dsimp![Sa,tIf,dA,cA,cY,bJ,aE,tC,tOp,rEq,iO,dD,cT]);refine mV (λh=>#[rfl,?_]) (λh=>#[rfl,?_])
  .show _=map int (ofF (i+1) λr=>if r=k then 1 else 0);have:i=k:=#[];rw[fN,aV,aK this];rfl
  .show _=map int (ofF (i+1) λr=>if r=k then 1 else 0);have:¬i=k:=#[];rw[fN,aV,aF this];rfl
 .rintro M Y _ ⟨rfl,rfl⟩ l S;rw[bW];exact q l _ (aS.upd S) S aL
def Cb:LS:=["self","lists"]
def kC(K:aR):Sp:=λvs H Q _=>∃t w r g L,vs=[.ref t,.ref r]/\H t=some (.ins (dY K "Corner") w [])/\xG H r g L/\L.Lim/\L.fl=false/\
 ∀ins Z,H ins=none->Sb t H Z->iV K Z t ins L L.ins0->Q .non Z
def uJ(K:aR):TE:=(tOp hV (tCB (iD K) (aH (gW K (aE 1) "begun") bE)) (aE 0))
def uD(K:aR):TS:=(xK K (aE 0) (dH (iJ (aH (tOp jQ (tCB (iD K) (aH (aE 1) bE)) (tC (.int 1))) bE)) [0] (uJ K)) "inside")
def uI(K:aR):TE:=(tOp uQ (cC (Vy K) [] E0 (aH (tCB (iD K) (aH (aE 2) bE)) (aH (aE 0) bE))) (nO (aH (tOp (gB K) (aE 1) (tUn iU (tC (.int 1)))) bE)))
def uE(K:aR):TG:=(jR K 2 (dZ (aY 0) (dZ (aY 1) jS)))
def uC(K:aR):TS:=(cB (xK K (aE 0) (iI (xS K (aE 1)) 2 [1] (uE K) (uI K)) "kept") (uD K))
def uH(K:aR):TE:=(cC (Ma K) [] E0 (aH (tSl (uP K) (aE 0) iE (mQ (tUn iU (tC (.int 1))))) bE))
def uG(K:aR):TE:=(cC (Ma K) [] E0 (aH (nO (aH (tC (.int 1)) bE)) bE))
def uA(K:aR):TS:=(cB (xK K (aE 0) (tOp uQ (dH (cZ K (gW K (aE 0) "begun")) [] (uH K)) (dH (cZ K (tSl (uP K) (aE 1) iE (mQ (tUn iU (tC (.int 1)))))) [] (uG K))) "spans") (uC K))
def uF(K:aR):TE:=(cC (kJ K) [] E0 (aH (aE 1) (aH (aE 0) bE)))
def sQ(K:aR):TS:=(cB (xK K (aE 0) (dH (iJ (aH (tOp jQ (tCB (iD K) (aH (tOp (gB K) (aE 1) (tC (.int 0))) bE)) (tC (.int 1))) bE)) [1] (uF K)) "begun") (uA K))
def jUq(L:Lpd)(Z:j<L.n):(ofF (L.m+1) L.rowL).map (λr=>r.getD j 0)=L.colL j:=by
 unfold Lpd.colL;have e:(ofF (L.m+1) L.rowL).map (λr=>r.getD j 0)=ofF (L.m+1) λi=>(L.rowL i).getD j 0:=by unfold ofF;rw[List.map_map];rfl
 rw[e];exact jF λi _=>iQ (L.rowL_get i Z)
def xG.sb{t:Addr}{g:List Addr}{L:Lpd}(h:xG H a g L)(s:Sb t H Z)(i:IsI H t):xG Z a g L:=#[s.lst i h.ha,s.rws i h.hr]
def Rp(xs:List V)(m:Nat)(h:xs.length=m+1):(mW xs none (some (-1))).length=m:=by rw[Fj,cR];lia
def oc2(h:m<=100):m+1<=16777216:=#[]
def oc3(h:m<=100):m+1+1<=16777216:=#[]
def oc7(h:m<=100):-(2^62)<=(m:Int)/\(m:Int)<2^62:=#[]
def oc8{a b n:Nat}(h1:a=n)(h2:b=m)(O:m<=100)(t:n<=100):a+b<=16777216:=#[]
def oc9(h:m<=100):m<=16777216:=#[]
def oc10:((m+1:Nat):Int)-1=(m:Int):=#[]
def oc12(h:m<=100):m+1<=200:=#[]
def Qq{K vs H Q E}(C:xJ K)(h:kC K vs H Q E):sQ K (eQ Q) (start Cb vs) H:=by
 obtain⟨t,w,r,g,L,rfl,y,R,lim,fl,q⟩:=h;have rl:=R.len;have m1:=lim.m1;have n1:=lim.n1;have hI:IsI H t:=#[_,_,_,y];rw[show start Cb [ref t,ref r]=[some (.ref t),some (.ref r)]from rfl];obtain⟨p0,f7,e7⟩:=R.row (dW L.m);(dsimp?[sQ,xK,dH,iJ]);refine#[_,SqL.of R.ha,ref p0,fD (j:=0) (by rw[aX,f7];rfl),p0,rfl,_,.inl (SqL.of e7),?_];rw[aA,Lpd.rowL_length,oc10,bW];refine#[(oc7 n1).1,(oc7 n1).2,kH (lo:=0) (W:=λi J Y=>aS H Y/\∃D,J=map ref D/\eA Y D (ofF i L.colL)) (by rw[sizeLine_eq];exact oc9 n1) #[aS.refl _,[],rfl,trivial] ?_ ?_]
 .rintro i M Y hi _ ⟨N,f8,rfl,hc⟩;(dsimp?[uF,dA,cA,cY,bJ]);refine#[r,g,_,0+(i:Int),i,rfl,SqL.of (N _ _ R.ha),(R.same N).hr,by rw[bH];exact oc12 m1,λrow a4=>?_,λl u X S f9=>#[N.trans X,f8++[l],by rw[aV];rfl,?_]]
  .obtain⟨k,hk,rfl⟩:=lO a4;rw[eS];exact lC (by rw[Lpd.rowL_length];lia)
  .rw[fN];exact eA.snoc (hc.same X) (by rw[f9,jUq L hi])
 .rintro M Y _ ⟨N,D,rfl,e8⟩ bl d6;have X:=N.trans (aS.upd (o:=lst (map ref D)) d6);have b2:=e8.same (aS.upd (o:=lst (map ref D)) d6);have c2:(upd Y bl (.lst (map ref D))) bl=some (.lst (map ref D)):=aL;generalize upd Y bl (.lst (map ref D))=u at X b2 c2;clear N e8 d6;have d7:D.length=L.n:=by rw[b2.length,bH]
  have t4:u t=some (.ins (dY K "Corner") w []):=X _ _ y;have I4:IsI u t:=#[_,_,_,t4];refine#[_,_,_,t4,C.cl,C.nb,by show 0<1000;decide,?_];have b5:Sb t u (upd u t (.ins (dY K "Corner") w (gY "begun" (.ref bl) []))):=Sb.at;have t5:(upd u t (.ins (dY K "Corner") w (gY "begun" (.ref bl) []))) t=some (.ins (dY K "Corner") w (gY "begun" (.ref bl) [])):=aL;generalize upd u t (.ins (dY K "Corner") w (gY "begun" (.ref bl) []))=G at b5 t5;have d8:Sb t H G:=(Sb.of X).trans b5;have I5:IsI G t:=#[_,_,_,t5];have c3:=b5.rws I4 b2;have b3:=b5.lst I4 c2;have R5:=R.sb d8 hI;clear b5 X t4 I4 b2 c2 e7;(dsimp?[uA,xK,dH,cZ,uQ,gW]);refine#[_,_,_,t5,C.cl,C.nb,_,rfl,bl,rfl,#[_,SqL.of b3],dQ (K:=K) (a:=bl) (xs:=map ref D) (λi J Y=>aS G Y/\∃v:List Int,J=map int v/\v.length=i/\∀x∈v,BB 30000 x) ?_ #[aS.refl _,[],rfl,rfl,(λ_ h=>nomatch h)] ?_ ?_ ?_]
  .rw[aA,d7,sizeLine_eq];exact oc9 n1
  .rintro i J Y _ ⟨N,_⟩;exact N.seq (SqL.of b3)
  .rintro i x J Y hi _ ⟨N,v,rfl,sl,sb⟩;obtain⟨z,rfl,f⟩:=eC hi;obtain⟨row,er,a4⟩:=c3.get f;obtain⟨g1,rfl⟩:=gM er;(dsimp?[uH,uP]);refine#[_,N.seq (SqL.of a4),λzc g3=>?_];have ec:mW (map int (L.colL i)) none (some (-1))=map int ((L.colL i).take ((L.colL i).length-1)):=by rw[Fj,aA,map_take]
   rw[ec];refine#[zc,_,rfl,SqL.of aL,?_,λx hx=>?_,λn H6 B bn=>#[(N.trans (aS.upd g3)).trans B,v++[n],by rw[aV];rfl,by rw[bF,sl];rfl,λx hx=>?_]]
   .unfold Lpd.colL;rw[cR,bH];exact dE (Nat.min_le_right _ _) (oc12 m1)
   .obtain⟨k,hk,rfl⟩:=lO (mem_of_mem_take hx);exact lim.ba _ _ g1 (Nat.le_of_lt_succ hk)
   .rcases cW.mp hx with hx |hx
    .exact sb x hx
    .rw[cJ.mp hx];exact bn
  .rintro J Y _ ⟨N,v,rfl,sl,sb⟩ l1 c9;rw[aA,d7]at sl;have B:=N.trans (aS.upd (o:=lst (map int v)) c9);have c:(upd Y l1 (.lst (map int v))) l1=some (.lst (map int v)):=aL;generalize upd Y l1 (.lst (map int v))=H6 at B c;refine#[_,SqL.of (B _ _ R5.ha),λlc d9=>?_];have e0:=Rp (map ref g) L.m (by rw[aA];exact rl);generalize mW (map ref g) none (some (-1))=A at e0;have e2:=B.trans (aS.upd (o:=lst A) d9);have d1:(upd H6 lc (lst A)) lc=some (lst A):=aL;have c4:=aS.upd (o:=lst A) d9 _ _ c;generalize upd H6 lc (lst A)=g4 at e2 d1 c4;refine#[#[_,SqL.of d1],dQ (K:=K) (a:=lc) (xs:=A) (λi J Y=>aS g4 Y/\∃v:List Int,J=map int v/\v.length=i/\∀x∈v,BB 30000 x) ?_ #[aS.refl _,[],rfl,rfl,(λ_ h=>nomatch h)] ?_ ?_ ?_]
   .rw[e0,sizeLine_eq];exact oc9 m1
   .rintro i J P _ ⟨T,_⟩;exact T.seq (SqL.of d1)
   .rintro i x J P hi _ ⟨T,d,rfl,b6,d2⟩;(dsimp?[uG]);refine#[sz1,λl2 O=>#[_,[1],rfl,SqL.of aL,by decide,λn hn=>by rw[cJ.mp hn];show(1:Int).natAbs<2^20000;exact Nat.one_lt_two_pow (by decide),λn H8 F bn=>#[(T.trans (aS.upd O)).trans F,d++[n],by rw[aV];rfl,by rw[bF,b6];rfl,λx hx=>?_]]];rcases cW.mp hx with hx |hx
    .exact d2 x hx
    .rw[cJ.mp hx];exact bn
   .rintro J P _ ⟨T,d,rfl,b6,d2⟩ l2 O;rw[e0]at b6;refine#[_,aS.upd O _ _ (T _ _ c4),_,aL,by rw[aA,aA,sizeLine_eq];exact oc8 sl b6 m1 n1,λZ e9=>?_];have F:=(e2.trans (T.trans (aS.upd (o:=lst (map int d)) O))).trans (aS.upd (o:=lst (map int v++map int d)) e9);have b4:(upd (upd P l2 (.lst (map int d))) Z (.lst (map int v++map int d))) Z=some (.lst (map int (v++d))):=by rw[aL,aV]
    generalize upd (upd P l2 (.lst (map int d))) Z (.lst (map int v++map int d))=H8 at F b4;clear B c T O e9 N c9 e2 d1 c4 d9;have f1:∀x∈v++d,BB 30000 x:=λx hx=>by
     rcases cW.mp hx with hx |hx
     .exact sb x hx
     .exact d2 x hx
    have f2:(v++d).length=L.n+L.m:=by rw[bF,sl,b6]
    generalize v++d=g5 at f1 f2 b4;clear sb d2 sl b6;have t8:=F _ _ t5;have I8:IsI H8 t:=#[_,_,_,t8];refine#[_,_,_,t8,C.cl,C.ns,by show 1<1000;decide,?_];have b9:Sb t H8 (upd H8 t (.ins (dY K "Corner") w (gY "spans" (.ref Z) (gY "begun" (.ref bl) [])))):=Sb.at;have t9:(upd H8 t (.ins (dY K "Corner") w (gY "spans" (.ref Z) (gY "begun" (.ref bl) [])))) t=some (.ins (dY K "Corner") w (gY "spans" (.ref Z) (gY "begun" (.ref bl) []))):=aL;generalize upd H8 t (.ins (dY K "Corner") w (gY "spans" (.ref Z) (gY "begun" (.ref bl) [])))=H9 at b9 t9;have e3:Sb t H H9:=d8.trans ((Sb.of F).trans b9);have I9:IsI H9 t:=#[_,_,_,t9];have d3:=b9.rws I8 (c3.same F);have d4:=b9.lst I8 (F _ _ b3);have d5:=b9.lst I8 b4;have R9:=R.sb e3 hI;clear b9 F I8 t8 c3 b3 d8 I5 t5 b4 R5;(dsimp?[uC,xK,iI,xS,uQ]);refine#[#[_,SqL.of R9.ha],jX7 (K:=K) (a:=r) (xs:=map ref g) (λi J Y=>aS H9 Y/\∃a1,J=map ref a1/\eA Y a1 (ofF i (L.keptL L.ins0))) ?_ #[aS.refl _,[],rfl,trivial] ?_ ?_ ?_]
    .rw[aA,rl,sizeLine_eq];exact oc2 m1
    .rintro i J Y _ ⟨N,_⟩;exact N.seq (SqL.of R9.ha)
    .rintro i x p J Y hi _ ⟨N,a1,rfl,c5⟩ hp os ho;obtain⟨z,rfl,f⟩:=eC hi;obtain⟨im,a4⟩:=(R9.same N).inv f;obtain⟨o1,U,rfl⟩:∃o1 U,os=[o1,U]:=by
      match os,ho with
      | [o1,U],_=>exact#[o1,U,rfl]
     have X:=aS.upd (o:=tup [.int i,.ref z]) hp;(dsimp?[uE,uI,uQ,dA,cA,cY,bJ]);refine#[_,SqT.of aL,rfl,_,_,rfl,_,_,rfl,rfl,#[[some (.int i),some (.ref z)],rfl,rfl],_,.inl ((N.trans X).seq (SqL.of R9.ha)),?_];rw[aA,rl];refine#[L.m+1,i,rfl,oc12 m1,λl1 u I _ c9=>?_];have la:atI (map int (L.rowL i)) (-1)=some (.int (L.be i)):=yM (by rw[aA,Lpd.rowL_length,aX,Nat.add_sub_cancel,L.rowL_last];rfl);refine#[z,rfl,_,SqL.of ((X.trans I) _ _ a4),_,la,sz1,λl2 O=>#[l1,rfl,_,aS.upd O _ _ c9,_,aL,by rw[aA,bH,sizeLine_eq];exact oc3 m1,λl3 f3=>?_]];refine#[(((N.trans X).trans I).trans (aS.upd O)).trans (aS.upd f3),a1++[l3],by rw[aV];rfl,?_];rw[fN i (L.keptL L.ins0)];refine eA.snoc ((((c5.same X).same I).same (aS.upd O)).same (aS.upd f3)) ?_;rw[aL];unfold Lpd.keptL;rw[Lpd.T_start fl (Nat.lt_succ_of_le im),aV]
     congr 3
     show _=_
     congr 1
     refine jF λk hk=>?_;rw[Lpd.T_start fl (Nat.lt_succ_of_le im)];unfold e1;by_cases e:i=k
     .rw[aK e.symm,aK e]
     .rw[aF (Ne.symm e),aF e]
    .rintro J Y _ ⟨N,a1,rfl,c5⟩ kl b;rw[aA,rl]at c5;have s:=N.trans (aS.upd (o:=lst (map ref a1)) b);have a6:=c5.same (aS.upd (o:=lst (map ref a1)) b);have a7:(upd Y kl (.lst (map ref a1))) kl=some (.lst (map ref a1)):=aL;generalize upd Y kl (.lst (map ref a1))=c6 at s a6 a7;have e4:=s _ _ t9;have b7:IsI c6 t:=#[_,_,_,e4];refine#[_,_,_,e4,C.cl,C.nk,by show 2<1000;decide,?_];have a5:Sb t c6 (upd c6 t (.ins (dY K "Corner") w (gY "kept" (.ref kl) (gY "spans" (.ref Z) (gY "begun" (.ref bl) []))))):=Sb.at;have b8:(upd c6 t (.ins (dY K "Corner") w (gY "kept" (.ref kl) (gY "spans" (.ref Z) (gY "begun" (.ref bl) []))))) t=some (.ins (dY K "Corner") w (gY "kept" (.ref kl) (gY "spans" (.ref Z) (gY "begun" (.ref bl) [])))):=aL;generalize upd c6 t (.ins (dY K "Corner") w (gY "kept" (.ref kl) (gY "spans" (.ref Z) (gY "begun" (.ref bl) []))))=e5 at a5 b8;have c7:Sb t H e5:=e3.trans ((Sb.of s).trans a5);have f4:IsI e5 t:=#[_,_,_,b8];have a8:=a5.rws b7 (d3.same s);have a3:=a5.lst b7 (s _ _ d4);have a9:=a5.lst b7 (s _ _ d5);have b0:=a5.rws b7 a6;have b1:=a5.lst b7 a7;have g6:=R.sb c7 hI;clear a5 s b7 e4 d3 d4 d5 c5 a6 a7 N e3 t9 I9 R9 b;(dsimp?[uD,xK,dH,iJ]);refine#[_,.inl (SqL.of g6.ha),?_];rw[aA,rl,oc10,bW];refine#[(oc7 m1).1,(oc7 m1).2,kH (lo:=0) (W:=WEq e5 λi J=>J=map int (ofF i λi=>((L.ins0 i:Nat):Int))) (by rw[sizeLine_eq];exact oc9 m1) #[rfl,rfl] ?_ ?_]
     .rintro i J c8 hi _ ⟨rfl,rfl⟩;(dsimp?[uJ,gW,dA,cA,cY,bJ]);refine#[_,_,_,b8,C.cl,C.nb,_,rfl,bl,rfl,_,.inl (SqL.of a3),rfl,?_];show _=map int (ofF (i+1) λi=>((L.ins0 i:Nat):Int));rw[fN,aV,aA,d7]
      congr 3
      unfold Lpd.ins0;show(L.n:Int)+(0+(i:Int))=((L.n+i:Nat):Int);lia
     .rintro J c8 _ ⟨rfl,rfl⟩ ins a2;have f5:=aS.upd (o:=lst (map int (L.insL L.ins0))) a2;have g7:(upd c8 ins (.lst (map int (L.insL L.ins0)))) ins=some (.lst (map int (L.insL L.ins0))):=aL;have f6:ins≠t:=λe=>by rw[e,b8]at a2;cases a2
      have e6:H ins=none:=c7.free a2 f6;show ∃x g8 g9,upd c8 ins (.lst (map int (L.insL L.ins0))) t=some (HO.ins x g8 g9)/\_;have h0:=f5 _ _ b8;have nb:∀{a:Addr}{o:HO},c8 a=some o->a≠ins:=λe z=>by rw[z,a2]at e;cases e
      have nt:∀{a:Addr}{xs:List V},c8 a=some (.lst xs)->a≠t:=λe=>kT e b8 (by intro z;cases z);refine#[_,_,_,h0,C.cl,C.ni,by show 3<1000;decide,q ins _ e6 ((c7.trans (Sb.of f5)).trans Sb.at) #[w,bl,Z,kl,D,g5,a1,?_,?_,?_,?_,f2,f1,?_,?_,?_]]
      .rw[aL];rfl
      .rw[nT (.inl rfl),nT (.inr rfl)];exact xR a3 (nt a3) (nb a3)
      .rw[nT (.inl rfl),nT (.inr rfl)];exact a8.mn (a8.notI f4) (a8.notN a2)
      .rw[nT (.inl rfl),nT (.inr rfl)];exact xR a9 (nt a9) (nb a9)
      .rw[nT (.inl rfl),nT (.inr rfl)];exact xR b1 (nt b1) (nb b1)
      .rw[nT (.inl rfl),nT (.inr rfl)];exact b0.mn (b0.notI f4) (b0.notN a2)
      .rw[bZ f6];exact g7
def sU:LS:=["column","longs"]
def qX(K:aR):Sp:=λvs H Q _=>∃a b xs ls,vs=[.ref a,.ref b]/\SqL K H a (map int xs)/\SqL K H b (map int ls)/\xs.length=ls.length/\xs.length<=200/\∀(w:Int) H',aS H H'->(∀(i:Nat) x l,xs[i]?=some x->ls[i]?=some l->x≠0->(ib x:Int)-l<=w)->(w=0∨∃(i:Nat)(x l:Int),xs[i]?=some x/\ls[i]?=some l/\w=(ib x:Int)-l)->Q (.int w) H'
def tW(K:aR):TE:=(tOp jQ (tBM0 K "int" Yc (aE 0)) (aE 1))
def tV(K:aR):TG:=(jR K 2 (dZ (aY 0) (dZ (aY 1) jS)))
def sN(K:aR):TS:=(cX (tMaxD K (aH (Vv (nL K (aH (aE 0) (aH (aE 1) bE))) 2 [] (tV K) (dD (tOp rNe (aE 0) (tC (.int 0)))) (tW K)) bE) (tC (.int 0))))
def Qn{K}:RdS K qX sN sU:=by
 rintro j H Q E ⟨a,b,T,ls,rfl,ha,hb,g,F,q⟩;rw[show start sU [ref a,ref b]=[some (.ref a),some (.ref b)]from rfl];(dsimp?[sN,Vv,nL,tMaxD]);refine#[#[_,ha],#[_,hb],jX8 (K:=K) (a:=a) (b:=b) (xs:=map int T) (ys:=map int ls) (λi J Y=>aS H Y/\∃ns:List Int,J=map int ns/\(∀n∈ns,∃(k:Nat)(x l:Int),T[k]?=some x/\ls[k]?=some l/\n=(ib x:Int)-l)/\∀(k:Nat) x l,k<i->T[k]?=some x->ls[k]?=some l->x≠0->(ib x:Int)-l∈ns) (by rw[aA,sizeLine_eq];lia) (by rw[aA,aA];exact g) #[aS.refl _,[],rfl,(λ_ h=>nomatch h),λk x l h=>absurd h (eU _)] ?_ ?_ ?_]
 .rintro i J Y _ ⟨N,_⟩;exact#[N.seq ha,N.seq hb]
 .rintro i x y p J Y hx hy _ ⟨N,ns,rfl,n1,n2⟩ hp os ho;obtain⟨u,rfl,hu⟩:=fR hx;obtain⟨l,rfl,S⟩:=fR hy;obtain⟨R,U,rfl⟩:∃R U,os=[R,U]:=by
   match os,ho with
   | [R,U],_=>exact#[R,U,rfl]
  have X:=N.trans (aS.upd (o:=tup [.int u,.int l]) hp);(dsimp?[tV,tW,tBM0,Yc,dA,cA,cY,bJ]);refine#[_,SqT.of aL,rfl,_,_,rfl,_,_,rfl,rfl,#[[some (.int u),some (.int l)],rfl,rfl],rfl,?_];have r:∀n∈ns,∃(k:Nat)(x:Int),T[k]?=some x/\∃l:Int,ls[k]?=some l/\n=(ib x:Int)-l:=λn hn=>let⟨k,x,l,e1,C,P⟩:=n1 n hn;#[k,x,e1,l,C,P];by_cases d:u=0
  .rw[decide_eq_true (by rw[d]:int u=int 0)];refine Dz #[X,ns,rfl,r,λk x f hk e1 C D=>?_];by_cases e:k=i
   .subst e;rw[hu]at e1;exact absurd ((aU e1).symm.trans d) D
   .exact n2 k x f #[] e1 C D
  .rw[decide_eq_false (λz=>d (by injection z):¬int u=int 0)];refine Mv #[rfl,u,rfl,l,rfl,X,ns++[(ib u:Int)-l],by rw[aV];rfl,λn hn=>?_,λk x f hk e1 C hx=>?_]
   .rcases cW.mp hn with h |h
    .exact r n h
    .exact#[i,u,hu,l,S,cJ.mp h]
   .by_cases e:k=i
    .subst e;rw[hu]at e1;rw[S]at C;obtain rfl:=aU e1;obtain rfl:=aU C;exact dB _ (cJ.mpr rfl)
    .exact iF _ (n2 k x f #[] e1 C hx)
 .rintro J Y ⟨N,ns,rfl,n1,n2⟩ p hp;rw[aA]at n2;have X:=N.trans (aS.upd (o:=lst (map int ns)) hp);have lt:∀{k:Nat}{x:Int},T[k]?=some x->k<T.length:=λe=>(aI.mp e).1;refine#[ns,SqL.of aL,λz=>q 0 _ X (λk x l e1 C hx=>?_) (.inl rfl),λ_ M c G=>q M _ X (λk x l e1 C hx=>G _ (n2 k x l (lt e1) e1 C hx)) ?_]
  .have:=n2 k x l (lt e1) e1 C hx;rw[z]at this;exact nomatch this
  .obtain⟨k,x,l,e1,C,P⟩:=n1 M c;exact .inr #[k,x,l,e1,C,P]
def Ht:LS:=["number","bits"]
def sR(K:aR):Sp:=λvs H Q _=>∃n b,vs=[.int n,.int b]/\0<=n/\ib n<=20000/\-1000000<=b/\b<=1000000/\∀r,Vd n b r->Q (.int r) H
def vM(K:aR):TS:=(cB (gA (dD (tOp kM (aE 0) (tC (.int 0)))) iN eL) (cX (tIf (dD (tOp Aw (aE 1) (tC (.int 0)))) (tOp rShl (aE 0) (aE 1)) (tOp rShr (aE 0) (tUn iU (aE 1))))))
def Rh{K}:RdS K sR vM Ht:=by
 rintro j H Q E ⟨n,b,rfl,D,hi,t,I,q⟩;rw[show start Ht [int n,int b]=[some (.int n),some (.int b)]from rfl];(dsimp?[vM,tIf,rShl,rShr]);rw[aF #[]];refine mV (λh=>#[#[#[],by show(ib n:Int)+b<=_;lia],q _ (str_up #[] D)]) (λh=>#[#[],q _ ?_]);have:=Yt (n:=n) (b:=-b) #[] D;rwa [Int.neg_neg]at this
def Le:LS:=["number","bits"]
def wR(K:aR):Sp:=λvs H Q _=>∃n b,vs=[.int n,.int b]/\ib n<=20000/\-1000000<=b/\b<=1000000/\∀r,Vd n b r->Q (.int r) H
def yQ(K:aR):TS:=(cB (gA (dD (tOp kM (aE 0) (tC (.int 0)))) (cX (tUn iU (cC (sR K) [] E0 (aH (tUn iU (aE 0)) (aH (aE 1) bE))))) eL) (cX (tIf (dD (tOp Aw (aE 1) (tC (.int 0)))) (tOp rShl (aE 0) (aE 1)) (tOp rShr (aE 0) (tUn iU (aE 1))))))
def Xc{K}:RdS K wR yQ Le:=by
 rintro j H Q E ⟨n,b,rfl,hi,t,I,q⟩;rw[show start Le [int n,int b]=[some (.int n),some (.int b)]from rfl];(dsimp?[yQ,tIf,rShl,rShr]);refine mV (λh=>#[-n,b,rfl,#[],by rw[ib_neg];exact hi,t,I,λr hr=>#[r,rfl,q _ (str_neg hr h)]]) (λh=>?_);refine mV (λh=>#[#[#[],by show(ib n:Int)+b<=_;lia],q _ (str_up #[] #[])]) (λh=>#[#[],q _ ?_]);have:=Yt (n:=n) (b:=-b) #[] #[];rwa [Int.neg_neg]at this
def Lf:LS:=["row","bits","wides"]
def wS(K:aR):Sp:=λvs H Q _=>∃a w xs d,∃b:Int,vs=[.ref a,.int b,.ref w]/\SqL K H a (map int xs)/\SqL K H w (map int d)/\xs.length=d.length/\xs.length<=200/\(∀x∈xs,ib x<=20000)/\(-500000<=b/\b<=500000)/\(∀v∈d,-500000<=v/\v<=500000)/\
 ∀l B Z,aS H Z->H l=none->Z l=some (.lst (map int B))->B.length=xs.length->(∀(i:Nat) x v r,xs[i]?=some x->d[i]?=some v->B[i]?=some r->Vd x (b-v) r)->Q (.ref l) Z
def zQ(K:aR):TE:=(cC (wR K) [] E0 (aH (aE 0) (aH (tOp jQ (aE 2) (aE 1)) bE)))
def zP(K:aR):TG:=(jR K 2 (dZ (aY 0) (dZ (aY 1) jS)))
def yS(K:aR):TS:=(cX (iI (nL K (aH (aE 0) (aH (aE 2) bE))) 2 [1] (zP K) (zQ K)))
def Xd{K}:RdS K wS yS Lf:=by
 rintro j H Q E ⟨a,w,T,d,b,rfl,ha,hw,c,F,bx,⟨t,I⟩,f,q⟩;rw[show start Lf [ref a,int b,ref w]=[some (.ref a),some (.int b),some (.ref w)]from rfl];(dsimp?[yS,iI,nL]);refine#[#[_,ha],#[_,hw],mT (K:=K) (a:=a) (b:=w) (xs:=map int T) (ys:=map int d) (λi J Y=>aS H Y/\∃B:List Int,J=map int B/\B.length=i/\∀(k:Nat) x v r,T[k]?=some x->d[k]?=some v->B[k]?=some r->Vd x (b-v) r) (by rw[aA,sizeLine_eq];lia) (by rw[aA,aA];exact c) #[aS.refl _,[],rfl,rfl,λk x v r _ _ e=>by simp at e] ?_ ?_ ?_]
 .rintro i J Y _ ⟨N,_⟩;exact#[N.seq ha,N.seq hw]
 .rintro i x y p J Y hx hy _ ⟨N,B,rfl,M,ok⟩ hp os ho;obtain⟨u,rfl,hu⟩:=fR hx;obtain⟨v,rfl,hv⟩:=fR hy;obtain⟨R,U,rfl⟩:∃R U,os=[R,U]:=by
   match os,ho with
   | [R,U],_=>exact#[R,U,rfl]
  have X:=N.trans (aS.upd (o:=tup [.int u,.int v]) hp);have s:=f v (aJ hv);(dsimp?[zP,zQ,dA,cA,cY,bJ]);refine#[_,SqT.of aL,rfl,_,_,rfl,_,_,rfl,rfl,#[[some (.int u),some (.int v)],rfl,rfl],?_];refine#[_,rfl,u,b-v,rfl,bx u (aJ hu),#[],#[],λr hr=>#[X,B++[r],by rw[aV];rfl,by rw[bF,M];rfl,λk g m n e1 C P=>?_]];rcases yD P with⟨P,_⟩|⟨O,rfl⟩
  .exact ok k g m n e1 C P
  .rw[O,M,hu]at e1;rw[O,M,hv]at C;obtain rfl:=aU e1;obtain rfl:=aU C;exact hr
 .rintro J Y _ ⟨N,B,rfl,M,ok⟩ l S;rw[aA]at M;exact q l B _ (N.trans (aS.upd S)) (N.free S) aL M ok
def Uf:LS:=["lists","bits","longs","wides"]
structure Rnd(L L2:Lpd)(b:Nat):Prop where
 m:L2.m=L.m
 n:L2.n=L.n
 fl:L2.fl=false
 ba:∀j k,j<L.n->k<=L.m->BB b (L2.a j k)
 bb:∀k,k<=L.m->BB b (L2.be k)
 nn:∀k,k<=L.m->0<=L.be k->0<=L2.be k
def Da(K:aR):Sp:=λvs H Q _=>∃a g L,∃b:Nat,vs=[.ref a,.int b]/\xG H a g L/\1<=L.n/\L.n<=100/\L.m<=100/\b<=9000/\(∀i,i<=L.m->∀x∈L.rowL i,BB 20000 x)/\
 ∀l A e Z,aS H Z->xG Z l A e->Rnd L e b->Q (.ref l) Z
def Fy(K:aR):TE:=(cC (wS K) [] E0 (aH (aE 0) (aH (tOp jQ (aE 3) (aE 1)) (aH (aE 2) bE))))
def Fw(K:aR):TG:=(jR K 2 (dZ (aY 0) (dZ (aY 1) jS)))
def Fv(K:aR):TS:=(cX (iI (nL K (aH (aE 0) (aH (aE 2) bE))) 2 [3,1] (Fw K) (Fy K)))
def vN(K:aR):TE:=(cC (qX K) [] E0 (aH (cC (kJ K) [] E0 (aH (aE 2) (aH (aE 0) bE))) (aH (aE 1) bE)))
def Fu(K:aR):TS:=(cB (cN (dH (iJ (aH (tCB (iD K) (aH (tOp (gB K) (aE 0) (tC (.int 0))) bE)) bE)) [2,0] (vN K)) (aY 3)) (Fv K))
def Fx(K:aR):TE:=(cC (vB K) [] E0 (aH (tSl (uP K) (aE 0) iE (mQ (tUn iU (tC (.int 1))))) bE))
def Ii(K:aR):TS:=(cB (cN (dH (cZ K (aE 0)) [] (Fx K)) (aY 2)) (Fu K))
def jZt{K}:RdS K Da Ii Uf:=by
 rintro vs H Q E ⟨a,g,L,b,rfl,R,n1,n2,m2,b2,bx,q⟩;have rl:=R.len;rw[show start Uf [ref a,int b]=[some (.ref a),some (.int b),none,none]from rfl];(dsimp?[Ii,dH,cZ]);refine#[#[_,SqL.of R.ha],dQ (K:=K) (a:=a) (xs:=map ref g) (λi J Y=>aS H Y/\∃ls:List Int,J=map int ls/\ls.length=i/\∀(k:Nat) l,ls[k]?=some l->(0<=l/\l<=20000)/\∀j,j<L.n->(ib (L.a j k):Int)<=l) (by rw[aA,sizeLine_eq];lia) #[aS.refl _,[],rfl,rfl,λk l e=>by simp at e] ?_ ?_ ?_]
 .rintro i J Y _ ⟨N,_⟩;exact SqL.of (N _ _ R.ha)
 .rintro i x J Y hi _ ⟨N,ls,rfl,ll,lo⟩;obtain⟨p,rfl,hp⟩:=eC hi;obtain⟨im,d⟩:=(R.same N).inv hp;(dsimp?[Fx,uP]);refine#[_,SqL.of d,λz f=>?_];rw[cut_row];refine#[z,_,rfl,SqL.of aL,λe=>?_,by rw[bH];lia,λM u X hM#[n,hn,eM]=>#[(N.trans (aS.upd f)).trans X,ls++[(M:Int)],by rw[aV];rfl,by rw[bF,ll];rfl,λk l e=>?_]]
  .have:=congrArg List.length e;rw[bH]at this;simp at this;lia
  .rcases yD e with⟨e,_⟩|⟨O,rfl⟩
   .exact and_assoc.mp (lo k l e)
   .rw[O,ll];obtain⟨j,Z,rfl⟩:=lO hn;have:ib (L.a j i)<=20000:=Ru (bx i im _ (iF _ (aJ (fC (λj=>L.a j i) Z))));refine and_assoc.mp #[#[],λj Z=>?_];have:=hM _ (aJ (fC (λj=>L.a j i) Z));lia
 .rintro J Y _ ⟨N,ls,rfl,ll,lo⟩ lz a2;rw[aA,rl]at ll;have X:=N.trans (aS.upd (o:=lst (map int ls)) a2);have a1:(upd Y lz (lst (map int ls))) lz=some (lst (map int ls)):=aL;generalize upd Y lz (lst (map int ls))=u at X a1;clear N a2;have R4:=R.same X;obtain⟨p0,a3,a4⟩:=R4.row (dW L.m);(dsimp?[Fu,dH,iJ]);refine#[_,SqL.of R4.ha,ref p0,fD (j:=0) (by rw[aX,a3];rfl),p0,rfl,_,.inl (SqL.of a4),?_];rw[aA,Lpd.rowL_length,bW];refine#[#[],#[],kH (lo:=0) (W:=λj J G=>aS u G/\∃ws:List Int,J=map int ws/\ws.length=j/\∀(k:Nat) w,ws[k]?=some w->(-20000<=w/\w<=20000)/\∀(i:Nat) x l,i<=L.m->(L.rowL i)[k]?=some x->ls[i]?=some l->x≠0->(ib x:Int)-l<=w) (by rw[sizeLine_eq];lia) #[aS.refl _,[],rfl,rfl,λk l e=>by simp at e] ?_ ?_]
  .rintro j J G Z _ ⟨I,ws,rfl,wl,wo⟩;(dsimp?[vN,dA,cA,cY,bJ];try simp_arith[vN,dA,cA,cY,bJ,eS])
   refine#[a,g,_,(j:Int),j,rfl,SqL.of (I _ _ R4.ha),(R4.same I).hr,by rw[bH];lia,λr hr=>?_,λc H6 s6 b5 a5=>?_]
   .obtain⟨i,hi,rfl⟩:=lO hr;exact lC (by rw[Lpd.rowL_length];lia)
   .have e:(ofF (L.m+1) L.rowL).map (λr=>r.getD j 0)=ofF (L.m+1) λi=>(L.rowL i).getD j 0:=by unfold ofF;rw[List.map_map];rfl
    rw[e]at a5;have a6:=I.trans s6;refine#[c,lz,_,ls,rfl,SqL.of a5,SqL.of (a6 _ _ a1),by rw[bH,ll],by rw[bH];lia,λw H7 T w1 w2=>#[a6.trans T,ws++[w],by rw[aV];rfl,by rw[bF,wl];rfl,λk w' e'=>?_]];rcases yD e' with⟨e',_⟩|⟨O,rfl⟩
    .exact and_assoc.mp (wo k w' e')
    .rw[O,wl];refine and_assoc.mp #[?_,λi x l hi ex el hx=>?_]
     .rcases w2 with w0 |⟨i,x,l,ex,el,ew⟩
      .omega
      .obtain⟨b6,rfl⟩:=gM ex;have hb:ib ((L.rowL i).getD j 0)<=20000:=Ru (bx i #[] _ (mE (by rw[Lpd.rowL_length];lia)));have:=(lo i l el).1;lia
     .have:=w1 i x l (by rw[fC _ (show i<L.m+1 by lia),iQ ex]) el hx;exact this
  .rintro J G _ ⟨I,ws,rfl,wl,wo⟩ wz a7;have s6:=I.trans (aS.upd (o:=lst (map int ws)) a7);have a8:(upd G wz (lst (map int ws))) wz=some (lst (map int ws)):=aL;generalize upd G wz (lst (map int ws))=H6 at s6 a8;have a9:=X.trans s6;have R6:=R.same a9;have b0:=s6 _ _ a1;clear I a7 s6 a1 R4 a4 a3;(dsimp?[Fv,iI,nL]);refine#[#[_,SqL.of R6.ha],#[_,SqL.of b0],mT (K:=K) (a:=a) (b:=lz) (xs:=map ref g) (ys:=map int ls) (λi J H7=>aS H6 H7/\∃A s,J=map ref A/\eA H7 A s/\s.length=i/\∀(k:Nat) row,s[k]?=some row->row.length=L.n+1/\∀(j:Nat) x v r l,(L.rowL k)[j]?=some x->ws[j]?=some v->row[j]?=some r->ls[k]?=some l->Vd x ((b:Int)-l-v) r) (by rw[aA,sizeLine_eq];lia) (by rw[aA,aA];lia) #[aS.refl _,[],[],rfl,trivial,rfl,λk row e=>by simp at e] ?_ ?_ ?_]
   .rintro i J H7 _ ⟨T,_⟩;exact#[SqL.of (T _ _ R6.ha),SqL.of (T _ _ b0)]
   .rintro i x y p J H7 hx hy _ ⟨T,A,s,rfl,F,ql,ok⟩ hp os ho;obtain⟨z,rfl,f⟩:=eC hx;obtain⟨l,rfl,hl⟩:=fR hy;obtain⟨o1,U,rfl⟩:∃o1 U,os=[o1,U]:=by
     match os,ho with
     | [o1,U],_=>exact#[o1,U,rfl]
    obtain⟨im,d⟩:=(R6.same T).inv f;have s8:=aS.upd (o:=tup [.ref z,.int l]) hp;have bl:=(lo i l hl).1;(dsimp?[Fw,Fy,dA,cA,cY,bJ]);refine#[_,SqT.of aL,rfl,_,_,rfl,_,_,rfl,rfl,#[[some (.ref z),some (.int l)],rfl,rfl],?_];generalize upd H7 p (tup [.ref z,.int l])=H8 at s8;refine#[_,rfl,z,wz,L.rowL i,ws,(b:Int)-l,rfl,SqL.of (s8 _ _ d),SqL.of ((T.trans s8) _ _ a8),by rw[Lpd.rowL_length,wl],by rw[Lpd.rowL_length];lia,λx hx=>Ru (bx i im x hx),#[#[],#[]],λv hv=>?_,λlr B H9 s9 b7 b3 b4 st=>#[(T.trans s8).trans s9,A++[lr],by rw[aV];rfl,s++[B],eA.snoc ((F.same s8).same s9) b3,by rw[bF,ql];rfl,λk row e=>?_]]
    .obtain⟨j,Z⟩:=cF hv;have:=(wo j v Z).1;lia
    .rcases yD e with⟨e,_⟩|⟨O,rfl⟩
     .exact ok k row e
     .rw[O,ql];refine#[by rw[b4,Lpd.rowL_length],λj x v r l' e1 C P e4=>?_];rw[hl]at e4;obtain rfl:=aU e4;exact st j x v r e1 C P
   .rintro J H7 _ ⟨T,A,s,rfl,F,ql,ok⟩ l hl;rw[aA,rl]at ql;have s8:=aS.upd (o:=lst (map ref A)) hl;have b1:∀r∈s,r.length=L.n+1:=λr hr=>by
     obtain⟨k,hk⟩:=cF hr;exact(ok k r hk).1
    have er:=jUs ql b1;refine q l A (LpR s L.m L.n) _ ((a9.trans T).trans s8) #[aL,by show eA _ A (ofF (L.m+1) (LpR s L.m L.n).rowL);rw[er];exact F.same s8] ?_;have cell:∀(k j:Nat),k<=L.m->j<L.n+1->∀x,(L.rowL k)[j]?=some x->BB b ((s.getD k []).getD j 0)/\(0<=x->0<=(s.getD k []).getD j 0):=λk j hk Z x hx=>by
     have O:s[k]?=some s[k]:=aC #[];obtain⟨len,st⟩:=ok k _ O;have t:s.getD k []=s[k]:=by rw[aN,O];rfl
     have el:ls[k]?=some ls[k]:=aC #[];have ew:ws[j]?=some ws[j]:=aC #[];have S:=st j x _ _ _ hx ew (Fh (show j<(s[k]).length by lia)) el;rw[t];refine#[?_,S.nn];by_cases x0:x=0
     .rw[S.zz x0];show(0:Int).natAbs<_;exact eJ _
     .exact S.bb b (by have:=(wo j _ ew).2 k x _ hk hx el x0;lia)
    exact#[rfl,rfl,rfl,λj k Z hk=>(cell k j hk #[] _ (L.rowL_get k Z)).1,λk hk=>(cell k L.n hk #[] _ (L.rowL_last k)).1,λk hk D=>(cell k L.n hk #[] _ (L.rowL_last k)).2 D]
def Qa:LS:=["one","other"]
def rK(K:aR):Sp:=λvs H Q _=>∃a b,∃n:Nat,∃xs ys,∃f g:Nat->Int,vs=[.ref a,.ref b]/\SqL K H a (map int xs)/\SqL K H b (map int ys)/\n<=200/\n<=xs.length/\n<=ys.length/\(xs.length<=n∨ys.length<=n)/\(∀k,k<n->xs[k]?=some (f k)/\ys[k]?=some (g k)/\BB 20000 (f k)/\BB 20000 (g k))/\∀Z,aS H Z->Q (.int (sm n λk=>f k*g k)) Z
def Bg(K:aR):TE:=(tOp fQ (aE 0) (aE 1))
def Bf(K:aR):TG:=(jR K 2 (dZ (aY 0) (dZ (aY 1) jS)))
def Ct(K:aR):TS:=(cX (tCB (cSum K) (aH (iI (nL K (aH (aE 0) (aH (aE 1) bE))) 2 [] (Bf K) (Bg K)) bE)))
def jJQ{K}:RdS K rK Ct Qa:=by
 rintro j H Q E ⟨a,b,n,T,M,f,g,rfl,G,m,hn,h1,h2,A,o,q⟩;rw[show start Qa [ref a,ref b]=[some (.ref a),some (.ref b)]from rfl];(dsimp![Ct,iI,nL,cSum,aE,cX,aH,bE,tCB]);refine#[#[_,G],#[_,m],jX6 (K:=K) (a:=a) (b:=b) (xs:=map int T) (ys:=map int M) n (λi J Y=>aS H Y/\J=map int (ofF i λk=>f k*g k)) (by rw[sizeLine_eq];lia) (by rw[aA];lia) (by rw[aA];lia) (by rw[aA,aA];exact A) #[aS.refl _,rfl] ?_ ?_ ?_]
 .rintro i J Y _ ⟨N,_⟩;exact#[N.seq G,N.seq m]
 .rintro i x y p J Y hx hy hi _ ⟨N,rfl⟩ hp os ho;obtain⟨e1,C,t,I⟩:=o i hi;obtain⟨c,rfl,hc⟩:=fR hx;obtain⟨d,rfl,hd⟩:=fR hy;rw[hc]at e1;rw[hd]at C;obtain rfl:=aU e1;obtain rfl:=aU C;obtain⟨R,U,rfl⟩:∃R U,os=[R,U]:=by
   match os,ho with
   | [R,U],_=>exact#[R,U,rfl]
  (dsimp![Bf,Bg,aY,aE,tOp,rI,fQ,jR,dZ,jS,Lca,Lna]);refine#[_,SqT.of aL,rfl,_,_,rfl,_,_,rfl,rfl,#[[some (.int (f i)),some (.int (g i))],rfl,rfl],_,rfl,_,rfl,.b t I,N.trans (aS.upd hp),?_];rw[fN,aV];rfl
 .rintro e Y _ ⟨N,rfl⟩ l S;refine#[_,SqL.of aL,?_];rw[jYp];exact q _ (N.trans (aS.upd S))
def rT:LS:=["self","last","lacks","found","place","lack"]
noncomputable def oV:Option Nat->V
 |none=>.non
 |some f=>.int f
noncomputable def EntO(L:Lpd)(s:Nat->Nat)(i:Nat):Option Nat->Prop
 |none=>∀c,c<i->0<=L.T s L.m (L.cv c)
 |some c=>c<i/\L.T s L.m (L.cv c)<0
def jD(K:aR):Sp:=λvs H Q _=>∃t ins L s,vs=[.ref t]/\iV K H t ins L s/\L.Lim/\L.Okn s/\∀o Z,aS H Z->EntO L s (L.n+L.m) o->Q (oV o) Z
def jJu(t p l:Addr)(L:Lpd)(s:Nat->Nat)(F:Hp):NS:=λi O Y=>∃o R U,O=[some (.ref t),some (.ref p),some (.ref l),some (oV o),R,U]/\aS F Y/\EntO L s i o
def oX(K:aR):TS:=(gA (Mt (dD (tOp kM (aE 5) (tC (.int 0)))) (tOr (dD (tOp Av (aE 3) (tC .non))) (dD (tOp kM (tOp fQ (aE 5) (tOp (gB K) (gW K (aE 0) "spans") (aE 3))) (tOp fQ (tOp (gB K) (aE 2) (aE 3)) (tOp (gB K) (gW K (aE 0) "spans") (aE 4))))))) (cN (aE 4) (aY 3)) eL)
def lH(K:aR):TG:=(jR K 2 (dZ (aY 4) (dZ (aY 5) jS)))
def oU(K:aR):TS:=(cB (cN (tC .non) (aY 3)) (cB (gP (xS K (aE 2)) (lH K) (oX K)) (cX (aE 3))))
def oW(K:aR):TE:=(cC (rK K) [] E0 (aH (aE 0) (aH (aE 1) bE)))
def oT(K:aR):TS:=(cB (cN (tOp uQ (dH (cZ K (gW K (aE 0) "begun")) [1] (oW K)) (tSl (uP K) (aE 1) iE (mQ (tCB (iD K) (aH (gW K (aE 0) "inside") bE))))) (aY 2)) (oU K))
def nH(K:aR):TS:=(cB (cN (tOp (gB K) (gW K (aE 0) "kept") (tUn iU (tC (.int 1)))) (aY 1)) (oT K))
def jWZ{ns:List Int}{n:Nat}(h:n<=ns.length):mW (map int ns) none (some (n:Int))=map int (ns.take n):=by
 unfold mW;have e:HT.sIx (map int ns).length (map int ns).length (some (n:Int))=n:=by
  show(if(n:Int)<0 then((n:Int)+((map int ns).length:Int)).toNat else min (n:Int).toNat (map int ns).length)=n;rw[aF #[],aA,bW];exact gU h
 rw[HT.sIx_none,e,List.drop_zero,Nat.sub_zero,map_take]
def ofF_add(n m:Nat)(f:Nat->d):ofF n f++ofF m (λk=>f (n+k))=ofF (n+m) f:=by
 induction m with
 |zero=>exact cS _
 |succ m ih=>rw[fN,←List.append_assoc,ih,←Nat.add_assoc,fN]
def Pr(L:Lpd)(s:Nat->Nat)(i:Nat):(L.keptL s i).take L.m=ofF L.m λk=>L.T s i (e1 k):=by
 apply List.ext_getElem?;intro k;by_cases hk:k<L.m
 .rw[List.getElem?_take_of_lt hk,L.keptL_get s i #[],fC _ hk]
 .rw[bU (by rw[cR];lia),bU (by rw[bH];lia)]
def Dw{K vs H Q E}(C:xJ K)(h:jD K vs H Q E):nH K (eQ Q) (start rT vs) H:=by
 obtain⟨t,ins,L,s,rfl,⟨w,b,sp,k,bs,ss,ks,P⟩,lim,ok,q⟩:=h;have bl:=P.bl;have kl:=P.kl;have m1:=lim.m1;have n1:=lim.n1;obtain⟨p,_,a4,d⟩:=P.last;rw[show start rT [ref t]=[some (.ref t),none,none,none,none,none]from rfl];(dsimp?[nH,gW]);refine#[_,_,_,P.ob,C.cl,C.nk,_,jY _ _ _ _,_,rfl,_,SqL.of P.Kp,_,a4,?_];(dsimp?[oT,gW,dH,cZ,uQ]);refine#[_,_,_,P.ob,C.cl,C.nb,_,mU _ _ _ _,_,rfl,#[_,SqL.of P.B],dQ (K:=K) (a:=b) (xs:=map ref bs) (λi J Y=>aS H Y/\J=map int (ofF i λj=>L.T s L.m (L.cv j))) ?_ #[aS.refl _,rfl] ?_ ?_ ?_]
 .rw[aA,sizeLine_eq];lia
 .rintro i M Y _ ⟨N,_⟩;exact N.seq (SqL.of P.B)
 .rintro i x M Y hi _ ⟨N,rfl⟩;obtain⟨pc,rfl,hp⟩:=eC hi;have G:i<L.n:=by have:=(aI.mp hp).1;lia
  obtain⟨r,er,a2⟩:=P.Bs.get hp;obtain⟨_,rfl⟩:=gM er;(dsimp![oW,dA,cA,cY,bJ,aE,cC,aH,bE,cS]);refine#[_,_,L.m+1,_,_,L.a i,λk=>L.T s L.m (e1 k),rfl,N.seq (SqL.of a2),N.seq (SqL.of d),#[],?_,?_,.inl ?_,λj Z=>#[fC _ Z,L.keptL_get s L.m #[],lim.ba _ _ G #[],lim.bk _ _ _ ok (aP _) #[]],λu X=>#[N.trans X,?_]]
  .unfold Lpd.colL;rw[bH];exact aP _
  .rw[Lpd.keptL_length];lia
  .unfold Lpd.colL;rw[bH];exact aP _
  .rw[L.T_prod s (aP _) G,fN,aV];rfl
 .rintro M Y _ ⟨N,rfl⟩ l a5;rw[aA,bl];have X:=N.trans (aS.upd (o:=lst (map int (ofF L.n λj=>L.T s L.m (L.cv j)))) a5);have y:(upd Y l (.lst (map int (ofF L.n λj=>L.T s L.m (L.cv j))))) l=_:=aL;generalize upd Y l (.lst (map int (ofF L.n λj=>L.T s L.m (L.cv j))))=u at X y;refine#[_,_,_,X _ _ P.ob,C.cl,C.ni,_,nY _ _ _ _,_,rfl,_,.inl (X.seq (SqL.of P.hi)),?_];have il:(L.insL s).length=L.m:=by unfold Lpd.insL;rw[bH]
  rw[aA,il];refine#[_,X.seq (SqL.of d),λl2 a3=>?_];rw[jWZ (by rw[Lpd.keptL_length];lia),Pr];have I:=X.trans (aS.upd (o:=lst (map int (ofF L.m λk=>L.T s L.m (e1 k)))) a3);refine#[_,aS.upd a3 _ _ y,_,aL,by rw[aA,aA,bH,bH,sizeLine_eq];lia,λl3 a6=>?_];have s6:=I.trans (aS.upd (o:=lst (map int (ofF L.n λj=>L.T s L.m (L.cv j))++map int (ofF L.m λk=>L.T s L.m (e1 k)))) a6);have e:map int (ofF L.n λj=>L.T s L.m (L.cv j))++map int (ofF L.m λk=>L.T s L.m (e1 k))=map int (ofF (L.n+L.m) λc=>L.T s L.m (L.cv c)):=by
   rw[←aV,←ofF_add]
   congr 2
   exact jF λk _=>by rw[L.cv_spare]
  rw[e]at s6⊢;have A:(upd (upd u l2 (.lst (map int (ofF L.m λk=>L.T s L.m (e1 k))))) l3 (.lst (map int (ofF (L.n+L.m) λc=>L.T s L.m (L.cv c))))) l3=_:=aL;generalize upd (upd u l2 (.lst (map int (ofF L.m λk=>L.T s L.m (e1 k))))) l3 (.lst (map int (ofF (L.n+L.m) λc=>L.T s L.m (L.cv c))))=H6 at s6 A;(dsimp?[oU,gP,xS]);refine#[#[_,SqL.of A],Fi (K:=K) (a:=l3) (xs:=map int (ofF (L.n+L.m) λc=>L.T s L.m (L.cv c))) (g:=lH K) (D:={ nx:=cX (aE 3) (eQ Q),rt:=Q }) (jJu t p l3 L s H6) ?_ ?_ ?_ ?_]
  .exact#[none,none,none,rfl,aS.refl _,λc hc=>absurd hc (eU _)]
  .rintro i O H7 _ ⟨_,_,_,_,s7,_⟩;exact s7.seq (SqL.of A)
  .rintro i x pp O H7 hi ⟨o,R,U,rfl,s7,en⟩ a7;obtain⟨v,rfl,hv⟩:=fR hi;obtain⟨G,rfl⟩:=gM hv;have F:=s7.trans (aS.upd (o:=tup [.int i,.int (L.T s L.m (L.cv i))]) a7);have stay:0<=L.T s L.m (L.cv i)∨o≠none->EntO L s (i+1) o:=λhz=>by
    cases o with
    |none=>
     intro c hc;by_cases a8:c=i
     .rw[a8];exact hz.resolve_right (λz=>z rfl)
     .exact en c #[]
    |some f=>exact#[by have:=en.1;lia,en.2]
   (dsimp![lH,oX,Av,gW,cN,aY,aE,tC,tOp,rI0,rI,fQ,kM,gA,dD,eL,gB,Mt,tOr,jR,dZ,jS,cT]);refine#[_,SqT.of aL,rfl,_,_,rfl,_,_,rfl,rfl,_,rfl,mV (λa1=>?_) (λhn=>#[o,_,_,rfl,F,stay (.inl #[])])];cases o with
   |none=>
    simp only[oV,if_true,exists_eq_left',V.int.injEq,Option.some.injEq,exists_eq_left,V.ref.injEq,V.bl.injEq,List.cons.injEq,and_true,true_and,exists_and_left,and_assoc,gD,gE,gC,iA,lB,iZ];exact#[some i,_,_,rfl,F,#[],a1]
   |some f=>
    have hf:=en.1;have a9:=P.sl;simp only[oV,reduceCtorEq,if_false,exists_eq_left',V.int.injEq,Option.some.injEq,exists_eq_left,V.ref.injEq,V.bl.injEq,List.cons.injEq,and_true,true_and,exists_and_left,and_assoc,gD,gE,gC,iA,lB,iZ];have b1:=lim.bc s L.m i ok (aP _);have b2:=lim.bc s L.m f ok (aP _);refine#[_,_,_,(s6.trans F) _ _ P.ob,C.cl,C.ns,_,Ar _ _ _ _,_,rfl,_,(s6.trans F).seq (SqL.of P.S),_,lC (i:=f) #[],_,rfl,.b b1 (P.sb _ (mE #[])),?_];refine#[_,F.seq (SqL.of A),_,lC (i:=f) (by rw[bH];lia),_,_,_,(s6.trans F) _ _ P.ob,C.cl,C.ns,_,Ar _ _ _ _,_,rfl,_,(s6.trans F).seq (SqL.of P.S),_,lC (i:=i) #[],_,rfl,_,rfl,.b (m:=20000) (by rw[iQ (fC (λc=>L.T s L.m (L.cv c)) (show f<L.n+L.m by lia))];exact b2) (P.sb _ (mE #[])),?_];exact mV (λ_=>#[some i,_,_,rfl,F,#[],a1]) (λ_=>#[some f,_,_,rfl,F,stay (.inr (by simp))])
  .rintro O H7 ⟨o,R,U,rfl,s7,en⟩;(dsimp![aE,cX]);refine q o H7 (s6.trans s7) ?_;rw[aA,bH]at en;exact en
def uN:LS:=["self","column"]
def iG(K:aR):Sp:=λvs H Q _=>∃t ins L s,∃c:Nat,vs=[.ref t,.int c]/\iV K H t ins L s/\L.Lim/\L.Okn s/\c<L.n+L.m/\∀l Z,aS H Z->H l=none->Z l=some (.lst (map int (L.numL s c)))->Q (.ref l) Z
def pS(K:aR):TE:=(cC (rK K) [] E0 (aH (tOp (gB K) (gW K (aE 2) "begun") (aE 1)) (aH (aE 0) bE)))
def oI(K:aR):TS:=(cB (gA (dD (tOp kM (aE 1) (tCB (iD K) (aH (gW K (aE 0) "begun") bE)))) (cX (dH (cZ K (gW K (aE 0) "kept")) [1,0] (pS K))) eL) (cX (cC (kJ K) [] E0 (aH (gW K (aE 0) "kept") (aH (tOp jQ (aE 1) (tCB (iD K) (aH (gW K (aE 0) "begun") bE))) bE)))))
def Hw{K vs H Q E}(C:xJ K)(h:iG K vs H Q E):oI K (eQ Q) (start uN vs) H:=by
 obtain⟨t,ins,L,s,c,rfl,⟨w,b,I,k,bs,v,ks,P⟩,lim,ok,hc,q⟩:=h;have bl:=P.bl;have kl:=P.kl;have m1:=lim.m1;rw[show start uN [ref t,int c]=[some (.ref t),some (.int c)]from rfl];(dsimp![oI,gW,dH,cZ,cB,aE,tOp,rI0,jQ,kM,cX,gA,dD,eL,cC,aH,bE,tCB,iD,cS,cT]);refine#[_,_,_,P.ob,C.cl,C.nb,_,mU _ _ _ _,_,rfl,_,.inl (SqL.of P.B),?_];rw[aA,bl];refine mV (λR=>?_) (λR=>?_)
 .have g:c<L.n:=#[];refine#[_,_,_,P.ob,C.cl,C.nk,_,jY _ _ _ _,_,rfl,#[_,SqL.of P.Kp],dQ (K:=K) (a:=k) (xs:=map ref ks) (λi J Y=>aS H Y/\J=map int (ofF i λi=>L.T s i (L.cv c))) ?_ #[aS.refl _,rfl] ?_ ?_ ?_]
  .rw[aA,sizeLine_eq];lia
  .rintro i A Y _ ⟨N,_⟩;exact N.seq (SqL.of P.Kp)
  .rintro i x A Y hi _ ⟨N,rfl⟩;obtain⟨p,rfl,hp⟩:=eC hi;have G:i<=L.m:=by have:=(aI.mp hp).1;lia
   obtain⟨r,D,d⟩:=P.Ks.get hp;obtain⟨_,rfl⟩:=gM D;obtain⟨z,_,y,f⟩:=P.col g;(dsimp![pS,gW,dA,cA,cY,bJ,aE,tOp,cC,aH,bE,gB,cS]);refine#[_,_,_,N _ _ P.ob,C.cl,C.nb,_,mU _ _ _ _,_,rfl,_,N.seq (SqL.of P.B),_,y,?_];refine#[_,_,L.m+1,_,_,L.a c,λk=>L.T s i (e1 k),rfl,N.seq (SqL.of f),N.seq (SqL.of d),#[],?_,?_,.inl ?_,λj F=>#[fC _ F,L.keptL_get s i #[],lim.ba _ _ g #[],lim.bk _ _ _ ok G #[]],λu X=>#[N.trans X,?_]]
   .unfold Lpd.colL;rw[bH];exact aP _
   .rw[Lpd.keptL_length];lia
   .unfold Lpd.colL;rw[bH];exact aP _
   .rw[L.T_prod s G g,fN,aV];rfl
  .rintro A Y _ ⟨N,rfl⟩ l S;rw[aA,kl];exact q l _ (N.trans (aS.upd S)) (N.free S) aL
 .have hn:L.n<=c:=#[];refine#[_,_,_,P.ob,C.cl,C.nk,_,jY _ _ _ _,_,_,_,P.ob,C.cl,C.nb,_,mU _ _ _ _,_,rfl,_,.inl (SqL.of P.B),?_];rw[aA,bl];refine#[_,_,_,_,c-L.n,rfl,SqL.of P.Kp,P.Ks,by rw[bH];lia,λr hr=>?_,λl Z M S o=>q l Z M S ?_]
  .obtain⟨i,hi,rfl⟩:=lO hr;have:=lC (l:=L.keptL s i) (i:=c-L.n) (by rw[Lpd.keptL_length];lia);rw[show((c-L.n:Nat):Int)=(c:Int)-(L.n:Int) by lia]at this;exact this
  .rw[o]
   congr 3
   unfold Lpd.numL;unfold ofF;rw[List.map_map];refine eP λi hi=>?_;have e:L.cv c=e1 (c-L.n):=by unfold Lpd.cv;rw[aF #[]]
   show(L.keptL s i).getD (c-L.n) 0=L.T s i (L.cv c);rw[e];exact iQ (L.keptL_get s i #[])
def Qd:LS:=["row","other","column","listed","place","mine","yours"]
def zG(K:aR):Sp:=λvs H Q _=>∃a b l x y m,∃c w:Nat,vs=[.ref a,.ref b,.int c,.ref l]/\SqL K H a (map int x)/\SqL K H b (map int y)/\SqL K H l (map (λj:Nat=>int j) m)/\Ro x w/\Ro y w/\c<w/\(∀j∈m,j<w)/\Q (.bl (decide (lx x y c m=some true))) H
def jUe(a b l:Addr)(x y:List Int)(c:Nat)(m:List Nat)(F:Hp):NS:=SEq F λi O=>∃R U r,O=[some (.ref a),some (.ref b),some (.int c),some (.ref l),R,U,r]/\lx x y c m=lx x y c (m.drop i)
def sJ(K:aR):TS:=(cX (tC (.bl false)))
def Re(K:aR):TS:=(cB (cN (tOp fQ (tOp (gB K) (aE 0) (aE 4)) (tOp (gB K) (aE 1) (aE 2))) (aY 5)) (cB (cN (tOp fQ (tOp (gB K) (aE 1) (aE 4)) (tOp (gB K) (aE 0) (aE 2))) (aY 6)) (gA (dD (tOp rNe (aE 5) (aE 6))) (cX (tOp kM (aE 5) (aE 6))) eL)))
def Cv(K:aR):TS:=(cB (gP (cZ K (aE 3)) (aY 4) (Re K)) (sJ K))
def jUh{m:List Nat}{x:V}(h:(map (λj:Nat=>int j) m)[i]?=some x):∃c:Nat,x=.int c/\m[i]?=some c:=by
 rw[aX]at h;cases e:m[i]? with
 |none=>rw[e]at h;cases h
 |some z=>rw[e]at h;exact#[z,(aU h).symm,rfl]
def lx_drop{x y:List Int}{m:List Nat}(h:m[i]?=some j):lx x y c (m.drop i)=if x.getD j 0*y.getD c 0=y.getD j 0*x.getD c 0 then lx x y c (m.drop (i+1))else some (decide (x.getD j 0*y.getD c 0<y.getD j 0*x.getD c 0)):=by
 have R:i<m.length:=(aI.mp h).1;rw[List.drop_eq_getElem_cons R];have:m[i]=j:=(aI.mp h).2;rw[this];rfl
def jJc{K}:RdS K zG Cv Qd:=by
 rintro s H Q E ⟨a,b,l,x,y,m,c,w,rfl,G,t,P,⟨d,k⟩,⟨n,o⟩,hc,Z,q⟩;rw[show start Qd [ref a,ref b,int c,ref l]=[some (.ref a),some (.ref b),some (.int c),some (.ref l),none,none,none]from rfl];(dsimp![Cv,gP,cZ,cB,aY,aE]);refine#[#[_,P],jI (K:=K) (a:=l) (xs:=map (λj:Nat=>int j) m) (g:=aY 4) (D:={ nx:=sJ K (eQ Q),rt:=Q }) (jUe a b l x y c m H) ?_ ?_ ?_ ?_]
 .exact#[rfl,none,none,none,rfl,rfl]
 .rintro i O Y _ ⟨rfl,_⟩;exact P
 .rintro i v O Y hi ⟨rfl,R,U,r,rfl,e⟩;obtain⟨j,rfl,J⟩:=jUh hi;have p:=Z j (aJ J);rw[lx_drop J]at e;(dsimp![cB,cN,aY,aE,tOp,rI0,rI,fQ,kM,rNe,iO,cX,gA,dD,eL,gB]);refine#[_,G,_,lC (i:=j) #[],_,t,_,lC (i:=c) #[],_,rfl,_,rfl,.b (k _ (mE #[])) (o _ (mE #[])),_,t,_,lC (i:=j) #[],_,G,_,lC (i:=c) #[],_,rfl,_,rfl,.b (o _ (mE #[])) (k _ (mE #[])),?_];by_cases f:x.getD j 0*y.getD c 0=y.getD j 0*x.getD c 0
  .rw[aF (by rw[decide_eq_true f];decide)];rw[aK f]at e;exact#[rfl,_,_,_,rfl,e]
  .rw[aK (by rw[decide_eq_false f];rfl)];rw[aF f]at e;rw[e]at q;have:decide (some (decide (x.getD j 0*y.getD c 0<y.getD j 0*x.getD c 0))=some true)=decide (x.getD j 0*y.getD c 0<y.getD j 0*x.getD c 0):=by
    by_cases h2:x.getD j 0*y.getD c 0<y.getD j 0*x.getD c 0
    .rw[decide_eq_true h2];rfl
    .rw[decide_eq_false h2];rfl
   rw[this]at q;exact q
 .rintro O Y ⟨rfl,R,U,r,rfl,e⟩;rw[aA,List.drop_length]at e;rw[e]at q;dsimp only[sJ,tC,cX,gD,gE,gC];exact q
def Ui:LS:=["rows","column","listed","found","place","row"]
def Dc(K:aR):Sp:=λvs H Q _=>∃r l ps B m,∃c w:Nat,vs=[.ref r,.int c,.ref l]/\SqL K H r (map ref ps)/\eA H ps B/\(∀row∈B,Ro row w)/\SqL K H l (map (λj:Nat=>int j) m)/\c<w/\(∀j∈m,j<w)/\∀o Z,aS H Z->Lv B c m B.length o->Q (oV o) Z
def jXs(r l:Addr)(c:Nat)(B:List (List Int))(m:List Nat)(F:Hp):NS:=λi O Y=>∃o R U,O=[some (.ref r),some (.int c),some (.ref l),some (oV o),R,U]/\aS F Y/\Lv B c m i o
def Gb(K:aR):TS:=(gA (Mt (dD (tOp Aw (tOp (gB K) (aE 5) (aE 1)) (tC (.int 0)))) (tOr (dD (tOp Av (aE 3) (tC .non))) (tB (cC (zG K) [] E0 (aH (aE 5) (aH (tOp (gB K) (aE 0) (aE 3)) (aH (aE 1) (aH (aE 2) bE)))))))) (cN (aE 4) (aY 3)) eL)
def vO(K:aR):TG:=(jR K 2 (dZ (aY 4) (dZ (aY 5) jS)))
def Il(K:aR):TS:=(cB (cN (tC .non) (aY 3)) (cB (gP (xS K (aE 0)) (vO K) (Gb K)) (cX (aE 3))))
def jZw{K}:RdS K Dc Il Ui:=by
 rintro j H Q E ⟨r,l,A,B,m,c,w,rfl,G,b,s,P,hc,Z,q⟩;have hpl:=b.length;rw[show start Ui [ref r,int c,ref l]=[some (.ref r),some (.int c),some (.ref l),none,none,none]from rfl];(dsimp![Il,gP,xS,cB,cN,aY,aE,tC,cX]);refine#[#[_,G],Fi (K:=K) (a:=r) (xs:=map ref A) (g:=vO K) (D:={ nx:=cX (aE 3) (eQ Q),rt:=Q }) (jXs r l c B m H) ?_ ?_ ?_ ?_]
 .exact#[none,none,none,rfl,aS.refl _,λk row hk=>absurd hk (eU _)]
 .rintro i O Y _ ⟨_,_,_,_,N,_⟩;exact N.seq G
 .rintro i x p O Y hi ⟨o,R,U,rfl,N,S⟩ hp;obtain⟨z,rfl,J⟩:=eC hi;obtain⟨row,n,d⟩:=b.get J;obtain⟨M,v⟩:=s row (aJ n);have X:aS H (upd Y p (.tup [.int i,.ref z])):=N.trans (aS.upd hp);(dsimp![vO,Gb,Av,cN,aY,aE,tC,tOp,rI0,Aw,gA,dD,tB,eL,cC,aH,bE,gB,Mt,tOr,jR,dZ,jS,cS,cT]);refine#[_,SqT.of aL,rfl,_,_,rfl,_,_,rfl,rfl,_,rfl,_,SqL.of (X _ _ d),_,lC #[],_,rfl,mV (λt=>?_) (λhn=>#[_,_,_,rfl,X,S.skip n hn])];cases o with
  |none=>
   simp only[oV,if_true,Option.some.injEq,exists_eq_left',exists_eq_left,V.int.injEq,V.ref.injEq,V.bl.injEq,List.cons.injEq,and_true,true_and,exists_and_left,and_assoc,gD,gE,gC,iA,lB,iZ];exact#[some i,_,_,rfl,X,S.first n t]
  |some f=>
   obtain⟨I,fr,hf,_⟩:=id S;obtain⟨y,u⟩:∃y,A[f]?=some y:=#[_,aC (by rw[hpl];exact(aI.mp hf).1)];obtain⟨T,C,e⟩:=b.get u;rw[hf]at C;obtain rfl:=aU C;have F:atI (map ref A) (f:Int)=some (.ref y):=fD (by rw[aX,u];rfl);simp only[oV,reduceCtorEq,if_false,exists_eq_left',V.int.injEq,Option.some.injEq,exists_eq_left,V.ref.injEq,V.bl.injEq,List.cons.injEq,and_true,true_and,exists_and_left,and_assoc,gD,gE,gC,iA,lB,iZ];refine#[_,X.seq G,_,F,_,_,_,_,_,_,_,w,rfl,SqL.of (X _ _ d),SqL.of (X _ _ e),X.seq P,#[M,v],s fr (aJ hf),hc,Z,_,rfl,mV (λha=>#[some i,_,_,rfl,X,S.take hf n t (by simpa using ha)]) (λha=>#[some f,_,_,rfl,X,S.keep hf n t (by simpa using ha)])]
 .rintro O Y ⟨o,R,U,rfl,N,S⟩;rw[aA,hpl]at S;(dsimp![aE,tC,tOp,rI0,rNe,iO,cX,dD]);exact q o Y N S
def pT:LS:=["self","numbers","rows","spares"]
noncomputable def LvO(L:Lpd)(s:Nat->Nat)(c:Nat):Option Nat->Prop
 |none=>∀i,i<=L.m->L.T s i (L.cv c)<=0
 |some r=>r<=L.m/\0<L.T s r (L.cv c)/\∀i,i<=L.m->0<L.T s i (L.cv c)->¬lp (λp=>-(L.T s i (L.li p)*L.T s r (L.cv c)-L.T s r (L.li p)*L.T s i (L.cv c))) L.ls
def jM(K:aR):Sp:=λvs H Q _=>∃t ins L s F,∃c:Nat,vs=[.ref t,.ref F]/\iV K H t ins L s/\L.Lim/\L.Okn s/\H F=some (.lst (map int (L.numL s c)))/\∀o Z,aS H Z->LvO L s c o->Q (oV o) Z
noncomputable def lvr(L:Lpd)(s:Nat->Nat)(c i:Nat):List Int:=L.keptL s i++[L.T s i (L.cv c)]
def nK(K:aR):TE:=(tOp uQ (aE 0) (nO (aH (aE 1) bE)))
def nJ(K:aR):TG:=(jR K 2 (dZ (aY 0) (dZ (aY 1) jS)))
def mB(K:aR):TS:=(cB (cN (iI (nL K (aH (gW K (aE 0) "kept") (aH (aE 1) bE))) 2 [] (nJ K) (nK K)) (aY 2)) (cB (cN (tCB (iD K) (aH (gW K (aE 0) "inside") bE)) (aY 3)) (cX (cC (Dc K) [] E0 (aH (aE 2) (aH (tOp hV (aE 3) (tC (.int 2))) (aH (tOp uQ (nO (aH (tOp hV (aE 3) (tC (.int 1))) bE)) (Ec (aE 3))) bE)))))))
def lvr_k(L:Lpd)(s:Nat->Nat)(c i:Nat)(h:k<=L.m):(lvr L s c i).getD k 0=L.T s i (e1 k):=iQ (by unfold lvr;rw[bV (by rw[Lpd.keptL_length];lia),L.keptL_get s i h])
def lvr_b(L:Lpd)(s:Nat->Nat)(c i:Nat):(lvr L s c i).getD (L.m+1) 0=L.T s i L.be:=iQ (by unfold lvr;rw[bV (by rw[Lpd.keptL_length];lia),L.keptL_last s i])
def Ye(L:Lpd)(s:Nat->Nat)(c i:Nat):(lvr L s c i).getD (L.m+2) 0=L.T s i (L.cv c):=iQ (by unfold lvr;rw[bP (by rw[Lpd.keptL_length];lia),Lpd.keptL_length,kB];rfl)
def zY{K vs H Q E}(C:xJ K)(h:jM K vs H Q E):mB K (eQ Q) (start pT vs) H:=by
 obtain⟨t,ins,L,s,F,c,rfl,⟨w,b,sp,k,bs,ss,ks,P⟩,lim,ok,D,q⟩:=h;have kl:=P.kl;have m1:=lim.m1;have a6:(L.numL s c).length=L.m+1:=by unfold Lpd.numL;rw[bH]
 rw[show start pT [ref t,ref F]=[some (.ref t),some (.ref F),none,none]from rfl];(dsimp![mB,gW,iI,nL,uQ,Ec,cB,cN,aY,aE,tC,tOp,rI0,hV,cX,cC,aH,bE,nO,tCB,iD,cS]);refine#[_,_,_,P.ob,C.cl,C.nk,_,jY _ _ _ _,_,rfl,#[_,SqL.of P.Kp],#[_,SqL.of D],mT (K:=K) (a:=k) (b:=F) (xs:=map ref ks) (ys:=map int (L.numL s c)) (λi J Y=>aS H Y/\∃A,J=map ref A/\eA Y A (ofF i (lvr L s c))) ?_ ?_ #[aS.refl _,[],rfl,trivial] ?_ ?_ ?_]
 .rw[aA,sizeLine_eq];lia
 .rw[aA,aA];lia
 .rintro i J Y _ ⟨N,_⟩;exact#[N.seq (SqL.of P.Kp),N.seq (SqL.of D)]
 .rintro i x y p J Y hx hy _ ⟨N,A,rfl,hqs⟩ hp os ho;obtain⟨z,rfl,f⟩:=eC hx;obtain⟨v,rfl,hv⟩:=fR hy;obtain⟨r,n,d⟩:=P.Ks.get f;obtain⟨G,rfl⟩:=gM n;obtain⟨_,rfl⟩:=gM hv;obtain⟨R,U,rfl⟩:∃R U,os=[R,U]:=by
   match os,ho with
   | [R,U],_=>exact#[R,U,rfl]
  have X:=aS.upd (o:=tup [.ref z,.int (L.T s i (L.cv c))]) hp;(dsimp![nJ,nK,uQ,aY,aE,tOp,aH,bE,nO,jR,dZ,jS,Lca,Lna]);refine#[_,SqT.of aL,rfl,_,_,rfl,_,_,rfl,rfl,#[[some (.ref z),some (.int (L.T s i (L.cv c)))],rfl,rfl],sz1,λl1 g=>?_];have I:=aS.upd (o:=lst [.int (L.T s i (L.cv c))]) g;refine#[_,rfl,_,(X.trans I) _ _ (N _ _ d),_,aL,by rw[aA,Lpd.keptL_length,sizeLine_eq];show L.m+2+1<=_;lia,λl2 O=>?_];have B:=aS.upd (o:=lst (map int (L.keptL s i)++[int (L.T s i (L.cv c))])) O;refine#[((N.trans X).trans I).trans B,A++[l2],by rw[aV];rfl,?_];rw[fN];refine eA.snoc (((hqs.same X).same I).same B) ?_;rw[aL];unfold lvr;rw[aV];rfl
 .rintro J Y _ ⟨N,A,rfl,hqs⟩ l S;rw[aA,kl]at hqs;have X:=N.trans (aS.upd (o:=lst (map ref A)) S);have a1:=hqs.same (aS.upd (o:=lst (map ref A)) S);have a2:(upd Y l (.lst (map ref A))) l=some (.lst (map ref A)):=aL;generalize upd Y l (.lst (map ref A))=u at X a1 a2;have M:(L.insL s).length=L.m:=by unfold Lpd.insL;rw[bH]
  refine#[_,_,_,X _ _ P.ob,C.cl,C.ni,_,nY _ _ _ _,_,rfl,_,.inl (X.seq (SqL.of P.hi)),?_];rw[aA,M];refine#[sz1,λl1 g=>#[L.m,rfl,#[],λl2 O=>?_]];have I:=(aS.upd (o:=lst [.int ((L.m:Int)+1)]) g).trans (aS.upd (o:=lst (map int (uO L.m))) O);refine#[_,aS.upd O _ _ aL,_,aL,by rw[aA,rM,sizeLine_eq];show 1+L.m<=_;lia,λl3 a3=>?_];have B:=I.trans (aS.upd (o:=lst ([int ((L.m:Int)+1)]++map int (uO L.m))) a3);have e:[int ((L.m:Int)+1)]++map int (uO L.m)=map (λj:Nat=>int j) ((L.m+1)::range L.m):=by
   unfold uO;rw[List.map_map,cA];rfl
  refine#[_,_,_,_,(L.m+1)::range L.m,L.m+2,L.m+3,rfl,B.seq (SqL.of a2),a1.same B,λrow hr=>?_,?_,#[],λj Z=>?_,λo H7 s7 lv=>?_]
  .obtain⟨i,hi,rfl⟩:=lO hr;refine#[by unfold lvr;rw[bF,Lpd.keptL_length];rfl,λx hx=>?_];unfold lvr at hx;rcases cW.mp hx with hx |hx
   .exact lim.kept ok #[] x hx
   .rw[cJ.mp hx];exact lim.bc s i c ok #[]
  .have:=SqL.of (K:=K) (aL (H:=upd (upd u l1 (.lst [.int ((L.m:Int)+1)])) l2 (.lst (map int (uO L.m)))) (a:=l3) (o:=.lst ([int ((L.m:Int)+1)]++map int (uO L.m))));rw[e]at this⊢;exact this
  .rcases eK.mp Z with rfl |Z
   .omega
   .have:=gF.mp Z;lia
  .refine q o H7 ((X.trans B).trans s7) ?_;rw[bH]at lv;cases o with
   |none=>
    intro i hi;have:=lv i _ #[] (fC (lvr L s c) (show i<L.m+1 by lia));rw[Ye]at this;lia
   |some r=>
    obtain⟨hr,fr,a4,hp,hm⟩:=lv;obtain⟨_,rfl⟩:=gM a4;rw[Ye]at hp;refine#[#[],hp,λi hi a5=>?_];have:=(hm i _ #[] (fC (lvr L s c) (show i<L.m+1 by lia)) (by rw[Ye];exact a5)).1;exact Lpd.lx_lp (λk hk=>lvr_k L s c r hk) (lvr_b L s c r) (Ye L s c r) (λk hk=>lvr_k L s c i hk) (lvr_b L s c i) (Ye L s c i) this
def xC:LS:=["self"]
def iY(K:aR):Sp:=λvs H Q _=>∃t ins L s,vs=[.ref t]/\iV K H t ins L s/\Q (.int (L.D s)) H
def pL(K:aR):TS:=(cX (tOp (gB K) (tOp (gB K) (gW K (aE 0) "kept") (tUn iU (tC (.int 1)))) (tUn iU (tC (.int 2)))))
def atI_m2{l:List Int}(h2:2<=l.length)(h:l[l.length-2]?=some x):atI (map int l) (-2)=some (.int x):=by
 unfold atI ixN;rw[aA,aF #[],aK #[]];show(map int l)[(-2+(l.length:Int)).toNat]?=_;rw[show(-2+(l.length:Int)).toNat=l.length-2 by lia,aX,h];rfl
def Jz{K vs H Q E}(C:xJ K)(h:iY K vs H Q E):pL K (eQ Q) (start xC vs) H:=by
 obtain⟨t,ins,L,s,rfl,⟨w,b,Z,k,bs,v,ks,P⟩,q⟩:=h;rw[show start xC [ref t]=[some (.ref t)]from rfl];(dsimp![pL,gW,aE,tC,tOp,tUn,rU,iU,cX,gB]);obtain⟨p,hp,a,d⟩:=P.last;refine#[_,_,_,P.ob,C.cl,C.nk,_,jY _ _ _ _,_,rfl,_,SqL.of P.Kp,_,a,_,rfl,_,SqL.of d,_,atI_m2 (by rw[Lpd.keptL_length];lia) (by rw[Lpd.keptL_length];exact L.keptL_get s L.m (aP _)),?_];rw[show L.m+2-2=L.m by lia,L.last_own];exact q
def uM:LS:=["self","column","numbers","at","bottom","gone","moved","row","number"]
def kX(K:aR):Sp:=λvs H Q _=>∃t ins L s F,∃c r:Nat,vs=[.ref t,.int c,.ref F,.int r]/\iV K H t ins L s/\L.Lim/\L.Okn s/\H F=some (.lst (map int (L.numL s c)))/\r<L.m/\
 ∀Z,aS (mn t ins H) (mn t ins Z)->iV K Z t ins L (Lpd.sput s r c)->(∀f,H f≠none->Ea K H t ins L s f->Ea K Z t ins L (Lpd.sput s r c) f)->Q .non Z
noncomputable def mvr(L:Lpd)(s:Nat->Nat)(c r i:Nat):List Int:=(ofF (L.m+2) λk=>((L.keptL s i).getD k 0*L.T s r (L.cv c)-(L.keptL s r).getD k 0*L.T s i (L.cv c)).fdiv (L.D s))
def jYx(t b a g:Addr)(c r:Nat)(L:Lpd)(s:Nat->Nat)(F:Hp):NS:=λi O Y=>∃R U A,O=[some (.ref t),some (.int c),some (.ref b),some (.int r),some (.int (L.D s)),some (.ref g),some (.ref a),R,U]/\aS F Y/\Y a=some (.lst (map ref A))/\eA Y A (ofF i (mvr L s c r))/\(∀x∈A,F x=none)/\a∉A
def lY(K:aR):TS:=(cB (cN (aE 5) (xL (aE 6) (aE 3) oP)) (cB (xK K (aE 0) (aE 6) "kept") (cN (aE 1) (xL (gW K (aE 0) "inside") (aE 3) oP))))
def pQ(K:aR):TE:=(tOp jH (tOp jQ (tOp fQ (aE 0) (tOp (gB K) (aE 4) (aE 5))) (tOp fQ (aE 1) (aE 3))) (aE 2))
def pP(K:aR):TG:=(jR K 2 (dZ (aY 0) (dZ (aY 1) jS)))
def pR(K:aR):TS:=(iS (tBM K "list" kU (aE 6) (aH (iI (nL K (aH (aE 7) (aH (aE 5) bE))) 2 [4,8,2,3] (pP K) (pQ K)) bE)))
def lZ(K:aR):TG:=(jR K 2 (dZ (aY 7) (dZ (aY 8) jS)))
def pO(K:aR):TS:=(cB (cN (nO bE) (aY 6)) (cB (gP (nL K (aH (gW K (aE 0) "kept") (aH (aE 2) bE))) (lZ K) (pR K)) (lY K)))
def oH(K:aR):TS:=(cB (cN (eZ (dY K "Corner") "bottom" (iY K) [] E0 (aE 0) bE) (aY 4)) (cB (cN (tOp (gB K) (gW K (aE 0) "kept") (aE 3)) (aY 5)) (pO K)))
def mvr_eq{L:Lpd}(ok:L.Okn s){r:Nat}(hr:r<L.m)(hi:i<=L.m)(U:i≠r):mvr L s c r i=L.keptL (Lpd.sput s r c) i:=by
 have g:=ok.ne;have key:∀y,(L.T s i y*L.T s r (L.cv c)-L.T s r y*L.T s i (L.cv c)).fdiv (L.D s)=L.T (Lpd.sput s r c) i y:=λy=>by
  rw[←ok.exch (c:=c) hr #[] U y];exact Int.mul_fdiv_cancel_left _ #[]
 apply List.ext_getElem?;intro k;unfold mvr;by_cases hk:k<=L.m
 .rw[fC _ #[],L.keptL_get _ _ hk,iQ (L.keptL_get s i hk),iQ (L.keptL_get s r hk),key]
 .by_cases a:k=L.m+1
  .subst a;rw[fC _ #[],L.keptL_last,iQ (L.keptL_last s i),iQ (L.keptL_last s r),key]
  .rw[bU (by rw[bH];lia),bU (by rw[Lpd.keptL_length];lia)]
def mvr_all{L:Lpd}(ok:L.Okn s){r:Nat}(hr:r<L.m):(ofF (L.m+1) (mvr L s c r)).set r (L.keptL s r)=ofF (L.m+1) (L.keptL (Lpd.sput s r c)):=by
 apply List.ext_getElem?;intro k;rw[getElem?_set];by_cases hk:k<L.m+1
 .rw[fC (L.keptL (Lpd.sput s r c)) hk];by_cases e:r=k
  .subst e;rw[aK rfl,aK (by rw[bH];lia)]
   congr 1
   unfold Lpd.keptL;rw[Lpd.Ok.same hr,jF λk _=>(Lpd.Ok.same (L:=L) (s:=s) (c:=c) hr (e1 k)).symm]
  .rw[aF e,fC _ hk,mvr_eq ok hr #[] (Ne.symm e)]
 .rw[bU (l:=ofF (L.m+1) (L.keptL (Lpd.sput s r c))) (by rw[bH];lia)];by_cases e:r=k
  .omega
  .rw[aF e,bU (by rw[bH];lia)]
def Hv{K vs H Q E}(C:xJ K)(h:kX K vs H Q E):oH K (eQ Q) (start uM vs) H:=by
 obtain⟨t,ins,L,s,nl,c,r,rfl,ca,lim,ok,b1,hr,q⟩:=h;obtain⟨dx,b,Z,k,bs,ss,ks,P⟩:=id ca;have kl:=P.kl;have m1:=lim.m1;have il:(L.insL s).length=L.m:=by unfold Lpd.insL;rw[bH]
 have d2:(L.numL s c).length=L.m+1:=by unfold Lpd.numL;rw[bH]
 obtain⟨g,hg,b9,a6⟩:=P.row (i:=r) #[];rw[show start uM [ref t,int c,ref nl,int r]=[some (.ref t),some (.int c),some (.ref nl),some (.int r),none,none,none,none,none]from rfl];(dsimp?[oH,gW,eZ]);refine#[_,_,P.ob,rfl,_,_,_,_,rfl,ca,_,_,_,P.ob,C.cl,C.nk,_,jY _ _ _ _,_,rfl,_,SqL.of P.Kp,_,b9,?_];(dsimp?[pO,gW,gP,nL]);refine#[sz0,λmv a1=>?_];have M:=aS.upd (o:=lst []) a1;have b3:(upd H mv (.lst [])) mv=some (.lst []):=aL;generalize e1:upd H mv (.lst [])=U at M b3;refine#[_,_,_,M _ _ P.ob,C.cl,C.nk,_,jY _ _ _ _,_,rfl,#[_,M.seq (SqL.of P.Kp)],#[_,M.seq (SqL.of b1)],jY4 (K:=K) (a:=k) (b:=nl) (xs:=map ref ks) (ys:=map int (L.numL s c)) (g:=lZ K) (D:={ nx:=lY K (eQ Q),rt:=Q }) (jYx t nl mv g c r L s H) ?_ ?_ ?_ ?_ ?_]
 .exact#[none,none,[],rfl,M,b3,trivial,(λ_ h=>nomatch h),(λh=>nomatch h)]
 .rintro i O Y _ ⟨_,_,_,_,N,_⟩;exact#[N.seq (SqL.of P.Kp),N.seq (SqL.of b1)]
 .rw[aA,aA];lia
 .rintro i x y p O Y hx hy ⟨R,o2,A,rfl,N,b2,hqs,a4,a7⟩ hp;obtain⟨z,rfl,hz⟩:=eC hx;obtain⟨v,rfl,hv⟩:=fR hy;obtain⟨row,n,d⟩:=P.Ks.get hz;obtain⟨d3,rfl⟩:=gM n;obtain⟨_,rfl⟩:=gM hv;have X:=aS.upd (o:=tup [.ref z,.int (L.T s i (L.cv c))]) hp;(dsimp![lZ,pR,iS,tBM,kU,iI,nL,aY,aE,aH,bE,jR,dZ,jS]);refine#[_,SqT.of aL,rfl,_,_,rfl,_,_,rfl,rfl,?_];have a8:=X _ _ b2;have b4:=hqs.same X;generalize upd Y p (.tup [.ref z,.int (L.T s i (L.cv c))])=H4 at X a8 b4;have a2:=N.trans X;have bD:=lim.bD s ok;have D0:=ok.ne;have br:=lim.bc s r c ok #[];have bi:=lim.bc s i c ok #[];refine#[.inl #[rfl,_,SqL.of a8],_,rfl,#[_,a2.seq (SqL.of d)],#[_,a2.seq (SqL.of a6)],mT (K:=K) (a:=z) (b:=g) (xs:=map int (L.keptL s i)) (ys:=map int (L.keptL s r)) (λj J G=>aS H4 G/\J=map int (ofF j λk=>((L.keptL s i).getD k 0*L.T s r (L.cv c)-(L.keptL s r).getD k 0*L.T s i (L.cv c)).fdiv (L.D s))) ?_ ?_ #[aS.refl _,rfl] ?_ ?_ ?_]
  .rw[aA,Lpd.keptL_length,sizeLine_eq];lia
  .rw[aA,aA,Lpd.keptL_length,Lpd.keptL_length]
  .rintro j J G _ ⟨I,_⟩;exact#[(a2.trans I).seq (SqL.of d),(a2.trans I).seq (SqL.of a6)]
  .rintro j x y pp J G hx hy _ ⟨I,rfl⟩ c2 os ho;obtain⟨u,rfl,hu⟩:=fR hx;obtain⟨w,rfl,hw⟩:=fR hy;obtain⟨q1,q2,rfl⟩:∃R o2,os=[R,o2]:=by
    match os,ho with
    | [R,o2],_=>exact#[R,o2,rfl]
   have B:=aS.upd (o:=tup [.int u,.int w]) c2;have bu:=lim.kept ok (show i<=L.m by lia) u (aJ hu);have bw:=lim.kept ok (show r<=L.m by lia) w (aJ hw);have eu:=iQ hu;have ew:=iQ hw;(dsimp![pP,pQ,dA,cA,cY,bJ,aY,aE,tOp,rI0,rI,jQ,fQ,jH,gB,jR,dZ,jS,Lca,Lna]);refine#[_,SqT.of aL,rfl,_,_,rfl,_,_,rfl,rfl,#[[some (.int u),some (.int w)],rfl,rfl],?_];refine#[_,((a2.trans I).trans B).seq (SqL.of b1),_,fD (j:=r) (v:=int (L.T s r (L.cv c))) (by rw[aX];unfold Lpd.numL;rw[fC _ #[]];rfl),?_];refine#[_,rfl,_,rfl,.b bu br,_,rfl,.b bw bi,#[#[],bD],I.trans B,?_];rw[fN,aV,eu,ew];rfl
  .rintro J G _ ⟨I,rfl⟩ l S;rw[aA,Lpd.keptL_length]at*;have B:=aS.upd (o:=lst (map int (mvr L s c r i))) S;have c3:(upd G l (.lst (map int (mvr L s c r i)))) l=some (.lst (map int (mvr L s c r i))):=aL;have c4:=B _ _ (I _ _ a8);have c5:=b4.same (I.trans B);have c6:=a2.trans (I.trans B);have c7:H l=none:=(a2.trans I).free S;have hlm:l≠mv:=λe=>by rw[e,I _ _ a8]at S;cases S
   show ∃x,upd G l (.lst (map int (mvr L s c r i))) mv=some (lst x)/\x.length<sizeLine/\jYx t nl mv g c r L s H (i+1) _ (upd (upd G l (.lst (map int (mvr L s c r i)))) mv (lst (x++[ref l])));generalize upd G l (.lst (map int (mvr L s c r i)))=H6 at*;refine#[_,c4,by rw[aA,hqs.length,bH,sizeLine_eq];lia,_,_,A++[l],rfl,c6.put a1,?_,?_,λx hx=>?_,λhx=>?_]
   .rw[aL,aV];rfl
   .refine eA.put ?_ ?_
    .intro hx;rcases cW.mp hx with hx |hx
     .exact a7 hx
     .exact hlm (cJ.mp hx).symm
    .rw[fN];exact eA.snoc c5 c3
   .rcases cW.mp hx with hx |hx
    .exact a4 x hx
    .rw[cJ.mp hx];exact c7
   .rcases cW.mp hx with hx |hx
    .exact a7 hx
    .exact hlm (cJ.mp hx).symm
 .rintro O Y ⟨R,o2,A,rfl,N,b2,hqs,a4,a7⟩;rw[aA,kl]at hqs;(dsimp![lY,xL,oP,xK,gW,cB,cN,aE]);have hql:A.length=L.m+1:=by rw[hqs.length,bH]
  have c8:t≠mv:=dJ P.ob a1;have c9:ins≠mv:=dJ P.hi a1;have b5:t≠ins:=kT P.ob P.hi (by intro z;cases z);have a3:mn t ins H g=some (.lst (map int (L.keptL s r))):=by
   obtain⟨_,e1,e2⟩:=P.hks.get hg;obtain⟨_,rfl⟩:=gM e1;exact e2
  have b6:g≠t/\g≠ins:=by
   constructor
   .rintro rfl;unfold mn at a3;rw[aK (.inl rfl)]at a3;cases a3
   .rintro rfl;unfold mn at a3;rw[aK (.inr rfl)]at a3;cases a3
  have d1:mv≠g:=λe=>by rw[e,a6]at a1;cases a1
  have b7:(map ref A).set r (ref g)=map ref (A.set r g):=by rw[List.map_set]
  have X:aS H (upd Y mv (.lst (map ref (A.set r g)))):=N.put a1;have a5:eA (upd Y mv (.lst (map ref (A.set r g)))) (A.set r g) (ofF (L.m+1) (L.keptL (Lpd.sput s r c))):=by
   rw[←mvr_all ok hr];refine eA.put (λhx=>?_) (eA.setr (N _ _ a6) r hqs);rcases mem_or_eq_of_mem_set hx with hx |hx
   .exact a7 hx
   .exact d1 hx
  have b0:(upd Y mv (.lst (map ref (A.set r g)))) mv=some (.lst (map ref (A.set r g))):=aL;refine#[_,b2,_,by rw[aA,hql];exact uW #[] #[],?_];rw[bW,b7];generalize upd Y mv (.lst (map ref (A.set r g)))=H4 at X a5 b0;refine#[_,_,_,X _ _ P.ob,C.cl,C.nk,by show 4<1000;decide,_,_,_,aL,C.cl,C.ni,_,nY b Z mv ins,_,rfl,_,(by rw[bZ b5.symm];exact X _ _ P.hi),_,(by rw[aA,il];exact uW #[] #[]),?_];rw[bW,jWW];have em:∀o o',mn t ins (upd (upd H4 t o) ins o')=mn t ins H4:=λo o'=>by rw[nT (.inr rfl),nT (.inl rfl)]
  have a9:aS (mn t ins H) (mn t ins H4):=iP X;have P5:nP K (upd (upd H4 t (.ins (dY K "Corner") dx (cfl b Z mv ins))) ins (.lst ((map int (L.insL s)).set r (int c)))) t ins L (Lpd.sput s r c) dx b Z mv bs ss (A.set r g):=by
   refine#[?_,?_,?_,?_,P.sl,P.sb,?_,?_,?_]
   .rw[bZ b5,aL]
   .rw[em];exact a9 _ _ P.hb
   .rw[em];exact P.hbs.same a9
   .rw[em];exact a9 _ _ P.hs
   .rw[em];exact xR b0 c8.symm c9.symm
   .rw[em];refine a5.mn (λhx=>?_) (λhx=>?_)
    .rcases mem_or_eq_of_mem_set hx with hx |hx
     .have:=a4 _ hx;rw[P.ob]at this;cases this
     .exact b6.1 hx.symm
    .rcases mem_or_eq_of_mem_set hx with hx |hx
     .have:=a4 _ hx;rw[P.hi]at this;cases this
     .exact b6.2 hx.symm
   .rw[aL,←List.map_set];unfold Lpd.insL;rw[ofF_set]
    congr 3
    refine jF λk _=>?_;unfold Lpd.sput;split<;>rfl
  refine q _ (by rw[em];exact a9) #[_,_,_,_,_,_,_,P5] λf b8 F=>?_;obtain⟨n1,n2,n3,n4,n5⟩:=F.of P;refine#[_,_,_,_,_,_,_,P5,n1,n2,λe=>b8 (by rw[e];exact a1),n4,λhx=>?_];rcases mem_or_eq_of_mem_set hx with hx |hx
  .exact b8 (a4 _ hx)
  .exact n5 (by rw[hx];exact aJ hg)
def Ld:LS:=["corner","column","numbers","at"]
def pZ(K:aR):Sp:=λvs H Q _=>∃t ins L s,vs=[.ref t]/\iV K H t ins L s/\L.Lim/\L.Okx s/\kR L s/\
 ∀o R Z,aS (mn t ins H) (mn t ins Z)->iV K Z t ins L R->L.Okx R->kR L R->UnO L R o->Q (oV o) Z
def Es(K:aR)(t ins:Addr)(L:Lpd)(F:Hp)(O:St)(Y:Hp)(s:Nat->Nat)(o:Option Nat):Prop:=(∃R U,O=[some (.ref t),some (oV o),R,U])/\aS (mn t ins F) (mn t ins Y)/\iV K Y t ins L s/\L.Okx s/\kR L s/\EntO L s (L.n+L.m) o
open Classical in
def mu_un(K:aR)(t ins:Addr)(L:Lpd)(H0:Hp)(σ:St)(H3:Hp):Nat:=if h:∃s,∃o,Es K t ins L H0 σ H3 s o then L.mu (Classical.choose h)else 0
def qM(K:aR):TS:=(cX (tC .non))
def qN(K:aR):TS:=(cB (cN (eZ (dY K "Corner") "numbers" (iG K) [] E0 (aE 0) (aH (aE 1) bE)) (aY 2)) (cB (cN (eZ (dY K "Corner") "leaving_by" (jM K) [] E0 (aE 0) (aH (aE 2) bE)) (aY 3)) (cB (gA (dD (tOp Av (aE 3) (tC .non))) (cX (aE 1)) eL) (cB (iS (eZ (dY K "Corner") "step_in" (kX K) [] E0 (aE 0) (aH (aE 1) (aH (aE 2) (aH (aE 3) bE))))) (cN (eZ (dY K "Corner") "entering" (jD K) [] E0 (aE 0) bE) (aY 1))))))
def yO(K:aR):TS:=(cB (cN (eZ (dY K "Corner") "entering" (jD K) [] E0 (aE 0) bE) (aY 1)) (cB (qE (dD (tOp Yb (aE 1) (tC .non))) (qN K)) (qM K)))
def jUf{L:Lpd}(h:L.insL s=L.insL R)(hi:i<L.m):s i=R i:=by
 unfold Lpd.insL at h;have h1:=fC (λi=>(s i:Int)) hi;rw[h,fC (λi=>(R i:Int)) hi]at h1;have:=aU h1;lia
def jWh{L:Lpd}(h:∀i,i<L.m->s i=R i):L.B s=L.B R:=by
 funext i
 unfold Lpd.B;by_cases hi:i<L.m
 .rw[aK hi,aK hi,h i hi]
 .rw[aF hi,aF hi]
def Zk{L:Lpd}(h:∀i,i<L.m->s i=R i):L.mu s=L.mu R:=by
 have e:=jWh h;unfold Lpd.mu Lpd.Fur Lpd.T Lpd.D;rw[e]
def iV.ins_eq{t ins:Addr}{L:Lpd}(h:iV K H t ins L s)(h':iV K H t ins L R):∀i,i<L.m->s i=R i:=λi hi=>by
 obtain⟨_,_,_,_,_,_,_,P⟩:=h;obtain⟨_,_,_,_,_,_,_,g⟩:=h';have e:=P.hi.symm.trans g.hi;injection e with e;injection e with e;exact jUf (List.map_inj_right (λa b h=>by injection h)|>.mp e) hi
def Zj{t ins:Addr}{L:Lpd}{O:St}{o:Option Nat}(h:Es K t ins L F O Y s o):mu_un K t ins L F O Y=L.mu s:=by
 unfold mu_un;have hx:∃s,∃o,Es K t ins L F O Y s o:=#[s,o,h];rw[dif_pos hx];obtain⟨f,a⟩:=Classical.choose_spec hx;exact Zk (a.2.2.1.ins_eq h.2.2.1)
def mu_step{L:Lpd}(o:L.Okx s)(f:L.Okx R)(hs:kR L R)(h:L.Fur s R):L.mu R<L.mu s:=by
 have e:∀i,i<L.m->R i=Lpd.sf (ofF L.m R) i:=λi hi=>by
  unfold Lpd.sf;rw[aN,fC _ hi];rfl
 rw[Zk e];have a:=jWh e;have b:L.D R=L.D (Lpd.sf (ofF L.m R)):=by unfold Lpd.D;rw[a]
 refine Lpd.mu_lt o.pos (b▸f.pos) (bH _ _) (λc hc=>?_) ?_
 .obtain⟨k,hk,rfl⟩:=lO hc;exact hs k hk
 .unfold Lpd.Fur Lpd.T Lpd.D at h⊢;rw[←a];exact h
def Xb{K}:RdS K pZ yO Ld:=by
 rintro j H Q E ⟨t,ins,L,s,rfl,ca,lim,ok,io,q⟩;obtain⟨w,b,sp,k,bs,ss,ks,P⟩:=id ca;rw[show start Ld [ref t]=[some (.ref t),none,none,none]from rfl];(dsimp![yO,eZ,cB,cN,aY,aE,bE,cS]);refine#[_,_,P.ob,rfl,_,_,_,_,rfl,ca,lim,ok.n,λo U M x=>?_];refine Nu (λO Z=>∃s o,Es K t ins L H O Z s o) (mu_un K t ins L H) #[s,o,#[_,_,rfl],iP M,ca.same M,ok,io,x] ?_ ?_
 .rintro O Y ⟨N,o3,l⟩;have a5:=Zj l;rw[a5];obtain⟨⟨q1,p,rfl⟩,R,d,a,J,g⟩:=l;(dsimp![Yb,aE,tC,tOp,dD]);cases o3 with
  |none=>
   (try dsimp only[qM,tC,cX,gD,gE,gC];try simp only[oV,decide_true,Bool.not_true,Bool.false_eq_true,if_false,qM,tC,cX,Option.some.injEq,exists_eq_left',exists_eq_left,V.int.injEq,V.ref.injEq,V.bl.injEq,List.cons.injEq,and_true,true_and,exists_and_left,and_assoc,gD,gE,gC,iA,lB,iZ])
   exact q none N Y R d a J g
  |some c=>
   (try dsimp only[qN,eZ,Av,iS,cB,cN,aY,aE,tC,tOp,cX,gA,dD,eL,aH,bE,Lq0,Lq1,Ls0,Ls1,gD,gE,gC];try simp only[oV,reduceCtorEq,decide_false,Bool.not_false,if_true,qN,eZ,Av,iS,cB,cN,aY,aE,tC,tOp,cX,gA,dD,eL,aH,bE,Lq0,Lq1,Ls0,Ls1,Option.some.injEq,exists_eq_left',V.ref.injEq,V.bl.injEq,true_and,cS,exists_and_left,cT,exists_eq_left,V.int.injEq,List.cons.injEq,and_true,and_assoc,gD,gE,gC,iA,lB,iZ])
   obtain⟨b0,b3,b1,k3,b2,b4,b5,P3⟩:=id d;refine#[_,_,P3.ob,rfl,_,_,_,_,_,rfl,d,lim,a.n,g.1,λF u X b7 D=>?_];refine#[_,_,(P3.same X).ob,rfl,_,_,_,_,_,_,rfl,d.same X,lim,a.n,D,λo5 G I S=>?_];have f:aS (mn t ins H) (mn t ins G):=R.trans (iP (X.trans I));have z:=d.same (X.trans I);cases o5 with
   |none=>
    simp only[oV,if_true,exists_eq_left',V.int.injEq,Option.some.injEq,exists_eq_left,V.ref.injEq,V.bl.injEq,List.cons.injEq,and_true,true_and,exists_and_left,and_assoc,gD,gE,gC,iA,lB,iZ];exact q (some c) N G f z a J #[g.1,g.2,λi hi=>S i #[]]
   |some r=>
    obtain⟨hr,hp,A⟩:=S;have a1:r<L.m:=by
     have:=g.2;rcases Nat.lt_or_ge r L.m with h |h
     .exact h
     .have:r=L.m:=#[];subst this;lia
    have B:=a.step a1 hp λi hi a6=>A i #[] a6;have a3:kR L (Lpd.sput N r c):=λi hi=>by
     unfold Lpd.sput;split
     .exact g.1
     .exact J i hi
    have a7:=a.further (r:=r) (c:=c) a1 g.2;simp only[oV,reduceCtorEq,if_false,exists_eq_left',V.int.injEq,Option.some.injEq,exists_eq_left,V.ref.injEq,V.bl.injEq,List.cons.injEq,and_true,true_and,exists_and_left,and_assoc,gD,gE,gC,iA,lB,iZ];refine#[_,_,(P3.same (X.trans I)).ob,rfl,_,_,_,_,_,_,_,rfl,z,lim,a.n,I _ _ D,a1,λC a8 a2 _=>?_];obtain⟨b8,b6,b9,k6,c2,c3,c4,P6⟩:=id a2;refine#[_,_,P6.ob,rfl,_,_,_,_,rfl,a2,lim,B.n,λo7 H7 T a9=>?_];have a4:Es K t ins L H [some (.ref t),some (oV o7),some (.ref F),some (.int r)] H7 (Lpd.sput N r c) o7:=#[#[_,_,rfl],(f.trans a8).trans (iP T),a2.same T,B,a3,a9];refine#[#[_,_,a4],?_];rw[Zj a4];exact mu_step a B a3 a7
 .intro O Z Q1 Q2 y h;dsimp only[dD,tOp,tUn,Yb]at h⊢
  first
  | (obtain⟨v,hv,hx,e⟩:=Ab h
     exact Aa hv #[hx,y _ _ e])
  | (obtain⟨v,hv,hx,b,hb,e⟩:=Ab h
     exact Aa hv #[hx,b,hb,y _ _ e])
def zV:LS:=["row"]
def mH(K:aR):Sp:=λvs H Q _=>∃a ns,vs=[.ref a]/\SqL K H a (map int ns)/\ns.length<=200/\∀l Z,aS H Z->H l=none->Z l=some (.lst (map int (ns.map λx=>-x)))->Q (.ref l) Z
def rO(K:aR):TE:=(tUn iU (aE 0))
def qO(K:aR):TS:=(cX (dH (cZ K (aE 0)) [] (rO K)))
def Lp{K}:RdS K mH qO zV:=by
 rintro j H Q E ⟨a,ns,rfl,ha,F,q⟩;rw[show start zV [ref a]=[some (.ref a)]from rfl];(dsimp?[qO,dH,cZ]);refine#[#[_,ha],dQ (K:=K) (a:=a) (xs:=map int ns) (λi J Y=>Y=H/\J=map int ((ns.take i).map λx=>-x)) (by rw[aA,sizeLine_eq];lia) #[rfl,rfl] ?_ ?_ ?_]
 .rintro i J Y _ ⟨rfl,_⟩;exact ha
 .rintro i x J Y hi _ ⟨rfl,rfl⟩;obtain⟨n,rfl,hn⟩:=fR hi;(dsimp?[rO]);rw[dO hn,aV,aV];rfl
 .rintro J Y _ ⟨rfl,rfl⟩ p hp;rw[aA,bY];exact q p _ (aS.upd hp) hp aL
def rV:LS:=["self","inside","first","free","column","numbers","places"]
def mO(K:aR):Sp:=λvs H Q _=>∃t ins L g,∃w:List Nat,vs=[.ref t,.ref g]/\iV K H t ins L L.ins0/\L.Lim/\L.fl=false/\1<=L.m/\mn t ins H g=some (.lst (map int (w.map λc:Nat=>(c:Int))))/\w.length=L.m/\
 (∀Z,aS (mn t ins H) (mn t ins Z)->Q (.bl false) Z)/\
 ∀e s Z,(e=L∨e=L.flip)->aS (mn t ins H) (mn t ins Z)->iV K Z t ins e s->e.Ok s->kR e s->Q (.bl true) Z
def lK(K:aR):TS:=(cX (tOp rGeI (tCB (Mz K) (aH (cC (kJ K) [] E0 (aH (tSl (uP K) (gW K (aE 0) "kept") iE (mQ (tUn iU (tC (.int 1))))) (aH (tUn iU (tC (.int 1))) bE))) bE)) (tC (.int 0))))
def pE(K:aR):TE:=(cC (mH K) [] E0 (aH (aE 0) bE))
def iB(K:aR):TS:=(cB (gA (dD (tOp kM (eZ (dY K "Corner") "bottom" (iY K) [] E0 (aE 0) bE) (tC (.int 0)))) (xK K (aE 0) (dH (cZ K (gW K (aE 0) "kept")) [] (pE K)) "kept") eL) (lK K))
def pD(K:aR):TE:=(aE 0)
def lJ(K:aR):TS:=(cB (iS (eZ (dY K "Corner") "step_in" (kX K) [] E0 (aE 0) (aH (aE 4) (aH (aE 5) (aH (tOp (gB K) (aE 6) (tC (.int 0))) bE))))) (iS (tBM K "list" Ae (aE 3) (aH (tOp (gB K) (aE 6) (tC (.int 0))) bE))))
def pB(K:aR):TS:=(cB (gA (Xv (tTru K (aE 6))) (cX (tC (.bl false))) eL) (lJ K))
def pC(K:aR):TE:=(aE 0)
def pA(K:aR):TS:=(cB (cN (pI (cZ K (aE 3)) [5] (dD (tOp rNe (tOp (gB K) (aE 1) (aE 0)) (tC (.int 0)))) (pC K)) (aY 6)) (pB K))
def iC(K:aR):TS:=(cB (cN (eZ (dY K "Corner") "numbers" (iG K) [] E0 (aE 0) (aH (aE 4) bE)) (aY 5)) (pA K))
def oZ(K:aR):TS:=(cB (gP (cZ K (pI (cZ K (aE 1)) [2] (dD (tOp kM (aE 0) (aE 1))) (pD K))) (aY 4) (iC K)) (iB K))
def lL(K:aR):TE:=(aE 0)
def oY(K:aR):TS:=(cB (cN (pI (iJ (aH (tCB (iD K) (aH (aE 1) bE)) bE)) [1,2] (dD (tOp (rIn K true) (tOp hV (aE 2) (aE 0)) (aE 1))) (lL K)) (aY 3)) (oZ K))
def nI(K:aR):TS:=(cB (cN (tCB (iD K) (aH (gW K (aE 0) "begun") bE)) (aY 2)) (oY K))
def eA.take:∀{ps:List Addr}{B:List (List Int)}(i:Nat),eA H ps B->eA H (ps.take i) (B.take i)
 |_,_,0,_=>trivial
 | [],[],_+1,_=>trivial
 |_::_,_::_,i+1,h=>#[h.1,eA.take i h.2]
 | [],_::_,_,h=>h.elim
 |_::_,[],_,h=>h.elim
def jUW{n:Nat}{f:Nat->d}(h:i<=n):(ofF n f).take i=ofF i f:=by
 unfold ofF;rw[←map_take,List.take_range,gU h]
def jYq{c:Type}{n:Nat}{f:Nat->d}{g:d->c}:(ofF n f).map g=ofF n λk=>g (f k):=by unfold ofF;rw[List.map_map];rfl
def Kw(C:xJ K){t ins:Addr}{L:Lpd}{R d h j X p:Option V}(ca:iV K G t ins L s)(lim:L.Lim)(m1:1<=L.m)
  (O:∀Z,aS G Z->Q (.bl false) Z) (I:∀Z,aS G Z->(∀i,i<L.m->0<=L.T s i L.be)->Q (.bl true) Z):
  lK K (eQ Q) [some (.ref t),R,d,h,j,X,p] G:=by
 obtain⟨w,b,q,k,bs,v,ks,P⟩:=ca;have kl:=P.kl;have A:=lim.m1;(dsimp?[lK,gW,uP,Mz]);refine#[_,_,_,P.ob,C.cl,C.nk,_,jY b q k ins,k,rfl,_,SqL.of P.Kp,λz f=>?_];have n:mW (map ref ks) none (some (-1))=map ref (ks.take L.m):=by rw[Fj,aA,kl,Nat.add_sub_cancel,map_take]
 rw[n];have hks:eA G (ks.take L.m) (ofF L.m (L.keptL s)):=by have:=P.Ks.take L.m;rwa [jUW (Nat.le_succ _)]at this
 refine#[z,_,_,-1,L.m+1,rfl,SqL.of aL,hks.same (aS.upd f),by rw[bH];lia,λr hr=>?_,λl U u S g=>?_]
 .obtain⟨i,hi,rfl⟩:=lO hr;rw[iQ (L.keptL_last s i)];exact yM (by rw[aA,Lpd.keptL_length,aX,show L.m+2-1=L.m+1 by lia,L.keptL_last];rfl)
 .have a:=(aS.upd (o:=lst (map ref (ks.take L.m))) f).trans u;rw[jYq,jF λi _=>iQ (L.keptL_last s i)]at g;refine#[l,rfl,_,SqL.of g,λe=>?_,λM c x=>?_]
  .have:=congrArg List.length e;rw[bH]at this;simp at this;lia
  .by_cases D:0<=M
   .rw[decide_eq_true D];refine I U a λi hi=>?_;have:=x _ (aJ (fC (λi=>L.T s i L.be) hi));lia
   .rw[decide_eq_false D];exact O U a
def jJf(C:xJ K){t ins:Addr}{L:Lpd}{o1 U r T o5:Option V}(ca:iV K G t ins L s)(lim:L.Lim)(m1:1<=L.m)(ok:L.Okn s)(io:kR L s)
  (k0:∀Z,aS (mn t ins G) (mn t ins Z)->Q (.bl false) Z) (I:∀e Z,(e=L∨e=L.flip)->aS (mn t ins G) (mn t ins Z)->iV K Z t ins e s->e.Ok s->kR e s->Q (.bl true) Z):
  iB K (eQ Q) [some (.ref t),o1,U,r,T,o5,o6] G:=by
 obtain⟨w,b,sp,k,bs,v,ks,P⟩:=id ca;have kl:=P.kl;have ml:=lim.m1;have M:t≠ins:=kT P.ob P.hi (by intro z;cases z);have O:=ok.ne;(dsimp?[iB,eZ,dH,cZ,xK,gW];try simp_arith[iB,eZ,dH,cZ,xK,gW,if_true])
 refine#[_,_,P.ob,rfl,t,ins,L,s,rfl,ca,_,rfl,mV (λg=>?_) (λg=>?_)]
 .refine#[_,_,_,P.ob,C.cl,C.nk,_,jY b sp k ins,k,rfl,#[_,SqL.of P.Kp],dQ (K:=K) (a:=k) (xs:=map ref ks) (λi J Y=>aS G Y/\∃A,J=map ref A/\eA Y A (ofF i (L.flip.keptL s))/\∀x∈A,G x=none) ?_ #[aS.refl _,[],rfl,trivial,(λ_ h=>nomatch h)] ?_ ?_ ?_]
  .rw[aA,kl,sizeLine_eq];lia
  .rintro i J Y _ ⟨N,_⟩;exact SqL.of (N _ _ P.Kp)
  .rintro i x J Y hi _ ⟨N,A,rfl,F,qn⟩;obtain⟨z,rfl,f⟩:=eC hi;obtain⟨row,n,d⟩:=(P.Ks.same N).get f;obtain⟨a2,rfl⟩:=gM n;(dsimp?[pE]);refine#[z,_,rfl,SqL.of d,by rw[Lpd.keptL_length];lia,λl u X S y=>#[N.trans X,A++[l],by rw[aV];rfl,?_,λx hx=>?_]]
   .rw[fN];exact eA.snoc (F.same X) (by rw[y,L.flip_kept])
   .rcases cW.mp hx with hx |hx
    .exact qn x hx
    .rw[cJ.mp hx];exact N.free S
  .rintro J Y _ ⟨N,A,rfl,F,qn⟩ p hp;rw[aA,kl]at F;have X:=N.trans (aS.upd (o:=lst (map ref A)) hp);have c:=F.same (aS.upd (o:=lst (map ref A)) hp);have H:(upd Y p (lst (map ref A))) p=some (lst (map ref A)):=aL;have p0:G p=none:=N.free hp;generalize upd Y p (lst (map ref A))=u at X c H;refine#[_,_,_,X _ _ P.ob,C.cl,C.nk,by show 4<1000;decide,?_];rw[jWW];have B:∀o,mn t ins (upd u t o)=mn t ins u:=λo=>nT (.inl rfl);have q:aS (mn t ins G) (mn t ins u):=iP X;have j:iV K (upd u t (.ins (dY K "Corner") w (cfl b sp p ins))) t ins L.flip s:=by
    refine#[w,b,sp,p,bs,v,A,aL,?_,?_,?_,P.sl,P.sb,?_,?_,?_]
    .rw[B];exact q _ _ P.hb
    .rw[B];exact P.hbs.same q
    .rw[B];exact q _ _ P.hs
    .rw[B];exact xR H (dJ P.ob p0).symm (dJ P.hi p0).symm
    .rw[B];exact c.mn (λhx=>by have:=qn _ hx;rw[P.ob]at this;cases this) (λhx=>by have:=qn _ hx;rw[P.hi]at this;cases this)
    .rw[bZ M.symm];exact X _ _ P.hi
   have a1:aS (mn t ins G) (mn t ins (upd u t (.ins (dY K "Corner") w (cfl b sp p ins)))):=by rw[B];exact q
   generalize upd u t (.ins (dY K "Corner") w (cfl b sp p ins))=H5 at j a1;refine Kw C j lim.flip m1 (λZ R=>k0 Z (a1.trans (iP R))) λZ R D=>I L.flip Z (.inr rfl) (a1.trans (iP R)) (j.same R) #[?_,ok.cr,D] io;rw[Lpd.flip_D];lia
 .refine Kw C ca lim m1 (λZ R=>k0 Z (iP R)) λZ R D=>I L Z (.inl rfl) (iP R) (ca.same R) #[#[],ok.cr,D] io
structure CmAt(K:aR)(H0 H:Hp)(t ins f cl:Addr)(L:Lpd)(s:Nat->Nat)(fr cs:List Nat):Prop where
 sm:aS (mn t ins H0) (mn t ins H)
 ca:Ea K H t ins L s f
 ok:L.Okn s
 io:kR L s
 f0:H0 f=none
 hf:mn t ins H f=some (.lst (map int (fr.map λi:Nat=>(i:Int))))
 fm:∀x∈fr,x<L.m
 fl:fr.length<=L.m
 hc:mn t ins H cl=some (.lst (map int (cs.map λi:Nat=>(i:Int))))
 cf:cl≠f
def jUd(K:aR)(F:Hp)(t ins g f cl:Addr)(L:Lpd)(cs:List Nat):NS:=λ_ O Y=>∃s fr T X p,O=[some (.ref t),some (.ref g),some (.int L.n),some (.ref f),T,X,p]/\CmAt K F Y t ins f cl L s fr cs
def Zq:∀{l:List Nat}{r:Nat},r∈l->∃j:Nat,l[j]?=some r/\∀m:Nat,m<j->l[m]?≠some r
 | [],_,h=>nomatch h
 |a::l,r,h=>by
  by_cases e:a=r
  .exact#[0,by rw[e];rfl,λm hm=>absurd hm (eU _)]
  .rcases eK.mp h with h |h
   .exact absurd h.symm e
   .obtain⟨j,h1,h2⟩:=Zq h;refine#[j+1,by simpa using h1,λm hm=>?_];cases m with
    |zero=>intro z;exact e (by simpa using z)
    |succ m=>have:=h2 m #[];simpa using this
def Wr{x:V}(h:(map int (ns.map λi:Nat=>(i:Int)))[i]?=some x):∃y:Nat,x=.int (y:Int)/\ns[i]?=some y:=by
 rw[aX,aX]at h;cases e:ns[i]? with
 |none=>rw[e]at h;cases h
 |some y=>rw[e]at h;exact#[y,(aU h).symm,rfl]
def jJg{D:xI}{t ins g f cl:Addr}{L:Lpd}{fr cs:List Nat}{X:Option V}(lim:L.Lim)(I:CmAt K F G t ins f cl L s fr cs)(hc:c<L.n)
  (O:∀Z,aS (mn t ins F) (mn t ins Z)->D.rt (.bl false) Z) (k1:∀R a3 X o6 Z,CmAt K F Z t ins f cl L R a3 cs->D.nx [some (.ref t),some (.ref g),some (.int L.n),some (.ref f),some (.int c),X,o6] Z):
  iC K D [some (.ref t),some (.ref g),some (.int L.n),some (.ref f),some (.int c),X,o6] G:=by
 obtain⟨w,b,sp,k,bs,v,ks,P⟩:=id I.ca.at;(dsimp?[iC,eZ];try simp_arith[iC,eZ,if_true])
 refine#[_,_,P.ob,rfl,t,ins,L,s,c,rfl,I.ca.at,lim,I.ok,#[],λnl U M hn l=>?_];have ml:=lim.m1;have fl:=I.fl;have a1:=M _ _ (lP _ _ I.hf);(dsimp?[pA,pI,cZ]);refine#[#[_,SqL.of a1],Du (K:=K) (a:=f) (xs:=map int (fr.map λi:Nat=>(i:Int))) (λi J Y=>Y=U/\∃A:List Nat,J=map int (A.map λi:Nat=>(i:Int))/\∀x∈A,x∈fr/\L.T s x (L.cv c)≠0) (by rw[aA,aA,sizeLine_eq];lia) #[rfl,[],rfl,(λ_ h=>nomatch h)] ?_ ?_ ?_]
 .rintro i J Y _ ⟨rfl,_⟩;exact SqL.of a1
 .rintro i x J Y hi _ ⟨rfl,A,rfl,hp⟩;obtain⟨y,rfl,hy⟩:=Wr hi;have ym:=I.fm y (aJ hy);(dsimp?[pC,dA,cA,cY,bJ]);refine#[_,SqL.of l,int (L.T s y (L.cv c)),fD (by rw[aX];unfold Lpd.numL;rw[fC _ #[]];rfl),rfl,?_];by_cases h0:L.T s y (L.cv c)=0
  .rw[decide_eq_true (by rw[h0]:int (L.T s y (L.cv c))=int 0)];exact Dz #[A,rfl,hp]
  .rw[decide_eq_false (λz=>h0 (by injection z):¬int (L.T s y (L.cv c))=int 0)];refine Mv #[A++[y],by rw[aV,aV];rfl,λx hx=>?_];rcases cW.mp hx with hx |hx
   .exact hp x hx
   .rw[cJ.mp hx];exact#[aJ hy,h0]
 .rintro J Y ⟨rfl,A,rfl,hp⟩ p C;have d:=aS.upd (o:=lst (map int (A.map λi:Nat=>(i:Int)))) C;have p2:(upd Y p (lst (map int (A.map λi:Nat=>(i:Int))))) p=some (lst (map int (A.map λi:Nat=>(i:Int)))):=aL;generalize upd Y p (lst (map int (A.map λi:Nat=>(i:Int))))=H2 at d p2;have N:=M.trans d;(dsimp?[pB,tTru]);refine#[_,.inl #[_,SqL.of p2,rfl],?_];cases A with
  |nil=>exact Mv (O H2 (I.sm.trans (iP N)))
  |cons r pr=>
   obtain⟨rf,rn⟩:=hp r bQ;have rm:=I.fm r rf;have P2:=P.same N;refine Dz ?_;(dsimp?[lJ,iS,eZ,tBM,Ae];try simp_arith[lJ,iS,eZ,tBM,Ae,if_true])
   have a2:p≠t/\p≠ins:=#[(dJ (M _ _ P.ob) C).symm,(dJ (M _ _ P.hi) C).symm];have S:f≠t/\f≠ins:=by
    have hf:=I.hf;constructor
    .rintro rfl;unfold mn at hf;rw[aK (.inl rfl)]at hf;cases hf
    .rintro rfl;unfold mn at hf;rw[aK (.inr rfl)]at hf;cases hf
   have pf:p≠f:=λe=>by rw[e,a1]at C;cases C
   have F2:=I.ca.same N;refine#[_,_,P2.ob,rfl,_,SqL.of p2,int r,lX,t,ins,L,s,nl,c,r,rfl,F2.at,lim,I.ok,d _ _ l,rm,λu q a6 ff=>?_];have F4:=ff f (by rw[N _ _ (lP _ _ I.hf)];exact λz=>nomatch z) F2
   have Q:=q _ _ (iP N _ _ I.hf);have p4:=q _ _ (xR p2 a2.1 a2.2);have c4:=q _ _ (iP N _ _ I.hc);obtain⟨j,hj,a4⟩:=Zq rf;refine#[.inl #[rfl,_,SqL.of (lP _ _ Q)],_,SqL.of (lP _ _ p4),int r,lX,fr.map λi:Nat=>(i:Int),(r:Int),rfl,lP _ _ Q,j,by rw[aX,hj];rfl,λm hm e=>?_,?_]
   .rw[aX]at e;cases e2:fr[m]? with
    |none=>rw[e2]at e;cases e
    |some y=>
     rw[e2]at e;have:(y:Int)=r:=aU e;exact a4 m hm (by rw[e2];congr 1;lia)
   .have er:(fr.map λi:Nat=>(i:Int)).eraseIdx j=(fr.eraseIdx j).map λi:Nat=>(i:Int):=(Np _ _ _).symm;rw[er];have B:=Ah (H:=u) (o:=lst (map int ((fr.eraseIdx j).map λi:Nat=>(i:Int)))) S.1 S.2;have a5:mn t ins F f=none:=by unfold mn;rw[aF (λz=>z.elim S.1 S.2)];exact I.f0
    refine k1 (Lpd.sput s r c) (fr.eraseIdx j) _ _ _ #[by rw[B];exact((I.sm.trans (iP N)).trans q).put a5,F4.upd S.1 S.2,I.ok.step rm rn,λi hi=>?_,I.f0,by rw[B,aL],λx hx=>I.fm x (List.mem_of_mem_eraseIdx hx),dE (List.length_eraseIdx_le _ _) I.fl,by rw[B,bZ I.cf];exact c4,I.cf];unfold Lpd.sput;split
    .omega
    .exact I.io i hi
def Dx{K vs H Q E}(C:xJ K)(h:mO K vs H Q E):nI K (eQ Q) (start rV vs) H:=by
 obtain⟨t,ins,L,g,gs,rfl,ca,lim,fl,m1,hg,gl,k0,k1⟩:=h;obtain⟨w,b,sp,k,bs,ss,ks,P⟩:=id ca;have ml:=lim.m1;rw[show start rV [ref t,ref g]=[some (.ref t),some (.ref g),none,none,none,none,none]from rfl];(dsimp?[nI,gW]);refine#[_,_,_,P.ob,C.cl,C.nb,_,mU b sp k ins,b,rfl,_,.inl (SqL.of P.B),?_];rw[aA,P.bl];(dsimp?[oY,pI,iJ]);have a1:=lP _ _ hg;refine#[_,.inl (SqL.of a1),?_];rw[aA,aA,gl,bW];refine#[#[],#[],jVh (lo:=0) (W:=λj J Z=>Z=H/\∃fr:List Nat,J=map int (fr.map λi:Nat=>(i:Int))/\(∀x∈fr,x<L.m)/\fr.length<=j) (by rw[sizeLine_eq];lia) #[rfl,[],rfl,(λ_ h=>nomatch h),aP _] ?_ ?_]
 .rintro j J Z hj _ ⟨rfl,fr,rfl,fm,a2⟩;(dsimp?[lL,rIn,dA,cA,cY,bJ];try simp_arith[lL,rIn,dA,cA,cY,bJ,eS])
  refine#[_,.inl (SqL.of a1),rfl,?_,?_]
  .rw[List.all_eq_true];intro v hv;obtain⟨c,_,rfl⟩:=cM.mp hv;rfl
  .refine mV (λ_=>#[fr++[j],by rw[aV,aV];rfl,λx hx=>?_,by rw[bF];show fr.length+1<=j+1;lia]) (λ_=>#[fr,rfl,fm,#[]]);rcases cW.mp hx with hx |hx
   .exact fm x hx
   .rw[cJ.mp hx];exact hj
 .rintro J Z ⟨rfl,fr,rfl,fm,a2⟩ f hf;have M:=aS.upd (o:=lst (map int (fr.map λi:Nat=>(i:Int)))) hf;have f1:(upd Z f (lst (map int (fr.map λi:Nat=>(i:Int))))) f=some (lst (map int (fr.map λi:Nat=>(i:Int)))):=aL;generalize upd Z f (lst (map int (fr.map λi:Nat=>(i:Int))))=U at M f1;have T:=M _ _ a1;(dsimp?[oZ,gP,pI,cZ]);refine#[#[_,SqL.of T],Du (K:=K) (a:=g) (xs:=map int (gs.map λi:Nat=>(i:Int))) (λi J Y=>Y=U/\∃A:List Nat,J=map int (A.map λi:Nat=>(i:Int))/\∀x∈A,x<L.n) (by rw[aA,aA,sizeLine_eq];lia) #[rfl,[],rfl,(λ_ h=>nomatch h)] ?_ ?_ ?_]
  .rintro i J Y _ ⟨rfl,_⟩;exact SqL.of T
  .rintro i x J Y hi _ ⟨rfl,A,rfl,hc⟩;obtain⟨y,rfl,hy⟩:=Wr hi;(dsimp?[pD,dA,cA,cY,bJ]);by_cases h0:(y:Int)<(L.n:Int)
   .rw[aK h0];refine#[A++[y],by rw[aV,aV];rfl,λx hx=>?_];rcases cW.mp hx with hx |hx
    .exact hc x hx
    .rw[cJ.mp hx];lia
   .rw[aF h0];exact#[A,rfl,hc]
  .rintro J Y ⟨rfl,A,rfl,hc⟩ cl F;have d:=aS.upd (o:=lst (map int (A.map λi:Nat=>(i:Int)))) F;have r:(upd Y cl (lst (map int (A.map λi:Nat=>(i:Int))))) cl=some (lst (map int (A.map λi:Nat=>(i:Int)))):=aL;have a5:cl≠f:=λe=>by rw[e,f1]at F;cases F
   have a3:cl≠t/\cl≠ins:=#[(dJ (M _ _ P.ob) F).symm,(dJ (M _ _ P.hi) F).symm];have a4:f≠t/\f≠ins:=#[(dJ P.ob hf).symm,(dJ P.hi hf).symm];have f2:=d _ _ f1;generalize upd Y cl (lst (map int (A.map λi:Nat=>(i:Int))))=H2 at d r f2;have N:=M.trans d;have I:CmAt K Z H2 t ins f cl L L.ins0 fr A:=#[iP N,((ca.fresh hf).same N),Lpd.Okn.start fl,λi hi=>by show L.n+i<L.n+L.m;lia,hf,xR f2 a4.1 a4.2,fm,a2,xR r a3.1 a3.2,a5];refine#[#[_,SqL.of r],jI (K:=K) (a:=cl) (xs:=map int (A.map λi:Nat=>(i:Int))) (g:=aY 4) (D:={ nx:=iB K (eQ Q),rt:=Q }) (jUd K Z t ins g f cl L A) #[_,_,_,_,_,rfl,I] ?_ ?_ ?_]
   .rintro i O u _ ⟨_,_,_,_,_,_,S⟩;exact SqL.of (lP _ _ S.hc)
   .rintro i x O u hi ⟨s,a6,o4,X,p,rfl,S⟩;obtain⟨y,rfl,hy⟩:=Wr hi;show iC K _ [some (.ref t),some (.ref g),some (.int L.n),some (.ref f),some (.int y),X,p] u;exact jJg lim S (hc y (aJ hy)) (λG sm=>k0 G sm) λR q X p G l=>#[R,q,_,X,p,rfl,l]
   .rintro O u ⟨s,a6,o4,X,p,rfl,S⟩;exact jJf C S.ca.at lim m1 S.ok S.io (λG sm=>k0 G (S.sm.trans sm)) λL2 G e sm z a7 a8=>k1 L2 s G e (S.sm.trans sm) z a7 a8
def rD:LS:=["self","column","numbers"]
def mC(K:aR):Sp:=λvs H Q _=>∃t ins L s,∃o:Option Nat,vs=[.ref t,oV o]/\iV K H t ins L s/\L.Lim/\L.Okn s/\(∀c,o=some c->c<L.n+L.m)/\(∀Z,aS H Z->Q (.bl false) Z)/\∀Z,aS H Z->UnO L s o->Q (.bl true) Z
def kK(K:aR):TS:=(cB (gA (dD (tOp Av (aE 1) (tC .non))) (cX (tOp Av (eZ (dY K "Corner") "entering" (jD K) [] E0 (aE 0) bE) (tC .non))) eL) (cB (cN (eZ (dY K "Corner") "numbers" (iG K) [] E0 (aE 0) (aH (aE 1) bE)) (aY 2)) (cX (Ed (tOp kM (tOp (gB K) (aE 2) (tUn iU (tC (.int 1)))) (tC (.int 0))) (tOp Av (eZ (dY K "Corner") "leaving_by" (jM K) [] E0 (aE 0) (aH (aE 2) bE)) (tC .non))))))
def Az{K vs H Q E}(C:xJ K)(h:mC K vs H Q E):kK K (eQ Q) (start rD vs) H:=by
 obtain⟨t,ins,L,s,o,rfl,ca,lim,ok,hc,O,I⟩:=h;obtain⟨w,b,Z,k,bs,v,ks,P⟩:=id ca;rw[show start rD [ref t,oV o]=[some (.ref t),some (oV o),none]from rfl];(dsimp?[kK,eZ,Av];try simp_arith[kK,eZ,Av,if_true])
 cases o with
 |none=>
  rw[aK (show oV none=V.non from rfl)];refine#[_,_,P.ob,rfl,t,ins,L,s,rfl,ca,lim,ok,λo U M x=>?_];cases o with
  |none=>rw[decide_eq_true (show oV none=V.non from rfl)];exact I U M x
  |some c=>rw[decide_eq_false (show ¬oV (some c)=V.non from λz=>nomatch z)];exact O U M
 |some c=>
  rw[aF (show ¬oV (some c)=V.non from λz=>nomatch z)]
  refine#[_,_,P.ob,rfl,t,ins,L,s,c,rfl,ca,lim,ok,hc c rfl,λF U M hn l=>#[F,rfl,_,SqL.of l,int (L.T s L.m (L.cv c)),yM (by rw[aA];unfold Lpd.numL;rw[bH,Nat.add_sub_cancel,aX,fC _ (fX _)];rfl),_,rfl,mV (λh=>#[_,_,(P.same M).ob,rfl,t,ins,L,s,F,c,rfl,ca.same M,lim,ok,l,λo j d S=>?_]) (λh=>O U M)]];cases o with
  |none=>rw[decide_eq_true (show oV none=V.non from rfl)];exact I j (M.trans d) #[hc c rfl,h,λi hi=>S i (jB hi)]
  |some r=>rw[decide_eq_false (show ¬oV (some r)=V.non from λz=>nomatch z)];exact O j (M.trans d)
def Bu:LS:=["lists","bits","guess","column","corner"]
structure Ve(H:Hp)(a:Addr)(rps:List Addr)(L:Lpd)(q q':Nat):Prop where
 R:xG H a rps L
 fl:L.fl=false
 m1:1<=L.m
 n1:1<=L.n
 lim:L.Lim
 F:Fit L.m L.n q'
 q9:q<=9000
 st:∀k,40*2^k<q->40*2^k<=q'
 ba:∀j k,j<L.n->k<=L.m->BB q (L.a j k)
 bb:∀k,k<=L.m->BB q (L.be k)
 nn:∀k,k<L.m->0<=L.be k
structure jYa(K:aR)(H:Hp)(p t ins:Addr)(L L2:Lpd)(s:Nat->Nat)(o:Option Nat):Prop where
 e:L2=L∨L2=L.flip
 hp:H p=some (.tup [.ref t,oV o])
 ca:iV K H t ins L2 s
 ok:L2.Ok s
 io:kR L2 s
 un:UnO L2 s o
def qT(K:aR):Sp:=λvs H Q _=>∃a g L q S,vs=[.ref a]/\Ve H a g L q S/\∀p t ins e s o Z,aS H Z->jYa K Z p t ins L e s o->Q (.ref p) Z
def tR(K:aR):TS:=(cX (iX (aH (aE 4) (aH (aE 3) bE))))
def tQ(K:aR):TS:=(cB (cN (cC (pZ K) [] E0 (aH (aE 4) bE)) (aY 3)) (tR K))
def oE(K:aR):TS:=(cB (cN (Bb (dY K "Corner") (kC K) [] E0 (aH (aE 0) bE)) (aY 4)) (tQ K))
def tS(K:aR):TE:=(cC (vB K) [] E0 (aH (aE 0) bE))
def oC(K:aR):TS:=(cN (tOp fQ (tC (.int 2)) (aE 1)) (aY 1))
def oB(K:aR):TS:=(cB (gA (Mt (tB (eZ (dY K "Corner") "comes_to" (mO K) [] E0 (aE 4) (aH (gW K (aE 2) "inside") bE))) (tB (eZ (dY K "Corner") "ends_with" (mC K) [] E0 (aE 4) (aH (aE 3) bE)))) (cX (iX (aH (aE 4) (aH (aE 3) bE)))) eL) (oC K))
def tP(K:aR):TS:=(cB (cN (Bb (dY K "Corner") (kC K) [] E0 (aH (aE 0) bE)) (aY 4)) (oB K))
def tO(K:aR):TS:=(cB (cN (cC (pZ K) [] E0 (aH (aE 2) bE)) (aY 3)) (tP K))
def oF(K:aR):TS:=(cB (cN (Bb (dY K "Corner") (kC K) [] E0 (aH (cC (Da K) [] E0 (aH (aE 0) (aH (aE 1) bE))) bE)) (aY 2)) (tO K))
def tM(K:aR):TS:=(cB (qE (dD (tOp kM (aE 1) (tCB (Yj K) (aH (dH (cZ K (aE 0)) [] (tS K)) bE)))) (oF K)) (oE K))
def sI(K:aR):TS:=(cB (cN (tC (.int 40)) (aY 1)) (tM K))
def Ve.same{g:List Addr}{L:Lpd}{S:Nat}(h:Ve H a g L q S)(s:aS H Z):Ve Z a g L q S:=#[h.R.same s,h.fl,h.m1,h.n1,h.lim,h.F,h.q9,h.st,h.ba,h.bb,h.nn]
def Ve.row{g:List Addr}{L:Lpd}{S:Nat}(h:Ve H a g L q S)(hi:i<=L.m):∀x∈L.rowL i,BB q x:=λx hx=>by
 rcases Lpd.rowL_mem hx with⟨j,Z,rfl⟩|rfl
 .exact h.ba j i Z hi
 .exact h.bb i hi
def Mc{U j:Hp}{t i:Addr}(s:aS H U)(y:H t=none)(hi:H i=none)(m:aS (mn t i U) (mn t i j)):aS H j:=λb o e=>lP _ _ (m b o (xR (s b o e) (dJ e y) (dJ e hi)))
def zL{g:List Addr}{L:Lpd}{P:Addr->Hp->Prop}(R:xG G a g L)(lim:L.Lim)(fl:L.fl=false)(k:∀t ins Z,G t=none->G ins=none->aS G Z->iV K Z t ins L L.ins0->P t Z):
  ∀(x w:Addr),G x=none->G w=none->w≠x->kC K [.ref x,.ref a] (upd (upd G w (.own x)) x (.ins (dY K "Corner") w [])) (λv j=>v=.non/\P x j) E0:=by
 intro t w y c ne;have M:aS G (upd (upd G w (.own t)) t (.ins (dY K "Corner") w [])):=(aS.upd c).put y;refine#[t,w,a,g,L,rfl,aL,R.same M,lim,fl,λins Z hi b ca=>#[rfl,k t ins Z y (M.free hi) (λd o e=>b d o (M d o e) (dJ e y)) ca]]
def jZx{g:List Addr}{L:Lpd}{S:Nat}{h l r T:Option V}(I:Ve G a g L q S)(s:aS H G)(k:∀p t ins e s o Z,aS H Z->jYa K Z p t ins L e s o->Q (.ref p) Z):
  oE K (eQ Q) [some (.ref a),h,l,r,T] G:=by
 (dsimp?[oE,Bb]);refine zL I.R I.lim I.fl λt ins U y hi M ca=>?_;(dsimp?[tQ]);refine#[t,ins,L,L.ins0,rfl,ca,I.lim,Lpd.Okx.start I.fl I.nn,λi hi=>by show L.n+i<L.n+L.m;lia,λo u j sm f c d b=>?_];(dsimp?[tR]);refine#[sz2,λp hp=>k p t ins L u o _ ((s.trans (Mc M y hi sm)).trans (aS.upd hp)) #[.inl rfl,aL,f.same (aS.upd hp),c.w,d,b]]
def jZy(C:xJ K){D:xI}{g:List Addr}{L:Lpd}{S b:Nat}{o2 r T:Option V}(I:Ve G a g L q S)(s:aS H G)(b1:1<=b)(bq:b<q)(b2:b<=S)(k:∀p t ins e s o Z,aS H Z->jYa K Z p t ins L e s o->D.rt (.ref p) Z)
  (kn:∀o2 r T Z,aS H Z->D.nx [some (.ref a),some (.int ((2*b:Nat):Int)),o2,r,T] Z):
  oF K D [some (.ref a),some (.int b),o2,r,T] G:=by
 have q9:=I.q9;(dsimp?[oF,Bb]);refine#[a,g,L,b,rfl,I.R,I.n1,I.F.n1,I.F.m1,#[],λi hi x hx=>(I.row hi x hx).mono #[],λl A e U M R2 rn=>?_];have a1:e.Lim:=by
  have F2:Fit e.m e.n S:=by rw[rn.m,rn.n];exact I.F
  exact F2.lim (λj k hj hk=>(rn.ba j k (by rw[←rn.n];exact hj) (by rw[←rn.m];exact hk)).mono #[]) λk hk=>(rn.bb k (by rw[←rn.m];exact hk)).mono #[]
 show ∀(x w:Addr),_;refine zL R2 a1 rn.fl λt ins H2 y hi d ca=>?_;(dsimp?[tO]);refine#[t,ins,e,e.ins0,rfl,ca,a1,Lpd.Okx.start rn.fl (λi hi=>rn.nn i (by have:=rn.m;lia) (I.nn i (by have:=rn.m;lia))),λi hi=>by show e.n+i<e.n+e.m;lia,λo s' Y sm a7 b6 b7 a8=>?_];have O:aS G Y:=Mc (M.trans d) (M.free y) (M.free hi) sm;have z:=I.same O;obtain⟨b8,b3,a9,k3,b9,c2,c3,P3⟩:=id a7;(dsimp?[tP,Bb]);refine zL z.R z.lim z.fl λv h u a2 P X a4=>?_;have P4:=P3.same X;obtain⟨c4,b4,c5,k4,c6,c7,c8,PT⟩:=id a4;have r4:∀Z,aS H Z->oC K D [some (.ref a),some (.int b),some (.ref t),some (oV o),some (.ref v)] Z:=λZ s'=>by
  (dsimp?[oC]);refine#[.l (by show(2:Int).natAbs<2^64;decide),?_];rw[show(2:Int)*(b:Int)=((2*b:Nat):Int) by lia];exact kn _ _ _ Z s'
 have J:=s.trans O;have e1:e.insL s'=(ofF L.m s').map λc:Nat=>(c:Int):=by unfold Lpd.insL;rw[rn.m,jYq]
 have a5:=P4.hi;rw[e1]at a5;have n1:ins≠v:=dJ P3.hi a2;have n2:ins≠h:=dJ P3.hi P;(dsimp?[oB,eZ,gW];try simp_arith[oB,eZ,gW,if_true])
 refine#[_,_,PT.ob,rfl,_,_,_,P4.ob,C.cl,C.ni,_,nY b3 a9 k3 ins,v,h,L,ins,ofF L.m s',rfl,a4,z.lim,z.fl,z.m1,xR a5 n1 n2,bH _ _,λH5 f=>#[false,rfl,Dz (Dz (r4 H5 ?_))],λL3 N H5 e5 f a3 a6 b0=>#[true,rfl,Mv ?_]]
 .exact Mc (J.trans X) (J.free a2) (J.free P) f
 .have s5:=Mc (J.trans X) (J.free a2) (J.free P) f;obtain⟨c9,b5,d1,k5,d2,d3,d4,P5⟩:=id a3;have Q:L3.Lim/\L3.n=L.n/\L3.m=L.m:=by
   rcases e5 with rfl |rfl
   .exact#[z.lim,rfl,rfl]
   .exact#[z.lim.flip,rfl,rfl]
  refine#[_,_,P5.ob,rfl,v,h,L3,N,o,rfl,a3,Q.1,a6.n,λc ec=>?_,λH6 B=>#[false,rfl,Dz (r4 H6 (s5.trans B))],λH6 B un=>#[true,rfl,Mv #[sz2,λp hp=>k p v h L3 N o _ ((s5.trans B).trans (aS.upd hp)) #[e5,aL,(a3.same B).same (aS.upd hp),a6,b0,un]]]];subst ec;have:=a8.1;rw[rn.n,rn.m]at this;rw[Q.2.1,Q.2.2];exact this
def Qj{K vs H Q E}(C:xJ K)(h:qT K vs H Q E):sI K (eQ Q) (start Bu vs) H:=by
 obtain⟨a,g,L,q,q',rfl,I,k⟩:=h;rw[show start Bu [ref a]=[some (.ref a),none,none,none,none]from rfl];(dsimp?[sI,tM,qE,dH,cZ,Yj]);have q9:=I.q9;have P:=I.R.len;have A:=I.F.m1;refine#[λm O Y=>∃(b e:Nat)(U r T:Option V),O=[some (.ref a),some (.int b),U,r,T]/\m=9000-b/\b=40*2^e/\1<=b/\aS H Y,#[9000-40,40,0,none,none,none,rfl,rfl,rfl,by decide,aS.refl _],?_];rintro m O Y ⟨b,B,U,r,T,rfl,rfl,D,t,N⟩;have z:=I.same N;simp only[Lq0,Lq1];refine#[a,rfl,#[_,SqL.of z.R.ha],dQ (K:=K) (a:=a) (xs:=map ref g) (λi J u=>aS Y u/\∃ls:List Int,J=map int ls/\ls.length=i/\∀l∈ls,l<=q) (by rw[aA,sizeLine_eq];lia) #[aS.refl _,[],rfl,rfl,(λ_ h=>nomatch h)] ?_ ?_ ?_]
 .rintro i J u _ ⟨X,_⟩;exact SqL.of (X _ _ z.R.ha)
 .rintro i x J u hi _ ⟨X,ls,rfl,ll,f⟩;obtain⟨p,rfl,hp⟩:=eC hi;obtain⟨y,d⟩:=(z.R.same X).inv hp;(dsimp?[tS]);refine#[p,_,rfl,SqL.of d,λe=>?_,by rw[Lpd.rowL_length];have:=I.F.n1;lia,λM H5 v _#[n,hn,j]=>#[X.trans v,ls++[(M:Int)],by rw[aV];rfl,by rw[bF,ll];rfl,λl S=>?_]]
  .have:=congrArg List.length e;rw[Lpd.rowL_length]at this;simp at this
  .rcases cW.mp S with S |S
   .exact f l S
   .rw[cJ.mp S,←j];have:=Ru (I.row y n hn);lia
 .rintro J u _ ⟨X,ls,rfl,ll,f⟩ p hp;rw[aA,P]at ll;refine#[ls,SqL.of aL,λe=>by rw[e]at ll;simp at ll,λM c hA=>#[_,rfl,?_]];have v:=(N.trans X).trans (aS.upd (o:=lst (map int ls)) hp);have s:=f M c;refine mV (λh=>#[λG Z=>∃U r T,G=[some (.ref a),some (.int ((2*b:Nat):Int)),U,r,T]/\aS H Z,λG Z#[U,r,T,e,w]=>#[9000-2*b,#[],2*b,B+1,U,r,T,e,rfl,by rw[D,Nat.pow_succ];lia,#[],w],?_]) (λh=>?_)
  .exact jZy C (I.same v) v t #[] (by rw[D];exact I.st B #[]) k λU r T Z w=>#[U,r,T,rfl,w]
  .exact jZx (I.same v) v k
def N_over:LS:=["one","other"]
def Ac(K:aR):Sp:=λvs H Q _=>∃p q a b c d,vs=[.ref p,.ref q]/\Tw K H p q a b c d/\0<b/\0<c/\BB 9000 (b*c)/\∀r Z,aS H Z->Z r=some (.tup [.int (lo2 (a*d) (b*c)).1,.int (lo2 (a*d) (b*c)).2])->Q (.ref r) Z
def jJ4(K:aR):TS:=(cX (cC (mY K) [] E0 (aH (tOp fQ (tOp (eY K) (aE 0) (tC (.int 0))) (tOp (eY K) (aE 1) (tC (.int 1)))) (aH (tOp fQ (tOp (eY K) (aE 0) (tC (.int 1))) (tOp (eY K) (aE 1) (tC (.int 0)))) bE))))
def rd_over{K}:RdS K Ac jJ4 N_over:=by
 rintro j H Q E ⟨p,q,a,b,c,d,rfl,⟨hp,F,ba,bb,bc,f⟩,A,c0,e,k⟩;rw[show start N_over [ref p,ref q]=[some (.ref p),some (.ref q)]from rfl];(dsimp![jJ4,aE,tC,tOp,rI,fQ,cX,cC,aH,bE,eY,cS]);refine#[_,hp,_,lX,_,F,_,lA,_,rfl,_,rfl,.b ba f,_,hp,_,lA,_,F,_,lX,_,rfl,_,rfl,.b bb bc,?_];have z:0<b*c:=bK A c0;refine#[_,_,rfl,#[],e,λx y r Z s h l=>k r Z s ?_];obtain⟨e1,C⟩:=l.uniq z (eN z);rw[←e1,←C];exact h
def xB:LS:=["self","numbers","told","number","column"]
def lU(K:aR):Sp:=λvs H Q _=>∃t ins L s F,∃f:Nat->Int,vs=[.ref t,.ref F]/\iV K H t ins L s/\L.Lim/\L.Ok s/\H F=some (.lst (map int (ofF (L.m+1) f)))/\
 ∀l ps Z,aS H Z->H l=none->Z l=some (.lst (map ref ps))->dC K Z ps (ofF L.n (xD L s f L.m))->Q (.ref l) Z
def jVU(K:aR)(t a l:Addr)(L:Lpd)(s:Nat->Nat)(f:Nat->Int)(F:Hp):NS:=λi O Y=>∃R U ps,O=[some (.ref t),some (.ref a),some (.ref l),R,U]/\aS F Y/\Y l=some (.lst (map ref ps))/\dC K Y ps (ofF L.n (xD L s f i))
def rC(K:aR):TS:=(gA (dD (tOp kM (aE 4) (tCB (iD K) (aH (aE 2) bE)))) (cN (cC (mY K) [] E0 (aH (aE 3) (aH (eZ (dY K "Corner") "bottom" (iY K) [] E0 (aE 0) bE) bE))) (xL (aE 2) (aE 4) oP)) eL)
def mN(K:aR):TG:=(jR K 2 (dZ (aY 3) (dZ (aY 4) jS)))
def rB(K:aR):TE:=(iX (aH (tC (.int 0)) (aH (tC (.int 1)) bE)))
def pK(K:aR):TS:=(cB (cN (dH (cZ K (gW K (aE 0) "begun")) [] (rB K)) (aY 2)) (cB (gP (nL K (aH (aE 1) (aH (gW K (aE 0) "inside") bE))) (mN K) (rC K)) (cX (aE 2))))
def jUa{D:Int}(h:0<D):lo2 0 D=(0,1):=by
 have:Lo 0 D 0 1:=#[by decide,by decide,by simp,aP _,#[]];exact(this.is h).symm
def Zf{n:Nat}{f:Nat->d}{v:d}:(ofF n f).set i v=ofF n λk=>if k=i then v else f k:=by
 apply List.ext_getElem?;intro k;rw[getElem?_set];by_cases hk:k<n
 .rw[fC (λk=>if k=i then v else f k) hk];by_cases e:i=k
  .rw[aK e,aK (by rw[bH];lia),aK e.symm]
  .rw[aF e,aF (Ne.symm e),fC _ hk]
 .rw[bU (l:=ofF n λk=>if k=i then v else f k) (by rw[bH];lia)];by_cases e:i=k
  .rw[aK e,aF (by rw[bH];lia)]
  .rw[aF e,bU (by rw[bH];lia)]
def Yu{L:Lpd}(ok:L.Ok s){f:Nat->Int}(hi:i<L.m):Lpd.spr (i+1) s f j=if j=s i then f i else Lpd.spr i s f j:=by
 show Lpd.spr i s f j+(if s i=j then f i else 0)=_;by_cases e:s i=j
 .rw[aK e,aK e.symm];have:Lpd.spr i s f j=0:=kP λk hk=>aF λz=>ok.inj (show k<L.m by lia) hi #[] (z.trans e.symm);rw[this,eS]
 .rw[aF e,aF (Ne.symm e),Int.add_zero]
def Jy{K vs H Q E}(C:xJ K)(h:lU K vs H Q E):pK K (eQ Q) (start xB vs) H:=by
 obtain⟨t,ins,L,s,F,f,rfl,ca,lim,ok,a5,q⟩:=h;obtain⟨dx,b,sp,k,bs,ss,ks,P⟩:=id ca;have bl:=P.bl;have n1:=lim.n1;have m1:=lim.m1;have D0:=ok.pos;rw[show start xB [ref t,ref F]=[some (.ref t),some (.ref F),none,none,none]from rfl];(dsimp![pK,gW,dH,cZ,gP,nL,cB,cN,aY,aE,cX,aH,bE]);refine#[_,_,_,P.ob,C.cl,C.nb,_,mU _ _ _ _,_,rfl,#[_,SqL.of P.B],dQ (K:=K) (a:=b) (xs:=map ref bs) (λi J Y=>aS H Y/\∃A,J=map ref A/\dC K Y A (ofF i λ_=>((0,1):Int×Int))) ?_ #[aS.refl _,[],rfl,trivial] ?_ ?_ ?_]
 .rw[aA,sizeLine_eq];lia
 .rintro i J Y _ ⟨N,_⟩;exact N.seq (SqL.of P.B)
 .rintro i x J Y hi _ ⟨N,A,rfl,hps⟩;dsimp only[rB,tC,aH,bE,iX,gD,gE,gC];refine#[sz2,λp hp=>#[N.trans (aS.upd hp),A++[p],by rw[aV];rfl,?_]];rw[fN];exact dC.snoc (hps.same (aS.upd hp)) (SqT.of aL)
 .rintro J Y _ ⟨N,A,rfl,hps⟩ l S;rw[aA,bl]at hps;have X:=N.trans (aS.upd (o:=lst (map ref A)) S);have z:=hps.same (aS.upd (o:=lst (map ref A)) S);have a6:(upd Y l (.lst (map ref A))) l=some (.lst (map ref A)):=aL;have a7:=N.free S;generalize upd Y l (.lst (map ref A))=u at X z a6;have M:(L.insL s).length=L.m:=by unfold Lpd.insL;rw[bH]
  refine#[_,_,_,X _ _ P.ob,C.cl,C.ni,_,nY _ _ _ _,_,rfl,#[_,X.seq (SqL.of a5)],#[_,X.seq (SqL.of P.hi)],jUk (K:=K) (a:=F) (b:=ins) (xs:=map int (ofF (L.m+1) f)) (ys:=map int (L.insL s)) (g:=mN K) (D:={ nx:=cX (aE 2) (eQ Q),rt:=Q }) L.m (jVU K t F l L s f H) ?_ ?_ ?_ ?_ ?_ ?_ ?_]
  .refine#[none,none,A,rfl,X,a6,?_];have:(ofF L.n λ_=>((0,1):Int×Int))=ofF L.n (xD L s f 0):=jF λj _=>by
    unfold xD;show _=lo2 0 _;rw[jUa D0]
   rw[←this];exact z
  .rintro i O G _ ⟨_,_,_,_,I,_⟩;exact#[I.seq (SqL.of a5),I.seq (SqL.of P.hi)]
  .rw[aA,bH];lia
  .rw[aA,M];exact aP _
  .rw[aA,aA,M];exact .inr (aP _)
  .rintro i x y p O G hx hy hi ⟨o1,U,a1,rfl,I,a3,a2⟩ hp;obtain⟨v,rfl,hv⟩:=fR hx;obtain⟨w,rfl,hw⟩:=fR hy;obtain⟨_,rfl⟩:=gM hv;obtain⟨_,rfl⟩:=gM hw;have s6:=aS.upd (o:=tup [.int (f i),.int (s i)]) hp;have a8:a1.length=L.n:=by rw[a2.length,bH]
   (dsimp![mN,rC,eZ,cN,aY,aE,tOp,rI0,kM,gA,dD,eL,cC,aH,bE,tCB,iD,jR,dZ,jS,cS,cT]);refine#[_,SqT.of aL,rfl,_,_,rfl,_,_,rfl,rfl,?_];have c:=s6 _ _ a3;have a4:=a2.same s6;have d:=I.trans s6;generalize upd G p (.tup [.int (f i),.int (s i)])=H6 at d c a4;refine#[_,.inl (SqL.of c),?_];rw[aA,a8];refine#[_,rfl,mV (λR=>?_) (λR=>?_)]
   .have b0:s i<L.n:=#[];refine#[_,_,d _ _ P.ob,rfl,_,_,_,_,rfl,ca.same d,_,_,rfl,Int.ne_of_gt D0,lim.bD s ok.n,λx y r H7 T a9 lo=>?_];(dsimp![xL,oP,aE]);refine#[_,T _ _ c,_,by rw[aA,a8];exact uW #[] #[],?_];rw[bW];refine#[_,_,a1.set (s i) r,rfl,(d.trans T).put a7,by rw[aL,List.map_set],?_];have e:ofF L.n (xD L s f (i+1))=(ofF L.n (xD L s f i)).set (s i) (x,y):=by
     rw[Zf];refine jF λj Z=>?_;unfold xD;rw[Yu ok hi];by_cases e:j=s i
     .rw[aK e,aK e,lo.is D0]
     .rw[aF e,aF e]
    rw[e];exact dC.off (T _ _ c) (dC.set (SqT.of a9) (s i) (a4.same T))
   .refine#[_,_,a1,rfl,d,c,?_];have e:ofF L.n (xD L s f (i+1))=ofF L.n (xD L s f i):=jF λj Z=>by
     unfold xD;rw[Yu ok hi,aF #[]]
    rw[e];exact a4
  .rintro O G ⟨o1,U,a1,rfl,I,a3,a2⟩;(dsimp![aE,cX]);exact q l a1 G I a7 a3 a2
def Lm:LS:=["self"]
def wV(K:aR):Sp:=λvs H Q _=>∃t ins L s,vs=[.ref t]/\iV K H t ins L s/\L.Lim/\L.Ok s/\
 ∀l ps Z,aS H Z->H l=none->Z l=some (.lst (map ref ps))->dC K Z ps (ofF L.n (xD L s (λi=>L.T s i L.be) L.m))->Q (.ref l) Z
def zC(K:aR):TS:=(cX (eZ (dY K "Corner") "spread" (lU K) [] E0 (aE 0) (aH (cC (kJ K) [] E0 (aH (gW K (aE 0) "kept") (aH (tUn iU (tC (.int 1))) bE))) bE)))
def atI_end{l:List Int}(h:l[l.length-1]?=some x):atI (map int l) (-1)=some (.int x):=yM (by rw[aA,aX,h];rfl)
def Xj{K vs H Q E}(C:xJ K)(h:wV K vs H Q E):zC K (eQ Q) (start Lm vs) H:=by
 obtain⟨t,ins,L,s,rfl,ca,lim,ok,q⟩:=h;obtain⟨w,b,Z,k,bs,v,ks,P⟩:=id ca;have m1:=lim.m1;rw[show start Lm [ref t]=[some (.ref t)]from rfl];(dsimp![zC,gW,eZ,aE,tC,tUn,rU,iU,cX,cC,aH,bE,cS]);refine#[_,_,P.ob,rfl,_,_,_,P.ob,C.cl,C.nk,_,jY _ _ _ _,_,_,_,_,L.m+1,rfl,SqL.of P.Kp,P.Ks,by rw[bH];lia,λr hr=>?_,λF U M hn D=>?_]
 .obtain⟨i,hi,rfl⟩:=lO hr;rw[iQ (L.keptL_last s i)];exact atI_end (by rw[Lpd.keptL_length];exact L.keptL_last s i)
 .have e:(ofF (L.m+1) (L.keptL s)).map (λr=>r.getD (L.m+1) 0)=ofF (L.m+1) λi=>L.T s i L.be:=by
   unfold ofF;rw[List.map_map];exact eP λi _=>iQ (L.keptL_last s i)
  rw[e]at D;refine#[_,_,_,_,_,_,rfl,ca.same M,lim,ok,D,λl A j d S O hp=>q l A j (M.trans d) (M.free S) O hp]
def Ca:LS:=["self","column","told"]
def qY(K:aR):Sp:=λvs H Q _=>∃t ins L s,∃c:Nat,vs=[.ref t,.int c]/\iV K H t ins L s/\L.Lim/\L.Ok s/\c<L.n+L.m/\(∀i,i<L.m->s i≠c)/\
 ∀l ps Z,aS H Z->H l=none->Z l=some (.lst (map ref ps))->dC K Z ps (ofF L.n (kL L s c))->Q (.ref l) Z
def tX(K:aR):TE:=(tUn iU (aE 0))
def sP(K:aR):TS:=(cB (cN (eZ (dY K "Corner") "spread" (lU K) [] E0 (aE 0) (aH (dH (cZ K (eZ (dY K "Corner") "numbers" (iG K) [] E0 (aE 0) (aH (aE 1) bE))) [] (tX K)) bE)) (aY 2)) (cB (gA (dD (tOp kM (aE 1) (tCB (iD K) (aH (aE 2) bE)))) (cN (iX (aH (tC (.int 1)) (aH (tC (.int 1)) bE))) (xL (aE 2) (aE 1) oP)) eL) (cX (aE 2))))
def lo2_one{D:Int}(h:0<D):lo2 D D=(1,1):=by
 have:Lo D D 1 1:=#[by decide,by decide,by rw[fW],#[],#[]];exact(this.is h).symm
def Qp{K vs H Q E}(C:xJ K)(h:qY K vs H Q E):sP K (eQ Q) (start Ca vs) H:=by
 obtain⟨t,ins,L,s,c,rfl,ca,lim,ok,hc,G,q⟩:=h;obtain⟨w,b,sp,k,bs,ss,ks,P⟩:=id ca;have m1:=lim.m1;have O:=ok.pos;rw[show start Ca [ref t,int c]=[some (.ref t),some (.int c),none]from rfl];(dsimp![sP,eZ,dH,cZ,cB,cN,aY,aE,tC,tOp,rI0,kM,cX,gA,dD,eL,aH,bE,iX,tCB,iD,cS,cT]);refine#[_,_,P.ob,rfl,_,_,P.ob,rfl,_,_,_,_,_,rfl,ca,lim,ok.n,hc,λF U M hn D=>?_];have B:(L.numL s c).length=L.m+1:=by unfold Lpd.numL;rw[bH]
 refine#[_,rfl,#[_,SqL.of D],dQ (K:=K) (a:=F) (xs:=map int (L.numL s c)) (WEq U λi J=>J=map int (ofF i λi=>-L.T s i (L.cv c))) ?_ #[rfl,rfl] ?_ ?_ ?_]
 .rw[aA,B,sizeLine_eq];lia
 .rintro i J Y _ ⟨rfl,_⟩;exact SqL.of D
 .rintro i x J Y hi _ ⟨rfl,rfl⟩;obtain⟨v,rfl,hv⟩:=fR hi;obtain⟨_,rfl⟩:=gM hv;(dsimp![tX,aE,tUn,rU,iU]);refine#[rfl,?_];show _=map int (ofF (i+1) λi=>-L.T s i (L.cv c));rw[fN,aV];rfl
 .rintro J Y _ ⟨rfl,rfl⟩ l1 a1;rw[aA,B];have d:=M.trans (aS.upd (o:=lst (map int (ofF (L.m+1) λi=>-L.T s i (L.cv c)))) a1);refine#[_,_,_,_,_,λi=>-L.T s i (L.cv c),rfl,ca.same d,lim,ok,aL,λl A u X S y hps=>?_];have f:A.length=L.n:=by rw[hps.length,bH]
  have N:=d.trans X;have r:=d.free S;refine#[_,rfl,_,.inl (SqL.of y),?_];rw[aA,f];have same:∀j,j≠c->kL L s c j=xD L s (λi=>-L.T s i (L.cv c)) L.m j:=λj Z=>by
   unfold kL xD;rw[aF Z,Int.add_zero]
  refine mV (λR=>#[sz2,λp hp=>?_]) (λR=>?_)
  ·(dsimp![xL,oP,aE,cX])
   have I:=aS.upd (o:=tup [.int 1,.int 1]) hp;refine#[_,I _ _ y,_,by rw[aA,f];exact uW #[] #[],?_];rw[bW];refine q l (A.set c p) _ ((N.trans I).put r) r (by rw[aL,List.map_set]) ?_;have e:ofF L.n (kL L s c)=(ofF L.n (xD L s (λi=>-L.T s i (L.cv c)) L.m)).set c (1,1):=by
    rw[Zf];refine jF λj Z=>?_;by_cases e:j=c
    .rw[aK e];unfold kL;have:Lpd.spr L.m s (λi=>-L.T s i (L.cv c)) j=0:=kP λi hi=>aF λz=>G i hi (z.trans e);rw[this,aK e,eS,lo2_one O]
    .rw[aF e,same j e]
   rw[e];exact dC.off (I _ _ y) (dC.set (g:=((1,1):Int×Int)) (SqT.of aL) c (hps.same I))
  .refine q l A u N r y ?_;have e:ofF L.n (kL L s c)=ofF L.n (xD L s (λi=>-L.T s i (L.cv c)) L.m):=jF λj Z=>same j #[];rw[e];exact hps
def Ll:LS:=["self"]
def wU(K:aR):Sp:=λvs H Q _=>∃t ins L s,vs=[.ref t]/\iV K H t ins L s/\L.Lim/\L.Ok s/\
 ∀l ps Z,aS H Z->H l=none->Z l=some (.lst (map ref ps))->dC K Z ps (ofF L.m λk=>lo2 (L.T s L.m (e1 k)) (L.D s))->Q (.ref l) Z
def zT(K:aR):TE:=(cC (mY K) [] E0 (aH (aE 0) (aH (eZ (dY K "Corner") "bottom" (iY K) [] E0 (aE 1) bE) bE)))
def zB(K:aR):TS:=(cX (dH (cZ K (tSl (uP K) (tOp (gB K) (gW K (aE 0) "kept") (tUn iU (tC (.int 1)))) iE (mQ (tCB (iD K) (aH (gW K (aE 0) "inside") bE))))) [0] (zT K)))
def Xi{K vs H Q E}(C:xJ K)(h:wU K vs H Q E):zB K (eQ Q) (start Ll vs) H:=by
 obtain⟨t,ins,L,s,rfl,ca,lim,ok,q⟩:=h;obtain⟨w,b,Z,k,bs,z,ks,P⟩:=id ca;have m1:=lim.m1;have O:=ok.pos;have u:(L.insL s).length=L.m:=by unfold Lpd.insL;rw[bH]
 obtain⟨p,_,c,d⟩:=P.last;rw[show start Ll [ref t]=[some (.ref t)]from rfl];(dsimp![zB,gW,dH,cZ,aE,tC,tOp,tUn,rU,iU,cX,aH,bE,tCB,iD,tSl,mQ,iE,uP,gB]);refine#[_,_,_,P.ob,C.cl,C.nk,_,jY _ _ _ _,_,rfl,_,SqL.of P.Kp,_,c,_,_,_,P.ob,C.cl,C.ni,_,nY _ _ _ _,_,rfl,_,.inl (SqL.of P.hi),?_];rw[aA,u];refine#[_,rfl,_,SqL.of d,λf g=>?_];rw[jWZ (by rw[Lpd.keptL_length];lia),Pr];have M:=aS.upd (o:=lst (map int (ofF L.m λk=>L.T s L.m (e1 k)))) g;have h1:(upd H f (.lst (map int (ofF L.m λk=>L.T s L.m (e1 k))))) f=some (.lst (map int (ofF L.m λk=>L.T s L.m (e1 k)))):=aL;generalize upd H f (.lst (map int (ofF L.m λk=>L.T s L.m (e1 k))))=U at M h1;refine#[#[_,SqL.of h1],dQ (K:=K) (a:=f) (xs:=map int (ofF L.m λk=>L.T s L.m (e1 k))) (λi J Y=>aS U Y/\∃A,J=map ref A/\dC K Y A (ofF i λk=>lo2 (L.T s L.m (e1 k)) (L.D s))) ?_ #[aS.refl _,[],rfl,trivial] ?_ ?_ ?_]
 .rw[aA,bH,sizeLine_eq];lia
 .rintro i J Y _ ⟨N,_⟩;exact N.seq (SqL.of h1)
 .rintro i x J Y hi _ ⟨N,A,rfl,hps⟩;obtain⟨v,rfl,hv⟩:=fR hi;obtain⟨G,rfl⟩:=gM hv;(dsimp![zT,eZ,dA,cA,cY,bJ,aE,cC,aH,bE,cS]);refine#[_,_,(M.trans N) _ _ P.ob,rfl,_,_,_,_,rfl,ca.same (M.trans N),_,_,rfl,Int.ne_of_gt O,lim.bD s ok.n,λx y r B j e lo=>#[N.trans j,A++[r],by rw[aV];rfl,?_]];rw[fN];refine dC.snoc (hps.same j) ?_;rw[←lo.is O];exact SqT.of e
 .rintro J Y _ ⟨N,A,rfl,hps⟩ l S;rw[aA,bH]at hps;exact q l A _ ((M.trans N).trans (aS.upd S)) ((M.trans N).free S) aL (hps.same (aS.upd S))
def N_best:LS:=["rows","bounds","goal","bound","made","limits","aims","lists","ended","xs"]
structure BeIn(K:aR)(H:Hp)(a b c:Addr)(rps bps gps:List Addr)(frs:hJ)(fb fg:eF):Prop where
 ha:H a=some (.lst (map ref rps))
 hr:qD K H rps frs
 hb:H b=some (.lst (map ref bps))
 hbs:dC K H bps fb
 hg:H c=some (.lst (map ref gps))
 hgs:dC K H gps fg
 gb:∀f∈fb,G9 f
noncomputable def wordO:Option Nat->Str
 |none=>"best"
 |some _=>"endless"
noncomputable def wayO(fl:Bool)(frs:hJ)(l d:eF)(s:Nat->Nat):Option Nat->eF
 |none=>ofF frs.length λk=>fov (ftm (lo2 ((bO fl frs l d).T s frs.length (e1 k)) ((bO fl frs l d).D s)) (whF (frs.getD k []))) (whF d)
 |some c=>ofF d.length (kL (bO fl frs l d) s c)
structure BeOut(K:aR)(H':Hp)(v:Addr)(fl:Bool)(frs:hJ)(fb fg:eF)(s:Nat->Nat)(o:Option Nat)(x w:Addr)(xp wp:List Addr):Prop where
 ok:(bO fl frs fb fg).Ok s
 io:kR (bO fl frs fb fg) s
 un:UnO (bO fl frs fb fg) s o
 hv:H' v=some (.tup [.str (wordO o),.ref x,.ref w])
 hx:H' x=some (.lst (map ref xp))
 hxs:dC K H' xp (ofF fg.length λj=>fov (xD (bO fl frs fb fg) s (λi=>(bO fl frs fb fg).T s i (bO fl frs fb fg).be) frs.length j) (whF (bnF frs fb)))
 hw:H' w=some (.lst (map ref wp))
 hws:dC K H' wp (wayO fl frs fb fg s o)
def Wa(K:aR):Sp:=λvs H Q _=>∃a b c g D e frs l d,vs=[.ref a,.ref b,.ref c]/\BeIn K H a b c g D e frs l d/\
 (∀f∈l,0<=f.1)/\BeO frs l d/\1<=frs.length/\1<=d.length/\∀v fl s o x w h X Z,aS H Z->H x=none->H w=none->BeOut K Z v fl frs l d s o x w h X->Q (.ref v) Z
def iv_best(a b c:Addr)(F:Hp)(l:eF):NS:=λi O Y=>∃R,O=[some (.ref a),some (.ref b),some (.ref c),R,none,none,none,none,none,none]/\aS F Y/\∀f∈l.take i,0<=f.1
def Sr(K:aR):TE:=(cC (Ac K) [] E0 (aH (cC (Ey K) [] E0 (aH (aE 0) (aH (tOp (eY K) (aE 1) (tC (.int 0))) bE))) (aH (tOp (eY K) (aE 2) (tC (.int 0))) bE)))
def Sl(K:aR):TG:=(jR K 2 (dZ (aY 0) (dZ (aY 1) jS)))
def qB(K:aR):TS:=(cB (gA (dD (tOp Yb (tOp (eY K) (aE 8) (tC (.int 1))) (tC .non))) (cX (iX (aH (tC (.str "endless")) (aH (aE 9) (aH (eZ (dY K "Corner") "ways" (qY K) [] E0 (tOp (eY K) (aE 8) (tC (.int 0))) (aH (tOp (eY K) (aE 8) (tC (.int 1))) bE)) bE))))) eL) (cX (iX (aH (tC (.str "best")) (aH (aE 9) (aH (iI (nL K (aH (eZ (dY K "Corner") "ys" (wU K) [] E0 (tOp (eY K) (aE 8) (tC (.int 0))) bE) (aH (aE 4) bE))) 2 [6] (Sl K) (Sr K)) bE))))))
def Sq(K:aR):TE:=(cC (Ac K) [] E0 (aH (aE 0) (aH (tOp (eY K) (aE 1) (tC (.int 0))) bE)))
def Je(K:aR):TS:=(cB (cN (dH (cZ K (eZ (dY K "Corner") "xs" (wV K) [] E0 (tOp (eY K) (aE 8) (tC (.int 0))) bE)) [5] (Sq K)) (aY 9)) (qB K))
def Si(K:aR):TS:=(cB (cN (cC (qT K) [] E0 (aH (tOp uQ (aE 7) (nO (aH (tOp uQ (cC (mH K) [] E0 (aH (tOp (eY K) (aE 6) (tC (.int 1))) bE)) (nO (aH (tC (.int 0)) bE))) bE))) bE)) (aY 8)) (Je K))
def So(K:aR):TE:=(tOp uQ (tOp (eY K) (aE 0) (tC (.int 1))) (nO (aH (aE 1) bE)))
def Sk(K:aR):TG:=(jR K 2 (dZ (aY 0) (dZ (aY 1) jS)))
def Jd(K:aR):TS:=(cB (cN (iI (nL K (aH (aE 4) (aH (tOp (eY K) (aE 5) (tC (.int 1))) bE))) 2 [] (Sk K) (So K)) (aY 7)) (Si K))
def Sn(K:aR):TE:=(cC (Ey K) [] E0 (aH (aE 0) (aH (tOp (eY K) (aE 1) (tC (.int 0))) bE)))
def Sj(K:aR):TG:=(jR K 2 (dZ (aY 0) (dZ (aY 1) jS)))
def Sf(K:aR):TS:=(cB (cN (cC (yB K) [] E0 (aH (iI (nL K (aH (aE 1) (aH (aE 4) bE))) 2 [] (Sj K) (Sn K)) bE)) (aY 5)) (cB (cN (cC (yB K) [] E0 (aH (aE 2) bE)) (aY 6)) (Jd K)))
def Sm(K:aR):TE:=(cC (yB K) [] E0 (aH (aE 0) bE))
def Jc(K:aR):TS:=(cB (cN (dH (cZ K (aE 0)) [] (Sm K)) (aY 4)) (Sf K))
def jWl(K:aR):TS:=(gA (tB (cC (Fa K) [] E0 (aH (aE 3) (aH (iX (aH (tC (.int 0)) (aH (tC (.int 1)) bE))) bE)))) iN eL)
def jJ6(K:aR):TS:=(cB (gP (cZ K (aE 1)) (aY 3) (jWl K)) (Jc K))
structure Yl(K:aR)(G:Hp)(md lv lf ll av af ag:Addr)(ms:List Addr)(frs:hJ)(fb fg:eF):Prop where
 hmd:G md=some (.lst (map ref ms))
 hm:xM G ms frs
 hlv:G lv=some (.tup [.ref lf,.ref ll])
 hlf:G lf=some (.tup [.int (whF (bnF frs fb)).1,.int (whF (bnF frs fb)).2])
 hll:G ll=some (.lst (map int (whL (bnF frs fb))))
 hav:G av=some (.tup [.ref af,.ref ag])
 haf:G af=some (.tup [.int (whF fg).1,.int (whF fg).2])
 hag:G ag=some (.lst (map int (whL fg)))
def Yl.same{b:Hp}{A S f c e:Addr}{P:List Addr}{frs:hJ}{l d:eF}(h:Yl K G A S f ll a c e P frs l d)(s:aS G b):Yl K b A S f ll a c e P frs l d:=
 #[s _ _ h.hmd,h.hm.same s,s _ _ h.hlv,s _ _ h.hlf,s _ _ h.hll,s _ _ h.hav,s _ _ h.haf,s _ _ h.hag]
def Zg(l:List Int):ofF l.length (λj=>l.getD j 0)=l:=by
 refine List.ext_getElem? λj=>?_;by_cases h:j<l.length
 .rw[fC _ h,Fh h]
 .rw[bU (by rw[bH];lia),bU #[]]
def rowL_of{e:Bool}{frs:hJ}{l d:eF}(B:BeO frs l d){r:eF}(n:frs[i]?=some r):(bO e frs l d).rowL i=whL r++[(whL (bnF frs l)).getD i 0]:=by
 unfold Lpd.rowL;have S:=(aI.mp n).1;have eq:frs.getD i []=r:=by rw[aN,n];rfl
 have e1:ofF d.length (λj=>(bO e frs l d).a j i)=whL r:=by
  rw[show(λj=>(bO e frs l d).a j i)=λj=>(whL r).getD j 0 from funext λj=>by
   show(if i<frs.length then(whL (frs.getD i [])).getD j 0 else _)=_;rw[aK S,eq],←B.lr r (aJ n),←jO]
  exact Zg _
 show ofF d.length (λj=>(bO e frs l d).a j i)++_=_;rw[e1];rfl
def jWp{e:Bool}{frs:hJ}{l d:eF}(B:BeO frs l d):(bO e frs l d).rowL frs.length=((whL d).map λx=>-x)++[0]:=by
 unfold Lpd.rowL;have e1:ofF d.length (λj=>(bO e frs l d).a j frs.length)=(whL d).map λx=>-x:=by
  conv=>rhs;rw[←Zg (whL d),jO]
  unfold ofF;rw[List.map_map];refine eP λj _=>?_;show(if frs.length<frs.length then _ else _)=_;rw[aF (eO _)];rfl
 have C:(whL (bnF frs l)).getD frs.length 0=0:=by
  rw[aN,bU (by rw[jO,jA B.lb];exact aP _)];rfl
 show ofF d.length (λj=>(bO e frs l d).a j frs.length)++[(whL (bnF frs l)).getD frs.length 0]=_;rw[e1,C]
def jZe{frs:hJ}{l d:eF}(B:BeO frs l d):∀f∈bnF frs l,G9 f:=λf hf=>by
 have a:=jA B.lb;obtain⟨i,hi⟩:=cF hf;have r:i<frs.length:=by have:=(aI.mp hi).1;lia
 have c:i<l.length:=by rw[B.lb];exact r
 have e1:=aC r;have C:=aC c;rw[uX C e1]at hi;obtain rfl:=aU hi;have X:=jE λf hf=>(B.gr _ (cD r) f hf).1;have tb:=B.tb _ (cD c) _ (cD r);have z:=bK (B.gb _ (cD c)).1 X.2;have lo:=eN (t:=(l[i]).1*(whF frs[i]).1) z;exact#[lo.pos,(lo.bb tb.2 tb.1).1,(lo.bb tb.2 tb.1).2]
def jXW{b c md S lf av af ag:Addr}{ms:List Addr}{frs:hJ}{l d:eF}(B:BeO frs l d)(M:Yl K G md S lf ll av af ag ms frs l d)(s0:aS H G){t ins:Addr}{L2:Lpd}{o:Option Nat}(O:jYa K G p t ins (bO false frs l d) L2 s o)
  (q:∀v fl s o x w xp X Z,aS H Z->H x=none->H w=none->BeOut K Z v fl frs l d s o x w xp X->Q (.ref v) Z) {o3 o7 o9:Option V}:
  Je K (eQ Q) [some (.ref a),some (.ref b),some (.ref c),o3,some (.ref md),some (.ref S),some (.ref av),o7,some (.ref p),o9] G:=by
 obtain⟨fl,C⟩:∃fl,L2=bO fl frs l d:=by
  rcases O.e with e |e
  .exact#[false,e]
  .exact#[true,e]
 subst C;have ok:=O.ok;have io:=O.io;have un:=O.un;have a9:=O.ca;have h:=O.hp;have gbn:=jZe B;have lim:=B.lim fl;have m1:frs.length<=100:=lim.m1;have n1:d.length<=100:=lim.n1;have e7:=M.hm.length;have D0:=ok.pos;obtain⟨f8,b5,f9,k5,g1,g3,g4,P⟩:=id a9;have wb:=jE λf hf=>(gbn f hf).1;have wg:=jE λf hf=>(B.gg f hf).1;(dsimp?[Je,eZ,dH,cZ]);refine#[_,SqT.of h,_,lX,_,rfl,_,_,P.ob,rfl,_,_,_,_,rfl,a9,lim,ok,λxl d5 e8 a3 g5 b0 hxs=>?_];have a8:=a3;have d6:d5.length=d.length:=by rw[hxs.length,bH];rfl
 have e9:∀j,BB 20000 (Lpd.spr (bO fl frs l d).m s (λi=>(bO fl frs l d).T s i (bO fl frs l d).be) j):=spr_bb ok λi hi=>lim.bb s i ok.n #[];refine#[_,rfl,#[_,SqL.of b0],dQ (K:=K) (a:=xl) (xs:=map ref d5) (λi J a4=>aS e8 a4/\∃A,J=map ref A/\dC K a4 A (ofF i λj=>fov (xD (bO fl frs l d) s (λi=>(bO fl frs l d).T s i (bO fl frs l d).be) frs.length j) (whF (bnF frs l)))) ?_ #[aS.refl _,[],rfl,trivial] ?_ ?_ ?_]
 .rw[aA,d6,sizeLine_eq];lia
 .rintro i J a4 _ ⟨a2,_⟩;exact a2.seq (SqL.of b0)
 .rintro i x J a4 hi _ ⟨a2,A,rfl,hps⟩;obtain⟨p,rfl,hp⟩:=eC hi;obtain⟨f,ef,hF⟩:=hxs.get hp;obtain⟨g6,rfl⟩:=gM ef;have lo:=eN (t:=Lpd.spr (bO fl frs l d).m s (λi=>(bO fl frs l d).T s i (bO fl frs l d).be) i) D0;have b3:=lo.bb (e9 i) ((lim.bD s ok.n).mono (show 9000<=20000 by decide));have b9:(lo2 (Lpd.spr (bO fl frs l d).m s (λi=>(bO fl frs l d).T s i (bO fl frs l d).be) i) ((bO fl frs l d).D s)).2<=(bO fl frs l d).D s:=by have h1:=lo.by_;have h2:=lo.pos;lia
  (dsimp?[Sq,dA,cA,cY,bJ]);refine#[_,SqT.of ((a8.trans a2) _ _ M.hlv),_,lX,_,_,_,_,_,_,rfl,#[a2.tup hF,SqT.of ((a8.trans a2) _ _ M.hlf),b3.1,b3.2,B.wb.1,B.wb.2],lo.pos,wb.1,Au (B.ox fl s ok.n) (bT lo.pos) b9 (bT wb.1),λr f1 Y hr=>#[a2.trans Y,A++[r],by rw[aV];rfl,?_]];rw[fN];exact dC.snoc (hps.same Y) (SqT.of hr)
 .rintro J a4 _ ⟨a2,xp,rfl,c9⟩ xv c2;rw[aA,d6]at c9;have Y:=a2.trans (aS.upd (o:=lst (map ref xp)) c2);have a5:=c9.same (aS.upd (o:=lst (map ref xp)) c2);have a6:(upd a4 xv (.lst (map ref xp))) xv=some (.lst (map ref xp)):=aL;generalize upd a4 xv (.lst (map ref xp))=f1 at Y a5 a6;have c6:H xv=none:=((s0.trans a8).trans a2).free c2;clear a2 c9 c2;have b6:=a8.trans Y;have c7:=a9.same (a3.trans Y);have d7:=P.same (a3.trans Y);(dsimp?[qB,Yb,eZ]);refine#[_,SqT.of ((a3.trans Y) _ _ h),_,lA,?_];cases o with
  |some c=>
   (dsimp?[qB];try simp_arith[qB,oV,reduceCtorEq,decide_false,Bool.not_false,if_true])
   refine#[_,SqT.of ((a3.trans Y) _ _ h),_,lX,_,rfl,_,_,d7.ob,rfl,_,SqT.of ((a3.trans Y) _ _ h),_,lA,_,_,_,_,_,rfl,c7,lim,ok,un.1,λi hi=>Lpd.out un.2.1 hi,λwl X d8 a7 c3 d1 hws=>#[sz3,λv hv=>?_]];have g:=aS.upd (o:=tup [.str "endless",.ref xv,.ref wl]) hv;exact q v fl s (some c) xv wl xp X _ (((s0.trans b6).trans a7).trans g) c6 ((s0.trans b6).free c3) #[ok,io,un,aL,g _ _ (a7 _ _ a6),(a5.same a7).same g,g _ _ d1,hws.same g]
  |none=>
   (dsimp?[qB,iI,nL];try simp_arith[qB,oV,decide_true,Bool.not_true,Bool.false_eq_true,if_false,iI,nL])
   refine#[_,SqT.of ((a3.trans Y) _ _ h),_,lX,?_];refine#[_,_,d7.ob,rfl,_,_,_,_,rfl,c7,lim,ok,λyl d9 d8 a7 g7 b7 e0=>?_];have d2:d9.length=frs.length:=by rw[e0.length,bH];rfl
   have N:=b6.trans a7;refine#[_,rfl,#[_,SqL.of b7],#[_,SqL.of (N _ _ M.hmd)],mT (K:=K) (a:=yl) (b:=md) (xs:=map ref d9) (ys:=map ref ms) (λi J b8=>aS d8 b8/\∃A,J=map ref A/\dC K b8 A (ofF i λk=>fov (ftm (lo2 ((bO fl frs l d).T s frs.length (e1 k)) ((bO fl frs l d).D s)) (whF (frs.getD k []))) (whF d))) ?_ ?_ #[aS.refl _,[],rfl,trivial] ?_ ?_ ?_]
   .rw[aA,d2,sizeLine_eq];lia
   .rw[aA,aA,d2,e7]
   .rintro i J b8 _ ⟨g,_⟩;exact#[g.seq (SqL.of b7),g.seq (SqL.of (N _ _ M.hmd))]
   .rintro i x y p J b8 hx hy _ ⟨g,A,rfl,hps⟩ hp os ho;obtain⟨F,rfl,f2⟩:=eC hx;obtain⟨pm,rfl,f3⟩:=eC hy;obtain⟨f,ef,hF⟩:=e0.get f2;obtain⟨f4,rfl⟩:=gM ef;obtain⟨r,rf,g8,er,hv,f5,g9⟩:=M.hm.get f3;have c4:=aJ er;have f6:frs.getD i []=r:=by rw[aN,er];rfl
    obtain⟨U,o3,rfl⟩:∃R U,os=[R,U]:=by
     match os,ho with
     | [R,U],_=>exact#[R,U,rfl]
    have a1:=g.trans (aS.upd (o:=tup [.ref F,.ref pm]) hp);have w:=jE λf hf=>(B.gr r c4 f hf).1;have c8:i<frs.length:=f4;obtain⟨e3,d3⟩:=B.oy fl s ok.n r c4;have d3:=d3 i c8;have lo:=eN (t:=(bO fl frs l d).T s frs.length (e1 i)) D0;have b3:=lo.bb (lim.bk s frs.length i ok.n (aP _) (jB c8)) ((lim.bD s ok.n).mono (show 9000<=20000 by decide));have b9:(lo2 ((bO fl frs l d).T s frs.length (e1 i)) ((bO fl frs l d).D s)).2<=(bO fl frs l d).D s:=by have h1:=lo.by_;have h2:=lo.pos;lia
    (dsimp?[Sl,Sr,dA,cA,cY,bJ]);refine#[_,SqT.of aL,rfl,_,_,rfl,_,_,rfl,rfl,#[[some (.ref F),some (.ref pm)],rfl,rfl],_,rfl,_,SqT.of ((N.trans a1) _ _ hv),_,lX,?_];have b1:BB 9000 ((bO fl frs l d).D s*(whF r).2):=e3.of_le (by
     rw[cQ ((bO fl frs l d).D s*(whF r).2)];exact Nat.le_mul_of_pos_right _ #[])
    have I:=Au b1 (bT lo.pos) b9 (bT w.2);have z2:=bK lo.pos w.2;have d4:=eN (t:=(lo2 ((bO fl frs l d).T s frs.length (e1 i)) ((bO fl frs l d).D s)).1*(whF r).1) z2;have f7:=lo2_le (t:=(lo2 ((bO fl frs l d).T s frs.length (e1 i)) ((bO fl frs l d).D s)).1*(whF r).1) z2;have b4:BB 20000 ((lo2 ((bO fl frs l d).T s frs.length (e1 i)) ((bO fl frs l d).D s)).1*(whF r).1):=d3.of_le (by
     rw[cQ,cQ];exact fB lo.bx (aP _))
    have e4:=d4.bb b4 (I.mono (show 9000<=20000 by decide));refine#[_,_,_,_,_,_,rfl,#[a1.tup hF,SqT.of ((N.trans a1) _ _ f5),b3.1,b3.2,(B.wr r c4).1,(B.wr r c4).2],lo.pos,w.2,I,λu h0 c5 hu=>?_];have b5:BB 9000 ((lo2 ((bO fl frs l d).T s frs.length (e1 i)) ((bO fl frs l d).D s)).2*(whF r).2*(whF d).1):=Au e3 (bT z2) (Int.mul_le_mul_of_nonneg_right b9 (bT w.2)) (bT wg.1);refine#[_,SqT.of ((N.trans (a1.trans c5)) _ _ M.hav),_,lX,_,_,_,_,_,_,rfl,#[SqT.of hu,SqT.of ((N.trans (a1.trans c5)) _ _ M.haf),e4.1,e4.2,B.wg.1,B.wg.2],d4.pos,wg.1,Au b5 (bT d4.pos) f7 (bT wg.1),λz h3 e5 hz=>#[a1.trans (c5.trans e5),A++[z],by rw[aV];rfl,?_]];rw[fN];refine dC.snoc (((hps.same (aS.upd hp)).same c5).same e5) ?_;rw[f6];exact SqT.of hz
   .rintro J b8 _ ⟨g,X,rfl,e6⟩ wl c3;rw[aA,d2]at e6;refine#[sz3,λv hv=>?_];have a1:=(aS.upd (o:=lst (map ref X)) c3).trans (aS.upd (o:=tup [.str "best",.ref xv,.ref wl]) hv);exact q v fl s none xv wl xp X _ (((s0.trans N).trans g).trans a1) c6 (((s0.trans N).trans g).free c3) #[ok,io,un,aL,a1 _ _ ((a7.trans g) _ _ a6),(a5.same (a7.trans g)).same a1,aS.upd hv _ _ aL,e6.same a1]
def jXY{b c A S lf av af ag:Addr}{P:List Addr}{frs:hJ}{l d:eF}(B:BeO frs l d)(u:∀f∈l,0<=f.1)(b2:1<=frs.length)(b3:1<=d.length)(M:Yl K G A S lf ll av af ag P frs l d)(s0:aS H G)
  (q:∀v fl s o x w h X Z,aS H Z->H x=none->H w=none->BeOut K Z v fl frs l d s o x w h X->Q (.ref v) Z) {o3 o7 o8 o9:Option V}:
  Jd K (eQ Q) [some (.ref a),some (.ref b),some (.ref c),o3,some (.ref A),some (.ref S),some (.ref av),o7,o8,o9] G:=by
 have lim:=B.lim false;have m1:frs.length<=100:=lim.m1;have n1:d.length<=100:=lim.n1;have D:=M.hm.length;have b4:=jA B.lb;have wl:(whL (bnF frs l)).length=frs.length:=by rw[jO,b4]
 (dsimp?[Jd,iI,nL]);refine#[_,SqT.of M.hlv,_,lA,_,rfl,#[_,SqL.of M.hmd],#[_,SqL.of M.hll],mT (K:=K) (a:=A) (b:=ll) (xs:=map ref P) (ys:=map int (whL (bnF frs l))) (λi J C=>aS G C/\∃ls,J=map ref ls/\eA C ls (ofF i (bO false frs l d).rowL)) ?_ ?_ #[aS.refl _,[],rfl,trivial] ?_ ?_ ?_]
 .rw[aA,sizeLine_eq,D];lia
 .rw[aA,aA,D,wl]
 .rintro i J C _ ⟨s6,_⟩;exact#[s6.seq (SqL.of M.hmd),s6.seq (SqL.of M.hll)]
 .rintro i x y p J C hx hy _ ⟨s6,ls,rfl,a4⟩ hp os ho;obtain⟨z,rfl,b5⟩:=eC hx;obtain⟨v,rfl,hv⟩:=fR hy;obtain⟨r,rf,rl,n,b6,c4,b7⟩:=M.hm.get b5;obtain⟨U,o3,rfl⟩:∃o1 U,os=[o1,U]:=by
   match os,ho with
   | [o1,U],_=>exact#[o1,U,rfl]
  have b8:=aJ n;have T:=s6.trans (aS.upd (o:=tup [.ref z,.int v]) hp);(dsimp?[Sk,So,uQ,dA,cA,cY,bJ]);refine#[_,SqT.of aL,rfl,_,_,rfl,_,_,rfl,rfl,#[[some (.ref z),some (.int v)],rfl,rfl],_,rfl,_,SqT.of (T _ _ b6),_,lA,?_];refine#[sz1,λm a1=>#[_,rfl,_,aS.upd a1 _ _ (T _ _ b7),_,aL,by rw[aA,jO,B.lr r b8,sizeLine_eq];show d.length+1<=_;lia,λN Y=>?_]];refine#[(T.trans (aS.upd a1)).trans (aS.upd Y),ls++[N],by rw[aV];rfl,?_];rw[fN];refine eA.snoc (((a4.same (aS.upd hp)).same (aS.upd a1)).same (aS.upd Y)) ?_;rw[aL,rowL_of B n,iQ hv,aV];rfl
 .rintro J C _ ⟨s6,ls,rfl,a4⟩ l7 a9;rw[aA,D]at a4;have T:=s6.trans (aS.upd (o:=lst (map ref ls)) a9);have a2:=a4.same (aS.upd (o:=lst (map ref ls)) a9);have a5:(upd C l7 (.lst (map ref ls))) l7=some (.lst (map ref ls)):=aL;generalize upd C l7 (.lst (map ref ls))=H7 at T a2 a5;have b9:ls.length=frs.length:=by rw[a2.length,bH]
  (dsimp?[Si,uQ]);refine#[_,SqT.of (T _ _ M.hav),_,lA,_,_,rfl,SqL.of (T _ _ M.hag),by rw[jO];lia,λlt H8 s8 _ c2=>#[sz1,λl0 a7=>#[_,rfl,_,aS.upd a7 _ _ c2,_,aL,by rw[aA,aA,jO,sizeLine_eq];show d.length+1<=_;lia,λlg b0=>#[sz1,λl1 g=>?_]]]];have s9:=((T.trans s8).trans (aS.upd (o:=lst [.int 0]) a7)).trans (aS.upd (o:=lst (map int ((whL d).map λx=>-x)++[.int 0])) b0);have a8:=(s8.trans (aS.upd (o:=lst [.int 0]) a7)).trans (aS.upd (o:=lst (map int ((whL d).map λx=>-x)++[.int 0])) b0);have a6:(upd (upd H8 l0 (.lst [.int 0])) lg (.lst (map int ((whL d).map λx=>-x)++[.int 0]))) lg=some (.lst (map int ((bO false frs l d).rowL frs.length))):=by rw[aL,jWp B,aV];rfl
  generalize upd (upd H8 l0 (.lst [.int 0])) lg (.lst (map int ((whL d).map λx=>-x)++[.int 0]))=H9 at s9 a8 a6 g;refine#[_,aS.upd g _ _ (a8 _ _ a5),_,aL,by rw[aA,b9,sizeLine_eq];show frs.length+1<=_;lia,λm a1=>?_];have a3:=(aS.upd (o:=lst [.ref lg]) g).trans (aS.upd (o:=lst (map ref ls++[.ref lg])) a1);have R:xG (upd (upd H9 l1 (.lst [.ref lg])) m (.lst (map ref ls++[.ref lg]))) m (ls++[lg]) (bO false frs l d):=by
   refine#[by rw[aL,aV];rfl,?_];show eA _ _ (ofF (frs.length+1) _);rw[fN];exact eA.snoc ((a2.same a8).same a3) (a3 _ _ a6)
  generalize upd (upd H9 l1 (.lst [.ref lg])) m (.lst (map ref ls++[.ref lg]))=c3 at a3 R;obtain⟨q0,q1,F,q9,st,f1,f2⟩:=B.fit;have I:Ve c3 m (ls++[lg]) (bO false frs l d) q0 q1:=#[R,rfl,b2,b3,lim,F,q9,st,λj k _ _=>f1 j k,λk _=>f2 k,λi _=>jZo (λf hf=>(jZe B f hf).1) (jYJ B u) i];exact#[m,_,_,_,_,rfl,I,λp t ins e s o c5 b1 O=>jXW B (M.same ((s9.trans a3).trans b1)) (s0.trans ((s9.trans a3).trans b1)) O q]
def rd_best{K}:RdS K Wa jJ6 N_best:=by
 rintro j H Q E ⟨a,b,c,b2,b0,c4,frs,fb,fg,rfl,I,qn,B,k,b3,q⟩;have a4:=I.hbs.length;rw[show start N_best [ref a,ref b,ref c]=[some (.ref a),some (.ref b),some (.ref c),none,none,none,none,none,none,none]from rfl];(dsimp![jJ6,gP,cZ,cB,aY,aE]);refine#[#[_,SqL.of I.hb],jI (K:=K) (a:=b) (xs:=map ref b0) (g:=aY 3) (D:={ nx:=Jc K (eQ Q),rt:=Q }) (iv_best a b c H fb) ?_ ?_ ?_ ?_]
 .exact#[none,rfl,aS.refl _,(λ_ h=>nomatch h)]
 .rintro i O Y _ ⟨_,_,N,_⟩;exact N.seq (SqL.of I.hb)
 .rintro i x O Y hi ⟨R,rfl,N,al⟩;obtain⟨p,rfl,hp⟩:=eC hi;obtain⟨f,ef,s⟩:=I.hbs.get hp;have hm:=aJ ef;have gf:=I.gb f hm;have one:BB 20000 (1:Int):=by show(1:Int).natAbs<2^20000;exact Nat.one_lt_two_pow (by decide)
  have b4:BB 20000 (0:Int):=by show(0:Int).natAbs<2^20000;exact eJ _
  (dsimp![iN,aY,aE,tC,gA,tB,eL,cC,aH,bE,iX,iN,cS]);refine#[sz2,λz hz=>?_];have X:=N.trans (aS.upd (o:=tup [.int 0,.int 1]) hz);refine#[_,_,_,_,_,_,rfl,#[X.tup s,SqT.of aL,gf.2.1,gf.2.2.mono (by decide),b4,one],_,rfl,mV (λhn=>?_) (λhn=>?_)]
  .have:=qn f hm;simp only[cT,fE,fV]at hn;lia
  .refine#[_,rfl,X,λg hg=>?_];rw[dO ef]at hg;rcases cW.mp hg with hg |hg
   .exact al g hg
   .rw[cJ.mp hg];simp only[cT,fE,fV]at hn;lia
 .rintro O Y ⟨R,rfl,N,al⟩;rw[aA,a4,bY]at al;have b5:=I.hr.length;have m1:frs.length<=100:=(B.lim false).m1;have n1:fg.length<=100:=(B.lim false).n1;(dsimp?[Jc,dH,cZ]);refine#[#[_,N.seq (SqL.of I.ha)],dQ (K:=K) (a:=a) (xs:=map ref b2) (λi J u=>aS H u/\∃P,J=map ref P/\xM u P (frs.take i)) ?_ #[N,[],rfl,trivial] ?_ ?_ ?_]
  .rw[aA,sizeLine_eq];lia
  .rintro i J u _ ⟨X,_⟩;exact X.seq (SqL.of I.ha)
  .rintro i x J u hi _ ⟨X,P,rfl,a2⟩;obtain⟨p,rfl,hp⟩:=eC hi;obtain⟨r,A,n,d,e⟩:=I.hr.get hp;have m:=aJ n;(dsimp![Sm,aE,cC,aH,bE,cS]);refine#[_,_,_,rfl,X.seq (SqL.of d),e.same X,B.gr r m,by rw[B.lr r m];lia,B.cr r m,λv f l G s5 hv hf S=>#[X.trans s5,P++[v],by rw[aV];rfl,?_]];rw[dO n];exact xM.append (show xM G [v] [r]from#[#[f,l,hv,hf,S],trivial]) (a2.same s5)
  .rintro J u _ ⟨X,P,rfl,a2⟩ md hmd;rw[aA,b5,bY]at a2;have s5:=X.trans (aS.upd (o:=lst (map ref P)) hmd);have a5:=a2.same (aS.upd (o:=lst (map ref P)) hmd);have a1:(upd u md (.lst (map ref P))) md=some (.lst (map ref P)):=aL;generalize upd u md (.lst (map ref P))=G at s5 a5 a1;clear X a2 hmd N;have b6:=a5.length;(dsimp?[Sf,iI,nL]);refine#[#[_,s5.seq (SqL.of I.hb)],#[_,SqL.of a1],mT (K:=K) (a:=b) (b:=md) (xs:=map ref b0) (ys:=map ref P) (λi J C=>aS G C/\∃ts,J=map ref ts/\dC K C ts ((bnF frs fb).take i)) ?_ ?_ #[aS.refl _,[],rfl,trivial] ?_ ?_ ?_]
   .rw[aA,sizeLine_eq,a4,B.lb];lia
   .rw[aA,aA,a4,B.lb,b6]
   .rintro i J C _ ⟨s6,_⟩;exact#[(s5.trans s6).seq (SqL.of I.hb),s6.seq (SqL.of a1)]
   .rintro i x y p J C hx hy _ ⟨s6,ts,rfl,a3⟩ hp os ho;obtain⟨pb,rfl,b7⟩:=eC hx;obtain⟨pm,rfl,b8⟩:=eC hy;obtain⟨f,ef,s⟩:=I.hbs.get b7;obtain⟨r,rf,M,n,hv,b9,c5⟩:=a5.get b8;obtain⟨U,o3,rfl⟩:∃R U,os=[R,U]:=by
     match os,ho with
     | [R,U],_=>exact#[R,U,rfl]
    have m:=aJ n;have b1:=aJ ef;have gf:=B.gb f b1;have T:=s6.trans (aS.upd (o:=tup [.ref pb,.ref pm]) hp);have wp:=jE λf hf=>(B.gr r m f hf).1;(dsimp?[Sj,Sn]);refine#[_,SqT.of aL,rfl,_,_,rfl,_,_,rfl,rfl,#[[some (.ref pb),some (.ref pm)],rfl,rfl],_,rfl,_,SqT.of (T _ _ hv),_,lX,?_];refine#[_,_,_,_,_,_,rfl,#[(s5.trans T).tup s,SqT.of (T _ _ b9),gf.2.1,gf.2.2.mono (by decide),(B.wr r m).1,(B.wr r m).2],gf.1,wp.2,(B.tb f b1 r m).1,λt H8 F ht=>#[T.trans F,ts++[t],by rw[aV];rfl,?_]];rw[dO (uX ef n)];exact dC.snoc ((a3.same (aS.upd hp)).same F) (SqT.of ht)
   .rintro J C _ ⟨s6,ts,rfl,a3⟩ w a8;have c2:=jA B.lb;rw[aA,a4,B.lb,←c2,bY]at a3;have T:=s6.trans (aS.upd (o:=lst (map ref ts)) a8);have a6:=a3.same (aS.upd (o:=lst (map ref ts)) a8);have a7:(upd C w (.lst (map ref ts))) w=some (.lst (map ref ts)):=aL;generalize upd C w (.lst (map ref ts))=H7 at T a6 a7;clear s6 a3 a8;have gbn:=jZe B;refine#[_,_,_,rfl,SqL.of a7,a6,gbn,#[],B.cb,λlv lf ll H8 F hlv hlf hll=>?_];have a9:=s5.trans (T.trans F);refine#[_,_,_,rfl,a9.seq (SqL.of I.hg),I.hgs.same a9,B.gg,#[],B.cg,λav af c6 H9 Z hav haf c3=>?_];exact jXY B al k b3 #[Z _ _ (F _ _ (T _ _ a1)),a5.same (T.trans (F.trans Z)),Z _ _ hlv,Z _ _ hlf,Z _ _ hll,hav,haf,c3] (a9.trans Z) q
def Zt:LS:=["fractions","total","fraction"]
def Jf(K:aR):Sp:=λvs H Q _=>∃l ps n X M,vs=[.ref l]/\SqL K H l (map ref ps)/\dC K H ps (ofF n X)/\0<M/\BB 4000 M/\(∀k,k<n->0<(X k).2/\0<=(X k).1/\(X k).2∣M)/\(rsm n λk=>va (X k))<=1/\
 ∀x y p Z,aS H Z->Z p=some (.tup [.int x,.int y])->0<y->0<=x->y∣M->va (x,y)=(rsm n λk=>va (X k))->Q (.ref p) Z
def jVV(l:Addr)(F:Hp)(M:Int)(X:Nat->Int×Int):NS:=λi O Y=>∃t x y o,O=[some (.ref l),some (.ref t),o]/\aS F Y/\Y t=some (.tup [.int x,.int y])/\0<y/\0<=x/\y∣M/\va (x,y)=(rsm i λk=>va (X k))
def Kf(K:aR):TS:=(cN (cC (Mb K) [] E0 (aH (aE 1) (aH (aE 2) bE))) (aY 1))
def Nw(K:aR):TS:=(cB (cN (iX (aH (tC (.int 0)) (aH (tC (.int 1)) bE))) (aY 1)) (cB (gP (cZ K (aE 0)) (aY 2) (Kf K)) (cX (aE 1))))
def vK{n:Nat}(h:BB n y)(h0:0<=x)(h1:x<=y):BB n x:=h.of_le #[]
def jWs{K}:RdS K Jf Nw Zt:=by
 rintro j H Q E ⟨l,A,n,X,M,rfl,S,hf,d,F,b,R,q⟩;have hpl:A.length=n:=by rw[hf.length,bH]
 have w:∀k,k<n->0<=va (X k):=λk hk=>tD (b k hk).1 (b k hk).2.1;rw[show start Zt [ref l]=[some (.ref l),none,none]from rfl];(dsimp?[Nw,gP,cZ]);refine#[sz2,λt ht=>#[#[_,(aS.upd ht).seq S],jI (K:=K) (a:=l) (xs:=map ref A) (g:=aY 2) (D:={ nx:=cX (aE 1) (eQ Q),rt:=Q }) (jVV l H M X) ?_ ?_ ?_ ?_]]
 .exact#[t,0,1,none,rfl,aS.upd ht,aL,by decide,by decide,Int.one_dvd _,zZ]
 .rintro i O Y _ ⟨_,_,_,_,_,N,_⟩;exact N.seq S
 .rintro i x O Y hi ⟨t,x,y,o,rfl,N,P,y0,x0,v,e⟩;obtain⟨p,rfl,hp⟩:=eC hi;obtain⟨f,C,s⟩:=(hf.same N).get hp;obtain⟨G,rfl⟩:=gM C;obtain⟨U,m,J⟩:=b i G;have m1:=Fc (f:=λk=>va (X k)) (i:=i) (n:=n) #[] w;have m2:=Fc (f:=λk=>va (X k)) (i:=i+1) (n:=n) #[] w;have m3:rsm (i+1) (λk=>va (X k))=rsm i (λk=>va (X k))+va (X i):=rfl;have Z:=qJ (f:=λk=>va (X k)) (n:=i) λk hk=>w k #[];have T:x<=y:=Nd (f:=(x,y)) y0 (by rw[e];grind);have I:(X i).1<=(X i).2:=Nd U (by grind);have c:=Co F d v;have B:=Co F d J;have z:=bK y0 U;(dsimp?[Kf]);refine#[_,_,_,_,_,_,rfl,#[SqT.of P,s,(vK c x0 T).mono (by decide),c.mono (by decide),(vK B m I).mono (by decide),B.mono (by decide)],y0,U,(c.mul B).mono (by decide),λr u s4 hr=>?_];refine#[r,_,_,_,rfl,N.trans s4,hr,(eN z).pos,vH z (Int.add_nonneg (dU x0 (bT U)) (dU m (bT y0))),sum_dvd (f:=(x,y)) y0 U v J,?_];show va (lo2 (x*(X i).2+(X i).1*y) (y*(X i).2))=_;rw[m3,←e];exact va_add (f:=(x,y)) y0 U
 .rintro O Y ⟨t,x,y,o,rfl,N,P,y0,x0,v,e⟩;(dsimp![aE,tC,tOp,rI0,rNe,iO,cX,dD]);rw[aA,hpl]at e;exact q x y t Y N P y0 x0 v e
def jWe:LS:=["one","other"]
def Ez(K:aR):Sp:=λvs H Q _=>∃p q a b c d,vs=[.ref p,.ref q]/\Tw K H p q a b c d/\0<b/\0<d/\BB 9000 (b*d)/\∀r Z,aS H Z->Z r=some (.tup [.int (lo2 (a*d-c*b) (b*d)).1,.int (lo2 (a*d-c*b) (b*d)).2])->Q (.ref r) Z
def Vs(K:aR):TS:=(cX (cC (mY K) [] E0 (aH (tOp jQ (tOp fQ (tOp (eY K) (aE 0) (tC (.int 0))) (tOp (eY K) (aE 1) (tC (.int 1)))) (tOp fQ (tOp (eY K) (aE 1) (tC (.int 0))) (tOp (eY K) (aE 0) (tC (.int 1))))) (aH (tOp fQ (tOp (eY K) (aE 0) (tC (.int 1))) (tOp (eY K) (aE 1) (tC (.int 1)))) bE))))
def jV1{K}:RdS K Ez Vs jWe:=by
 rintro j H Q E ⟨p,q,a,b,c,d,rfl,⟨hp,F,ba,bb,bc,f⟩,A,d0,e,k⟩;rw[show start jWe [ref p,ref q]=[some (.ref p),some (.ref q)]from rfl];(dsimp?[Vs]);refine#[_,hp,_,lX,_,F,_,lA,_,rfl,_,rfl,.b ba f,_,F,_,lX,_,hp,_,lA,_,rfl,_,rfl,.b bc bb,_,hp,_,lA,_,F,_,lA,_,rfl,_,rfl,.b bb f,?_];have z:0<b*d:=bK A d0;refine#[_,_,rfl,#[],e,λx y r Z s h l=>k r Z s ?_];obtain⟨e1,C⟩:=l.uniq z (eN z);rw[←e1,←C];exact h
def Uy:LS:=["weights","total"]
def vF(K:aR):Sp:=λvs H Q _=>∃a t ps n X x y,vs=[.ref a,.ref t]/\SqL K H a (map ref ps)/\dC K H ps (ofF n X)/\SqT K H t [.int x,.int y]/\0<x/\0<y/\BB 4000 x/\BB 4000 y/\(∀k,k<n->0<(X k).2/\0<=(X k).1/\(X k).1<=(X k).2/\BB 4000 (X k).2)/\n<=100/\∀l A Z,aS H Z->Z l=some (.lst (map ref A))->dC K Z A (ofF n λk=>fov (X k) (x,y))->Q (.ref l) Z
def Hm(K:aR):TE:=(cC (Ac K) [] E0 (aH (aE 0) (aH (aE 1) bE)))
def Ja(K:aR):TS:=(cX (dH (cZ K (aE 0)) [1] (Hm K)))
def jXZ{K}:RdS K vF Ja Uy:=by
 rintro j H Q E ⟨a,t,d,n,X,x,y,rfl,v,hf,g,x0,y0,bx,c,b,hn,q⟩;have hpl:d.length=n:=by rw[hf.length,bH]
 rw[show start Uy [ref a,ref t]=[some (.ref a),some (.ref t)]from rfl];(dsimp?[Ja,dH,cZ]);refine#[#[_,v],dQ (K:=K) (a:=a) (xs:=map ref d) (λi J Y=>aS H Y/\∃A,J=map ref A/\dC K Y A (ofF i λk=>fov (X k) (x,y))) (by rw[aA,sizeLine_eq];lia) #[aS.refl _,[],rfl,trivial] ?_ ?_ ?_]
 .rintro i J Y _ ⟨N,_⟩;exact N.seq v
 .rintro i u J Y hi _ ⟨N,A,rfl,F⟩;obtain⟨p,rfl,hp⟩:=eC hi;obtain⟨f,C,s⟩:=(hf.same N).get hp;obtain⟨G,rfl⟩:=gM C;obtain⟨U,m,I,D⟩:=b i G;(dsimp?[Hm,dA,cA,cY,bJ]);refine#[_,_,_,_,_,_,rfl,#[s,N.tup g,(vK D m I).mono (by decide),D.mono (by decide),bx.mono (by decide),c.mono (by decide)],U,x0,(D.mul bx).mono (by decide),λr o e hr=>#[N.trans e,A++[r],by rw[aV];rfl,?_]];rw[fN];exact dC.snoc (F.same e) (SqT.of hr)
 .rintro J Y _ ⟨N,A,rfl,F⟩ l S;rw[aA,hpl]at F;exact q l A _ (N.trans (aS.upd S)) aL (F.same (aS.upd S))
def jWQ:LS:=["rows","lift","raised","found","total"]
structure WoOut(K:aR)(H':Hp)(v:Addr)(frs:hJ)(n:Nat)(x y:Int)(P R:Nat->Int×Int)(w pl ql:Addr)(pp qp:List Addr):Prop where
 hv:H' v=some (.tup [.ref w,.ref pl,.ref ql])
 hw:H' w=some (.tup [.int x,.int y])
 hpl:H' pl=some (.lst (map ref pp))
 hps:dC K H' pp (ofF frs.length P)
 hql:H' ql=some (.lst (map ref qp))
 hqs:dC K H' qp (ofF n R)
 y0:0<y
 cop:Int.gcd x y=1
 by9:BB 9000 y
 bx:BB 20000 x
 pok:∀i,i<frs.length->Fok (P i)/\BB 9000 (P i).2
 qok:∀j,j<n->Fok (R j)/\BB 9000 (R j).2
 G:Gm frs.length n (λi j=>va (rwF frs i j)) (va (x,y)) (λi=>va (P i)) (λj=>va (R j))
def Og(K:aR):Sp:=λvs H Q _=>∃a g frs n,vs=[.ref a]/\H a=some (.lst (map ref g))/\qD K H g frs/\WoR frs n/\(∀z,Mnf frs z->WoO (rW z frs) frs.length n)/\
 ∀v x y P R w pl p s b Z,aS H Z->WoOut K Z v frs n x y P R w pl p s b->Q (.ref v) Z
def Cs(K:aR):TS:=(cX (iX (aH (cC (Ez K) [] E0 (aH (cC (Ac K) [] E0 (aH (iX (aH (tC (.int 1)) (aH (tC (.int 1)) bE))) (aH (aE 4) bE))) (aH (aE 1) bE))) (aH (cC (vF K) [] E0 (aH (tOp (eY K) (aE 3) (tC (.int 2))) (aH (aE 4) bE))) (aH (cC (vF K) [] E0 (aH (tOp (eY K) (aE 3) (tC (.int 1))) (aH (aE 4) bE))) bE)))))
def Pe(K:aR):TS:=(cB (cN (cC (Jf K) [] E0 (aH (tOp (eY K) (aE 3) (tC (.int 1))) bE)) (aY 4)) (Cs K))
def Ph(K:aR):TE:=(iX (aH (tC (.int 1)) (aH (tC (.int 1)) bE)))
def Pg(K:aR):TE:=(iX (aH (tC (.int 1)) (aH (tC (.int 1)) bE)))
def Pd(K:aR):TS:=(cB (cN (cC (Wa K) [] E0 (aH (aE 2) (aH (dH (cZ K (aE 0)) [] (Pg K)) (aH (dH (cZ K (tOp (gB K) (aE 0) (tC (.int 0)))) [] (Ph K)) bE)))) (aY 3)) (Pe K))
def Pf(K:aR):TE:=(cC (Jh K) [] E0 (aH (aE 0) (aH (aE 1) bE)))
def Pc(K:aR):TS:=(cB (cN (dH (cZ K (aE 0)) [1] (Pf K)) (aY 2)) (Pd K))
def Vo(K:aR):TS:=(cB (cN (cC (Db K) [] E0 (aH (aE 0) bE)) (aY 1)) (Pc K))
def jY3(hf:0<f.2)(h0:0<=f.1)(hg:0<g.2)(T:0<g.1)(a:BB 4000 f.2)(I:BB 4000 g.1):Fok (fov f g)/\BB 9000 (fov f g).2:=by
 have z:=bK hf T;have l:=eN (t:=f.1*g.2) z;exact#[#[l.pos,l.cop,vH z (dU h0 (bT hg))],((a.mul I).of_le (by have:=l.by_;exact this)).mono (by decide)]
def jJU{lp rz v t w x:Addr}{wd:Str}{xp wp:List Addr}{frs:hJ}{n:Nat}{z e A:Int}{X Y:Nat->Int×Int}(s0:aS H G)(m2:frs.length<=100)(n2:n<=100)(S:G lp=some (.tup [.int (1-z),.int 1]))(bz:BB 9000 (1-z))(hv:G v=some (.tup [.str wd,.ref x,.ref w]))(hx:G x=some (.lst (map ref xp)))(hxs:dC K G xp (ofF n X))(hw:G w=some (.lst (map ref wp)))(hws:dC K G wp (ofF frs.length Y))
  (ht:G t=some (.tup [.int e,.int A])) (D:0<A) (h:0<e) (bt:BB 4000 A) (a4:e<=A) (hX:∀k,k<n->0<(X k).2/\0<=(X k).1/\(X k).1<=(X k).2/\BB 4000 (X k).2) (b:∀k,k<frs.length->0<(Y k).2/\0<=(Y k).1/\(Y k).1<=(Y k).2/\BB 4000 (Y k).2)
  (g:Gm frs.length n (λi j=>va (rwF frs i j)) (1/va (e,A)-((1-z:Int):Rat)) (λi=>va (Y i)/va (e,A)) (λj=>va (X j)/va (e,A)))
  (q:∀v x y P R w pl p s qp Z,aS H Z->WoOut K Z v frs n x y P R w pl p s qp->Q (.ref v) Z):
  Cs K (eQ Q) [some (.ref a),some (.ref lp),some (.ref rz),some (.ref v),some (.ref t)] G:=by
 have a1:BB 4000 e:=vK bt (bT h) a4;have one:BB 20000 (1:Int):=by show(1:Int).natAbs<2^20000;exact Nat.one_lt_two_pow (by decide)
 have F:(0:Int)<1*e:=#[];have l:=eN (t:=1*A) F;have a2:=l.bb (n:=4000) (by rw[fP];exact bt) (by rw[fP];exact a1);have T:=bK l.pos (show(0:Int)<1 by decide);have m:=eN (t:=(lo2 (1*A) (1*e)).1*1-(1-z)*(lo2 (1*A) (1*e)).2) T;(dsimp?[Cs]);refine#[sz2,λu hu=>?_];have M:=aS.upd (o:=tup [.int 1,.int 1]) hu;refine#[_,_,_,_,_,_,rfl,#[SqT.of aL,SqT.of (M _ _ ht),one,one,a1.mono (by decide),bt.mono (by decide)],by decide,h,by rw[fP];exact a1.mono (by decide),λr U d hr=>?_];have a3:=M.trans d;refine#[_,_,_,_,_,_,rfl,#[SqT.of hr,SqT.of (a3 _ _ S),a2.1.mono (by decide),a2.2.mono (by decide),bz.mono (by decide),one],l.pos,by decide,by rw[fE];exact a2.2.mono (by decide),λr2 H2 N a5=>?_];have O:=a3.trans N;refine#[_,SqT.of (O _ _ hv),_,atI2,_,_,_,_,_,_,_,rfl,SqL.of (O _ _ hw),hws.same O,SqT.of (O _ _ ht),h,D,a1,bt,b,m2,λpl s H3 s4 hpl c=>?_];have J:=O.trans s4;refine#[_,SqT.of (J _ _ hv),_,lA,_,_,_,_,_,_,_,rfl,SqL.of (J _ _ hx),hxs.same J,SqT.of (J _ _ ht),h,D,a1,bt,hX,n2,λp qp H4 I hql a6=>#[sz3,λo ho=>?_]];have B:=aS.upd (o:=tup [.ref r2,.ref pl,.ref p]) ho;have b2:BB 4001 ((lo2 (1*A) (1*e)).2*1):=by rw[fE];exact a2.2.mono (by decide)
 have b3:BB 20000 ((lo2 (1*A) (1*e)).1*1-(1-z)*(lo2 (1*A) (1*e)).2):=by
  rw[fE,Int.sub_eq_add_neg];exact((a2.1.mono (show 4000<=13000 by decide)).add ((bz.mul a2.2).neg.mono (by decide))).mono (by decide)
 refine q o _ _ (λi=>fov (Y i) (e,A)) (λj=>fov (X j) (e,A)) r2 pl p s qp _ (((s0.trans J).trans I).trans B) #[aL,B _ _ (I _ _ (s4 _ _ a5)),B _ _ (I _ _ hpl),(c.same I).same B,B _ _ hql,a6.same B,m.pos,m.cop,(b2.of_le m.by_).mono (by decide),b3.of_le m.bx,λi hi=>jY3 (b i hi).1 (b i hi).2.1 D h (b i hi).2.2.2 a1,λj hj=>jY3 (hX j hj).1 (hX j hj).2.1 D h (hX j hj).2.2.2 a1,?_];refine g.congr (λ_ _ _ _=>rfl) ?_ (λi hi=>(jJ0 (b i hi).1 D h).symm) (λj hj=>(jJ0 (hX j hj).1 D h).symm);have e1:=jJy (f:=lo2 (1*A) (1*e)) (g:=(1-z,1)) l.pos (show(0:Int)<1 by decide);have C:va (lo2 (1*A) (1*e))=1/va (e,A):=by rw[←Cf];exact jJ0 (f:=(1,1)) (g:=(e,A)) (by decide) D h
 have e3:va (1-z,1)=((1-z:Int):Rat):=by
  unfold va;show((1-z:Int):Rat)/((1:Int):Rat)=_;rw[show((1:Int):Rat)=1 from rfl,Rat.div_def];grind
 rw[C,e3]at e1;exact e1.symm
def jJs(z:Int)(frs:hJ):(rW z frs).length=frs.length:=by unfold rW;rw[aA]
def jVw{K}:RdS K Og Vo jWQ:=by
 rintro vs H Q E ⟨a,g,frs,n,rfl,ha,hf,W,wo,q⟩;have hpl:=hf.length;have m1:=W.m1;have m2:=W.m2;have n1:=W.n1;have n2:=W.n2;have a5:BB 9000 (1:Int):=by show(1:Int).natAbs<2^9000;exact Nat.one_lt_two_pow (by decide)
 rw[show start jWQ [ref a]=[some (.ref a),none,none,none,none]from rfl];(dsimp?[Vo]);refine#[a,g,frs,n,rfl,SqL.of ha,hf,W,λz lp U s1 b6 mn=>?_];have bz:=(mn.bb W.hg).mono (show 4001<=9000 by decide);have O:=wo z mn;(dsimp?[Pc,dH,cZ]);refine#[#[_,s1.seq (SqL.of ha)],dQ (K:=K) (a:=a) (xs:=map ref g) (λi J Y=>aS U Y/\∃A,J=map ref A/\qD K Y A ((frs.take i).map λr=>r.map (lft z))) (by rw[aA,sizeLine_eq];lia) #[aS.refl _,[],rfl,trivial] ?_ ?_ ?_]
 .rintro i J Y _ ⟨N,_⟩;exact(s1.trans N).seq (SqL.of ha)
 .rintro i x J Y hi _ ⟨N,A,rfl,F⟩;obtain⟨p,rfl,hp⟩:=eC hi;obtain⟨r,rs,er,d,c8⟩:=hf.get hp;have m:=aJ er;(dsimp?[Pf,dA,cA,cY,bJ]);refine#[p,lp,rs,r,z,rfl,(s1.trans N).seq (SqL.of d),c8.same (s1.trans N),SqT.of (N _ _ b6),bz,W.hg r m,by rw[W.hr r m];exact n2,λl ls u X S c9=>#[N.trans X,A++[l],by rw[aV];rfl,?_]];rw[dO er,aV];exact qD.append (show qD K u [l] [r.map (lft z)]from#[#[ls,S,c9],trivial]) (F.same X)
 .rintro J Y _ ⟨N,A,rfl,F⟩ rz b0;rw[aA,hpl,bY]at F;have X:=N.trans (aS.upd (o:=lst (map ref A)) b0);have b7:qD K (upd Y rz (.lst (map ref A))) A (rW z frs):=F.same (aS.upd b0);have b8:(upd Y rz (.lst (map ref A))) rz=some (.lst (map ref A)):=aL;generalize upd Y rz (.lst (map ref A))=u at X b7 b8;clear N F b0;have b1:=s1.trans X;have a1:∀{i:Nat}{G C:Hp}{ps:List Addr}{p:Addr},dC K G ps (ofF i λ_=>((1,1):Int×Int))->G p=none->C=upd G p (.tup [.int 1,.int 1])->dC K C (ps++[p]) (ofF (i+1) λ_=>((1,1):Int×Int)):=λ{i G C ps p} h hp e=>by
   subst e;rw[fN];exact dC.snoc (h.same (aS.upd hp)) (SqT.of aL)
  (dsimp?[Pd,dH,cZ]);refine#[#[_,b1.seq (SqL.of ha)],dQ (K:=K) (a:=a) (xs:=map ref g) (λi J G=>aS u G/\∃ps,J=map ref ps/\dC K G ps (ofF i λ_=>((1,1):Int×Int))) (by rw[aA,sizeLine_eq];lia) #[aS.refl _,[],rfl,trivial] ?_ ?_ ?_]
  .rintro i J G _ ⟨I,_⟩;exact(b1.trans I).seq (SqL.of ha)
  .rintro i x J G hi _ ⟨I,ps,rfl,hps⟩;(dsimp?[Pg]);exact#[sz2,λp hp=>#[I.trans (aS.upd hp),ps++[p],by rw[aV];rfl,a1 hps hp rfl]]
  .rintro J G _ ⟨I,D,rfl,hbs⟩ b hb;rw[aA,hpl]at hbs;have s6:=I.trans (aS.upd (o:=lst (map ref D)) hb);have b9:(upd G b (.lst (map ref D))) b=some (.lst (map ref D)):=aL;have a6:=hbs.same (aS.upd (o:=lst (map ref D)) hb);generalize upd G b (.lst (map ref D))=C at s6 b9 a6;clear I hbs hb;have b2:=b1.trans s6;obtain⟨p0,c2⟩:∃p,g[0]?=some p:=#[_,aC #[]];obtain⟨r0,c3,d1,a3,c4⟩:=hf.get c2;have d2:c3.length=n:=by rw[c4.length,W.hr r0 (aJ d1)]
   refine#[_,b2.seq (SqL.of ha),_,fD (j:=0) (v:=ref p0) (by rw[aX,c2];rfl),_,rfl,#[_,b2.seq (SqL.of a3)],dQ (K:=K) (a:=p0) (xs:=map ref c3) (λi J P=>aS C P/\∃ps,J=map ref ps/\dC K P ps (ofF i λ_=>((1,1):Int×Int))) (by rw[aA,sizeLine_eq];lia) #[aS.refl _,[],rfl,trivial] ?_ ?_ ?_]
   .rintro i J P _ ⟨T,_⟩;exact(b2.trans T).seq (SqL.of a3)
   .rintro i x J P hi _ ⟨T,ps,rfl,hps⟩;(dsimp?[Ph]);exact#[sz2,λp hp=>#[T.trans (aS.upd hp),ps++[p],by rw[aV];rfl,a1 hps hp rfl]]
   .rintro J P _ ⟨T,a2,rfl,hgs⟩ c hc;rw[aA,d2]at hgs;have s8:=T.trans (aS.upd (o:=lst (map ref a2)) hc);have c5:(upd P c (.lst (map ref a2))) c=some (.lst (map ref a2)):=aL;have a7:=hgs.same (aS.upd (o:=lst (map ref a2)) hc);generalize upd P c (.lst (map ref a2))=H8 at s8 c5 a7;clear T hgs hc;have b3:=s6.trans s8;have eR:=jJs z frs;have eb:=jJ frs.length;have eg:=jJ n;refine#[rz,b,c,A,D,a2,rW z frs,fL frs.length,fL n,rfl,#[b3 _ _ b8,b7.same b3,s8 _ _ b9,a6.same s8,c5,a7,λf b4=>?_],λf b4=>?_,O.B,#[],#[],λv fl s o x w xp wp H9 s9 _ _ out=>?_]
    .rw[Fg b4];exact#[by decide,a5.mono (by decide),a5]
    .rw[Fg b4];decide
    have a8:∀i j,i<frs.length->j<n->0<(rwF frs i j).2:=λi j hi Z=>by
     unfold rwF;have e:frs[i]?=some frs[i]:=aC hi;have S:=W.hr _ (cD hi);rw[aN (l:=frs),e];show 0<((frs[i]).getD j (0,1)).2;rw[aN,aC #[]];exact(W.hg _ (cD hi) _ (cD #[])).1
    have d3:∀i j,i<frs.length->j<n->rwF frs i j∈frs.getD i []:=λi j hi Z=>by
     unfold rwF;have e:frs[i]?=some frs[i]:=aC hi;have S:=W.hr _ (cD hi);rw[aN (l:=frs),e];show(frs[i]).getD j (0,1)∈frs[i];rw[aN,aC #[]];exact cD #[]
    have hA:∀i j,i<(rW z frs).length->j<(fL n).length->1<=va (rwF (rW z frs) i j):=λi j hi Z=>by
     rw[eR]at hi;rw[eg]at Z;rw[jYv hi W.hr Z];refine lft_ge (a8 i j hi Z) (mn.le (frs.getD i []) ?_ _ (d3 i j hi Z));rw[aN,aC hi];exact cD hi
    have c6:∀j,j<(fL n).length->(fL n).getD j (0,1)=(1,1):=λj Z=>Jn #[];have d4:∀j,j<(rW z frs).length->(fL frs.length).getD j (0,1)=(1,1):=λj Z=>Jn #[];cases o with
    |some cc=>exact(no_way O.B out.ok out.io c6 hA #[] out.un).elim
    |none=>
     have L:=lp_game O.B out.ok out.io out.un d4 c6 hA #[] #[];obtain⟨M,M0,bM,dM⟩:=O.mx fl s out.ok out.io;have d5:=O.my fl s out.ok out.un;have a4:=Rr O.B out.ok;have b5:∀k,k<frs.length->_:=λk hk=>Rq O.B out.ok out.un (show k<(rW z frs).length by lia);have hxs:dC K H9 xp (ofF n (xF fl (rW z frs) (fL frs.length) (fL n) s)):=by have:=out.hxs;rw[eg]at this;exact this
     have hws:dC K H9 wp (ofF frs.length (yF fl (rW z frs) (fL frs.length) (fL n) s)):=by have h:dC K H9 wp (ofF (rW z frs).length (yF fl (rW z frs) (fL frs.length) (fL n) s)):=out.hws;rw[eR]at h;exact h
     rw[eR,eg]at L;(dsimp?[Pe]);refine#[_,SqT.of out.hv,_,lA,_,_,_,_,M,rfl,SqL.of out.hx,hxs,M0,bM,λk hk=>#[(a4 k).1,(a4 k).2.2.1,dM k hk],L.S1,λtx ty t d8 R y c7 d6 dT eT=>?_];have tp:0<tx:=by
      rcases Int.lt_or_eq_of_le d6 with h |h
      .exact h
      .have:=L.S0;rw[←eT,←h]at this;have e0:va (0,ty)=0:=by unfold va;show((0:Int):Rat)/_=0;rw[Rat.div_def];show(0:Rat)*_=0;grind
       rw[e0]at this;grind
     have S1:=L.S1;have d7:tx<=ty:=Nd (f:=(tx,ty)) c7 (by rw[eT];exact S1);have a9:=(b3.trans s9).trans R;refine jJU (s1.trans (X.trans a9)) m2 n2 (X.trans a9 _ _ b6) bz (R _ _ out.hv) (R _ _ out.hx) (hxs.same R) (R _ _ out.hw) (hws.same R) y c7 tp (Co bM M0 dT) d7 (λk hk=>#[(a4 k).1,(a4 k).2.2.1,Nd (a4 k).1 ?_,Co bM M0 (dM k hk)]) (λk hk=>#[(b5 k hk).1,(b5 k hk).2.2.1,Nd (b5 k hk).1 ?_,d5 k hk]) ?_ q
     .have h1:=Yx (f:=λj=>va (xF fl (rW z frs) (fL frs.length) (fL n) s j)) hk L.x0;have h2:=L.sx;grind
     .have h1:=Yx (f:=λj=>va (yF fl (rW z frs) (fL frs.length) (fL n) s j)) hk L.y0;have h2:=L.sy;grind
     .rw[eT];refine(game_of (((1-z:Int):Rat)) L.S0 L.x0 L.y0 L.hx L.hy L.sx L.sy).congr (λi j hi Z=>?_) rfl (λ_ _=>rfl) λ_ _=>rfl;rw[jYv hi W.hr Z,va_lft (a8 i j hi Z)];grind
def N_less:LS:=["row","other"]
noncomputable def fsb(f g:Int×Int):Int×Int:=lo2 (f.1*g.2-g.1*f.2) (f.2*g.2)
def Vz(K:aR):Sp:=λvs H Q _=>∃(a b:Addr)(ps A:List Addr)(fs w:eF),vs=[.ref a,.ref b]/\H a=some (.lst (map ref ps))/\dC K H ps fs/\H b=some (.lst (map ref A))/\dC K H A w/\fs.length=w.length/\fs.length<=216/\(∀f∈fs,Gd 4000 f)/\(∀f∈w,Gd 4000 f)/\
 ∀l B Z,aS H Z->Z l=some (.lst (map ref B))->dC K Z B (List.zipWith fsb fs w)->Q (.ref l) Z
def Se(K:aR):TE:=(cC (Ez K) [] E0 (aH (aE 0) (aH (aE 1) bE)))
def Sd(K:aR):TG:=(jR K 2 (dZ (aY 0) (dZ (aY 1) jS)))
def jJ5(K:aR):TS:=(cX (iI (nL K (aH (aE 0) (aH (aE 1) bE))) 2 [] (Sd K) (Se K)))
def rd_less{K}:RdS K Vz jJ5 N_less:=by
 rintro j H Q E ⟨a,b,n,A,fs,w,rfl,ha,hf,hb,hg,e,m,c,gg,q⟩;have k:=hf.length;have F:=hg.length;rw[show start N_less [ref a,ref b]=[some (.ref a),some (.ref b)]from rfl];(dsimp?[jJ5,iI,nL]);refine#[#[_,SqL.of ha],#[_,SqL.of hb],mT (K:=K) (a:=a) (b:=b) (xs:=map ref n) (ys:=map ref A) (λi J Y=>aS H Y/\∃B,J=map ref B/\dC K Y B (List.zipWith fsb (fs.take i) (w.take i))) ?_ ?_ #[aS.refl _,[],rfl,trivial] ?_ ?_ ?_]
 .rw[aA];exact lW #[]
 .rw[aA,aA];lia
 .rintro i J Y _ ⟨N,_⟩;exact#[SqL.of (N _ _ ha),SqL.of (N _ _ hb)]
 .rintro i x y p J Y hx hy _ ⟨N,B,rfl,hr⟩ hp os ho;obtain⟨p1,rfl,v⟩:=eC hx;obtain⟨d,rfl,D⟩:=eC hy;obtain⟨f,C,s⟩:=hf.get v;obtain⟨g,t,z⟩:=hg.get D;obtain⟨U,G,rfl⟩:∃R U,os=[R,U]:=by
   match os,ho with
   | [R,U],_=>exact#[R,U,rfl]
  have P:=c f (aJ C);have g2:=gg g (aJ t);have X:=N.trans (aS.upd (o:=tup [.ref p1,.ref d]) hp);(dsimp?[Sd,Se,dA,cA,cY,bJ]);refine#[_,SqT.of aL,rfl,_,_,rfl,_,_,rfl,rfl,#[[some (.ref p1),some (.ref d)],rfl,rfl],_,_,_,_,_,_,rfl,#[X.tup s,X.tup z,P.2.1.mono (by decide),P.2.2.mono (by decide),g2.2.1.mono (by decide),g2.2.2.mono (by decide)],P.1,g2.1,(P.2.2.mul g2.2.2).mono (by decide),λr u I O=>#[X.trans I,B++[r],by rw[aV];rfl,?_]];rw[dO C,dO t,List.zipWith_append (by rw[cR,cR];lia)];exact dC.snoc ((hr.same (aS.upd hp)).same I) (SqT.of O)
 .rintro J Y _ ⟨N,B,rfl,hr⟩ l S;rw[aA,k,bY,e,bY]at hr;exact q l B _ (N.trans (aS.upd S)) aL (hr.same (aS.upd S))
def Zu:LS:=["chances","choices","many","told","chance","choice"]
noncomputable def sprd(n:Nat):List Nat->eF->eF
 | [],_=>ofF n λ_=>(0,1)
 |_,[]=>ofF n λ_=>(0,1)
 |c::cs,f::fs=>(sprd n cs fs).set c f
def Jg(K:aR):Sp:=λvs H Q _=>∃(a b:Addr)(n:Nat)(ps:List Addr)(fs:eF)(cs:List Nat),vs=[.ref a,.ref b,.int n]/\H a=some (.lst (map ref ps))/\dC K H ps fs/\H b=some (.lst (tv cs))/\fs.length=cs.length/\(∀c∈cs,c<n)/\n<=6/\
 ∀l B Z,aS H Z->Z l=some (.lst (map ref B))->dC K Z B (sprd n cs.reverse fs.reverse)->Q (.ref l) Z
def jXr(K:aR)(a b:Addr)(n:Nat)(fs:eF)(cs:List Nat)(H:Hp):NS:=λi O Y=>∃l B R U,O=[some (.ref a),some (.ref b),some (.int n),some (.ref l),R,U]/\aS H Y/\H l=none/\Y l=some (.lst (map ref B))/\B.length=n/\dC K Y B (sprd n (cs.take i).reverse (fs.take i).reverse)
def Kh(K:aR):TS:=(cN (aE 4) (xL (aE 3) (aE 5) oP))
def yR(K:aR):TG:=(jR K 2 (dZ (aY 4) (dZ (aY 5) jS)))
def Kg(K:aR):TE:=(iX (aH (tC (.int 0)) (aH (tC (.int 1)) bE)))
def Nx(K:aR):TS:=(cB (cN (dH (iJ (aH (aE 2) bE)) [] (Kg K)) (aY 3)) (cB (gP (nL K (aH (aE 0) (aH (aE 1) bE))) (yR K) (Kh K)) (cX (aE 3))))
def jWt{K}:RdS K Jg Nx Zu:=by
 rintro j H Q E ⟨a,b,n,A,fs,T,rfl,ha,hf,hb,e,lt,Z,q⟩;have k:=hf.length;rw[show start Zu [ref a,ref b,int n]=[some (.ref a),some (.ref b),some (.int n),none,none,none]from rfl];(dsimp?[Nx,dH,iJ]);rw[bW];refine#[#[],#[],kH (W:=λi J Y=>aS H Y/\∃B,J=map ref B/\dC K Y B (ofF i λ_=>(0,1))) (lW #[]) #[aS.refl _,[],rfl,trivial] ?_ ?_]
 .rintro i J Y hi _ ⟨N,B,rfl,hr⟩;(dsimp?[Kg]);refine#[sz2,λp hp=>#[N.trans (aS.upd hp),B++[p],by rw[aV];rfl,?_]];rw[fN];exact dC.snoc (hr.same (aS.upd hp)) (SqT.of aL)
 .rintro J Y _ ⟨N,B,rfl,hr⟩ l S;have X:=N.trans (aS.upd (o:=lst (map ref B)) S);have m:=hr.same (aS.upd (o:=lst (map ref B)) S);have F:(upd Y l (.lst (map ref B))) l=some (.lst (map ref B)):=aL;have r:=N.free S;generalize upd Y l (.lst (map ref B))=u at X m F;have M:=m.length;rw[bH]at M;(dsimp?[gP,nL]);refine#[#[_,SqL.of (X _ _ ha)],#[_,SqL.of (X _ _ hb)],jY4 (K:=K) (a:=a) (b:=b) (xs:=map ref A) (ys:=tv T) (g:=yR K) (D:={ nx:=cX (aE 3) (eQ Q),rt:=Q }) (jXr K a b n fs T H) ?_ ?_ ?_ ?_ ?_]
  .exact#[l,B,_,_,rfl,X,r,F,M,m]
  .rintro i O G _ ⟨_,_,_,_,_,I,_⟩;exact#[SqL.of (I _ _ ha),SqL.of (I _ _ hb)]
  .rw[aA,iH];lia
  .rintro i x y p O G hx hy ⟨l,B,R,U,rfl,I,r,d,M,t⟩ hp;obtain⟨p1,rfl,v⟩:=eC hx;obtain⟨c,hc,rfl⟩:=pH hy;obtain⟨f,C,s⟩:=hf.get v;have w:=lt c (aJ hc);have P:=aS.upd (o:=tup [.ref p1,.int c]) hp;have z:=P _ _ d;(dsimp?[yR,Kh,xL,oP]);refine#[_,SqT.of aL,rfl,_,_,rfl,_,_,rfl,rfl,_,_,rfl,z,c,by rw[aA,uW #[] #[],bW],?_];refine#[l,B.set c p1,_,_,rfl,((I.trans P).put r),r,by rw[aL,List.map_set],by rw[fZ];exact M,?_];rw[dO hc,dO C,List.reverse_append,List.reverse_append];show dC K _ (B.set c p1) ((sprd n (T.take i).reverse (fs.take i).reverse).set c f);exact dC.set (((I.trans P).tup s).off z) c ((t.same P).off z)
  .rintro O G ⟨l,B,R,U,rfl,I,r,d,M,t⟩;(dsimp![aE,cX]);rw[aA,k,bY,e,bY]at t;exact q l B G I d t
def Bz:LS:=["self"]
def lF(K:aR):Sp:=λvs H Q _=>∃t ns I,vs=[.ref t]/\sX K H t ns I/\∀l,H l=none->Q (.ref l) (upd H l (.lst (tv ns)))
def sO(K:aR):TS:=(cX (tCB (pN K) (aH (gW K (aE 0) "many") bE)))
def Qo{K vs H Q E}(T:TabK K)(h:lF K vs H Q E):sO K (eQ Q) (start Bz vs) H:=by
 obtain⟨t,ns,I,rfl,⟨w,m,d,kv,y,hm,_⟩,q⟩:=h;rw[show start Bz [ref t]=[some (.ref t)]from rfl];(dsimp?[sO,gW,pN]);exact#[_,_,_,y,T.cl,T.nM,_,Tm _ _,m,rfl,_,.inl (SqL.of hm),q]
def Ue:LS:=["table","hand","choice","kept","others","own","found"]
def KpV(H:Hp)(kv:V)(ns:List Nat)(ks:eG):Prop:=(kv=.non/\ks=ns.map range)∨∃p xs,kv=.ref p/\H p=some (.lst xs)/\Lg H xs ks
def rwW(e:List Nat->Nat->Int×Int)(bs:eG)(h:Nat)(k:List Nat)(x:Nat):hJ:=k.map λy=>List.zipWith fsb (bs.map λb=>e (jn b h y) h) (bs.map λb=>e (jn b h x) h)
def NumW(frs:hJ)(n:Nat):Prop:=WoR frs n/\∀z,Mnf frs z->WoO (rW z frs) frs.length n
structure Yk(K:aR)(H':Hp)(v:Addr)(bs:eG)(k:List Nat)(nh:Nat)(frs:hJ)(x y:Int)(P R:Nat->Int×Int):Prop where
 y0:0<y
 pok:∀i,i<frs.length->Fok (P i)/\BB 9000 (P i).2
 qok:∀j,j<bs.length->Fok (R j)/\BB 9000 (R j).2
 G:Gm frs.length bs.length (λi j=>va (rwF frs i j)) (va (x,y)) (λi=>va (P i)) (λj=>va (R j))
 ex:∃o,(0<x/\H' v=some (.tup [.str "beaten",.ref o])/\∃rs,H' o=some (.lst (map ref rs))/\dC K H' rs (sprd nh k.reverse (ofF k.length P).reverse))∨
  (¬0<x/\H' v=some (.tup [.str "belief",.ref o])/\∃qp,H' o=some (.dT ((bs.map tk).zip (map ref qp)))/\dC K H' qp (ofF bs.length R))
structure WgIn(K:aR)(H:Hp)(t:Addr)(h:Nat)(kv:V)(ns:List Nat)(e:List Nat->Nat->Int×Int)(ks:eG)(k:List Nat)(n:Nat):Prop where
 T:Vc K H t ns e
 sz:Sz ns
 kp:Kp ns ks
 hv:KpV H kv ns ks
 hk:ks[h]?=some k
 hn:ns[h]?=some n
 gd:∀q∈fG ns.reverse,∀i,i<ns.length->Gd 4000 (e q i)
def vA(K:aR):Sp:=λvs H Q _=>∃(t p:Addr)(h z:Nat)(ns:List Nat)(e:List Nat->Nat->Int×Int)(ks:eG)(k:List Nat)(n:Nat),vs=[.ref t,.int h,.int z,.ref p]/\WgIn K H t h (.ref p) ns e ks k n/\z∈k/\NumW (rwW e (gG (wo h ks).reverse) h k z) (gG (wo h ks).reverse).length/\
 ∀v x y P R Z,aS H Z->Yk K Z v (gG (wo h ks).reverse) k n (rwW e (gG (wo h ks).reverse) h k z) x y P R->Q (.ref v) Z
def Fs(K:aR):TS:=(cX (iX (aH (tC (.str "belief")) (aH (tDZip K (aH (aE 4) (aH (tOp (eY K) (aE 6) (tC (.int 2))) bE))) bE))))
def Fr(K:aR):TS:=(cB (gA (tB (cC (Fa K) [] E0 (aH (iX (aH (tC (.int 0)) (aH (tC (.int 1)) bE))) (aH (tOp (eY K) (aE 6) (tC (.int 0))) bE)))) (cX (iX (aH (tC (.str "beaten")) (aH (cC (Jg K) [] E0 (aH (tOp (eY K) (aE 6) (tC (.int 1))) (aH (tOp (gB K) (aE 3) (aE 1)) (aH (tOp (gB K) (eZ (dY K "Table") "sizes" (lF K) [] E0 (aE 0) bE) (aE 1)) bE)))) bE)))) eL) (Fs K))
def Ft(K:aR):TE:=(cC (Vz K) [] E0 (aH (cC (rL K) [] E0 (aH (aE 2) (aH (aE 3) (aH (aE 0) (aH (aE 4) bE))))) (aH (aE 1) bE)))
def Fq(K:aR):TS:=(cB (cN (cC (Og K) [] E0 (aH (dH (cZ K (tOp (gB K) (aE 3) (aE 1))) [5,0,1,4] (Ft K)) bE)) (aY 6)) (Fr K))
def Fp(K:aR):TS:=(cB (cN (cC (rL K) [] E0 (aH (aE 0) (aH (aE 1) (aH (aE 2) (aH (aE 4) bE))))) (aY 5)) (Fq K))
def vL(K:aR):TS:=(cB (cN (cC (nD K) [] E0 (aH (tOp uQ (tSl (uP K) (aE 3) iE (mQ (aE 1))) (tSl (uP K) (aE 3) (mQ (tOp hV (aE 1) (tC (.int 1)))) iE)) bE)) (aY 4)) (Fp K))
def Fo(K:aR):TS:=(cB (gA (dD (tOp (rIn K true) (aE 2) (tOp (gB K) (aE 3) (aE 1)))) iN eL) (vL K))
def Ih(K:aR):TS:=(cB (gA (dD (tOp Av (aE 3) (tC .non))) iN eL) (Fo K))
def jYe:∀{xs:List V},(∀v∈xs,∃a:Addr,v=.ref a)->∃A,xs=map ref A
 | [],_=>#[[],rfl]
 |v::xs,h=>by
  obtain⟨a,rfl⟩:=h v (.head _);obtain⟨A,rfl⟩:=jYe λw hw=>h w (.tail _ hw);exact#[a::A,rfl]
def Ps.refs{bs:eG}(p:Ps H xs bs):∃A,xs=map ref A/\A.length=bs.length/\∀(i:Nat) q b,A[i]?=some q->bs[i]?=some b->H q=some (.tup (tv b)):=by
 obtain⟨A,rfl⟩:=jYe λv hv=>by
  obtain⟨i,hi⟩:=cF hv;obtain⟨_,a,_,e,_⟩:=p.get hi;exact#[a,e]
 refine#[A,rfl,by rw[←p.1,aA],λi q b h1 h2=>?_];obtain⟨a,e1,C⟩:=p.2 i b h2;rw[aX,h1]at e1;cases e1;exact C
def Ws(k:List Nat):(tv k).all Ei=true:=by unfold tv;rw[List.all_map,List.all_eq_true];intro _ _;rfl
def Nm{c:Int}{k:List Nat}:inV (.int c) (tv k)=true↔∃x∈k,(x:Int)=c:=by
 unfold inV tv;rw[List.any_map,List.any_eq_true];constructor
 .rintro⟨x,hx,e⟩;exact#[x,hx,by simpa [eqV]using e]
 .rintro⟨x,hx,e⟩;exact#[x,hx,by simpa [eqV]using e]
def Rg{t:Addr}{n:Nat}{k:List Nat}(s0:aS H G)(T:Vc K G t ns e)(sz:Sz ns)(kp:Kp ns ks)(hp:G p=some (.lst xs))(lg:Lg G xs ks)(hk:ks[h]?=some k)(hn:ns[h]?=some n)(gd:∀q∈fG ns.reverse,∀i,i<ns.length->Gd 4000 (e q i))(hz:z∈k)
  (nw:NumW (rwW e (gG (wo h ks).reverse) h k z) (gG (wo h ks).reverse).length) (q:∀v x y P R Z,aS H Z->Yk K Z v (gG (wo h ks).reverse) k n (rwW e (gG (wo h ks).reverse) h k z) x y P R->Q (.ref v) Z):
  vL K (eQ Q) [some (.ref t),some (.int h),some (.int z),some (.ref p),none,none,none] G:=by
 have ch:=kp.ch sz;have hl:=(aI.mp hk).1;have kl:=kp.len;have n3:=sz.len;have b0:=aJ hk;have n6:=sz.le n (aJ hn);obtain⟨ka,a3,a1⟩:=lg.2 h k hk;(dsimp?[vL,uQ,uP]);refine#[_,SqL.of hp,λp1 a2=>#[_,SqL.of (aS.upd a2 _ _ hp),λp2 D=>#[_,aS.upd D _ _ aL,_,aL,?_,λp3 a4=>?_]]]
 .have e1:=Ai xs none (some (h:Int));have C:=Ai xs (some ((h:Int)+1)) none;have:=lg.1;exact lW #[]
 have M:=(aS.upd (o:=.lst (mW xs none (some (h:Int)))) a2).trans ((aS.upd (o:=.lst (mW xs (some ((h:Int)+1)) none)) D).trans (aS.upd (o:=.lst (mW xs none (some (h:Int))++mW xs (some ((h:Int)+1)) none)) a4));refine#[p3,_,wo h ks,rfl,aL,?_,ch.wo h,λo os G1 s2 _ ho ps=>?_]
 .have e1:mW xs none (some (h:Int))++mW xs (some ((h:Int)+1)) none=xs.take h++xs.drop (h+1):=by rw[Vl,show((h:Int)+1)=((h+1:Nat):Int) by lia,Oz]
  have:=(lg.wo h).same M;rwa [←e1]at this
 have a5:=M.trans s2;have bl:=(ch.wo h).rev.ord;have bo:∀y∈k,∀b∈gG (wo h ks).reverse,b.length<=3/\jn b h y∈fG ns.reverse:=λy hy b hb=>#[by
  have:=tF _ b hb;rw[cK]at this;have:=(ch.wo h).len;lia,Ic kp hb hk hy]
 have a6:(gG (wo h ks).reverse).Nodup:=Dq _ λc hc=>kp.nd c (Nc (List.mem_reverse.mp hc));generalize hbs:gG (wo h ks).reverse=bs at ps bl bo a6 nw q;clear M a2 D a4;(dsimp?[Fp]);refine#[t,o,ns,e,bs,h,z,os,rfl,T.same a5,ho,ps,#[],bo z hz,bl,λw ws G2 N hw hws=>?_];have O:=a5.trans N;have j:=N _ _ ho;have b1:=ps.same N;(dsimp?[Fq,dH,cZ]);refine#[_,SqL.of (O _ _ hp),_,fD a3,_,rfl,#[_,SqL.of (O _ _ a1)],dQ (K:=K) (a:=ka) (xs:=tv k) (λi J G3=>aS G2 G3/\∃g,J=map ref g/\qD K G3 g (rwW e bs h (k.take i) z)) (by rw[iH];exact lW (by have:=ch.le k b0;lia)) #[aS.refl _,[],rfl,trivial] ?_ ?_ ?_]
 .rintro i J G3 _ ⟨X,_⟩;exact SqL.of (X _ _ (O _ _ a1))
 .rintro i x J G3 hi _ ⟨X,g,rfl,hr⟩;obtain⟨y,hy,rfl⟩:=pH hi;have a7:=aJ hy;(dsimp?[Ft,dA,cA,cY,bJ]);refine#[t,o,ns,e,bs,h,y,os,rfl,T.same (O.trans X),X _ _ j,b1.same X,#[],bo y a7,bl,λl1 q1 G4 s5 h1 f1=>?_];refine#[l1,w,q1,ws,_,_,rfl,h1,f1,s5 _ _ (X _ _ hw),(hws.same X).same s5,by rw[aA,aA],by rw[aA];exact bl,λf hf=>?_,λf hf=>?_,λl2 q2 G5 s6 h2 U=>#[X.trans (s5.trans s6),g++[l2],by rw[aV];rfl,?_]]
  .obtain⟨b,hb,rfl⟩:=cM.mp hf;exact gd _ (bo y a7 b hb).2 h #[]
  .obtain⟨b,hb,rfl⟩:=cM.mp hf;exact gd _ (bo z hz b hb).2 h #[]
  .unfold rwW;rw[dO hy,aV];exact qD.append (show qD K G5 [l2] [_]from#[#[q2,h2,U],trivial]) (hr.same (s5.trans s6))
 .rintro J G3 _ ⟨X,g,rfl,hr⟩ l Y;rw[iH,bY]at hr;have s5:=X.trans (aS.upd (o:=lst (map ref g)) Y);refine#[l,g,_,bs.length,rfl,aL,hr.same (aS.upd Y),nw.1,nw.2,λv x y P R u pl ql pp qp G4 s6 out=>?_];have s7:=s5.trans s6;have one:BB 20000 (1:Int):=by show(1:Int).natAbs<2^20000;exact Nat.one_lt_two_pow (by decide)
  have b2:BB 20000 (0:Int):=by show(0:Int).natAbs<2^20000;exact eJ _
  have fl:(rwW e bs h k z).length=k.length:=by unfold rwW;rw[aA]
  (dsimp?[Fr,eZ]);refine#[sz2,λa0 a8=>#[_,SqT.of (aS.upd a8 _ _ out.hv),_,lX,?_]];have s8:=aS.upd (o:=tup [.int 0,.int 1]) a8;refine#[_,_,_,_,_,_,rfl,#[SqT.of aL,SqT.of (s8 _ _ out.hw),b2,one,out.bx,out.by9.mono (by decide)],_,rfl,mV (λhx=>?_) (λhx=>?_)]
  .have S:=(O.trans s7).trans s8;obtain⟨I,a9,_⟩:=(T.same S).ex;obtain⟨dx,m,d,ht⟩:=a9.ins;refine#[_,SqT.of (s8 _ _ out.hv),_,lA,_,SqL.of (S _ _ hp),_,fD a3,_,_,ht,Mn _ _ (by decide+kernel) (by decide+kernel),t,ns,I,rfl,a9,λsl b3=>?_];have s9:=aS.upd (o:=lst (tv ns)) b3;refine#[_,rfl,_,SqL.of aL,_,fD (jYX hn),pl,ka,n,pp,_,k,rfl,s9 _ _ (s8 _ _ out.hpl),(out.hps.same s8).same s9,s9 _ _ (S _ _ a1),by rw[bH];exact fl,λc hc=>(kp.lt h k n hk hn).2 c hc,n6,λlr B G5 b4 b5 frs=>#[sz2,λr hr=>?_]];have s:=aS.upd (o:=tup [.str "beaten",.ref lr]) hr;rw[fl]at frs;exact q r x y P R _ (s0.trans (S.trans (s9.trans (b4.trans s)))) #[out.y0,out.pok,out.qok,out.G,lr,.inl #[by simpa using hx,aL,B,s _ _ b5,frs.same s]]
  .obtain⟨A,eq,ql,F⟩:=ps.refs;have S:=s7.trans s8;(dsimp?[Fs,tDZip]);refine#[_,SqT.of (s8 _ _ out.hv),_,atI2,_,rfl,bs.map tk,A,by rw[←eq];exact SqL.of (S _ _ j),_,SqL.of (s8 _ _ out.hql),by rw[aA];exact ql,by rw[aA,aA,out.hqs.length,bH];exact aP _,λi a c h1 h2=>?_,Fm a6,λd hd=>#[sz2,λr hr=>?_]]
   .rw[aX]at h2;obtain⟨b,hb,rfl⟩:=Option.map_eq_some_iff.mp h2;rw[Ka];exact S _ _ (N _ _ (F i a b h1 hb))
   .have s9:=aS.upd (o:=HO.dT ((bs.map tk).zip (map ref qp))) hd;have s:=aS.upd (o:=tup [.str "belief",.ref d]) hr;exact q r x y P R _ (s0.trans (O.trans (S.trans (s9.trans s)))) #[out.y0,out.pok,out.qok,out.G,d,.inr #[by simpa using hx,aL,qp,s _ _ aL,((out.hqs.same s8).same s9).same s]]
def jZs{K}:RdS K vA Ih Ue:=by
 rintro j H Q E ⟨t,p,h,z,ns,e,ks,k,n,rfl,⟨T,sz,kp,hv,hk,hn,gd⟩,f,nw,q⟩;rw[show start Ue [ref t,int h,int z,ref p]=[some (.ref t),some (.int h),some (.int z),some (.ref p),none,none,none]from rfl];obtain⟨u,b,U,hp,lg⟩:=hv.resolve_left λw=>nomatch w.1
 cases U;obtain⟨a,R,ha⟩:=lg.2 h k hk;(dsimp?[Ih,Av]);rw[aF (by intro z;cases z)];(dsimp?[Fo,rIn]);refine#[_,SqL.of hp,_,fD R,_,rfl,_,.inl (SqL.of ha),rfl,Ws k,?_];rw[aK trivial,Nm.mpr #[z,f,rfl]];exact Dz (Rg (aS.refl _) T sz kp hp lg hk hn gd f nw q)
def Uk:LS:=["_law_table_here","_law_sizes_here","_law_order_here","_law_kept","_law_log","_law_many","_law_hand","_law_choice","_law_found"]
noncomputable def lS{d:Type}:List d->(d->Rat)->Rat
 | [],_=>0
 |x::t,f=>f x+lS t f
section
variable{α β:Type}{f g:α->Rat}{l:List α}
def jYW:∀{l:List α},(∀x∈l,f x<=g x)->lS l f<=lS l g
 | [],_=>Rat.le_refl
 |x::t,h=>by
  have h1:=h x (bQ ..);have h2:=jYW (l:=t) λy hy=>h y (bI _ hy);show f x+lS t f<=g x+lS t g;grind
def nA:∀{l:List α},(∀x∈l,f x=g x)->lS l f=lS l g
 | [],_=>rfl
 |x::t,h=>by show f x+lS t f=g x+lS t g;rw[h x (bQ ..),nA λy hy=>h y (bI _ hy)]
def Nj{c:Rat}:∀{l:List α},lS l (λx=>f x*c)=lS l f*c
 | []=>by show(0:Rat)=0*c;grind
 |x::t=>by show f x*c+lS t (λx=>f x*c)=(f x+lS t f)*c;rw[Nj];grind
def Nk:∀{l:List α},lS l (λx=>f x+g x)=lS l f+lS l g
 | []=>by show(0:Rat)=0+0;grind
 |x::t=>by show f x+g x+lS t (λx=>f x+g x)=f x+lS t f+(g x+lS t g);rw[Nk];grind
def lS_0:∀{l:List α},lS l (λ_=>0)=0
 | []=>rfl
 |x::t=>by show 0+lS t (λ_=>0)=0;rw[lS_0];grind
def jYw{F:α->β->Rat}{m:List β}:∀{l:List α},lS l (λx=>lS m λy=>F x y)=lS m λy=>lS l λx=>F x y
 | []=>lS_0.symm
 |x::t=>by show lS m (F x)+lS t _=lS m λy=>F x y+lS t λx=>F x y;rw[jYw,Nk]
def lS_app:∀{a b:List α},lS (a++b) f=lS a f+lS b f
 | [],b=>by show lS b f=0+lS b f;grind
 |x::t,b=>by show f x+lS (t++b) f=f x+lS t f+lS b f;rw[lS_app];grind
def Ng{r:Nat->Rat}(h:∀j q,l[j]?=some q->r j=f q):rsm l.length r=lS l f:=by
 have k:∀i,i<=l.length->rsm i r=lS (l.take i) f:=by
  intro i
  induction i with
  |zero=>intro _;rfl
  |succ i ih=>
   intro hi;have e:l[i]?=some l[i]:=aC #[];rw[dO e,lS_app,←ih #[]];show rsm i r+r i=rsm i r+(f l[i]+0);rw[h i _ e];grind
 rw[k _ (aP _),bY]
def lS_lt(h:∀x∈l,f x<g x)(p:α->Rat)(p0:∀x∈l,0<=p x)(s:0<lS l p):lS l (λx=>p x*f x)<lS l λx=>p x*g x:=by
 have le:lS l (λx=>p x*f x)<=lS l λx=>p x*g x:=jYW λx hx=>Rat.mul_le_mul_of_nonneg_left (Rat.le_of_lt (h x hx)) (p0 x hx);have ne:lS l (λx=>p x*f x)≠lS l λx=>p x*g x:=λe=>by
  have d:lS l (λx=>p x*(g x-f x))=0:=by
   have:lS l (λx=>p x*(g x-f x))+lS l (λx=>p x*f x)=lS l λx=>p x*g x:=by rw[←Nk];exact nA λx _=>by grind
   grind
  have z:∀{l:List α},(∀x∈l,0<=p x*(g x-f x))->lS l (λx=>p x*(g x-f x))=0->∀x∈l,p x*(g x-f x)=0:=by
   intro l
   induction l with
   |nil=>intro _ _ x hx;cases hx
   |cons y t ih=>
    intro n e x hx;have n1:=n y (bQ ..);have n2:0<=lS t λx=>p x*(g x-f x):=by rw[←lS_0 (l:=t)];exact jYW λx hx=>n x (bI _ hx)
    have e:p y*(g y-f y)+lS t (λx=>p x*(g x-f x))=0:=e;rcases eK.mp hx with rfl |hx
    .grind
    .exact ih (λx hx=>n x (bI _ hx)) (by grind) x hx
  have all:=z (l:=l) (λx hx=>Rat.mul_nonneg (p0 x hx) (by have:=h x hx;grind)) d;have a:lS l p=0:=by
   rw[←lS_0 (l:=l)];exact nA λx hx=>(Rat.mul_eq_zero.mp (all x hx)).resolve_right (by have:=h x hx;grind)
  grind
 grind
end
def Bt(E:List Nat->Nat->Rat)(ks:eG)(h z:Nat):Prop:=∃k,ks[h]?=some k/\∃p:Nat->Rat,(∀y∈k,0<=p y)/\lS k p=1/\∀b∈gG (wo h ks).reverse,E (jn b h z) h<lS k λy=>p y*E (jn b h y) h
def Nb(E:List Nat->Nat->Rat)(ks:eG)(h z:Nat):Prop:=∃k,ks[h]?=some k/\∃q:List Nat->Rat,(∀b∈gG (wo h ks).reverse,0<=q b)/\lS (gG (wo h ks).reverse) q=1/\∀y∈k,lS (gG (wo h ks).reverse) (λb=>q b*E (jn b h y) h)<=lS (gG (wo h ks).reverse) λb=>q b*E (jn b h z) h
section
variable{E:List Nat->Nat->Rat}{ks ks' KA KB:eG}{h z:Nat}{bs:eG}{k:List Nat}{q:List Nat->Rat}
def uB(E:List Nat->Nat->Rat)(bs:eG)(q:List Nat->Rat)(h y:Nat):Rat:=lS bs λb=>q b*E (jn b h y) h
def Ot{p:Nat->Rat}(p0:∀y∈k,0<=p y)(p1:lS k p=1)(hb:∀b∈bs,E (jn b h z) h<lS k λy=>p y*E (jn b h y) h)(q0:∀b∈bs,0<=q b)(q1:lS bs q=1):∃y∈k,uB E bs q h z<uB E bs q h y:=by
 have l:uB E bs q h z<lS k λy=>p y*uB E bs q h y:=by
  have e:lS k (λy=>p y*uB E bs q h y)=lS bs λb=>q b*lS k λy=>p y*E (jn b h y) h:=by
   rw[nA (g:=λy=>lS bs λb=>p y*(q b*E (jn b h y) h)) λy _=>by unfold uB;rw[Rat.mul_comm,←Nj];exact nA λb _=>by grind,jYw];exact nA λb _=>by rw[Rat.mul_comm,←Nj];exact nA λy _=>by grind
  rw[e];exact lS_lt hb q q0 (by rw[q1];decide+kernel)
 refine Classical.byContradiction λn=>?_;have le:lS k (λy=>p y*uB E bs q h y)<=lS k λy=>p y*uB E bs q h z:=jYW λy hy=>Rat.mul_le_mul_of_nonneg_left (by
  by_cases c:uB E bs q h y<=uB E bs q h z
  .exact c
  .exact absurd #[y,hy,by grind] n) (p0 y hy)
 rw[Nj,p1]at le;grind
theorem bt_nb(a:Bt E ks h z)(b:Nb E ks h z):False:=by
 obtain⟨k,e,p,p0,p1,hb⟩:=a;obtain⟨n,g,q,q0,q1,F⟩:=b;rw[e]at g;cases g;obtain⟨y,hy,l⟩:=Ot p0 p1 hb q0 q1;have:=F y hy;unfold uB at l;grind
end
def Su(a ks:eG):Prop:=a.length=ks.length/\∀(h:Nat) k k',ks[h]?=some k->a[h]?=some k'->∀y∈k',y∈k
inductive Rn (E:List Nat->Nat->Rat):eG->eG->Prop
 |no (ks:eG):Rn E ks ks
 |go {ks KA:eG} {h z:Nat} {k:List Nat} (hk:ks[h]?=some k) (hz:z∈k) (b:Bt E ks h z) (r:Rn E (ks.set h (k.filter λy=>decide (y≠z))) KA):Rn E ks KA
section
variable{E:List Nat->Nat->Rat}{ks ks' KA KB:eG}{h z:Nat}{bs:eG}{k:List Nat}{q:List Nat->Rat}
def Su.refl(ks:eG):Su ks ks:=#[rfl,λh k n e g y hy=>by rw[e]at g;cases g;exact hy]
def Su.trans{a b c:eG}(x:Su a b)(y:Su b c):Su a c:=#[x.1.trans y.1,λh k n e g z f=>by
 have S:h<b.length:=by rw[y.1];exact(aI.mp e).1
 exact y.2 h k _ e (aC S) z (x.2 h _ n (aC S) g z f)]
def Fb{c:List Nat}(hk:ks[h]?=some k):(ks.set h c)[h]?=some c:=List.getElem?_set_self (aI.mp hk).1
def Su.set(hk:ks[h]?=some k):Su (ks.set h (k.filter λy=>decide (y≠z))) ks:=#[fZ ..,λi c m e g y hy=>by
 by_cases hi:h=i
 .subst hi;rw[Fb hk]at g;cases g;rw[hk]at e;cases e;exact(List.mem_filter.mp hy).1
 .rw[List.getElem?_set_ne hi,e]at g;cases g;exact hy]
def Rn.su(r:Rn E ks KA):Su KA ks:=by
 induction r with
 |no=>exact Su.refl _
 |go hk hz b r ih=>exact ih.trans (Su.set hk)
def Rn.snoc(r:Rn E ks KA)(hk:KA[h]?=some k)(hz:z∈k)(b:Bt E KA h z):Rn E ks (KA.set h (k.filter λy=>decide (y≠z))):=by
 induction r with
 |no=>exact .go hk hz b (.no _)
 |go hk' hz' b' r ih=>exact .go hk' hz' b' (ih hk b)
def Za:∀(a b:eG),Su a b->∀q∈gG a,q∈gG b
 | [],[],_,q,hq=>hq
 | [],_::_,s,_,_=>by have:=s.1;simp at this
 |_::_,[],s,_,_=>by have:=s.1;simp at this
 |c::a,d::b,s,q,hq=>by
  simp only[gG,iW,cM]at hq⊢;obtain⟨r,hr,x,hx,e⟩:=hq;exact#[r,Za a b #[by have:=s.1;simpa using this,λh k n e1 C=>s.2 (h+1) k n (by simpa using e1) (by simpa using C)] r hr,x,s.2 0 d c rfl rfl x hx,e]
def Su.rev{a b:eG}(s:Su a b):Su a.reverse b.reverse:=#[by rw[cK,cK];exact s.1,λh k n e1 C=>by
 have l:=(aI.mp e1).1;have m:=(aI.mp C).1;rw[cK]at l m;rw[List.getElem?_reverse l]at e1;rw[List.getElem?_reverse m,s.1]at C;exact s.2 _ k n e1 C]
def wo_at{a:eG}{h:Nat}:(wo h a)[i]?=if i<h then a[i]? else a[i+1]?:=by
 unfold wo;by_cases c:h<=a.length
 .by_cases l:i<h
  .rw[aK l,bV (by rw[cR];lia),List.getElem?_take_of_lt l]
  .rw[aF l,bP (by rw[cR];lia),cR,List.getElem?_drop,show h+1+(i-min h a.length)=i+1 by lia]
 .rw[List.drop_eq_nil_of_le #[],cS,take_of_length_le #[]];split
  .rfl
  .rw[bU #[],bU #[]]
def Su.wo{a b:eG}(s:Su a b)(h:Nat):Su (wo h a) (wo h b):=#[by unfold My.wo;rw[bF,bF,cR,cR,hE,hE,s.1],λi k n e1 C=>by
 rw[wo_at]at e1 C;split at e1
 .rw[aK (by assumption)]at C;exact s.2 i k n e1 C
 .rw[aF (by assumption)]at C;exact s.2 (i+1) k n e1 C]
def Su.prd{a b:eG}(s:Su a b)(h:Nat):∀q∈gG (My.wo h a).reverse,q∈gG (My.wo h b).reverse:=Za _ _ (s.wo h).rev
def Rn.best(r:Rn E ks KA)(q0:∀b∈gG (wo h KA).reverse,0<=q b)(q1:lS (gG (wo h KA).reverse) q=1):∀k,ks[h]?=some k->∀y∈k,∃n,KA[h]?=some n/\∃o∈n,uB E (gG (wo h KA).reverse) q h y<=uB E (gG (wo h KA).reverse) q h o:=by
 induction r with
 |no ks=>exact λk hk y hy=>#[k,hk,y,hy,Rat.le_refl]
 |@go ks KA i z c hk hz b r ih=>
  intro k a y hy;have su:=r.su.trans (Su.set hk);by_cases hi:i=h
  .subst hi;rw[hk]at a;cases a;have d:∀y∈c,y≠z->∃n,KA[i]?=some n/\∃o∈n,uB E (gG (wo i KA).reverse) q i y<=uB E (gG (wo i KA).reverse) q i o:=λy hy ne=>ih q0 q1 _ (Fb hk) y (List.mem_filter.mpr #[hy,by simpa using ne]);by_cases e:y=z
   .subst e;obtain⟨k,e1,p,p0,p1,hb⟩:=b;rw[hk]at e1;cases e1;obtain⟨v,u,l⟩:=Ot p0 p1 (λb Z=>hb b (su.prd i b Z)) q0 q1;obtain⟨n,C,w,t,N⟩:=d v u λz=>by rw[z]at l;exact Rat.lt_irrefl l
    exact#[n,C,w,t,by grind]
   .exact d y hy e
  .exact ih q0 q1 k (by rw[List.getElem?_set_ne hi];exact a) y hy
def Fn(E:List Nat->Nat->Rat)(KA:eG):Prop:=∀(h:Nat) k z,KA[h]?=some k->z∈k->Nb E KA h z
def Rn.keeps{m:eG}(a:Rn E m KA)(I:Fn E KA)(b:Rn E ks KB)(f:Su ks m)(s:Su KA ks):Su KA KB:=by
 induction b with
 |no=>exact s
 |@go ks KB i z c hk hz b r ih=>
  refine ih ((Su.set hk).trans f) #[by rw[fZ];exact s.1,λj d A e g y hy=>?_];by_cases hi:i=j
  .subst hi;rw[Fb hk]at e;cases e;refine List.mem_filter.mpr #[s.2 i c A hk g y hy,?_];simp only[cT];rintro rfl;obtain⟨k,e1,q,q0,q1,F⟩:=I i A y g hy;rw[g]at e1;cases e1;obtain⟨k,C,p,p0,p1,hb⟩:=b;rw[hk]at C;cases C;obtain⟨v,u,l⟩:=Ot p0 p1 (λb Z=>hb b (s.prd i b Z)) q0 q1;have M:i<m.length:=by rw[←f.1];exact(aI.mp hk).1
   have B:=aC M;obtain⟨n,P,w,t,N⟩:=a.best q0 q1 _ B v (f.2 i _ c B hk v u);rw[g]at P;cases P;have o:=F w t;unfold uB at l N;grind
  .rw[List.getElem?_set_ne hi]at e;exact s.2 j d A e g y hy
def Rn.same{m:eG}(a:Rn E m KA)(I:Fn E KA)(b:Rn E m KB)(l:Fn E KB):Su KA KB/\Su KB KA:=#[a.keeps I b (Su.refl _) a.su,b.keeps l a (Su.refl _) b.su]
def Fl(ns:List Nat)(ks:eG):Prop:=ks.length=ns.length/\∀(h:Nat) n k,ns[h]?=some n->ks[h]?=some k->∃p:Nat->Bool,k=(range n).filter p
def Rn.fl(r:Rn E ks KA)(f:Fl ns ks):Fl ns KA:=by
 induction r with
 |no=>exact f
 |@go ks KA i z c hk hz b r ih=>
  refine ih #[by rw[fZ];exact f.1,λj n d e g=>?_];by_cases hi:i=j
  .subst hi;rw[Fb hk]at g;cases g;obtain⟨p,rfl⟩:=f.2 i n c e hk;exact#[λa=>(decide (a≠z))&&p a,by rw[List.filter_filter]]
  .rw[List.getElem?_set_ne hi]at g;exact f.2 j n d e g
def Fl.eq(a:Fl ns KA)(b:Fl ns KB)(s:Su KA KB)(t:Su KB KA):KA=KB:=by
 refine List.ext_getElem? λi=>?_;by_cases hi:i<ns.length
 .have x:=aC hi;have R:=aC (l:=KA) (i:=i) (by rw[a.1];exact hi);have C:=aC (l:=KB) (i:=i) (by rw[b.1];exact hi);obtain⟨p,hp⟩:=a.2 i _ _ x R;obtain⟨u,g⟩:=b.2 i _ _ x C;have M:=s.2 i _ _ C R;have w:=t.2 i _ _ R C;rw[R,C]
  congr 1
  rw[hp,g]at M w⊢;refine List.filter_congr λy hy=>?_;have d:=M y;have v:=w y;simp only[List.mem_filter,hy,true_and]at d v;cases h1:p y<;>cases h2:u y<;>simp_all
 .rw[bU (by rw[a.1];lia),bU (by rw[b.1];lia)]
end
def eV(e:List Nat->Nat->Int×Int)(q:List Nat)(h:Nat):Rat:=va (e q h)
def game_bn{bs:eG}{k:List Nat}{n:Nat}{r:Nat->Nat->Rat}{v:Rat}{p q:Nat->Rat}(G:Gm m n r v p q)(hm:m=k.length)(hn:n=bs.length)(nk:k.Nodup)(nb:bs.Nodup)(hk:ks[h]?=some k)(hb:gG (wo h ks).reverse=bs)
  (hr:∀i j y b,k[i]?=some y->bs[j]?=some b->r i j=eV e (jn b h y) h-eV e (jn b h z) h):(0<v->Bt (eV e) ks h z)/\(v<=0->Nb (eV e) ks h z):=by
 subst hm hn;have a:∀{i:Nat}{y:Nat},k[i]?=some y->k.idxOf y=i:=λ{i y} e=>by
  obtain⟨S,rfl⟩:=aI.mp e;exact nk.idxOf_getElem i S
 have ib:∀{j:Nat}{b:List Nat},bs[j]?=some b->bs.idxOf b=j:=λ{i y} e=>by
  obtain⟨S,rfl⟩:=aI.mp e;exact nb.idxOf_getElem i S
 constructor
 .intro w;refine#[k,hk,λy=>p (k.idxOf y),λy hy=>?_,?_,λb Z=>?_]
  .obtain⟨i,o⟩:=cF hy;dsimp only;rw[a o];exact G.p0 i (aI.mp o).1
  .rw[←G.p1];exact(Ng λj y d=>by rw[a d]).symm
  .rw[hb]at Z;obtain⟨j,J⟩:=cF Z;have lo:=G.lo j (aI.mp J).1;rw[Ng (f:=λy=>p (k.idxOf y)*(eV e (jn b h y) h-eV e (jn b h z) h)) λi y d=>by rw[a d,hr i j y b d J]]at lo;have e1:lS k (λy=>p (k.idxOf y)*(eV e (jn b h y) h-eV e (jn b h z) h))=lS k (λy=>p (k.idxOf y)*eV e (jn b h y) h)+lS k (λy=>p (k.idxOf y))*-(eV e (jn b h z) h):=by
    rw[←Nj,←Nk];exact nA λy _=>by grind
   have C:lS k (λy=>p (k.idxOf y))=1:=by rw[←G.p1];exact(Ng λj y d=>by rw[a d]).symm
   rw[e1,C]at lo;grind
 .intro w;have C:lS bs (λb=>q (bs.idxOf b))=1:=by rw[←G.q1];exact(Ng λj y d=>by rw[ib d]).symm
  refine#[k,hk,λb=>q (bs.idxOf b),?_];rw[hb];refine#[λb Z=>?_,C,λy hy=>?_]
  .obtain⟨j,J⟩:=cF Z;dsimp only;rw[ib J];exact G.q0 j (aI.mp J).1
  .obtain⟨i,o⟩:=cF hy;have hi:=G.hi i (aI.mp o).1;rw[Ng (f:=λb=>(eV e (jn b h y) h-eV e (jn b h z) h)*q (bs.idxOf b)) λj b J=>by rw[ib J,hr i j y b o J]]at hi;have e1:lS bs (λb=>(eV e (jn b h y) h-eV e (jn b h z) h)*q (bs.idxOf b))+lS bs (λb=>q (bs.idxOf b)*eV e (jn b h z) h)=lS bs λb=>q (bs.idxOf b)*eV e (jn b h y) h:=by
    rw[←Nk];exact nA λb _=>by grind
   grind
def rwW_rw{bs:eG}{k:List Nat}{y:Nat}{b:List Nat}(o:k[i]?=some y)(J:bs[j]?=some b):rwF (rwW e bs h k z) i j=fsb (e (jn b h y) h) (e (jn b h z) h):=by
 unfold rwF rwW;rw[aN (l:=map _ k),aX,o];show(List.zipWith _ _ _).getD j (0,1)=_;rw[aN,List.getElem?_zipWith,aX,aX,J];rfl
def Yk.bn{v:Addr}{k:List Nat}{n:Nat}{P R:Nat->Int×Int}(out:Yk K Z v (gG (wo h ks).reverse) k n (rwW e (gG (wo h ks).reverse) h k z) x y P R)(kp:Kp ns ks)(hk:ks[h]?=some k)(hz:z∈k)(pos:∀q∈fG ns.reverse,∀i,i<ns.length->0<(e q i).2):(0<x->Bt (eV e) ks h z)/\(¬0<x->Nb (eV e) ks h z):=by
 have S:h<ns.length:=by rw[←kp.len];exact(aI.mp hk).1
 have nb:(gG (wo h ks).reverse).Nodup:=Dq _ λc hc=>kp.nd c (Nc (List.mem_reverse.mp hc));have g:=game_bn (e:=e) (ks:=ks) (z:=z) out.G (by unfold rwW;rw[aA]) rfl (kp.nd k (aJ hk)) nb hk rfl λi j y b o J=>by
  have p1:=pos _ (Ic kp (aJ J) hk (aJ o)) h S;have a:=pos _ (Ic kp (aJ J) hk hz) h S;rw[rwW_rw o J];exact jJy p1 a
 refine#[λx0=>g.1 (jJz out.y0 x0),λx0=>g.2 ?_];rw[←zZ];exact(Eb out.y0 (by decide)).mpr (by show x*1<=0*y;lia)
noncomputable abbrev RSt:=eG×eF
open Classical in
def stp(E:List Nat->Nat->Rat)(s:RSt)(x:Int×Int):RSt:=if x.2.toNat∈s.1.getD x.1.toNat []/\¬Nb E s.1 x.1.toNat x.2.toNat then(s.1.set x.1.toNat ((s.1.getD x.1.toNat []).filter λy=>decide (y≠x.2.toNat)),s.2++[x])else s
def pss(E:List Nat->Nat->Rat)(o:eF)(s:RSt):RSt:=o.foldl (stp E) s
noncomputable def itr(E:List Nat->Nat->Rat)(o:eF):Nat->RSt->RSt
 |0,s=>s
 |n+1,s=>itr E o n (pss E o s)
def Dn(E:List Nat->Nat->Rat)(o:eF)(s R:RSt):Prop:=∃n,itr E o n s=R/\pss E o R=R
def Wp{E:List Nat->Nat->Rat}{o:eF}{s:RSt}(h:pss E o s=s):∀n,itr E o n s=s
 |0=>rfl
 |n+1=>by show itr E o n (pss E o s)=s;rw[h];exact Wp h n
def Mm{E:List Nat->Nat->Rat}{o:eF}:∀(n m:Nat)(s:RSt),itr E o (n+m) s=itr E o m (itr E o n s)
 |0,m,s=>by rw[Nat.zero_add];rfl
 |n+1,m,s=>by rw[show n+1+m=n+m+1 by lia];exact Mm n m (pss E o s)
def Dn.uniq{o:eF}{s a b:RSt}(x:Dn E o s a)(y:Dn E o s b):a=b:=by
 obtain⟨n,e1,c⟩:=x;obtain⟨m,C,U⟩:=y;have I:=Mm (E:=E) (o:=o) n m s;have K:=Mm (E:=E) (o:=o) m n s;rw[e1,Wp c]at I;rw[C,Wp U]at K;rw[←I,←K,Nat.add_comm]
def stp_len{s:RSt}{x:Int×Int}:(stp E s x=s/\(x.2.toNat∈s.1.getD x.1.toNat []->Nb E s.1 x.1.toNat x.2.toNat))∨s.2.length<(stp E s x).2.length:=by
 unfold stp;split
 .exact .inr (by rw[bF];exact fX _)
 .rename_i h
  exact .inl #[rfl,λm=>Classical.byContradiction λn=>h #[m,n]]
def Me{E:List Nat->Nat->Rat}:∀{o:eF}{s:RSt},(pss E o s=s/\∀x∈o,x.2.toNat∈s.1.getD x.1.toNat []->Nb E s.1 x.1.toNat x.2.toNat)∨s.2.length<(pss E o s).2.length
 | [],s=>.inl #[rfl,λ_ h=>nomatch h]
 |x::o,s=>by
  show((pss E o (stp E s x))=s/\_)∨_<(pss E o (stp E s x)).2.length;have r:=Me (E:=E) (o:=o) (s:=stp E s x);rcases stp_len (E:=E) (s:=s) (x:=x)with⟨e,f⟩|l
  .rw[e]at r⊢;rcases r with⟨Z,Y⟩|r
   .exact .inl #[Z,λy hy=>by
     rcases eK.mp hy with rfl |hy
     .exact f
     .exact Y y hy]
   .exact .inr r
  .refine .inr (cH l ?_);rcases r with⟨Z,_⟩|r
   .rw[Z];exact aP _
   .exact jB r
structure GoS(K:aR)(H0:Hp)(t o:Addr)(ns:List Nat)(e:List Nat->Nat->Int×Int)(ls:List Addr)(qs:eF):Prop where
 T:Vc K H0 t ns e
 nw:∀ks h k z,Kp ns ks->ks[h]?=some k->z∈k->NumW (rwW e (gG (wo h ks).reverse) h k z) (gG (wo h ks).reverse).length
 gd:∀q∈fG ns.reverse,∀i,i<ns.length->Gd 4000 (e q i)
 sz:Sz ns
 ho:SqL K H0 o (map ref ls)
 pa:PrA H0 ls qs
 pq:∀q∈qs,q∈prs ns
 ll:ls.length<64
def LgP(H:Hp)(J:List V)(lg:eF):Prop:=J.length=lg.length/\∀(i:Nat) x,lg[i]?=some x->∃a v,J[i]?=some (.ref a)/\H a=some (.tup [.int x.1,.int x.2,v])
def LgP.keep(h:LgP H J lg)(s:Kb H Z):LgP Z J lg:=#[h.1,λi x e=>let⟨a,v,e1,e2⟩:=h.2 i x e;#[a,v,e1,s _ _ e2]]
def LgP.snoc{v:V}{x:Int×Int}(h:LgP H J lg)(ha:H a=some (.tup [.int x.1,.int x.2,v])):LgP H (J++[.ref a]) (lg++[x]):=#[by rw[bF,bF,h.1];rfl,λi y e=>by
 by_cases M:i<lg.length
 .rw[bV M]at e;obtain⟨b,w,e1,C⟩:=h.2 i y e;exact#[b,w,by rw[bV (by rw[h.1];exact M)];exact e1,C]
 .rw[bP #[]]at e;rw[bP (by rw[h.1];lia),h.1];generalize i-lg.length=j at e⊢
  match j,e with
  |0,e=>simp at e;subst e;exact#[a,v,rfl,ha]
  |j+1,e=>simp at e]
def Vw:∀{ks:eG}{h:Nat}{k n:List Nat},ks[h]?=some k->n.length+1=k.length->((ks.set h n).map List.length).sum+1=(ks.map List.length).sum
 | [],h,k,n,e,_=>by simp at e
 |a::ks,0,k,n,e,l=>by
  simp at e;subst e;show n.length+_+1=a.length+_;lia
 |a::ks,h+1,k,n,e,l=>by
  have:=Vw (ks:=ks) (h:=h) (by simpa using e) l;show a.length+((ks.set h n).map List.length).sum+1=a.length+(ks.map List.length).sum;lia
def Jt{l:List d}{x:d}(e:l[i]?=some x):(l.eraseIdx i).length+1=l.length:=(vJ e).length_eq
def Kp.erase{k:List Nat}(K:Kp ns ks)(hk:ks[h]?=some k)(Z:k[j]?=some z)(q:2<=k.length):Kp ns (ks.set h (k.eraseIdx j)):=by
 have e:=Jt Z;have kl:=(aI.mp hk).1;have T:=aJ hk;have ne:k.eraseIdx j≠[]:=λz=>by rw[z]at e;simp at e;lia
 have nd:(k.eraseIdx j).Nodup:=(K.nd k T).sublist (List.eraseIdx_sublist _ _);refine#[by rw[fZ];exact K.len,λc hc=>?_,λc hc=>?_,λi c n e1 C=>?_]
 .rcases mem_or_eq_of_mem_set hc with m |m
  .exact K.ne c m
  .rw[m];exact ne
 .rcases mem_or_eq_of_mem_set hc with m |m
  .exact K.nd c m
  .rw[m];exact nd
 .by_cases hi:h=i
  .subst hi;rw[List.getElem?_set_self kl]at e1;cases e1;have:=K.lt h k n hk C;exact#[#[],λx hx=>this.2 x (List.mem_of_mem_eraseIdx hx)]
  .rw[List.getElem?_set_ne hi]at e1;exact K.lt i c n e1 C
def Wf(kp:Kp ns ks):1<=(gG (wo h ks).reverse).length:=by
 rw[rN];refine Sy _ λs hs=>?_;obtain⟨c,hc,rfl⟩:=cM.mp hs;exact List.length_pos_iff.mpr (kp.ne c (Nc (List.mem_reverse.mp hc)))
def Hs{k:List Nat}(nd:k.Nodup)(Z:k[j]?=some z):k.eraseIdx j=k.filter λy=>decide (y≠z):=by
 induction k generalizing j with
 |nil=>simp at Z
 |cons a k ih=>
  have n1:=List.nodup_cons.mp nd
  match j,Z with
  |0,Z=>
   obtain rfl:a=z:=by simpa using Z
   rw[List.filter_cons_of_neg (by simp)];show k=_;exact(List.filter_eq_self.mpr λy hy=>by simp only[cT];rintro rfl;exact n1.1 hy).symm
  |j+1,Z=>
   have Z:k[j]?=some z:=by simpa using Z
   rw[List.filter_cons_of_pos (by simp only[cT];rintro rfl;exact n1.1 (aJ Z)),←ih n1.2 Z];rfl
def wg_two{v:Addr}{bs:eG}{k:List Nat}{n:Nat}{P R:Nat->Int×Int}(out:Yk K Z v bs k n (rwW e bs h k z) x y P R)(x0:0<x)(hz:z∈k)(t:1<=bs.length)(pos:∀b∈bs,0<(e (jn b h z) h).2):2<=k.length:=by
 refine Nat.le_of_not_lt λS=>?_;obtain rfl:k=[z]:=by
  match k,hz,S with
  | [a],hz,_=>rw[cJ.mp hz]
  |_::_::_,_,S=>exact absurd S (by simp)
 obtain⟨b,bs,rfl⟩:∃b r,bs=b::r:=by
  cases bs with
  |nil=>simp at t
  |cons b r=>exact#[b,r,rfl]
 have lo:=out.G.lo 0 (by simp);have p0:=pos b (.head _);have B:va (rwF (rwW e (b::bs) h [z] z) 0 0)=0:=by
  show va (fsb (e (jn b h z) h) (e (jn b h z) h))=0;unfold fsb;rw[jJy p0 p0];grind
 have e1:(rsm (rwW e (b::bs) h [z] z).length λi=>va (P i)*va (rwF (rwW e (b::bs) h [z] z) i 0))=0:=by
  show 0+va (P 0)*va (rwF (rwW e (b::bs) h [z] z) 0 0)=0;rw[B];grind
 rw[e1]at lo;have:=jJz (g:=(x,y)) out.y0 x0;grind
def Yz{o:eF}{x:Int×Int}{s:RSt}(e:o[i]?=some x):pss E (o.take (i+1)) s=stp E (pss E (o.take i) s) x:=by
 unfold pss;rw[dO e,List.foldl_append];rfl
def jYc{s:RSt}{k:List Nat}(hk:s.1[h]?=some k)(hz:z∈k)(n:¬Nb E s.1 h z):stp E s ((h:Int),(z:Int))=(s.1.set h (k.filter λy=>decide (y≠z)),s.2++[((h:Int),(z:Int))]):=by
 have e:s.1.getD h []=k:=by rw[aN,hk];rfl
 unfold stp;refine(aK #[show z∈s.1.getD h [] by rw[e];exact hz,n]).trans ?_;show(s.1.set h ((s.1.getD h []).filter λy=>decide (y≠z)),s.2++[((h:Int),(z:Int))])=_;rw[e]
def Vh{s:RSt}(n:z∈s.1.getD h []->Nb E s.1 h z):stp E s ((h:Int),(z:Int))=s:=by
 unfold stp;simp only[bW];rw[aF λc=>c.2 (n c.1)]
def Vx:∀{ns:List Nat},(∀n∈ns,n<=3)->((ns.map range).map List.length).sum<=3*ns.length
 | [],_=>aP _
 |n::ns,h=>by
  have:=Vx (ns:=ns) λx hx=>h x (.tail _ hx);have:=h n (.head _);show(range n).length+((ns.map range).map List.length).sum<=3*(ns.length+1);rw[gL];lia
def Zn{o:eF}{n:Nat}{s:RSt}:itr E o (n+1) s=pss E o (itr E o n s):=Mm n 1 s
def Fd{o:eF}{s:RSt}:s.2.length<=(pss E o s).2.length:=by
 rcases Me (E:=E) (o:=o) (s:=s)with⟨h1,_⟩|h1
 .rw[h1];exact aP _
 .omega
def Oi{o:eF}{s:RSt}(h:s.2.length=(pss E o s).2.length):pss E o (pss E o s)=pss E o s:=by
 rcases Me (E:=E) (o:=o) (s:=s)with⟨h1,_⟩|h1
 .rw[h1,h1]
 .omega
def srt_in{ls:List Addr}{A:eF}(pa:PrA H ls A)(pg:A.Perm (prs P))(hm:∀n∈P,1<=n/\n<=3):∀l∈ls,∃a b:Int,SqT K H l [.int a,.int b]/\ky (rdP H l)=1000*a+b/\-500<b/\b<500:=λx hx=>by
 obtain⟨a,b,C⟩:=pa.all x hx;have mem:(a,b)∈prs P:=pg.mem_iff.mp (by rw[pa.eq,cM];exact#[x,hx,Hz C]);obtain⟨h,c,n,rfl,rfl,hn,hc⟩:=Em.mp mem;have:=(hm n (aJ hn)).2;exact#[_,_,SqT.of C,by show ky (rdP H x)=_;rw[Hz C],#[],#[]]
def tv_refs{k:List Nat}(ne:k≠[]):tv k≠map ref u:=by
 cases k with
 |nil=>exact absurd rfl ne
 |cons a k=>cases u<;>intro z<;>simp [tv]at z
def Lg.offR{r:Addr}(lg:Lg H xs ks)(ne:∀c∈ks,c≠[])(hr:H r=some (.lst (map ref u))):Lg (upd H r o) xs ks:=#[lg.1,λi c e=>by
 obtain⟨a,e1,C⟩:=lg.2 i c e;exact#[a,e1,by rw[bZ λz=>by rw[z,hr]at C;exact tv_refs (ne c (aJ e)) (HO.lst.inj (aU C)).symm];exact C]]
def Lg.set{b:Addr}{c:List Nat}(lg:Lg H xs ks)(hb:H b=some (.lst (tv c))):Lg H (xs.set h (.ref b)) (ks.set h c):=#[by rw[fZ,fZ];exact lg.1,λi d e=>by
 by_cases hi:h=i
 .subst hi;have S:=(aI.mp e).1;rw[fZ]at S;rw[List.getElem?_set_self S]at e;cases e;exact#[b,List.getElem?_set_self (by rw[lg.1];exact S),hb]
 .rw[List.getElem?_set_ne hi]at e⊢;exact lg.2 i d e]
structure TkD(E:List Nat->Nat->Rat)(H0 H:Hp)(p g:Addr)(ns:List Nat)(st:RSt)(B:Nat):Prop where
 s:aS H0 H
 p0:H0 p=none
 hp:∃as,H p=some (.lst (map ref as))/\Lg H (map ref as) st.1
 kp:Kp ns st.1
 g0:H0 g=none
 gp:g≠p
 hg:∃ls,H g=some (.lst (map ref ls))/\PrA H ls st.2
 sm:st.2.length+(st.1.map List.length).sum=B
 rn:Rn E (ns.map range) st.1
def TkD.same{g:Addr}{s:RSt}{B:Nat}(D:TkD E F H p g ns s B)(h:aS H Z):TkD E F Z p g ns s B:=
 #[D.s.trans h,D.p0,let⟨a,b,c⟩:=D.hp;#[a,h _ _ b,c.same h],D.kp,D.g0,D.gp,let⟨a,b,c⟩:=D.hg;#[a,h _ _ b,c.same h],D.sm,D.rn]
def TkD.take{g b c:Addr}{s:RSt}{B:Nat}{k:List Nat}{ls:List Addr}(D:TkD E F H p g ns s B)(hk:s.1[h]?=some k)(Z:k[j]?=some z)(q:2<=k.length)(r:Bt E s.1 h z)(hp:H p=some (.lst (map ref u)))(lg:Lg H (map ref u) s.1)(hg:H g=some (.lst (map ref ls)))(pa:PrA H ls s.2)(hb:H b=some (.lst (tv (k.filter λy=>decide (y≠z)))))
  (hc:(upd H p (.lst ((map ref u).set h (.ref b)))) c=none):TkD E F (upd (upd (upd H p (.lst ((map ref u).set h (.ref b)))) c (.tup [.int h,.int z])) g (.lst (map ref ls++[.ref c]))) p g ns (s.1.set h (k.filter λy=>decide (y≠z)),s.2++[((h:Int),(z:Int))]) B:=by
 have nd:=D.kp.nd k (aJ hk);have f:=D.kp.erase hk Z q;have sm:=Vw hk (Jt Z);rw[Hs nd Z]at f sm;have P:(upd H p (.lst ((map ref u).set h (.ref b)))) g=some (.lst (map ref ls)):=by rw[bZ D.gp];exact hg
 have d:=aS.upd (o:=tup [.int h,.int z]) hc;have g2:=d _ _ P;have ne:∀c∈s.1.set h (k.filter λy=>decide (y≠z)),c≠[]:=f.ne;have J:(map ref u).set h (.ref b)=map ref (u.set h b):=by rw[List.map_set]
 have l:=(((lg.set (h:=h) hb).offR (o:=.lst ((map ref u).set h (.ref b))) ne hp).same d).offR (o:=.lst (map ref ls++[.ref c])) ne g2;have p1:=(((pa.off (o:=.lst ((map ref u).set h (.ref b))) hp).same d).app (PrA.one aL)).off (o:=.lst (map ref ls++[.ref c])) g2;refine#[((D.s.put D.p0).trans d).put D.g0,D.p0,#[u.set h b,?_,?_],f,D.g0,D.gp,#[ls++[c],?_,p1],?_,D.rn.snoc hk (aJ Z) r]
 .rw[bZ (Ne.symm D.gp)];exact d _ _ (by rw[aL,J])
 .rw[←J];exact l
 .rw[aL,aV];rfl
 .have:=D.sm;rw[bF];show s.2.length+1+_=_;dsimp only;lia
def vC(K:aR):Sp:=λvs H Q _=>∃(t s o:Addr)(ns:List Nat)(e:List Nat->Nat->Int×Int)(ls:List Addr)(A:eF),vs=[.ref t,.ref s,.ref o]/\GoS K H t o ns e ls A/\H s=some (.lst (tv ns))/\(∀q∈prs ns,q∈A)/\ns.length<=3/\(∀n∈ns,1<=n/\n<=3)/\
 ∀r p g u P st Z,aS H Z->Z r=some (.tup [.ref p,.ref g])->Z p=some (.lst (map ref u))->Lg Z (map ref u) st.1->Z g=some (.lst (map ref P))->PrA Z P st.2->Dn (eV e) A (ns.map range,[]) st->Rn (eV e) (ns.map range) st.1->Fn (eV e) st.1->st.2.length<=100->Q (.ref r) Z
def jXt(F:Hp)(t z o p g:Addr)(m:Int)(ns:List Nat)(E:List Nat->Nat->Rat)(A:eF)(s:RSt)(B:Nat):NS:=λi O Y=>∃R U r,O=[some (.ref t),some (.ref z),some (.ref o),some (.ref p),some (.ref g),some (.int m),R,U,r]/\TkD E F Y p g ns (pss E (A.take i) s) B
def Cq(F:Hp)(t z o p g:Addr)(ns:List Nat)(E:List Nat->Nat->Rat)(A:eF)(B:Nat):NS:=λj O H=>∃(s:RSt)(m:Int)(n:Nat)(R U r:Option V),O=[some (.ref t),some (.ref z),some (.ref o),some (.ref p),some (.ref g),some (.int m),R,U,r]/\TkD E F H p g ns s B/\itr E A n (ns.map range,[])=s/\m<=s.2.length/\(m=s.2.length->pss E A s=s)/\j=2*(B-s.2.length)+(if m<s.2.length then 1 else 0)
def Go(K:aR):TS:=(cX (iX (aH (aE 3) (aH (aE 4) bE))))
def Gs(K:aR):TE:=(aE 0)
def Gn(K:aR):TS:=(gA (dD (tOp rEq (tOp (eY K) (aE 8) (tC (.int 0))) (tC (.str "beaten")))) (cB (cN (pI (cZ K (tOp (gB K) (aE 3) (aE 6))) [7] (dD (tOp rNe (aE 0) (aE 1))) (Gs K)) (xL (aE 3) (aE 6) oP)) (iS (tBM K "list" kU (aE 4) (aH (iX (aH (aE 6) (aH (aE 7) bE))) bE)))) eL)
def Gr(K:aR):TE:=(tCB (pN K) (aH (aE 0) bE))
def Gv(K:aR):TS:=(gA (dD (tOp (rIn K false) (aE 7) (tOp (gB K) (aE 3) (aE 6)))) (cB (cN (cC (vA K) [] E0 (aH (aE 0) (aH (aE 6) (aH (aE 7) (aH (dH (cZ K (aE 3)) [] (Gr K)) bE))))) (aY 8)) (Gn K)) eL)
def vU(K:aR):TG:=(jR K 2 (dZ (aY 6) (dZ (aY 7) jS)))
def Gk(K:aR):TS:=(gP (cZ K (aE 2)) (vU K) (Gv K))
def Gu(K:aR):TS:=(cB (cN (tCB (iD K) (aH (aE 4) bE)) (aY 5)) (Gk K))
def Gj(K:aR):TS:=(cB (qE (dD (tOp kM (aE 5) (tCB (iD K) (aH (aE 4) bE)))) (Gu K)) (Go K))
def Gi(K:aR):TS:=(cB (cN (tUn iU (tC (.int 1))) (aY 5)) (Gj K))
def Gh(K:aR):TS:=(cB (cN (nO bE) (aY 4)) (Gi K))
def Gq(K:aR):TE:=(Ec (aE 0))
def Ip(K:aR):TS:=(cB (cN (dH (cZ K (aE 1)) [] (Gq K)) (aY 3)) (Gh K))
def jZ0{K}:RdS K vC Ip Uk:=by
 rintro vs H Q E ⟨t,s0,o,ns,e,ls,A,rfl,S,a4,pq,n3,hm,q⟩;rw[show start Uk [ref t,ref s0,ref o]=[some (.ref t),some (.ref s0),some (.ref o),none,none,none,none,none,none]from rfl];have ql:ls.length=A.length:=by rw[S.pa.eq,aA]
 have sz:=S.sz;(dsimp?[Ip,dH,cZ]);refine#[#[_,SqL.of a4],dQ (K:=K) (a:=s0) (xs:=tv ns) (λi J Y=>aS H Y/\∃as,J=map ref as/\Lg Y J ((ns.take i).map range)) ?_ #[aS.refl _,[],rfl,Lg.nil] ?_ ?_ ?_]
 .rw[iH];exact lW #[]
 .rintro i M Y _ ⟨N,_⟩;exact SqL.of (N _ _ a4)
 .rintro i x M Y hi _ ⟨N,as,rfl,rg⟩;obtain⟨n,hn,rfl⟩:=pH hi;have n6:=sz.le n (aJ hn);(dsimp?[Gq,dA,cY,Ec]);exact#[n,rfl,#[],λp hp=>#[N.trans (aS.upd hp),as++[p],by rw[aV];rfl,Wk rg hn hp]]
 .rintro _ Y _ ⟨N,as,rfl,a5⟩;rw[iH,bY]at a5;intro p hp;have X:=N.trans (aS.upd (o:=lst (map ref as)) hp);have p0:=N.free hp;have a2:(upd Y p (.lst (map ref as))) p=some (.lst (map ref as)):=aL;have a6:=a5.same (aS.upd (o:=lst (map ref as)) hp);generalize upd Y p (.lst (map ref as))=u at X a2 a6;(dsimp?[Gh,Gi,Gj,iU]);refine#[sz0,λg hg=>?_];have I:=aS.upd (o:=lst []) hg;have D:TkD (eV e) H (upd u g (.lst [])) p g ns (ns.map range,[]) (((ns.map range).map List.length).sum):=
   #[X.trans I,p0,#[as,I _ _ a2,a6.same I],Kp.range sz.ge,X.free hg,(λz=>by rw[z,a2]at hg;cases hg),#[[],aL,PrA.nil],Nat.zero_add _,.no _]
  have B1:((ns.map range).map List.length).sum<=100:=by
   have:=Vx λn h=>(hm n h).2;lia
  generalize ((ns.map range).map List.length).sum=B at D B1;generalize upd u g (.lst [])=H5 at D;refine#[Cq H t s0 o p g ns (eV e) A B,#[_,(ns.map range,[]),-1,0,none,none,none,rfl,D,rfl,by show(-1:Int)<=0;lia,(λh=>by have h:(-1:Int)=0:=h;lia),rfl],?_];rintro μ O H6 ⟨s,m,n,o1,U,o3,rfl,D,hn,lm,a7,rfl⟩;obtain⟨J,f,zl⟩:=D.hg;have sm:=D.sm;(dsimp?[tCB,iD]);refine#[_,.inl (SqL.of f),?_];rw[aA,zl.len];by_cases c:m<s.2.length
  .rw[aK c];refine#[λG Z=>∃m',(m'<2*(B-s.2.length)+if m<s.2.length then 1 else 0)/\Cq H t s0 o p g ns (eV e) A B m' G Z,λ_ _ h=>h,?_];(dsimp?[Gu,Gk,tCB,iD,gP,cZ]);refine#[_,.inl (SqL.of f),?_];rw[aA,zl.len];refine#[#[_,D.s.seq S.ho],jI (K:=K) (a:=o) (xs:=map ref ls) (g:=vU K) (D:={ nx:=λG Z=>∃m',(m'<2*(B-s.2.length)+if m<s.2.length then 1 else 0)/\Cq H t s0 o p g ns (eV e) A B m' G Z,rt:=Q }) (jXt H t s0 o p g s.2.length ns (eV e) A s B) ?_ ?_ ?_ ?_]
   .exact#[_,_,_,rfl,D]
   .rintro i O Y _ ⟨o1,U,o3,rfl,D⟩;exact D.s.seq S.ho
   .clear D zl f J sm hn lm a7 c;rintro i x O Y hi ⟨o1,U,o3,rfl,D⟩;obtain⟨l,rfl,hl⟩:=eC hi;obtain⟨a,b,a8,b9⟩:=S.pa.at hl;have es:=Yz (E:=eV e) (s:=s) a8;obtain⟨h,c,n,rfl,rfl,hn,hc⟩:=Em.mp (S.pq _ (aJ a8));have a9:=(aI.mp hn).1;generalize hs:pss (eV e) (A.take i) s=s' at D es;obtain⟨k,hk⟩:∃k,s'.1[h]?=some k:=#[_,aC (by rw[D.kp.len];exact a9)];obtain⟨as,hp,lg⟩:=D.hp;obtain⟨ka,ea,ha⟩:=lg.2 h k hk;have ek:s'.1.getD h []=k:=by rw[aN,hk];rfl
    have kl:=(D.kp.lt h k n hk hn).1;have n6:=sz.le n (aJ hn);(dsimp?[vU,Gv,rIn,dH,cZ]);refine#[_,SqT.of (D.s _ _ b9),rfl,_,_,rfl,_,_,rfl,rfl,_,rfl,_,SqL.of hp,_,fD ea,_,rfl,_,.inl (SqL.of ha),rfl,Ws k,?_];rw[show(if false=true then !inV (int c) (tv k)else inV (int c) (tv k))=inV (int c) (tv k)from rfl];by_cases a1:inV (.int (c:Int)) (tv k)=true
    .rw[a1];refine Mv ?_;obtain⟨z,f,ez⟩:=Nm.mp a1;obtain rfl:z=c:=#[];have nw:=S.nw s'.1 h k z D.kp hk f;refine#[#[_,SqL.of hp],dQ (K:=K) (a:=p) (xs:=map ref as) (λi J u=>aS Y u/\Lg u J (s'.1.take i)) ?_ #[aS.refl _,Lg.nil] ?_ ?_ ?_]
     .rw[lg.1,D.kp.len];exact lW #[]
     .rintro i M u _ ⟨X,_⟩;exact SqL.of (X _ _ hp)
     .rintro j x M u hj _ ⟨X,l4⟩;have jl:j<s'.1.length:=by rw[←lg.1];exact(aI.mp hj).1
      obtain⟨d,e1,C⟩:=lg.2 j _ (aC jl);rw[hj]at e1;cases e1;(dsimp?[Gr,dA,cY,tCB,pN]);refine#[_,.inl (SqL.of (X _ _ C)),λb hb=>#[X.trans (aS.upd hb),?_]];rw[dO (aC jl)];exact(l4.same (aS.upd hb)).app #[rfl,λi c e=>by
       match i,e with
       |0,e=>simp at e;subst e;exact#[b,rfl,aL]
       |i+1,e=>simp at e]
     .rintro M u _ ⟨X,l4⟩ p2 b0;rw[lg.1,bY]at l4;have I:=X.trans (aS.upd (o:=lst M) b0);have l5:=l4.same (aS.upd (o:=lst M) b0);have b1:(upd u p2 (.lst M)) p2=some (.lst M):=aL;generalize upd u p2 (.lst M)=H5 at I l5 b1;have D5:=D.same I;refine#[t,p2,h,z,ns,e,s'.1,k,n,rfl,#[S.T.same D5.s,S.sz,D.kp,.inr #[p2,_,rfl,b1,l5],hk,hn,S.gd],f,nw,λv x y P R H6 s6 out=>?_];have bn:=out.bn D.kp hk f λq F i hi=>(S.gd q F i hi).1;have D6:=D5.same s6;have b2:=I.trans s6;have c2:=b2 _ _ hp;have b3:=b2 _ _ ha;(dsimp?[Gn,iS,tBM,pI,cZ,xL,oP,kU]);obtain⟨w,hw⟩:=out.ex;rcases hw with⟨x0,hv,_⟩|⟨x0,hv,_⟩
      .refine#[_,SqT.of hv,_,lX,rfl,?_];rw[aK rfl];have c3:=wg_two out x0 f (Wf D.kp) λb hb=>(S.gd _ (Ic D.kp hb hk f) h a9).1;obtain⟨j,hj⟩:=cF f;rw[jYc hk f λz=>bt_nb (bn.1 x0) z]at es;refine#[_,SqL.of c2,_,fD ea,?_];refine#[ka,rfl,#[_,SqL.of b3],Du (K:=K) (a:=ka) (xs:=tv k) (WEq H6 λj J=>J=tv ((k.take j).filter λy=>decide (y≠z))) ?_ #[rfl,rfl] ?_ ?_ ?_]
       .rw[iH];exact lW #[]
       .rintro j J H7 _ ⟨rfl,_⟩;exact SqL.of b3
       .rintro j x J H7 c4 _ ⟨rfl,rfl⟩;obtain⟨y,hy,rfl⟩:=pH c4;(dsimp?[Gs,dA,cA,cY,bJ]);have b4:(k.take (j+1)).filter (λy=>decide (y≠z))=(k.take j).filter (λy=>decide (y≠z))++[y].filter (λy=>decide (y≠z)):=by rw[dO hy,List.filter_append]
        by_cases yz:y=z
        .rw[aF (by simp [yz])];exact#[rfl,by show _=tv (List.filter _ (k.take (j+1)));rw[b4,List.filter_cons_of_neg (by simp [yz]),List.filter_nil,cS]]
        .rw[aK (by simp;lia)];exact#[rfl,by show _=tv (List.filter _ (k.take (j+1)));rw[b4,List.filter_cons_of_pos (by simp [yz]),List.filter_nil,tv_app];rfl]
       .rintro J H7 ⟨rfl,rfl⟩ b hb;rw[iH,bY];have s8:=aS.upd (o:=lst (tv (k.filter λy=>decide (y≠z)))) hb;obtain⟨c5,b5,b6⟩:=(D6.same s8).hp;obtain⟨ms,a3,b7⟩:=(D6.same s8).hg;have al:=b6.1;have c6:=(aI.mp hk).1;have pl:=b7.len;have sm:=(D6.same s8).sm;refine#[_,b5,h,ixI #[],.inl #[rfl,_,SqL.of (by rw[bZ D6.gp];exact a3)],sz2,λc hc=>?_];refine#[_,aS.upd hc _ _ (by rw[bZ D6.gp];exact a3),by rw[aA];exact Hy #[],_,_,_,rfl,?_];rw[es];exact(D6.same s8).take hk hj c3 (bn.1 x0) b5 b6 a3 b7 aL hc
      .refine#[_,SqT.of hv,_,lX,rfl,?_];rw[aF (λz=>absurd (V.str.inj z) (by decide+kernel))];rw[Vh λ_=>bn.2 x0]at es;exact#[_,_,_,rfl,by rw[es];exact D6]
    .rw[Bool.eq_false_iff.mpr a1];rw[Vh λm=>absurd (Nm.mpr #[c,by rwa [ek]at m,rfl]) a1]at es;exact Dz #[_,_,_,rfl,by rw[es];exact D]
   .rintro O Y ⟨o1,U,o3,rfl,D7⟩;rw[aA,ql,bY]at D7;refine#[_,?_,pss (eV e) A s,s.2.length,n+1,o1,U,o3,rfl,D7,by rw[Zn,hn],by have:=Fd (E:=eV e) (o:=A) (s:=s);lia,λh=>Oi #[],rfl];have d7:(pss (eV e) A s).2.length+((pss (eV e) A s).1.map List.length).sum=B:=D7.sm;have:=Fd (E:=eV e) (o:=A) (s:=s);rw[aK c];split<;>lia
  .rw[aF c];obtain⟨as,hp,lg⟩:=D.hp;(dsimp?[Go]);refine#[sz2,λr hr=>?_];have s7:=aS.upd (o:=tup [ref p,ref g]) hr;have fx:=a7 #[];refine q r p g as J s _ (D.s.trans s7) aL (s7 _ _ hp) (lg.same s7) (s7 _ _ f) (zl.same s7) #[n,hn,fx] D.rn (λh k z hk b8=>?_) #[];rcases Me (E:=eV e) (o:=A) (s:=s)with⟨_,h2⟩|h1
   .have hl:=(aI.mp hk).1;rw[D.kp.len]at hl;have en:=aC hl;have:=h2 (h,z) (pq _ (Em.mpr #[h,z,_,rfl,rfl,en,(D.kp.lt h k _ hk en).2 z b8]));simp only[bW]at this;exact this (by rw[aN,hk];exact b8)
   .rw[fx]at h1;lia
def Uo:LS:=["_law_found","_law_kept","_law_log"]
def vD(_:aR):Sp:=λvs H Q _=>∃(r p g R g2:Addr)(gr:V)(u c P:List Addr)(J:List V)(s:RSt),vs=[.ref r,.ref R,.ref g2]/\H r=some (.tup [.ref p,.ref g,gr])/\H p=some (.lst (map ref u))/\Lg H (map ref u) s.1/\H g=some (.lst J)/\LgP H J s.2/\H R=some (.lst (map ref c))/\Lg H (map ref c) s.1/\H g2=some (.lst (map ref P))/\PrA H P s.2/\s.2.length<=100/\∀Z,aS H Z->Q (.bl true) Z
def Lg.req{R:Addr}(hp:H p=some (.lst xs))(D:H R=some (.lst ys))(a:Lg H xs ks)(b:Lg H ys ks):REq K H (DEq K H 1) (.ref p) (.ref R) true:=by
 refine#[p,R,_,_,rfl,rfl,.inl #[SqL.of hp,SqL.of D,.inr #[by rw[a.1,b.1],λ_=>true,λj x y hx hy=>?_,by simp]]];have f:j<ks.length:=by rw[←a.1];exact(aI.mp hx).1
 obtain⟨c,e1,h1⟩:=a.2 j _ (aC f);obtain⟨d,C,h2⟩:=b.2 j _ (aC f);rw[hx]at e1;rw[hy]at C;cases e1;cases C;by_cases e:c=d
 .subst e;exact .inl (.inl #[rfl,#[_,rfl],rfl])
 .refine .inr #[λz=>e (by injection z),?_];rw[tv_iv]at h1 h2;exact jVv (SqL.of h1) (SqL.of h2)
def Gy(K:aR):TE:=(tSl Va (aE 0) iE (mQ (tC (.int 2))))
def Ir(K:aR):TS:=(cX (Ed (tOp (rEqD K 1) (tOp (eY K) (aE 0) (tC (.int 0))) (aE 1)) (tOp (rEqD K 1) (dH (cZ K (tOp (eY K) (aE 0) (tC (.int 1)))) [] (Gy K)) (aE 2))))
def jZ3{K}:RdS K vD Ir Uo:=by
 rintro j H Q E ⟨r,p,g,R,g2,gr,n,c,P,J,s,rfl,hr,hp,lg,hg,lp,D,d,l,pa,f,q⟩;rw[show start Uo [ref r,ref R,ref g2]=[some (.ref r),some (.ref R),some (.ref g2)]from rfl];(dsimp?[Ir,rEqD,dH,cZ]);refine#[_,SqT.of hr,_,lX,true,Lg.req hp D lg d,?_];refine Mv #[_,SqT.of hr,_,lA,_,rfl,#[_,SqL.of hg],dQ (K:=K) (a:=g) (xs:=J) (λi M Y=>aS H Y/\∃ls,M=map ref ls/\PrA Y ls (s.2.take i)) ?_ #[aS.refl _,[],rfl,PrA.nil] ?_ ?_ ?_]
 .rw[lp.1];exact lW #[]
 .rintro i M Y _ ⟨N,_⟩;exact SqL.of (N _ _ hg)
 .rintro i x M Y hi _ ⟨N,ls,rfl,k⟩;have m:i<s.2.length:=by rw[←lp.1];exact(aI.mp hi).1
  obtain⟨a,v,e1,ha⟩:=lp.2 i _ (aC m);rw[hi]at e1;cases e1;(dsimp?[Gy,Va,dA,cY]);refine#[_,N _ _ ha,λb u X hb=>#[N.trans X,ls++[b],by rw[aV];rfl,?_]];rw[dO (aC m)];exact(k.same X).app (PrA.one (by rw[hb];exact congrArg (λz=>some (tup z)) (Vl (h:=2))))
 .rintro _ Y _ ⟨N,ls,rfl,k⟩ b hb;rw[lp.1,bY]at k;have X:=aS.upd (o:=lst (map ref ls)) hb;have e:=PrA.req (K:=K) (SqL.of aL) (SqL.of (X _ _ (N _ _ l))) (k.same X) (pa.same (N.trans X));rw[decide_eq_true rfl]at e;exact#[true,e,q _ (N.trans X)]
def Qb:LS:=["table","told","hand","size"]
def zE(K:aR):Sp:=λvs H Q _=>∃t ns I,vs=[.ref t]/\sX K H t ns I/\Sz ns/\∀p ls Z,aS H Z->H p=none->Z p=some (.lst (map ref ls))->PrA Z ls (prs ns)->Q (.ref p) Z
def jJt(t p l:Addr)(ns:List Nat)(H:Hp):NS:=λi O Y=>∃ls R U,O=[some (.ref t),some (.ref p),R,U]/\aS H Y/\H p=none/\Y p=some (.lst (map ref ls))/\PrA Y ls (prK ns i)/\l≠p/\Y l=some (.lst (tv ns))
def sE(K:aR):TE:=(iX (aH (aE 1) (aH (aE 0) bE)))
def Bh(K:aR):TS:=(iS (tBM K "list" Md (aE 1) (aH (dH (iJ (aH (aE 3) bE)) [2] (sE K)) bE)))
def sD(K:aR):TG:=(jR K 2 (dZ (aY 2) (dZ (aY 3) jS)))
def Cu(K:aR):TS:=(cB (cN (nO bE) (aY 1)) (cB (gP (xS K (eZ (dY K "Table") "sizes" (lF K) [] E0 (aE 0) bE)) (sD K) (Bh K)) (cX (aE 1))))
def jJa{K}:RdS K zE Cu Qb:=by
 rintro A H Q E ⟨t,ns,I,rfl,r,sz,q⟩;rw[show start Qb [ref t]=[some (.ref t),none,none,none]from rfl];have C:=sz.len;(dsimp?[Cu,gP,xS,eZ]);refine#[sz0,λp hp=>?_];have f:=aS.upd (o:=lst []) hp;obtain⟨w,m,d,y⟩:=(r.same f).ins;refine#[_,_,y,Mn _ _ (by decide+kernel) (by decide+kernel),t,ns,I,rfl,r.same f,λl S=>?_];have M:=aS.upd (o:=lst (tv ns)) S;have e:l≠p:=(dJ (aL (H:=H) (a:=p) (o:=lst [])) S).symm;refine#[_,rfl,#[_,SqL.of aL],Fi (K:=K) (a:=l) (xs:=tv ns) (g:=sD K) (D:={ nx:=cX (aE 1) (eQ Q),rt:=Q }) (jJt t p l ns H) ?_ ?_ ?_ ?_]
 .exact#[[],_,_,rfl,f.trans M,hp,M _ _ aL,PrA.nil,e,aL]
 .rintro i O Y _ ⟨ls,R,U,rfl,N,hp,F,pa,ne,S⟩;exact SqL.of S
 .rintro i x a O Y hi ⟨ls,R,U,rfl,N,hp,F,pa,ne,S⟩ ha;obtain⟨n,hn,rfl⟩:=pH hi;(dsimp?[sD,Bh,iS,tBM,Md,dH,iJ]);have X:=aS.upd (o:=tup [.int i,.int n]) ha;have s:=sz.le n (aJ hn);have u:=(aI.mp hn).1;refine#[_,SqT.of aL,rfl,_,_,rfl,_,_,rfl,rfl,.inl #[rfl,_,SqL.of (X _ _ F)],_,rfl,#[],#[],?_];rw[bW];refine kH (W:=λj J G=>aS (upd Y a (.tup [.int i,.int n])) G/\∃P,J=map ref P/\PrA G P ((range j).map λc:Nat=>((i:Int),(c:Int)))) (lW #[]) #[aS.refl _,[],rfl,PrA.nil] ?_ ?_
  .rintro j J G Z _ ⟨v,P,rfl,T⟩;(dsimp?[sE,dA,cA,cY,bJ];try simp_arith[sE,dA,cA,cY,bJ,eS])
   refine#[sz2,λb hb=>#[v.trans (aS.upd hb),P++[b],by rw[aV];rfl,?_]];rw[List.range_succ,aV];exact(T.same (aS.upd hb)).app (PrA.one aL)
  .rintro J G _ ⟨v,P,rfl,T⟩ b hb;have B:=X.trans (v.trans (aS.upd (o:=lst (map ref P)) hb));have k:=Mh sz.le i;have l1:=pa.len;have z:=T.len;rw[aA,gL]at z;refine#[_,B _ _ F,_,aL,by rw[aA,aA];exact lW #[],ls++P,_,_,rfl,?_,hp,?_,?_,ne,?_]
   .exact(N.trans B).put hp
   .rw[aL,aV]
   .rw[On,show ns.getD i 0=n by rw[aN,hn];rfl];exact((pa.same B).app (T.same (aS.upd hb))).off (B _ _ F)
   .rw[bZ ne];exact B _ _ S
 .rintro O Y ⟨ls,R,U,rfl,N,hp,F,pa,ne,S⟩;rw[iH]at pa;(dsimp![aE,tC,tOp,rI0,rNe,iO,cX,dD]);exact q p ls Y N hp F pa
def Qg:LS:=["table"]
structure New(H H':Hp)(p:Addr)(as:List Addr)(ks:eG):Prop where
 hp:H' p=some (.lst (map ref as))
 p0:H p=none
 lg:Lg H' (map ref as) ks
 a0:∀a∈as,H a=none/\a≠p
 nd:as.Nodup
def zI(K:aR):Sp:=λvs H Q _=>∃t ns I,vs=[.ref t]/\sX K H t ns I/\Sz ns/\∀p u Z,aS H Z->New H Z p u (ns.map range)->Q (.ref p) Z
def Bk(K:aR):TE:=(Ec (aE 0))
def Cz(K:aR):TS:=(cX (dH (cZ K (eZ (dY K "Table") "sizes" (lF K) [] E0 (aE 0) bE)) [] (Bk K)))
def jJh{K}:RdS K zI Cz Qg:=by
 rintro j H Q E ⟨t,ns,I,rfl,r,sz,q⟩;rw[show start Qg [ref t]=[some (.ref t)]from rfl];have C:=sz.len;obtain⟨w,m,d,y⟩:=r.ins;(dsimp?[Cz,dH,cZ,eZ]);refine#[_,_,y,Mn _ _ (by decide+kernel) (by decide+kernel),t,ns,I,rfl,r,λl S=>?_];have M:aS H (upd H l (.lst (tv ns))):=aS.upd S;have v:(upd H l (.lst (tv ns))) l=some (.lst (tv ns)):=aL;generalize upd H l (.lst (tv ns))=U at M v;refine#[_,rfl,#[_,SqL.of v],dQ (K:=K) (a:=l) (xs:=tv ns) (λi J Y=>aS U Y/\∃u,J=map ref u/\Lg Y J ((ns.take i).map range)/\u.Nodup/\∀a∈u,U a=none) ?_ #[aS.refl _,[],rfl,Lg.nil,List.nodup_nil,λ_ h=>nomatch h] ?_ ?_ ?_]
 .rw[iH];exact lW #[]
 .rintro i c Y _ ⟨N,_⟩;exact SqL.of (N _ _ v)
 .rintro i x c Y hi _ ⟨N,u,rfl,o,nd,a0⟩;obtain⟨n,hn,rfl⟩:=pH hi;have s:=sz.le n (aJ hn);(dsimp?[Bk,dA,cY,Ec]);refine#[n,rfl,#[],λp hp=>#[N.trans (aS.upd hp),u++[p],by rw[aV];rfl,Wk o hn hp,?_,λa ha=>?_]]
  .rw[List.nodup_append];refine#[nd,by simp,λa ha b hb e=>?_];rw[cJ.mp hb]at e;subst e;obtain⟨i,hi⟩:=cF ha;obtain⟨_,f,_,e,hc⟩:=o.get (i:=i) (x:=.ref a) (by rw[aX,hi];rfl);cases e;rw[hp]at hc;cases hc
  .rcases cW.mp ha with h |h
   .exact a0 a h
   .rw[cJ.mp h];exact N.free hp
 .rintro c Y _ ⟨N,u,rfl,o,nd,a0⟩ p hp;rw[iH,bY]at o;refine q p u _ ((M.trans N).trans (aS.upd hp)) #[aL,M.free (N.free hp),o.same (aS.upd hp),λa ha=>#[M.free (a0 a ha),λe=>?_],nd];subst e;obtain⟨i,hi⟩:=cF ha;obtain⟨_,f,_,e,hc⟩:=o.get (i:=i) (x:=.ref a) (by rw[aX,hi];rfl);cases e;rw[hp]at hc;cases hc
def zW:LS:=["table","order","kept","log","grounds","hand","choice","found"]
def putK_le{k:List Key}{v:V}:(sV kvs k v).length<=kvs.length+1:=by
 unfold sV;split
 .rw[aA];lia
 .rw[bF];exact aP _
def New.same(N:New F H p u ks)(s:aS H Z):New F Z p u ks:=#[s _ _ N.hp,N.p0,N.lg.same s,N.a0,N.nd]
def New.at{k:List Nat}(N:New F H p u ks)(hk:ks[h]?=some k):∃a,u[h]?=some a/\H a=some (.lst (tv k)):=by
 obtain⟨a,R,ha⟩:=N.lg.2 h k hk;rw[aX]at R;obtain⟨f,e1,C⟩:=Option.map_eq_some_iff.mp R;cases C;exact#[a,e1,ha]
def New.off{b:Addr}(N:New F H p u ks)(hp:b≠p)(ha:b∉u):New F (upd H b o) p u ks:=by
 refine#[by rw[bZ (Ne.symm hp)];exact N.hp,N.p0,#[N.lg.1,λi c e=>?_],N.a0,N.nd];obtain⟨a,e1,C⟩:=N.at e;exact#[a,by rw[aX,e1];rfl,by rw[bZ (show a≠b from λz=>ha (z▸aJ e1))];exact C]
def New.put{k:List Nat}(N:New F H p u ks)(R:u[h]?=some a)(n:List Nat):New F (upd H a (.lst (tv n))) p u (ks.set h n):=by
 have d:=aJ R;have S:=(aI.mp R).1;have ll:=N.lg.1;rw[aA]at ll;refine#[by rw[bZ (Ne.symm (N.a0 a d).2)];exact N.hp,N.p0,#[by rw[fZ];exact N.lg.1,λi c e=>?_],N.a0,N.nd];by_cases hi:h=i
 .subst hi;rw[List.getElem?_set_self #[]]at e;cases e;exact#[a,by rw[aX,R];rfl,aL]
 .rw[List.getElem?_set_ne hi]at e;obtain⟨b,e1,C⟩:=N.at e;refine#[b,by rw[aX,e1];rfl,?_];rw[bZ λz=>hi ((List.getElem?_inj S N.nd).mp (by rw[R,e1,z]))];exact C
structure GoD(H0 H:Hp)(p g:Addr)(ns:List Nat)(as:List Addr)(ks:eG)(lg:eF)(B:Nat):Prop where
 s:aS H0 H
 N:New H0 H p as ks
 kp:Kp ns ks
 g0:H0 g=none
 gp:g≠p
 ga:g∉as
 hg:∃zs,H g=some (.lst zs)/\LgP H zs lg
 sm:lg.length+(ks.map List.length).sum=B
def GoD.same{g:Addr}{B:Nat}(D:GoD F H p g ns u ks lg B)(s:aS H Z):GoD F Z p g ns u ks lg B:=
 #[D.s.trans s,D.N.same s,D.kp,D.g0,D.gp,D.ga,let⟨z,a,b⟩:=D.hg;#[z,s _ _ a,b.keep (qL s)],D.sm]
def GoD.off{g d:Addr}{B:Nat}(D:GoD F H p g ns u ks lg B)(hd:H d=some (.dT kvs))(d0:F d=none):GoD F (upd H d o) p g ns u ks lg B:=by
 obtain⟨J,hg,gl⟩:=D.hg;have gd:g≠d:=λz=>by rw[z,hd]at hg;cases hg
 refine#[D.s.put d0,D.N.off (λz=>?_) (λz=>?_),D.kp,D.g0,D.gp,D.ga,#[J,by rw[bZ gd];exact hg,gl.keep λa T h=>by rw[bZ λz=>by rw[z,hd]at h;cases h];exact h],D.sm]
 .have:=D.N.hp;rw[←z,hd]at this;cases this
 .obtain⟨i,hi⟩:=cF z;have:=D.N.lg.1;rw[aA]at this;obtain⟨a,e1,C⟩:=D.N.at (aC (show i<ks.length by have:=(aI.mp hi).1;lia));rw[hi]at e1;cases e1;rw[hd]at C;cases C
def GoD.take{g c:Addr}{B:Nat}{k:List Nat}{v:V}(D:GoD F H p g ns u ks lg B)(hk:ks[h]?=some k)(R:u[h]?=some a)(Z:k[j]?=some z)(q:2<=k.length)(hg:H g=some (.lst J))(hc:(upd H a (.lst (tv (k.eraseIdx j)))) c=none):
  GoD F (upd (upd (upd H a (.lst (tv (k.eraseIdx j)))) c (.tup [.int h,.int z,v])) g (.lst (J++[.ref c]))) p g ns u (ks.set h (k.filter λy=>decide (y≠z))) (lg++[((h:Int),(z:Int))]) B:=by
 obtain⟨r,m,gl⟩:=D.hg;rw[hg]at m;cases m;have d:=aJ R;obtain⟨f,i,ha⟩:=D.N.at hk;rw[R]at i;cases i;have nd:=D.kp.nd k (aJ hk);have t:Kb H (upd H a (.lst (tv (k.eraseIdx j)))):=λb T e=>by rw[bZ λz=>by rw[z,ha]at e;cases e];exact e
 have n:g≠a:=λz=>D.ga (z▸d);have gg:(upd (upd H a (.lst (tv (k.eraseIdx j)))) c (.tup [.int h,.int z,v])) g=some (.lst J):=aS.upd hc _ _ (by rw[bZ n];exact hg);have w:Kb (upd (upd H a (.lst (tv (k.eraseIdx j)))) c (.tup [.int h,.int z,v])) (upd (upd (upd H a (.lst (tv (k.eraseIdx j)))) c (.tup [.int h,.int z,v])) g (.lst (J++[.ref c]))):=λb T e=>by rw[bZ λz=>by rw[z,gg]at e;cases e];exact e
 have l:=((gl.keep t).keep (qL (aS.upd (o:=tup [.int h,.int z,v]) hc))).snoc (x:=((h:Int),(z:Int))) (a:=c) (v:=v) aL;rw[←Hs nd Z];refine#[((D.s.put (D.N.a0 a d).1).trans (aS.upd hc)).put D.g0,((D.N.put (k:=k) R _).same (aS.upd hc)).off D.gp D.ga,D.kp.erase hk Z q,D.g0,D.gp,D.ga,#[_,aL,l.keep w],?_];have:=Vw hk (Jt Z);have:=D.sm;rw[bF];show lg.length+1+_=_;lia
def mI(K:aR):Sp:=λvs H Q _=>∃(F:Hp)(t o p g:Addr)(ns:List Nat)(e:List Nat->Nat->Int×Int)(ls:List Addr)(A:eF)(u:List Addr)(ks:eG)(lg:eF)(B:Nat),vs=[.ref t,.ref o,.ref p,.ref g]/\GoS K F t o ns e ls A/\GoD F H p g ns u ks lg B/\B<=100/\
 ∀r Z,GoD F Z p g ns u (pss (eV e) A (ks,lg)).1 (pss (eV e) A (ks,lg)).2 B->Q (.ref r) Z
def Lw(F:Hp)(t o p g d:Addr)(ns:List Nat)(u:List Addr)(E:List Nat->Nat->Rat)(A:eF)(s:RSt)(B:Nat):NS:=λi O Y=>∃kvs R U r,O=[some (.ref t),some (.ref o),some (.ref p),some (.ref g),some (.ref d),R,U,r]/\GoD F Y p g ns u (pss E (A.take i) s).1 (pss E (A.take i) s).2 B/\F d=none/\Y d=some (.dT kvs)/\kvs.length<=i
def rP(K:aR):TS:=(gA (dD (tOp rEq (tOp (eY K) (aE 7) (tC (.int 0))) (tC (.str "beaten")))) (cB (iS (tBM K "list" Ae (tOp (gB K) (aE 2) (aE 5)) (aH (aE 6) bE))) (iS (tBM K "list" kU (aE 3) (aH (iX (aH (aE 5) (aH (aE 6) (aH (tOp (eY K) (aE 7) (tC (.int 1))) bE)))) bE)))) (Ee (aE 4) (iX (aH (aE 5) (aH (aE 6) bE))) (tOp (eY K) (aE 7) (tC (.int 1)))))
def rQ(K:aR):TS:=(gA (dD (tOp (rIn K false) (aE 6) (tOp (gB K) (aE 2) (aE 5)))) (cB (cN (cC (vA K) [] E0 (aH (aE 0) (aH (aE 5) (aH (aE 6) (aH (aE 2) bE))))) (aY 7)) (rP K)) eL)
def nE(K:aR):TG:=(jR K 2 (dZ (aY 5) (dZ (aY 6) jS)))
def qQ(K:aR):TS:=(cB (cN uR (aY 4)) (cB (gP (cZ K (aE 1)) (nE K) (rQ K)) (cX (aE 4))))
def Lq{K}:RdS K mI qQ zW:=by
 rintro vs H Q E ⟨H0,t,o,p,g,ns,e,ls,A,as,ks,lg,B,rfl,S,D,hB,q⟩;have ql:ls.length=A.length:=by rw[S.pa.eq,aA]
 rw[show start zW [ref t,ref o,ref p,ref g]=[some (.ref t),some (.ref o),some (.ref p),some (.ref g),none,none,none,none]from rfl];(dsimp?[qQ,gP,cZ,uR]);intro d hd;have M:=aS.upd (o:=HO.dT []) hd;have d0:=D.s.free hd;refine#[#[_,(D.s.trans M).seq S.ho],jI (K:=K) (a:=o) (xs:=map ref ls) (g:=nE K) (D:={ nx:=cX (aE 4) (eQ Q),rt:=Q }) (Lw H0 t o p g d ns as (eV e) A (ks,lg) B) ?_ ?_ ?_ ?_]
 .exact#[[],_,_,_,rfl,D.same M,d0,aL,aP _]
 .rintro i O Y _ ⟨a1,o1,U,r,rfl,D,_⟩;exact D.s.seq S.ho
 .rintro i x O Y hi ⟨a1,o1,U,r,rfl,D,d0,hd,kl⟩;obtain⟨l,rfl,hl⟩:=eC hi;obtain⟨a,b,a5,a8⟩:=S.pa.at hl;have es:=Yz (E:=eV e) (s:=(ks,lg)) a5;obtain⟨h,c,n,rfl,rfl,hn,hc⟩:=Em.mp (S.pq _ (aJ a5));have b0:i<ls.length:=(aI.mp hl).1;have b1:=S.ll;have a6:=(aI.mp hn).1;generalize hs:pss (eV e) (A.take i) (ks,lg)=s at D es;obtain⟨k,hk⟩:∃k,s.1[h]?=some k:=#[_,aC (by rw[D.kp.len];exact a6)];obtain⟨I,ea,ha⟩:=D.N.at hk;have ek:s.1.getD h []=k:=by rw[aN,hk];rfl
  (dsimp?[nE,rQ,rIn]);refine#[_,SqT.of (D.s _ _ a8),rfl,_,_,rfl,_,_,rfl,rfl,_,rfl,_,SqL.of D.N.hp,_,fD (by rw[aX,ea];rfl),_,rfl,_,.inl (SqL.of ha),rfl,Ws k,?_];rw[show(if false=true then !inV (int c) (tv k)else inV (int c) (tv k))=inV (int c) (tv k)from rfl];by_cases G:inV (.int (c:Int)) (tv k)=true
  .rw[G];refine Mv ?_;obtain⟨z,f,ez⟩:=Nm.mp G;obtain rfl:z=c:=#[];have nw:=S.nw s.1 h k z D.kp hk f;refine#[t,p,h,z,ns,e,s.1,k,n,rfl,#[S.T.same D.s,S.sz,D.kp,.inr #[p,_,rfl,D.N.hp,D.N.lg],hk,hn,S.gd],f,nw,λv x y P R u X out=>?_];have bn:=out.bn D.kp hk f λq F i hi=>(S.gd q F i hi).1;have D4:=D.same X;have a2:=X _ _ hd;have a3:=X _ _ ha;(dsimp?[rP,iS,tBM,Ae,kU,Ee]);obtain⟨w,hw⟩:=out.ex;rcases hw with⟨x0,hv,_⟩|⟨x0,hv,_⟩
   .refine#[_,SqT.of hv,_,lX,rfl,?_];rw[aK rfl];have a9:=wg_two out x0 f (Wf D.kp) λb hb=>(S.gd _ (Ic D.kp hb hk f) h a6).1;obtain⟨j,Z⟩:=cF f;have nd:=D.kp.nd k (aJ hk);rw[jYc hk f λz=>bt_nb (bn.1 x0) z]at es;refine#[_,SqL.of D4.N.hp,.ref I,fD (by rw[aX,ea];rfl),.inl #[rfl,_,SqL.of a3],I,rfl,k.map λn:Nat=>(n:Int),by rw[←tv_iv];exact a3,j,by rw[aX,Z];rfl,λm lm e=>?_,?_]
    .rw[aX]at e;obtain⟨z',e1,C⟩:=Option.map_eq_some_iff.mp e;obtain rfl:z'=z:=#[];have:=(List.getElem?_inj (aI.mp Z).1 nd).mp (by rw[Z,e1]:k[j]?=k[m]?);lia
    rw[show map int ((k.map λn:Nat=>(n:Int)).eraseIdx j)=tv (k.eraseIdx j) by rw[tv_iv (k.eraseIdx j),Np (λn:Nat=>(n:Int)) k j]];obtain⟨J,hg,gl⟩:=D4.hg;have gk:g≠I:=λz=>D4.ga (z▸aJ ea);have sm:=D4.sm;have zl:=gl.1;have a7:(upd u I (.lst (tv (k.eraseIdx j)))) g=some (.lst J):=by rw[bZ gk];exact hg
    refine#[.inl #[rfl,_,SqL.of a7],_,SqT.of (tH a3 _ _ hv),_,lA,sz3,λc hc=>?_];refine#[_,aS.upd hc _ _ a7,Hy #[],a1,_,_,_,rfl,?_,d0,?_,#[]]
    .rw[es];exact D4.take hk ea Z a9 hg hc
    have dk:d≠I:=λz=>by rw[z,a3]at a2;cases a2
    have dg:d≠g:=λz=>by rw[z,hg]at a2;cases a2
    have a4:(upd u I (.lst (tv (k.eraseIdx j)))) d=some (.dT a1):=by rw[bZ dk];exact a2
    rw[bZ dg];exact aS.upd hc _ _ a4
   .refine#[_,SqT.of hv,_,lX,rfl,?_];rw[aF (λz=>absurd (V.str.inj z) (by decide+kernel))];rw[Vh λ_=>bn.2 x0]at es;refine#[_,SqT.of hv,_,lA,sz2,λc hc=>?_];have a4:=aS.upd (o:=tup [.int h,.int z]) hc _ _ a2;have pl:=putK_le (kvs:=a1) (k:=tk [h,z]) (v:=ref w);exact#[_,DPut.t (k:=tk [h,z]) a4 (by rw[Ka];exact aL) (Hy #[]),_,_,_,_,rfl,by rw[es];exact(D4.same (aS.upd hc)).off a4 d0,d0,aL,#[]]
  .rw[Bool.eq_false_iff.mpr G];rw[Vh λm=>absurd (Nm.mpr #[c,by rwa [ek]at m,rfl]) G]at es;exact Dz #[a1,_,_,_,rfl,by rw[es];exact D,d0,hd,#[]]
 .rintro O Y ⟨a1,o1,U,r,rfl,D,_⟩;rw[aA,ql,bY]at D;(dsimp![aE,tC,tOp,rI0,rNe,iO,cX,dD]);exact q d Y D
def Zw:LS:=["table","order","pairs","kept","log","logged","grounds"]
def An(K:aR):Sp:=λvs H Q _=>∃(t:Addr)(G:V)(ns:List Nat)(e:List Nat->Nat->Int×Int)(A:eF),vs=[.ref t,G]/\Vc K H t ns e/\(∀ks h k z,Kp ns ks->ks[h]?=some k->z∈k->NumW (rwW e (gG (wo h ks).reverse) h k z) (gG (wo h ks).reverse).length)/\(∀q∈fG ns.reverse,∀i,i<ns.length->Gd 4000 (e q i))/\ns.length<=3/\2<=ns.length/\(∀n∈ns,1<=n/\n<=3)/\
 ((G=.non/\A=prs ns)∨∃o ls,G=.ref o/\SqL K H o (map ref ls)/\PrA H ls A/\ls.length<64/\A.Perm (prs ns))/\∀r p u g J gr s Z,aS H Z->Dn (eV e) A (ns.map range,[]) s->Z r=some (.tup [.ref p,.ref g,gr])->Z p=some (.lst (map ref u))->Lg Z (map ref u) s.1->Z g=some (.lst J)->LgP Z J s.2->Q (.ref r) Z
def Rw(F:Hp)(t:Addr)(o l p g:Addr)(ns:List Nat)(u:List Addr)(E:List Nat->Nat->Rat)(A:eF)(B:Nat):NS:=λj O H=>∃(s:RSt)(m n:Nat)(d:Addr),O=[some (.ref t),some (.ref o),some (.ref l),some (.ref p),some (.ref g),some (.int m),some (.ref d)]/\GoD F H p g ns u s.1 s.2 B/\itr E A n (ns.map range,[])=s/\m<=s.2.length/\(m=s.2.length->pss E A s=s)/\j=2*(B-s.2.length)+(if m<s.2.length then 1 else 0)
def Ko(K:aR):TS:=(cX (iX (aH (aE 3) (aH (aE 4) (aH (aE 6) bE)))))
def Kn(K:aR):TS:=(cN (cC (mI K) [] E0 (aH (aE 0) (aH (aE 1) (aH (aE 3) (aH (aE 4) bE))))) (aY 6))
def Kq(K:aR):TS:=(cB (cN (tCB (iD K) (aH (aE 4) bE)) (aY 5)) (Kn K))
def Km(K:aR):TS:=(cB (qE (dD (tOp kM (aE 5) (tCB (iD K) (aH (aE 4) bE)))) (Kq K)) (Ko K))
def Kl(K:aR):TS:=(cB (cN (cC (mI K) [] E0 (aH (aE 0) (aH (aE 1) (aH (aE 3) (aH (aE 4) bE))))) (aY 6)) (Km K))
def Kk(K:aR):TS:=(cB (cN (tC (.int 0)) (aY 5)) (Kl K))
def Kj(K:aR):TS:=(cB (cN (nO bE) (aY 4)) (Kk K))
def yU(K:aR):TS:=(cB (cN (cC (zI K) [] E0 (aH (aE 0) bE)) (aY 3)) (Kj K))
def yT(K:aR):TS:=(cB (gA (dD (tOp (rNeD K 1) (tCB (Yi K) (aH (aE 1) bE)) (aE 2))) iN eL) (yU K))
def Ki(K:aR):TS:=(cB (gA (dD (tOp Av (aE 1) (tC .non))) (cN (aE 2) (aY 1)) eL) (yT K))
def Nz(K:aR):TS:=(cB (cN (cC (zE K) [] E0 (aH (aE 0) bE)) (aY 2)) (Ki K))
def jWq{t o l:Addr}{ls:List Addr}{A:eF}(S:GoS K F t o ns e ls A)(a1:sX K F t ns I)(hm:∀n∈ns,1<=n/\n<=3)(n3:ns.length<=3)(s0:aS H F)
  (q:∀r p u g J gr s Z,aS H Z->Dn (eV e) A (ns.map range,[]) s->Z r=some (.tup [.ref p,.ref g,gr])->Z p=some (.lst (map ref u))->Lg Z (map ref u) s.1->Z g=some (.lst J)->LgP Z J s.2->Q (.ref r) Z) {o5 v:Option V}:
  yU K (eQ Q) [some (.ref t),some (.ref o),some (.ref l),o5,o6,v,none] F:=by
 have sz:=S.sz;(dsimp?[yU]);refine#[t,ns,I,rfl,a1,sz,λp u Y s3 N=>?_];(dsimp?[Kj,Kk,Kl]);refine#[sz0,λg hg=>?_];have X:=aS.upd (o:=lst []) hg;have D:GoD F (upd Y g (.lst [])) p g ns u (ns.map range) [] (((ns.map range).map List.length).sum):=by
  refine#[s3.trans X,N.same X,Kp.range sz.ge,s3.free hg,λz=>?_,λz=>?_,#[[],aL,rfl,λi x e=>by simp at e],Nat.zero_add _]
  .have:=N.hp;rw[←z,hg]at this;cases this
  .obtain⟨i,hi⟩:=cF z;have:=N.lg.1;rw[aA]at this;obtain⟨a,e1,C⟩:=N.at (aC (show i<(ns.map range).length by have:=(aI.mp hi).1;lia));rw[hi]at e1;cases e1;rw[hg]at C;cases C
 have M:((ns.map range).map List.length).sum<=100:=by
  have:=Vx λn h=>(hm n h).2;lia
 generalize ((ns.map range).map List.length).sum=B at D M;refine#[F,t,o,p,g,ns,e,ls,A,u,_,[],B,rfl,S,D,M,λd H5 R=>?_];(dsimp?[Km]);refine#[Rw F t o l p g ns u (eV e) A B,#[_,pss (eV e) A (ns.map range,[]),0,1,d,rfl,R,rfl,dW _,λh=>Oi (s:=(ns.map range,[])) h,rfl],?_];rintro j O H6 ⟨s,m,n,d,rfl,D,hn,U,b,rfl⟩;obtain⟨J,f,w⟩:=D.hg;have sm:=D.sm;(dsimp?[tCB,iD]);refine#[_,.inl (SqL.of f),?_];rw[w.1];by_cases c:m<s.2.length
 .rw[aK #[]];refine#[λG Z=>∃k,(k<2*(B-s.2.length)+if m<s.2.length then 1 else 0)/\Rw F t o l p g ns u (eV e) A B k G Z,λ_ _ h=>h,?_];(dsimp?[Kq,Kn,tCB,iD]);refine#[_,.inl (SqL.of f),?_];rw[w.1];refine#[F,t,o,p,g,ns,e,ls,A,u,s.1,s.2,B,rfl,S,D,M,λd' P y=>#[_,?_,pss (eV e) A s,s.2.length,n+1,d',rfl,y,by rw[Zn,hn],Fd,Oi,rfl]];have d7:(pss (eV e) A s).2.length+((pss (eV e) A s).1.map List.length).sum=B:=y.sm;have:=Fd (E:=eV e) (o:=A) (s:=s);rw[aK c];split<;>lia
 .rw[aF #[]];(dsimp?[Ko]);refine#[sz3,λr hr=>?_];have T:=aS.upd (o:=tup [ref p,ref g,ref d]) hr;exact q r p u g J _ s _ (s0.trans (D.s.trans T)) #[n,hn,b #[]] aL (T _ _ D.N.hp) (D.N.lg.same T) (T _ _ f) (w.keep (qL T))
def jWv{K}:RdS K An Nz Zw:=by
 rintro j H Q E ⟨t,G,ns,e,A,rfl,T,nw,gd,C,n2,hm,D,q⟩;rw[show start Zw [ref t,G]=[some (.ref t),some G,none,none,none,none,none]from rfl];have sz:Sz ns:=#[C,λn h=>(hm n h).1,λn h=>by have:=(hm n h).2;lia];obtain⟨st,_,f⟩:=Sx C n2 hm;obtain⟨I,r,_⟩:=T.ex;(dsimp?[Nz]);refine#[t,ns,I,rfl,r,sz,λl lp U M _ S k=>?_];have key:∀{o:Addr}{ls:List Addr},SqL K U o (map ref ls)->PrA U ls A->ls.length<64->A.Perm (prs ns)->yT K (eQ Q) [some (.ref t),some (.ref o),some (.ref l),none,none,none,none] U:=by
  intro o ls ho pa ll pg;(dsimp?[yT,Yi,rNeD,iN]);refine#[ls,ho,ll,λl=>ky (rdP U l),srt_in pa pg hm,λP m i Z O=>?_];have d:=aS.upd (o:=lst (map ref P)) O;obtain⟨a,pq⟩:=pa.perm i;refine#[_,PrA.req (SqL.of aL) (SqL.of (d _ _ S)) (a.same d) (k.same d),?_];have e1:P.map (rdP U)=prs ns:=jYf (pq.trans pg) (List.pairwise_map.mpr Z) st (jYg hm);rw[decide_eq_true e1];refine Dz ?_;have N:=M.trans d;have g:=d.seq ho;have b:=pa.same d;generalize upd U m (lst (map ref P))=F at N d g b;exact jWq #[T.same N,nw,gd,sz,g,b,λq h=>pg.mem_iff.mp h,ll] (r.same N) hm C N q
 (dsimp?[Ki,Av]);rcases D with⟨rfl,rfl⟩|⟨o,ls,rfl,ho,pa,ll,pg⟩
 .rw[aK rfl];have c:lp.length<64:=by rw[show lp.length=(prs ns).length by rw[k.eq,aA]];lia
  exact key (SqL.of S) k c (List.Perm.refl _)
 .rw[aF (by intro z;cases z)];exact key (M.seq ho) (pa.same M) ll pg
def N_law:LS:=["_law_script","_law_sizes_here","_law_units_here","_law_table_here","_law_order_here","_law_handed","_law_kept","_law_log","_law_same"]
def Nf(K:aR):Sp:=λvs H Q _=>∃a ns,vs=[.ref a]/\SqL K H a (map int ns)/\ns.length<=63/\∀Z,Q (.bl true) Z
def Ys(K:aR):TS:=(cB (cN (cC (vC K) [] E0 (aH (aE 3) (aH (aE 1) (aH (tCB (Yi K) (aH (aE 4) bE)) bE)))) (jR K 2 (dZ (aY 8) (dZ (aY 7) jS)))) (cX (Ed (tOp (rEqD K 1) (aE 8) (aE 6)) (cC (vD K) [] E0 (aH (cC (An K) [.non] E0 (aH (aE 3) bE)) (aH (aE 8) (aH (aE 7) bE)))))))
def Yr(K:aR):TS:=(cB (cN (cC (vC K) [] E0 (aH (aE 3) (aH (aE 1) (aH (aE 4) bE)))) (jR K 2 (dZ (aY 6) (dZ (aY 7) jS)))) (cB (gA (tOr (Xv (tB (cC (vD K) [] E0 (aH (cC (An K) [] E0 (aH (aE 3) (aH (aE 5) bE))) (aH (aE 6) (aH (aE 7) bE)))))) (dD (tOp (rNeD K 1) (aE 5) (aE 4)))) (cX (tC (.bl false))) eL) (Ys K)))
def Yq(K:aR):TS:=(cB (cN (tCB (pN K) (aH (aE 4) bE)) (aY 5)) (Yr K))
def Yp(K:aR):TS:=(cB (cN (cC (Di K) [] E0 (aH (aE 0) (aH (aE 1) bE))) (aY 4)) (Yq K))
def Oc(K:aR):TS:=(cB (cN (cC (De K) [] E0 (aH (aE 2) (aH (aE 1) bE))) (aY 3)) (Yp K))
def Ob(K:aR):TS:=(cB (gA (dD (tOp rNe (tOp gR (cC (eI K) [] E0 (aH (aE 0) (aH (tC (.int 5)) bE))) (tC (.int 3))) (tC (.int 1)))) (iS (cC (Dk K) [] E0 (aH (aE 0) (aH (aE 1) (aH (aE 2) bE))))) eL) (Oc K))
def Yo(K:aR):TS:=(cB (cN (cC (Dd K) [] E0 (aH (aE 0) (aH (cC (Dj K) [] E0 (aH (aE 1) bE)) (aH (aE 1) bE)))) (aY 2)) (Ob K))
def t_law(K:aR):TS:=(cB (cN (cC (Dg K) [] E0 (aH (aE 0) bE)) (aY 1)) (Yo K))
def fsb12{u:Int}:fsb (lo2 u 12) (lo2 v 12)=lo2 (u-v) 12:=by
 have l:=eN (t:=u) (b:=12) (by decide);have m:=eN (t:=v) (b:=12) (by decide);have N:=eN (t:=u-v) (b:=12) (by decide);have z:=bK l.pos m.pos;have o:=eN (t:=(lo2 u 12).1*(lo2 v 12).2-(lo2 v 12).1*(lo2 u 12).2) z;have e:(fsb (lo2 u 12) (lo2 v 12)).1*(lo2 (u-v) 12).2=(lo2 (u-v) 12).1*(fsb (lo2 u 12) (lo2 v 12)).2:=by
  have e1:=l.eq;have C:=m.eq;have P:=N.eq;have p:=o.eq;have g:=N.pos;unfold fsb;generalize (lo2 ((lo2 u 12).1*(lo2 v 12).2-(lo2 v 12).1*(lo2 u 12).2) ((lo2 u 12).2*(lo2 v 12).2))=w at p⊢;generalize lo2 u 12=a at*;generalize lo2 v 12=b at*;generalize lo2 (u-v) 12=c at*;have:(w.1*c.2)*(a.2*b.2)*12=(c.1*w.2)*(a.2*b.2)*12:=by
   have I:(w.1*c.2)*(a.2*b.2)*12=(w.1*(a.2*b.2))*c.2*12:=by grind
   have K:(c.1*w.2)*(a.2*b.2)*12=(c.1*12)*(w.2*(a.2*b.2)):=by grind
   rw[I,K,p,P];have i:(a.1*b.2-b.1*a.2)*w.2*c.2*12=(a.1*12)*(b.2*w.2*c.2)-(b.1*12)*(a.2*w.2*c.2):=by grind
   rw[i,e1,C];grind
  exact dN (show a.2*b.2≠0 by lia) (dN (show(12:Int)≠0 by decide) this)
 obtain⟨h1,h2⟩:=jXq e o.cop N.cop o.pos N.pos;exact Prod.ext h1 h2
def prod9:∀{l:List Nat},l.length<=2->(∀n∈l,n<=3)->rE l<=9
 | [],_,_=>by decide
 | [a],_,h=>by
  have:=h a (.head _);show 1*a<=9;lia
 | [a,b],_,h=>by
  have h1:=h a (.head _);have h2:=h b (.tail _ (.head _));show 1*b*a<=9;rw[Nat.one_mul];exact fB h2 h1
 |_::_::_::_,h,_=>by simp at h
def num12(C:ns.length<=3)(hm:∀n∈ns,1<=n/\n<=3)(D:∀q∈fG ns.reverse,∀i,i<ns.length->∃u,e q i=lo2 u 12/\BB 204 u):
  ∀ks h k z,Kp ns ks->ks[h]?=some k->z∈k->NumW (rwW e (gG (wo h ks).reverse) h k z) (gG (wo h ks).reverse).length:=by
 intro ks h k z kp hk f;obtain⟨U,d⟩:=Classical.skolem.mp λq:List Nat=>(Classical.skolem.mp λi:Nat=>show ∃u:Int,q∈fG ns.reverse->i<ns.length->e q i=lo2 u 12/\BB 204 u by
  by_cases F:q∈fG ns.reverse/\i<ns.length
  .obtain⟨u,hu⟩:=D q F.1 i F.2;exact#[u,λ_ _=>hu]
  .exact#[0,λa b=>absurd #[a,b] F])
 have S:h<ns.length:=by rw[←kp.len];exact(aI.mp hk).1
 have kl:k.length<=3:=by
  have x:=aC S;have:=(kp.lt h k _ hk x).1;have:=(hm _ (aJ x)).2;lia
 have at_:∀y∈k,∀b∈gG (wo h ks).reverse,e (jn b h y) h=lo2 (U (jn b h y) h) 12/\BB 204 (U (jn b h y) h):=λy hy b hb=>d _ h (Ic kp hb hk hy) S;have j:rwW e (gG (wo h ks).reverse) h k z=lwR 12 (k.map λy=>(gG (wo h ks).reverse).map λb=>U (jn b h y) h-U (jn b h z) h):=by
  unfold rwW lwR;rw[List.map_map];refine eP λy hy=>?_;show List.zipWith fsb _ _=map _ (map _ _);rw[List.zipWith_map,List.zipWith_self,List.map_map];exact eP λb hb=>by
   show fsb (e (jn b h y) h) (e (jn b h z) h)=lo2 (U (jn b h y) h-U (jn b h z) h) 12;rw[(at_ y hy b hb).1,(at_ z f b hb).1,fsb12]
 have g:Sh5 (k.map λy=>(gG (wo h ks).reverse).map λb=>U (jn b h y) h-U (jn b h z) h) (gG (wo h ks).reverse).length:=by
  refine#[?_,Wf kp,?_,.inl ?_,λrow hr=>?_,λrow hr u hu=>?_]
  .rw[aA];exact List.length_pos_iff.mpr (kp.ne k (aJ hk))
  .rw[rN];refine dE (prod9 ?_ λn hn=>?_) (by decide)
   .have:=wo_len (l:=ks) (h:=h) (by rw[kp.len];exact S);have:=kp.len;rw[aA,cK];lia
   .obtain⟨c,hc,rfl⟩:=cM.mp hn;obtain⟨i,o⟩:=cF (Nc (List.mem_reverse.mp hc));have M:i<ns.length:=by rw[←kp.len];exact(aI.mp o).1
    have x:=aC M;have:=(kp.lt i c _ o x).1;have:=(hm _ (aJ x)).2;lia
  .rw[aA];lia
  .obtain⟨y,_,rfl⟩:=cM.mp hr;rw[aA]
  .obtain⟨y,hy,rfl⟩:=cM.mp hr;obtain⟨b,hb,rfl⟩:=cM.mp hu;have h1:=(at_ y hy b hb).2;have h2:=(at_ z f b hb).2;unfold BB at*;have K:(2:Nat)^206=2^204*4:=by decide
   rw[K];generalize (2:Nat)^204=W at*;lia
 rw[j];exact#[g.wor,λz mn=>g.wo mn]
def Fl.all(ns:List Nat):Fl ns (ns.map range):=#[aA ..,λh n k e g=>by
 rw[aX,e]at g;cases g;exact#[λ_=>true,by rw[List.filter_eq_self.mpr λ_ _=>rfl]]]
def rd_law{K}:RdS K Nf t_law N_law:=by
 rintro vs H Q E ⟨a,ns,rfl,v,S,q⟩;rw[show start N_law [ref a]=[some (.ref a),none,none,none,none,none,none,none,none]from rfl];(dsimp?[t_law]);refine#[a,ns,rfl,v,λl P H1 M a5 m3 m2 hm=>?_];(dsimp?[Yo]);have sz:Sz P:=#[m3,λn h=>(hm n h).1,λn h=>by have:=(hm n h).2;lia];refine#[l,P,rfl,SqL.of a5,sz,λo xs j s2 _ ho ps=>?_];refine#[a,ns,o,l,xs,P,rfl,(M.trans s2).seq v,ho,ps,SqL.of (s2 _ _ a5),m3,hm,λd kv k un Y N U=>?_];have key:∀a6 H4,aS j H4->UD j H4 d kv (fG P.reverse) k a6 P.length 204->Oc K (eQ Q) [some (.ref a),some (.ref l),some (.ref d),none,none,none,none,none,none] H4:=by
  intro a6 H4 X U4;have y:=X _ _ (s2 _ _ a5);have c3:=(M.trans (s2.trans X)).seq v;(dsimp?[Oc]);refine#[j,d,l,P,kv,k,a6,rfl,SqL.of y,m2,m3,hm,U4,λt e G I T D=>?_];have b6:=I _ _ y;have c4:=I.seq c3;clear U U4 un N Y ho ps X y c3 s2 M a5 v;have nw:=num12 m3 hm D;have gd:∀q∈fG P.reverse,∀i,i<P.length->Gd 4000 (e q i):=λq F i hi=>by
   obtain⟨u,e1,bu⟩:=D q F i hi;have l:=eN (t:=u) (b:=12) (by decide);have b:=l.bb bu (n:=4) (by unfold BB;decide);rw[e1];exact#[l.pos,b.1.mono (by decide),b.2.mono (by decide)]
  (dsimp?[Yp]);refine#[a,l,ns,P,rfl,c4,b6,m3,hm,λp ls A C B hp pa z=>?_];have c:=B _ _ b6;have T6:=T.same B;(dsimp?[Yq,pN]);refine#[_,.inl (SqL.of hp),λb hb=>?_];have s7:=aS.upd (o:=lst (map ref ls)) hb;have a8:(upd C b (lst (map ref ls))) b=some (.lst (map ref ls)):=aL;generalize upd C b (lst (map ref ls))=H7 at s7 a8;have T7:=T6.same s7;have b7:=s7 _ _ c;have a7:=s7 _ _ hp;have a2:=pa.same s7;clear T T6 b6 c hp pa I B s7 c4;obtain⟨st,p2,p9⟩:=Sx m3 m2 hm;have a9:ls.length<64:=by
   have:=z.length_eq;have:=a2.len;lia
  (dsimp?[Yr]);refine#[t,l,p,P,e,ls,A,rfl,#[T7,nw,gd,sz,SqL.of a7,a2,λq h=>z.mem_iff.mp h,a9],b7,λq h=>z.mem_iff.mpr h,m3,hm,λr kp g as w s x s8 hr a3 a4 hg pg dn rn fn c5=>?_];have T8:=T7.same s8;have d1:=s8 _ _ a7;have c6:=a2.same s8;refine#[r,rfl,_,SqT.of hr,rfl,_,_,rfl,_,_,rfl,rfl,?_];refine#[t,.ref b,P,e,A,rfl,T8,nw,gd,m3,m2,hm,.inr #[b,ls,rfl,SqL.of (s8 _ _ a8),c6,a9,z],λr2 k2 b8 g2 J gr R H9 Z b0 b1 b2 b3 b4 b5=>?_];obtain rfl:=b0.uniq dn;refine#[r2,k2,g2,kp,g,gr,b8,as,w,J,R,rfl,b1,b2,b3,b4,b5,Z _ _ a3,a4.same Z,Z _ _ hg,pg.same Z,c5,λHA sA=>?_];have a1:=s8.trans (Z.trans sA);have b9:=Z.trans sA;refine#[true,rfl,?_];rw[aF (by decide)];refine#[_,PrA.req (SqL.of (a1 _ _ a8)) (SqL.of (a1 _ _ a7)) (a2.same a1) (a2.same a1),?_];rw[decide_eq_true rfl];refine#[_,rfl,?_];rw[aF (by decide)];have TA:=T7.same a1;have d2:=a1 _ _ a7;have c7:=a2.same a1;have d3:=a1 _ _ b7;have d4:=b9 _ _ a3;have d5:=a4.same b9;clear T8 d1 c6 s8 Z sA a1 b9 b1 b2 b3 b4 b5 a3 a4 hg pg hr T7 b7 a7 a2 a8 b0;(dsimp?[Ys,Yi,rEqD]);refine#[ls,SqL.of d2,a9,λl=>ky (rdP HA l),srt_in c7 z hm,λos m po sp O=>?_];have sB:=aS.upd (o:=lst (map ref os)) O;obtain⟨pr,pq⟩:=c7.perm po;have e1:os.map (rdP HA)=prs P:=jYf (pq.trans z) (List.pairwise_map.mpr sp) st (jYg hm);rw[e1]at pr;have c8:(upd HA m (lst (map ref os))) m=some (.lst (map ref os)):=aL;generalize upd HA m (lst (map ref os))=HB at sB c8;refine#[t,l,m,P,e,os,prs P,rfl,#[TA.same sB,nw,gd,sz,SqL.of c8,pr.same sB,λq h=>h,by rw[po.length_eq];exact a9],sB _ _ d3,λq h=>h,m3,hm,λr f g d6 w s HC sC hr a3 a4 hg pg d7 c9 d8 c2=>?_];have ek:s.1=R.1:=by
   have sm:=rn.same fn c9 d8;exact((c9.fl (Fl.all P)).eq (rn.fl (Fl.all P)) sm.2 sm.1)
  refine#[r,rfl,_,SqT.of hr,rfl,_,_,rfl,_,_,rfl,rfl,true,Lg.req a3 (sC _ _ (sB _ _ d4)) a4 (by rw[ek];exact d5.same (sB.trans sC)),?_];refine Mv ?_;refine#[t,.non,P,e,prs P,rfl,TA.same (sB.trans sC),nw,gd,m3,m2,hm,.inl #[rfl,rfl],λr2 k2 b8 g2 J gr s2 H9 Z b0 b1 b2 b3 b4 b5=>?_];obtain rfl:=b0.uniq d7;exact#[r2,k2,g2,f,g,gr,b8,d6,w,J,s2,rfl,b1,b2,b3,b4,b5,Z _ _ a3,a4.same Z,Z _ _ hg,pg.same Z,c2,λHA sA=>q _]
 (dsimp?[Ob,iS];try simp_arith[Ob,eI,iS])
 refine#[ns,(M.trans (s2.trans N)).seq v,#[],by decide,?_];split
 .exact#[j,a,l,d,ns,P,kv,k,un,rfl,(M.trans s2).seq v,SqL.of (s2 _ _ a5),m2,m3,hm,N,U,λa6 H4 X U4=>key a6 H4 X U4]
 .exact key un Y N #[U.hd,U.d0,U.ks,(U.ur.mono (by decide)).at_,U.inj]
def top(i:Nat):Stmt:=PySem.Challenge.pw_mixplay_k35_rounds_in_order.main.body.getD i (.Pass #[0,0,0,0])
set_option genInjectivity false in
set_option genSizeOf false in
structure Tx(K:aR)(mg:Str->Option Value):Prop where
 f64:Df K mg "_law_cell_at" (top 64)
 f70:Df K mg "_law_sizes" (top 70)
 f65:Df K mg "_law_block" (top 65)
 f66:Df K mg "_law_mixed" (top 66)
 f73:Df K mg "_law_unit" (top 73)
 f74:Df K mg "_law_place" (top 74)
 f75:Df K mg "_law_chained" (top 75)
 f76:Df K mg "_law_units" (top 76)
 f71:Df K mg "_law_play" (top 71)
 f72:Df K mg "_law_order" (top 72)
 f77:Df K mg "_law_with" (top 77)
 f78:Df K mg "_law_meant" (top 78)
 f68:Df K mg "_law_divisor" (top 68)
 f69:Df K mg "_law_lowest" (top 69)
 f19:Df K mg "check_sizes" (top 19)
 f17:Df K mg "one_of_each" (top 17)
 f18:Df K mg "in_order" (top 18)
 f20:Df K mg "check_cells" (top 20)
 f21_0:Mf K "Table" "__init__" "Table.__init__" (kF (top 21) 0)
 f79:Df K mg "_law_table" (top 79)
 f80:Df K mg "_law_pairs" (top 80)
 f21_3:Mf K "Table" "earned" "Table.earned" (kF (top 21) 3)
 f22:Df K mg "joined" (top 22)
 f23:Df K mg "earned_with" (top 23)
 f24:Df K mg "earnings" (top 24)
 f49:Df K mg "least_whole" (top 49)
 f50:Df K mg "lift_of" (top 50)
 f8:Df K mg "divisor" (top 8)
 f9:Df K mg "ratio" (top 9)
 f10:Df K mg "plus" (top 10)
 f51:Df K mg "lifted" (top 51)
 f14:Df K mg "below" (top 14)
 f28:Df K mg "cleared" (top 28)
 f26:Df K mg "shared" (top 26)
 f27:Df K mg "plain" (top 27)
 f34:Df K mg "whole" (top 34)
 f12:Df K mg "times" (top 12)
 f38:Df K mg "longest" (top 38)
 f36:Df K mg "column_of" (top 36)
 f37:Df K mg "span" (top 37)
 f35:Df K mg "unit" (top 35)
 f44_0:Mf K "Corner" "__init__" "Corner.__init__" (kF (top 44) 0)
 f39:Df K mg "bits_beyond" (top 39)
 f40:Df K mg "stretched" (top 40)
 f41:Df K mg "shortened" (top 41)
 f42:Df K mg "rounded" (top 42)
 f29:Df K mg "products" (top 29)
 f44_3:Mf K "Corner" "entering" "Corner.entering" (kF (top 44) 3)
 f44_2:Mf K "Corner" "numbers" "Corner.numbers" (kF (top 44) 2)
 f30:Df K mg "is_ahead" (top 30)
 f31:Df K mg "leaving" (top 31)
 f44_4:Mf K "Corner" "leaving_by" "Corner.leaving_by" (kF (top 44) 4)
 f44_1:Mf K "Corner" "bottom" "Corner.bottom" (kF (top 44) 1)
 f44_5:Mf K "Corner" "step_in" "Corner.step_in" (kF (top 44) 5)
 f45:Df K mg "unstopped" (top 45)
 f43:Df K mg "turned_round" (top 43)
 f44_6:Mf K "Corner" "comes_to" "Corner.comes_to" (kF (top 44) 6)
 f44_7:Mf K "Corner" "ends_with" "Corner.ends_with" (kF (top 44) 7)
 f46:Df K mg "last_corner" (top 46)
 f13:Df K mg "over" (top 13)
 f44_8:Mf K "Corner" "spread" "Corner.spread" (kF (top 44) 8)
 f44_9:Mf K "Corner" "xs" "Corner.xs" (kF (top 44) 9)
 f44_11:Mf K "Corner" "ways" "Corner.ways" (kF (top 44) 11)
 f44_10:Mf K "Corner" "ys" "Corner.ys" (kF (top 44) 10)
 f47:Df K mg "best" (top 47)
 f15:Df K mg "summed" (top 15)
 f11:Df K mg "minus" (top 11)
 f52:Df K mg "divided" (top 52)
 f53:Df K mg "worth" (top 53)
 f56:Df K mg "less" (top 56)
 f57:Df K mg "spread" (top 57)
 f21_1:Mf K "Table" "sizes" "Table.sizes" (kF (top 21) 1)
 f58:Df K mg "weighed" (top 58)
 f81:Df K mg "_law_taken" (top 81)
 f82:Df K mg "_law_right" (top 82)
 f60:Df K mg "pairs_of" (top 60)
 f55:Df K mg "all_kept" (top 55)
 f61:Df K mg "gone_through" (top 61)
 f62:Dfd K mg "rounds" (top 62)
 n_abs:mg "abs"=none
 n_dict:mg "dict"=none
 n_enumerate:mg "enumerate"=none
 n_len:mg "len"=none
 n_list:mg "list"=none
 n_max:mg "max"=none
 n_min:mg "min"=none
 n_range:mg "range"=none
 n_reversed:mg "reversed"=none
 n_sorted:mg "sorted"=none
 n_sum:mg "sum"=none
 n_zip:mg "zip"=none
 c_Corner:mg "Corner"=some (.ref (dY K "Corner"))
 c_Table:mg "Table"=some (.ref (dY K "Table"))
 mk_Corner:PySem.W.makesIn K (dY K "Corner")=true/\W.keepIn K (.ref (dY K "Corner"))=true
 ct:xJ K
 mk_Table:PySem.W.makesIn K (dY K "Table")=true/\W.keepIn K (.ref (dY K "Table"))=true
 tt:TabK K
 g_BITS:∃t,mg "BITS"=some (.int 40 t)
section
variable{P:Program}{w:World}{K:aR}{mg:Str->Option Value}{base:Heap}
def gS(T:Tx K mg):Ok P w K mg base CX0 1 "_law_cell_at" (eI K):=T.f64.ok λR h=>#[yZ K,Xg h,(aQ (fT (cV kS pV (cO cI rfl T.n_len fJ (aB pV aO)) (dF _)) (aZ (cL (iL pV pV))) dR) (aZ (cL aW)))]
def jXe(T:Tx K mg):Ok P w K mg base CX0 2 "_law_sizes" (Dg K):=T.f70.ok λR h=>#[Ak K,jZ2 h,(aQ (sA R (bR gX aW (bR gI (c0 (gS T) R.r (aB pV (aB aW aO))) aW))) (aZ (cL (kA R (gZ rfl T.n_range (aB pV aO)) (λ_ _ _ _=>(bR gX aW (bR gI (c0 (gS T) R.r (aB pV (aB (bR gX aW pV) aO))) (bR jN aW pV))))))))]
def jXk(T:Tx K mg):Ok P w K mg base CX0 1 "_law_block" (Dl K):=T.f65.ok λR h=>#[Iy K,jZ9 h,(aQ (sA R aW) (aQ (fT (cV kS (bR gX aW (bR gI (bR Ep pV aW) aW)) (cO cI rfl T.n_len fJ (aB pV aO)) (dF _)) (aZ (sA R (bR iM (iL pV (bR gX aW (bR gI (bR Ep pV aW) aW))) (bR Nh aW aW)))) dR) (aQ (fA R (gZ rfl T.n_range (aB (bR gI pV aW) aO)) (gN R) (aZ (sA R (bR iM pV aW)))) (aZ (cL (bR gI pV aW))))))]
def jXi(T:Tx K mg):Ok P w K mg base CX0 2 "_law_mixed" (vE K):=T.f66.ok λR h=>#[Ix K,jZ7 h,(aQ (sA R aW) (aQ (fT (cV Eg (cO cI rfl T.n_len fJ (aB pV aO)) aW (dF _)) (aZ (sA R (iL pV aW))) dR) (aQ (fT (cV Eh (bR gI (bR iM pV (bR Nh aW aW)) aW) aW (dF _)) (aZ (cL (c0 (jXk T) R.r (aB pV (aB pV aO))))) dR) (aQ (fT (cV Eg (cO cI rfl T.n_len fJ (aB pV aO)) aW (dF _)) (aZ (sA R (iL pV (bR gI pV (cO (Tu rfl) rfl T.n_min Nq (aB aW (aB (cO cI rfl T.n_len fJ (aB pV aO)) aO))))))) dR) (aQ (sA R (bR gX (bR gI pV (bR Nh aW aW)) (bR eX aW (bR gX pV aW)))) (aQ (sA R (bR gX (bR gI (bR eX pV pV) aW) (bR eX aW pV))) (aZ (cL (bR gI (bR eX pV pV) aW)))))))))]
def jW7(T:Tx K mg):Ok P w K mg base CX0 3 "_law_unit" (Ji K):=T.f73.ok λR h=>#[Ew K,jWy h,(aQ (sA R (c0 (gS T) R.r (aB pV (aB (bR gI pV (cO (Ty rfl) rfl T.n_max Nr (aB aW (aB (cO (Tu rfl) rfl T.n_min Nq (aB aW (aB (cO cI rfl T.n_len fJ (aB pV aO)) aO))) aO)))) aO)))) (aQ (sA R (c0 (jXi T) R.r (aB pV (aB pV aO)))) (aQ (fT (cV kS pV aW (dF _)) (aZ (cL (bR jN (bR gI pV aW) aW))) dR) (aQ (fT (cV kS pV aW (dF _)) (aZ (cL (bR gI pV aW))) dR) (aQ (sA R (iL (kD (aB (bR Nh aW aW) (aB (bR Nh aW aW) aO))) (bR Ep pV aW))) (aZ (cL (bR jN (bR gI (bR gX pV pV) (bR jN (bR eX aW pV) aW)) (bR jN pV aW)))))))))]
def jXf(T:Tx K mg):Ok P w K mg base CX0 1 "_law_place" (Dh K):=T.f74.ok λR h=>#[Iu K,jZ4 h,(aQ (fT (cV Eh (bR gI (bR iM pV (iL (kD (aB aW (aB aW (aB aW aO)))) pV)) aW) aW (dF _)) (aZ (cL (bR jN (bR jN (iL pV pV) aW) (iT pV pV)))) dR) (aZ (cL (iT pV pV))))]
def Xn(T:Tx K mg):Ok P w K mg base CX0 2 "_law_chained" (wT K):=T.f75.ok λR h=>#[yY K,Xf h,(aQ (sK R (gZ rfl T.n_range (aB (cO cI rfl T.n_len fJ (aB pV aO)) aO)) (λ_ _ _ _=>(c0 (jXf T) R.r (aB pV (aB pV (aB pV (aB pV aO))))))) (aQ (sA R (bR jN (iL pV pV) (bR iM (bR jN (cO (Jw rfl) rfl T.n_sum jZh (aB pV aO)) (iL pV pV)) (cO cI rfl T.n_len fJ (aB pV aO))))) (aZ (cL (bR jN aW (bR eX (bR eX aW pV) pV))))))]
def jXc(T:Tx K mg):Ok P w K mg base CX0 4 "_law_units" (Dd K):=T.f76.ok λR h=>#[Aj K,jZz h,(aQ (sA R (bR gI (c0 (gS T) R.r (aB pV (aB aW aO))) aW)) (aQ (sA R (oK Eh (bR gI (c0 (gS T) R.r (aB pV (aB aW aO))) aW) aW (dF _))) (aQ (sA R (bR gI (c0 (gS T) R.r (aB pV (aB aW aO))) aW)) (aQ (sA R Fe) (aQ (fA R (gZ rfl T.n_range (aB (cO cI rfl T.n_len fJ (aB pV aO)) aO)) (gN R) (aQ (sA R (kD aO)) (aQ (fA R (gZ rfl T.n_range (aB (cO cI rfl T.n_len fJ (aB pV aO)) aO)) (gN R) (aQ (sA R (c0 (jW7 T) R.r (aB pV (aB (bR gX (bR eX pV (cO cI rfl T.n_len fJ (aB pV aO))) pV) (aB pV aO))))) (aQ (fT (Ck pV) (aZ (sA R (bR gX (bR jN (bR gI pV aW) aW) (c0 (Xn T) R.r (aB (iL pV pV) (aB pV (aB pV (aB pV aO)))))))) dR) (aZ (kE (xQ PySem.F.plainAttrs_list PySem.F.slot_list_append PySem.F.type_list_append qC pV (aB pV aO))))))) (aZ (Mg (xT R.r) pV (iL pV pV) pV rfl))))) (aZ (cL pV)))))))]
def jW8(T:Tx K mg):Ok P w K mg base CX0 1 "_law_play" (Jj K):=T.f71.ok λR h=>#[Oe K,jWz h,(aQ (sA R (fU aO)) (aQ (fA R (pi_rev rfl T.n_reversed pV) (gN R) (aQ (sA R (bR Ag (fU (aB (bR gI pV pV) aO)) pV)) (aZ (sA R (bR iM pV pV))))) (aZ (cL pV))))]
def jXh(T:Tx K mg):Ok P w K mg base CX0 2 "_law_order" (Dj K):=T.f72.ok λR h=>#[Iw K,jZ6 h,(aQ (sA R aW) (aQ (fA R (dL pV) (gN R) (aZ (sA R (bR eX pV pV)))) (aZ (cL (kA R (gZ rfl T.n_range (aB pV aO)) (λ_ _ _ _=>(c0 (jW8 T) R.r (aB pV (aB pV aO)))))))))]
def Tf(T:Tx K mg):Ok P w K mg base CX0 1 "_law_with" (tE K):=T.f77.ok λR h=>#[Od K,jWx h,(aZ (cL (bR Ag (bR Ag (jX Ek pV lN (lM pV)) (fU (aB pV aO))) (jX Ek pV (lM (bR gX pV aW)) lN))))]
def jXj(T:Tx K mg):Ok P w K mg base CX0 2 "_law_meant" (Dk K):=T.f78.ok λR h=>#[Al K,jZ8 h,(aQ (sA R (bR gI (c0 (gS T) R.r (aB pV (aB aW aO))) (cO cI rfl T.n_len fJ (aB pV aO)))) (aQ (sA R (bR gI (c0 (gS T) R.r (aB pV (aB aW aO))) aW)) (aZ (fT (cV Eg (iL pV pV) aW (dF _)) (aQ (sA R (bR gI (c0 (gS T) R.r (aB pV (aB aW aO))) (iL pV pV))) (aQ (sA R (bR gI (bR gX pV aW) (iL pV pV))) (aQ (sA R (bR gI (bR gX pV aW) (iL pV pV))) (aQ (sA R (fU (aB (bR gX aW (bR gI pV aW)) (aB (bR gX aW (bR gI (bR Ep pV aW) aW)) aO)))) (aQ (Oj (fA R (Oo pV) (gN2 R) (aZ (fT (cV Ef (iT pV pV) pV (dF _)) (aZ (rY (bR eX (iL pV pV) (bR gX (iT pV aW) (iT pV aW))) (xW pV pV oQ))) dR)))) (aZ (Oj (fA R (Oo pV) (gN2 R) (aZ (fT (cV Eh (iT pV pV) pV (dF _)) (aQ (sA R (bR eX (iT pV aW) (iL (Eo (xT R.r) pV (c0 (Tf T) R.r (aB pV (aB pV (aB pV aO)))) (λ_ _=>rfl)) pV))) (aQ (sA R (bR gX pV (bR eX (iT pV aW) (iL (Eo (xT R.r) pV (c0 (Tf T) R.r (aB pV (aB pV (aB pV aO)))) (λ_ _=>rfl)) pV)))) (aZ (rY (bR jN (bR gX (bR iM pV (bR gX (iT pV aW) (iT pV aW))) (bR Ep pV aW)) aW) (xW pV pV oQ))))) dR)))))))))) dR))))]
def Xm(T:Tx K mg):Ok P w K mg base CX0 1 "_law_divisor" (qA K):=T.f68.ok λR h=>#[yV K,Xe h,(aQ (sA R (cO yL rfl T.n_abs Nt (aB pV aO))) (aQ (sA R (cO yL rfl T.n_abs Nt (aB pV aO))) (aQ (wA (cV Eg pV aW (dF _)) (aZ (ps_par (i:=0) (j:=1) rfl (by rw[R.nn];exact R.nd) rfl rfl (by decide) rfl rfl (aB pV (aB (bR gI pV pV) aO)) rfl))) (aZ (cL pV)))))]
def jJm(T:Tx K mg):Ok P w K mg base CX0 2 "_law_lowest" (zF K):=T.f69.ok λR h=>#[uZ K,jJb h,(aQ (sA R (c0 (Xm T) R.r (aB pV (aB pV aO)))) (aZ (cL (fU (aB (bR iM pV pV) (aB (bR iM pV pV) aO))))))]
def Qu(T:Tx K mg):Ok P w K mg base CX0 1 "check_sizes" (qV K):=T.f19.ok λR h=>#[sL K,Ql h,(aQ (fT (PW.pt (Rs (cV kS (cO cI rfl T.n_len fJ (aB pV aO)) aW (dF _)) (Ia (cV Eg (cO cI rfl T.n_len fJ (aB pV aO)) aW (dF _))))) (aZ mZ) dR) (aZ (fA R (dL pV) (gN R) (aZ (fT (PW.pt (Rs (cV kS pV aW (dF _)) (Ia (cV Eg pV aW (dF _))))) (aZ mZ) dR)))))]
def zU(T:Tx K mg):Ok P w K mg base CX0 1 "one_of_each" (nD K):=T.f17.ok λR h=>#[sF K,Qh h,(aQ (sA R (kD (aB (fU aO) aO))) (aQ (fA R (dL pV) (gN R) (aQ (sA R (kD aO)) (aQ (fA R (dL pV) (gN R) (aZ (kE (xQ PySem.F.plainAttrs_list PySem.F.slot_list_extend PySem.F.type_list_extend Th pV (aB (kA R (dL pV) (λ_ _ _ _=>(bR Ag pV (fU (aB pV aO))))) aO))))) (aZ (sA R pV))))) (aZ (cL pV))))]
def jJo(T:Tx K mg):Ok P w K mg base CX0 2 "in_order" (zH K):=T.f18.ok λR h=>#[Cw K,jJd h,(aZ (cL (c0 (zU T) R.r (aB (kA R (dL pV) (λ_ _ _ _=>(Mi rfl T.n_list rfl T.n_range rfl pV))) aO))))]
def Qv(T:Tx K mg):Ok P w K mg base CX0 1 "check_cells" (qW K):=T.f20.ok λR h=>#[sM K,Qm h,(aQ (fA R (dL pV) (gN R) (aQ (fT (pt_cmp (jW3 (xT R.r) pV pV)) (aZ mZ) dR) (aZ (fT (cV Ef (cO cI rfl T.n_len fJ (aB (Eo (xT R.r) pV pV (λ_ _=>rfl)) aO)) pV (dF _)) (aZ mZ) dR)))) (aZ (fT (cV Ef (cO jVj rfl T.n_len fJ (aB pV aO)) (cO cI rfl T.n_len fJ (aB pV aO)) (dF _)) (aZ mZ) dR)))]
def Rk(T:Tx K mg):OkM P w K mg base CX0 3 (dY K "Table") "__init__" (sS K):=T.f21_0.ok λR h=>#[wQ K,Ri T.tt h,(aQ (kE (c0 (Qu T) R.r (aB pV aO))) (aQ (sA R (c0 (jJo T) R.r (aB pV aO))) (aQ (kE (c0 (Qv T) R.r (aB pV (aB pV (aB (cO cI rfl T.n_len fJ (aB pV aO)) aO))))) (aQ (xV pV (mS jL rfl T.n_list pU (aB pV aO)) rfl) (aQ (xV pV Fe rfl) (aZ (fA R (dL pV) (gN R) (aZ (Mg (xT R.r) (gQ pV rfl) pV (mS jL rfl T.n_list pU (aB (Eo (xT R.r) pV pV (λ_ _=>rfl)) aO)) rfl)))))))))]
def jXd(T:Tx K mg):Ok P w K mg base CX0 5 "_law_table" (De K):=T.f79.ok λR h=>#[Iq K,jZ1 h,(aQ (sA R Fe) (aQ (Oj (fA R (Oo pV) (gN2 R) (aZ (Mg (xT R.r) pV pV (kA R (dL pV) (λ_ _ _ _=>(c0 (jJm T) R.r (aB pV (aB aW aO))))) rfl)))) (aZ (cL (mk0 T.mk_Table (Rk T) R.r T.c_Table (aB (mS jL rfl T.n_list pU (aB pV aO)) (aB pV aO)))))))]
def jXg(T:Tx K mg):Ok P w K mg base CX0 2 "_law_pairs" (Di K):=T.f80.ok λR h=>#[Iv K,jZ5 h,(aQ (sA R (kD aO)) (aQ (fA R (gZ rfl T.n_range (aB (cO cI rfl T.n_len fJ (aB pV aO)) aO)) (gN R) (aZ (fA R (gZ rfl T.n_range (aB (iL pV pV) aO)) (gN R) (aZ (kE (xQ PySem.F.plainAttrs_list PySem.F.slot_list_append PySem.F.type_list_append qC pV (aB (fU (aB pV (aB pV aO))) aO))))))) (aQ (sA R (kD aO)) (aQ (wA (cV (jZV 0 (xT R.r)) pV (kD aO) (dF _)) (aZ (kE (xQ PySem.F.plainAttrs_list PySem.F.slot_list_append PySem.F.type_list_append qC pV (aB (xQ PySem.F.plainAttrs_list PySem.F.slot_list_pop PySem.F.type_list_pop jUU pV (aB (bR gI (c0 (gS T) R.r (aB pV (aB (bR gX aW (cO cI rfl T.n_len fJ (aB pV aO))) aO))) (cO cI rfl T.n_len fJ (aB pV aO))) aO)) aO))))) (aZ (cL pV))))))]
def Ls(T:Tx K mg):OkM P w K mg base CX0 1 (dY K "Table") "earned" (pM K):=T.f21_3.ok λR h=>#[qR K,Lr T.tt h,(aQ (fA R (En rfl T.n_enumerate (gQ pV rfl)) (gN2 R) (aZ (fT (PW.pt (Rs (cV kS (iT pV pV) aW (dF _)) (Ia (cV op_ge (iT pV pV) pV (dF _))))) (aZ mZ) dR))) (aZ (cL (mS jL rfl T.n_list pU (aB (Eo (xT R.r) (gQ pV rfl) pV (λ_ _=>rfl)) aO)))))]
def jW9(T:Tx K mg):Ok P w K mg base CX0 1 "joined" (Jk K):=T.f22.ok λR h=>#[Of K,jW0 h,(aZ (cL (bR Ag (bR Ag (jX Ek pV lN (lM pV)) (fU (aB pV aO))) (jX Ek pV (lM pV) lN))))]
def Qt(T:Tx K mg):Ok P w K mg base CX0 2 "earned_with" (qU K):=T.f23.ok λR h=>#[oM K,Qk h,(aZ (cL (iL (m1 pV T.tt.cl (Ls T) R.r (aB (c0 (jW9 T) R.r (aB pV (aB pV (aB pV aO)))) aO)) pV)))]
def Kz(T:Tx K mg):Ok P w K mg base CX0 3 "earnings" (rL K):=T.f24.ok λR h=>#[Cy K,jJe h,(aZ (cL (kA R (dL pV) (λ_ _ _ _=>(c0 (Qt T) R.r (aB pV (aB pV (aB pV (aB pV aO)))))))))]
def Qr(T:Tx K mg):Ok P w K mg base CX0 1 "least_whole" (qS K):=T.f49.ok λR h=>#[sH K,Qi h,(aZ (cL (cO (Jx rfl) rfl T.n_min Nq (aB (kA R (dL pV) (λ_ _ _ _=>(bR iM (iT pV aW) (iT pV aW)))) aO))))]
def jXa(T:Tx K mg):Ok P w K mg base CX0 2 "lift_of" (Db K):=T.f50.ok λR h=>#[Ik K,jZv h,(aZ (cL (fU (aB (bR jN aW (cO (Jx rfl) rfl T.n_min Nq (aB (kA R (dL pV) (λ_ _ _ _=>(c0 (Qr T) R.r (aB pV aO)))) aO))) (aB aW aO)))))]
def Dr(T:Tx K mg):Ok P w K mg base CX0 1 "divisor" (lD K):=T.f8.ok λR h=>#[Iz K,jXJ h,(aQ (sA R (cO yL rfl T.n_abs Nt (aB pV aO))) (aQ (sA R (cO yL rfl T.n_abs Nt (aB pV aO))) (aQ (wA (cV Ef pV aW (dF _)) (aQ (sA R (bR gI pV pV)) (aQ (sA R pV) (aZ (sA R pV))))) (aZ (cL pV)))))]
def qG(T:Tx K mg):Ok P w K mg base CX0 2 "ratio" (mY K):=T.f9.ok λR h=>#[Lz K,jVz h,(aQ (fT (cV Eh pV aW (dF _)) (aZ mZ) dR) (aQ (sA R (c0 (Dr T) R.r (aB pV (aB pV aO)))) (aQ (fT (cV kS pV aW (dF _)) (aZ (sA R (mR jW pV))) dR) (aZ (cL (fU (aB (bR iM pV pV) (aB (bR iM pV pV) aO))))))))]
def jYo(T:Tx K mg):Ok P w K mg base CX0 3 "plus" (Mb K):=T.f10.ok λR h=>#[jJ3 K,rd_plus h,(aZ (cL (c0 (qG T) R.r (aB (bR gX (bR eX (iT pV aW) (iT pV aW)) (bR eX (iT pV aW) (iT pV aW))) (aB (bR eX (iT pV aW) (iT pV aW)) aO)))))]
def jW6(T:Tx K mg):Ok P w K mg base CX0 4 "lifted" (Jh K):=T.f51.ok λR h=>#[Oa K,jWw h,(aZ (cL (kA R (dL pV) (λ_ _ _ _=>(c0 (jYo T) R.r (aB pV (aB pV aO)))))))]
def Ze(T:Tx K mg):Ok P w K mg base CX0 1 "below" (Fa K):=T.f14.ok λR h=>#[Vt K,jV2 h,(aZ (cL (oK kS (bR eX (iT pV aW) (iT pV aW)) (bR eX (iT pV aW) (iT pV aW)) (dF _))))]
def jXl(T:Tx K mg):Ok P w K mg base CX0 2 "cleared" (Dm K):=T.f28.ok λR h=>#[Jb K,jXX h,(aQ (sA R aW) (aQ (fA R (dL pV) (gN R) (aZ (sA R (bR eX pV (bR iM (iT pV aW) (c0 (Dr T) R.r (aB pV (aB (iT pV aW) aO)))))))) (aZ (cL (fU (aB pV (aB (kA R (dL pV) (λ_ _ _ _=>(bR eX (iT pV aW) (bR iM pV (iT pV aW))))) aO)))))))]
def Td(T:Tx K mg):Ok P w K mg base CX0 2 "shared" (Am K):=T.f26.ok λR h=>#[Ny K,jWu h,(aQ (sA R aW) (aQ (fA R (dL pV) (gN R) (aQ (sA R (c0 (Dr T) R.r (aB pV (aB pV aO)))) (aZ (fT (cV Eh pV aW (dF _)) (aZ (cL pV)) dR)))) (aZ (cL pV))))]
def jUY(T:Tx K mg):Ok P w K mg base CX0 3 "plain" (Oh K):=T.f27.ok λR h=>#[Vr K,jV0 h,(aQ (sA R (c0 (Td T) R.r (aB pV aO))) (aQ (fT (cV kS pV aW (dF _)) (aZ (cL (mS jL rfl T.n_list pU (aB pV aO)))) dR) (aZ (cL (kA R (dL pV) (λ_ _ _ _=>(bR iM pV pV)))))))]
def Os(T:Tx K mg):Ok P w K mg base CX0 4 "whole" (yB K):=T.f34.ok λR h=>#[Vp K,jVx h,(aQ (sA R (c0 (jXl T) R.r (aB pV aO))) (aZ (cL (fU (aB (c0 (qG T) R.r (aB (iT pV aW) (aB (cO (Ty rfl) rfl T.n_max Nr (aB (c0 (Td T) R.r (aB (iT pV aW) aO)) (aB aW aO))) aO))) (aB (c0 (jUY T) R.r (aB (iT pV aW) aO)) aO))))))]
def Zc(T:Tx K mg):Ok P w K mg base CX0 3 "times" (Ey K):=T.f12.ok λR h=>#[Vq K,jVy h,(aZ (cL (c0 (qG T) R.r (aB (bR eX (iT pV aW) (iT pV aW)) (aB (bR eX (iT pV aW) (iT pV aW)) aO)))))]
def Pn(T:Tx K mg):Ok P w K mg base CX0 1 "longest" (vB K):=T.f38.ok λR h=>#[Ij K,jZu h,(aZ (cL (cO (Tv rfl) rfl T.n_max Nr (aB (kA R (dL pV) (λ_ _ _ _=>(pe_bm0 PySem.F.plainAttrs_int PySem.F.slot_int_bit_length PySem.F.type_int_bit_length jYt pV))) aO))))]
def nB(T:Tx K mg):Ok P w K mg base CX0 1 "column_of" (kJ K):=T.f36.ok λR h=>#[zA K,Xh h,(aZ (cL (kA R (dL pV) (λ_ _ _ _=>(iL pV pV)))))]
def jYn(T:Tx K mg):Ok P w K mg base CX0 1 "span" (Ma K):=T.f37.ok λR h=>#[jJ2 K,rd_span h,(aZ (cL (bR gX aW (cO (Jw rfl) rfl T.n_sum jZh (aB (kA R (dL pV) (λ_ _ _ _=>(cO yL rfl T.n_abs Nt (aB pV aO)))) aO)))))]
def ok_unit(T:Tx K mg):Ok P w K mg base CX0 1 "unit" (Vy K):=T.f35.ok λR h=>#[jJ1 K,rd_unit h,(aZ (cL (kA R (gZ rfl T.n_range (aB pV aO)) (λ_ _ _ _=>(Oq (cV Eh pV pV (dF _)) aW aW)))))]
def rA(T:Tx K mg):OkM P w K mg base CX0 2 (dY K "Corner") "__init__" (kC K):=T.f44_0.ok λR h=>#[sQ K,Qq T.ct h,(aQ (xV pV (kA R (gZ rfl T.n_range (aB (bR jN (cO cI rfl T.n_len fJ (aB (iL pV aW) aO)) aW) aO)) (λ_ _ _ _=>(c0 (nB T) R.r (aB pV (aB pV aO))))) rfl) (aQ (xV pV (bR uT (kA R (dL (gQ pV rfl)) (λ_ _ _ _=>(c0 (jYn T) R.r (aB (jX rF pV lN (lM (mR jW aW))) aO)))) (kA R (dL (jX rF pV lN (lM (mR jW aW)))) (λ_ _ _ _=>(c0 (jYn T) R.r (aB (kD (aB aW aO)) aO))))) rfl) (aQ (xV pV (kG R (En rfl T.n_enumerate pV) (λ_ _ _ _=>(bR uT (c0 (ok_unit T) R.r (aB (cO cI rfl T.n_len fJ (aB pV aO)) (aB pV aO))) (kD (aB (iL pV (mR jW aW)) aO))))) rfl) (aZ (xV pV (kA R (gZ rfl T.n_range (aB (bR jN (cO cI rfl T.n_len fJ (aB pV aO)) aW) aO)) (λ_ _ _ _=>(bR gX (cO cI rfl T.n_len fJ (aB (gQ pV rfl) aO)) pV))) rfl)))))]
def Qw(T:Tx K mg):Ok P w K mg base CX0 1 "bits_beyond" (qX K):=T.f39.ok λR h=>#[sN K,Qn h,(aZ (cL (pe_maxD rfl rfl T.n_max (aB (jW2 (N:=sU) (xs:=["number","long"]) (ys:=[]) (caps:=[]) #[by decide+kernel,rfl,by decide+kernel,by decide+kernel,rfl,by decide+kernel,rfl] R.sc R.nn R.calm (nR rfl T.n_zip (aB pV (aB pV aO))) (λ_ _ _ _=>jZX (n:=2) rfl (sY (oR (i:=0) (by decide+kernel) rfl (by decide+kernel)) (sY (oR (i:=1) (by decide+kernel) rfl (by decide+kernel)) Wg))) (λ_ _ _ _=>(cV Ef pV aW (dF _))) (λ_ _ _ _=>(bR jN (pe_bm0 PySem.F.plainAttrs_int PySem.F.slot_int_bit_length PySem.F.type_int_bit_length jYt pV) pV))) aO) aW)))]
def Rj(T:Tx K mg):Ok P w K mg base CX0 1 "stretched" (sR K):=T.f40.ok λR h=>#[vM K,Rh h,(aQ (fT (cV kS pV aW (dF _)) (aZ mZ) dR) (aZ (cL (Oq (cV Eg pV aW (dF _)) (bR jYl pV pV) (bR jYk pV (mR jW pV))))))]
def Xk(T:Tx K mg):Ok P w K mg base CX0 2 "stretched" (wR K):=T.f40.ok λR h=>#[yQ K,Xc h,(aQ (fT (cV kS pV aW (dF _)) (aZ (cL (mR jW (c0 (Rj T) R.r (aB (mR jW pV) (aB pV aO)))))) dR) (aZ (cL (Oq (cV Eg pV aW (dF _)) (bR jYl pV pV) (bR jYk pV (mR jW pV))))))]
def Xl(T:Tx K mg):Ok P w K mg base CX0 3 "shortened" (wS K):=T.f41.ok λR h=>#[yS K,Xd h,(aZ (cL (kG R (nR rfl T.n_zip (aB pV (aB pV aO))) (λ_ _ _ _=>(c0 (Xk T) R.r (aB pV (aB (bR jN pV pV) aO)))))))]
def jXQ(T:Tx K mg):Ok P w K mg base CX0 4 "rounded" (Da K):=T.f42.ok λR h=>#[Ii K,jZt h,(aQ (sA R (kA R (dL pV) (λ_ _ _ _=>(c0 (Pn T) R.r (aB (jX rF pV lN (lM (mR jW aW))) aO))))) (aQ (sA R (kA R (gZ rfl T.n_range (aB (cO cI rfl T.n_len fJ (aB (iL pV aW) aO)) aO)) (λ_ _ _ _=>(c0 (Qw T) R.r (aB (c0 (nB T) R.r (aB pV (aB pV aO))) (aB pV aO)))))) (aZ (cL (kG R (nR rfl T.n_zip (aB pV (aB pV aO))) (λ_ _ _ _=>(c0 (Xl T) R.r (aB pV (aB (bR jN pV pV) (aB pV aO))))))))))]
def Ky(T:Tx K mg):Ok P w K mg base CX0 1 "products" (rK K):=T.f29.ok λR h=>#[Ct K,jJQ h,(aZ (cL (cO (Jw rfl) rfl T.n_sum jZh (aB (kG R (nR rfl T.n_zip (aB pV (aB pV aO))) (λ_ _ _ _=>(bR eX pV pV))) aO))))]
def mP(T:Tx K mg):OkM P w K mg base CX0 2 (dY K "Corner") "entering" (jD K):=T.f44_3.ok λR h=>#[nH K,Dw T.ct h,(aQ (sA R (iL (gQ pV rfl) (mR jW aW))) (aQ (sA R (bR uT (kA R (dL (gQ pV rfl)) (λ_ _ _ _=>(c0 (Ky T) R.r (aB pV (aB pV aO))))) (jX rF pV lN (lM (cO cI rfl T.n_len fJ (aB (gQ pV rfl) aO)))))) (aQ (sA R nS) (aQ (fA R (En rfl T.n_enumerate pV) (gN2 R) (aZ (fT (PW.pt (jZZ (cV kS pV aW (dF _)) (We (PW.pt (Rs (cV xX pV nS (dF _)) (Ia (cV kS (bR eX pV (iL (gQ pV rfl) pV)) (bR eX (iL pV pV) (iL (gQ pV rfl) pV)) (dF _)))))))) (aZ (sA R pV)) dR))) (aZ (cL pV))))))]
def kY(T:Tx K mg):OkM P w K mg base CX0 2 (dY K "Corner") "numbers" (iG K):=T.f44_2.ok λR h=>#[oI K,Hw T.ct h,(aQ (fT (cV kS pV (cO cI rfl T.n_len fJ (aB (gQ pV rfl) aO)) (dF _)) (aZ (cL (kA R (dL (gQ pV rfl)) (λ_ _ _ _=>(c0 (Ky T) R.r (aB (iL (gQ pV rfl) pV) (aB pV aO))))))) dR) (aZ (cL (c0 (nB T) R.r (aB (gQ pV rfl) (aB (bR jN pV (cO cI rfl T.n_len fJ (aB (gQ pV rfl) aO))) aO))))))]
def jJn(T:Tx K mg):Ok P w K mg base CX0 1 "is_ahead" (zG K):=T.f30.ok λR h=>#[Cv K,jJc h,(aQ (fA R (dL pV) (gN R) (aQ (sA R (bR eX (iL pV pV) (iL pV pV))) (aQ (sA R (bR eX (iL pV pV) (iL pV pV))) (aZ (fT (cV Ef pV pV (dF _)) (aZ (cL (oK kS pV pV (dF _)))) dR))))) (aZ (cL pe_bl)))]
def jXb(T:Tx K mg):Ok P w K mg base CX0 2 "leaving" (Dc K):=T.f31.ok λR h=>#[Il K,jZw h,(aQ (sA R nS) (aQ (fA R (En rfl T.n_enumerate pV) (gN2 R) (aZ (fT (PW.pt (jZZ (cV Eg (iL pV pV) aW (dF _)) (We (PW.pt (Rs (cV xX pV nS (dF _)) (Ia (Ck (c0 (jJn T) R.r (aB pV (aB (iL pV pV) (aB pV (aB pV aO)))))))))))) (aZ (sA R pV)) dR))) (aZ (cL pV))))]
def pF(T:Tx K mg):OkM P w K mg base CX0 3 (dY K "Corner") "leaving_by" (jM K):=T.f44_4.ok λR h=>#[mB K,zY T.ct h,(aQ (sG R (nR rfl T.n_zip (aB (gQ pV rfl) (aB pV aO))) (λ_ _ _ _=>(bR uT pV (kD (aB pV aO))))) (aQ (sA R (cO cI rfl T.n_len fJ (aB (gQ pV rfl) aO))) (aZ (cL (c0 (jXb T) R.r (aB pV (aB (bR gX pV aW) (aB (bR uT (kD (aB (bR gX pV aW) aO)) (Mi rfl T.n_list rfl T.n_range rfl pV)) aO))))))))]
def lV(T:Tx K mg):OkM P w K mg base CX0 1 (dY K "Corner") "bottom" (iY K):=T.f44_1.ok λR h=>#[pL K,Jz T.ct h,(aZ (cL (iL (iL (gQ pV rfl) (mR jW aW)) (mR jW aW))))]
def rS(T:Tx K mg):OkM P w K mg base CX0 2 (dY K "Corner") "step_in" (kX K):=T.f44_5.ok λR h=>#[oH K,Hv T.ct h,(aQ (sA R (m0 pV T.ct.cl (lV T) R.r)) (aQ (sA R (iL (gQ pV rfl) pV)) (aQ (sA R (kD aO)) (aQ (fA R (nR rfl T.n_zip (aB (gQ pV rfl) (aB pV aO))) (gN2 R) (aZ (kE (xQ PySem.F.plainAttrs_list PySem.F.slot_list_append PySem.F.type_list_append qC pV (aB (kG R (nR rfl T.n_zip (aB pV (aB pV aO))) (λ_ _ _ _=>(bR iM (bR jN (bR eX pV (iL pV pV)) (bR eX pV pV)) pV))) aO))))) (aQ (rY pV (xW pV pV oQ)) (aQ (xV pV pV rfl) (aZ (rY pV (xW (gQ pV rfl) pV oQ)))))))))]
def Hr(T:Tx K mg):Ok P w K mg base CX0 4 "unstopped" (pZ K):=T.f45.ok λR h=>#[yO K,Xb h,(aQ (sA R (m0 pV T.ct.cl (mP T) R.r)) (aQ (wA (cV jYm pV nS (dF _)) (aQ (sA R (m1 pV T.ct.cl (kY T) R.r (aB pV aO))) (aQ (sA R (m1 pV T.ct.cl (pF T) R.r (aB pV aO))) (aQ (fT (cV xX pV nS (dF _)) (aZ (cL pV)) dR) (aQ (kE (m1 pV T.ct.cl (rS T) R.r (aB pV (aB pV (aB pV aO))))) (aZ (sA R (m0 pV T.ct.cl (mP T) R.r)))))))) (aZ (cL nS))))]
def wZ(T:Tx K mg):Ok P w K mg base CX0 1 "turned_round" (mH K):=T.f43.ok λR h=>#[qO K,Lp h,(aZ (cL (kA R (dL pV) (λ_ _ _ _=>(mR jW pV)))))]
def Dy(T:Tx K mg):OkM P w K mg base CX0 3 (dY K "Corner") "comes_to" (mO K):=T.f44_6.ok λR h=>#[nI K,Dx T.ct h,(aQ (sA R (cO cI rfl T.n_len fJ (aB (gQ pV rfl) aO))) (aQ (sKI R (gZ rfl T.n_range (aB (cO cI rfl T.n_len fJ (aB pV aO)) aO)) (λ_ _ _ _=>(cV Hq (bR gX pV pV) pV (by with_unfolding_all rfl))) (λ_ _ _ _=>pV)) (aQ (fA R (dL (kI R (dL pV) (λ_ _ _ _=>(cV kS pV pV (dF _))) (λ_ _ _ _=>pV))) (gN R) (aQ (sA R (m1 pV T.ct.cl (kY T) R.r (aB pV aO))) (aQ (sKI R (dL pV) (λ_ _ _ _=>(cV Ef (iL pV pV) aW (dF _))) (λ_ _ _ _=>pV)) (aQ (fT (pt_not (jV4 pV (λ_=>rfl))) (aZ (cL pe_bl)) dR) (aQ (kE (m1 pV T.ct.cl (rS T) R.r (aB pV (aB pV (aB (iL pV aW) aO))))) (aZ (kE (xQ PySem.F.plainAttrs_list PySem.F.slot_list_remove PySem.F.type_list_remove Tg pV (aB (iL pV aW) aO))))))))) (aQ (fT (cV kS (m0 pV T.ct.cl (lV T) R.r) aW (dF _)) (aZ (xV pV (kA R (dL (gQ pV rfl)) (λ_ _ _ _=>(c0 (wZ T) R.r (aB pV aO)))) rfl)) dR) (aZ (cL (oK op_ge (cO (Jx rfl) rfl T.n_min Nq (aB (c0 (nB T) R.r (aB (jX rF (gQ pV rfl) lN (lM (mR jW aW))) (aB (mR jW aW) aO))) aO)) aW (dF _))))))))]
def Ba(T:Tx K mg):OkM P w K mg base CX0 4 (dY K "Corner") "ends_with" (mC K):=T.f44_7.ok λR h=>#[kK K,Az T.ct h,(aQ (fT (cV xX pV nS (dF _)) (aZ (cL (oK xX (m0 pV T.ct.cl (mP T) R.r) nS (dF _)))) dR) (aQ (sA R (m1 pV T.ct.cl (kY T) R.r (aB pV aO))) (aZ (cL (jZW (oK kS (iL pV (mR jW aW)) aW (dF _)) (jZY (oK xX (m1 pV T.ct.cl (pF T) R.r (aB pV aO)) nS (dF _))))))))]
def Qs(T:Tx K mg):Ok P w K mg base CX0 5 "last_corner" (qT K):=T.f46.ok λR h=>#[sI K,Qj T.ct h,(aQ (sA R (jV8 rfl T.g_BITS)) (aQ (wA (cV kS pV (cO (Tv rfl) rfl T.n_max Nr (aB (kA R (dL pV) (λ_ _ _ _=>(c0 (Pn T) R.r (aB pV aO)))) aO)) (dF _)) (aQ (sA R (mk0 T.mk_Corner (rA T) R.r T.c_Corner (aB (c0 (jXQ T) R.r (aB pV (aB pV aO))) aO))) (aQ (sA R (c0 (Hr T) R.r (aB pV aO))) (aQ (sA R (mk0 T.mk_Corner (rA T) R.r T.c_Corner (aB pV aO))) (aQ (fT (PW.pt (jZZ (Ck (m1 pV T.ct.cl (Dy T) R.r (aB (gQ pV rfl) aO))) (We (Ck (m1 pV T.ct.cl (Ba T) R.r (aB pV aO)))))) (aZ (cL (fU (aB pV (aB pV aO))))) dR) (aZ (sA R (bR eX aW pV)))))))) (aQ (sA R (mk0 T.mk_Corner (rA T) R.r T.c_Corner (aB pV aO))) (aQ (sA R (c0 (Hr T) R.r (aB pV aO))) (aZ (cL (fU (aB pV (aB pV aO)))))))))]
def Ml(T:Tx K mg):Ok P w K mg base CX0 3 "over" (Ac K):=T.f13.ok λR h=>#[jJ4 K,rd_over h,(aZ (cL (c0 (qG T) R.r (aB (bR eX (iT pV aW) (iT pV aW)) (aB (bR eX (iT pV aW) (iT pV aW)) aO)))))]
def uL(T:Tx K mg):OkM P w K mg base CX0 3 (dY K "Corner") "spread" (lU K):=T.f44_8.ok λR h=>#[pK K,Jy T.ct h,(aQ (sK R (dL (gQ pV rfl)) (λ_ _ _ _=>(fU (aB aW (aB aW aO))))) (aQ (fA R (nR rfl T.n_zip (aB pV (aB (gQ pV rfl) aO))) (gN2 R) (aZ (fT (cV kS pV (cO cI rfl T.n_len fJ (aB pV aO)) (dF _)) (aZ (rY (c0 (qG T) R.r (aB pV (aB (m0 pV T.ct.cl (lV T) R.r) aO))) (xW pV pV oQ))) dR))) (aZ (cL pV))))]
def Xp(T:Tx K mg):OkM P w K mg base CX0 4 (dY K "Corner") "xs" (wV K):=T.f44_9.ok λR h=>#[zC K,Xj T.ct h,(aZ (cL (m1 pV T.ct.cl (uL T) R.r (aB (c0 (nB T) R.r (aB (gQ pV rfl) (aB (mR jW aW) aO))) aO))))]
def Qx(T:Tx K mg):OkM P w K mg base CX0 4 (dY K "Corner") "ways" (qY K):=T.f44_11.ok λR h=>#[sP K,Qp T.ct h,(aQ (sA R (m1 pV T.ct.cl (uL T) R.r (aB (kA R (dL (m1 pV T.ct.cl (kY T) R.r (aB pV aO))) (λ_ _ _ _=>(mR jW pV))) aO))) (aQ (fT (cV kS pV (cO cI rfl T.n_len fJ (aB pV aO)) (dF _)) (aZ (rY (fU (aB aW (aB aW aO))) (xW pV pV oQ))) dR) (aZ (cL pV))))]
def Xo(T:Tx K mg):OkM P w K mg base CX0 3 (dY K "Corner") "ys" (wU K):=T.f44_10.ok λR h=>#[zB K,Xi T.ct h,(aZ (cL (kA R (dL (jX rF (iL (gQ pV rfl) (mR jW aW)) lN (lM (cO cI rfl T.n_len fJ (aB (gQ pV rfl) aO))))) (λ_ _ _ _=>(c0 (qG T) R.r (aB pV (aB (m0 pV T.ct.cl (lV T) R.r) aO)))))))]
def ok_best(T:Tx K mg):Ok P w K mg base CX0 6 "best" (Wa K):=T.f47.ok λR h=>#[jJ6 K,rd_best h,(aQ (fA R (dL pV) (gN R) (aZ (fT (Ck (c0 (Ze T) R.r (aB pV (aB (fU (aB aW (aB aW aO))) aO)))) (aZ mZ) dR))) (aQ (sK R (dL pV) (λ_ _ _ _=>(c0 (Os T) R.r (aB pV aO)))) (aQ (sA R (c0 (Os T) R.r (aB (kG R (nR rfl T.n_zip (aB pV (aB pV aO))) (λ_ _ _ _=>(c0 (Zc T) R.r (aB pV (aB (iT pV aW) aO))))) aO))) (aQ (sA R (c0 (Os T) R.r (aB pV aO))) (aQ (sG R (nR rfl T.n_zip (aB pV (aB (iT pV aW) aO))) (λ_ _ _ _=>(bR uT (iT pV aW) (kD (aB pV aO))))) (aQ (sA R (c0 (Qs T) R.r (aB (bR uT pV (kD (aB (bR uT (c0 (wZ T) R.r (aB (iT pV aW) aO)) (kD (aB aW aO))) aO))) aO))) (aQ (sK R (dL (m0 (iT pV aW) T.ct.cl (Xp T) R.r)) (λ_ _ _ _=>(c0 (Ml T) R.r (aB pV (aB (iT pV aW) aO))))) (aQ (fT (cV jYm (iT pV aW) nS (dF _)) (aZ (cL (fU (aB Ib (aB pV (aB (m1 (iT pV aW) T.ct.cl (Qx T) R.r (aB (iT pV aW) aO)) aO)))))) dR) (aZ (cL (fU (aB Ib (aB pV (aB (kG R (nR rfl T.n_zip (aB (m0 (iT pV aW) T.ct.cl (Xo T) R.r) (aB pV aO))) (λ_ _ _ _=>(c0 (Ml T) R.r (aB (c0 (Zc T) R.r (aB pV (aB (iT pV aW) aO))) (aB (iT pV aW) aO))))) aO))))))))))))))]
def jW4(T:Tx K mg):Ok P w K mg base CX0 4 "summed" (Jf K):=T.f15.ok λR h=>#[Nw K,jWs h,(aQ (sA R (fU (aB aW (aB aW aO)))) (aQ (fA R (dL pV) (gN R) (aZ (sA R (c0 (jYo T) R.r (aB pV (aB pV aO)))))) (aZ (cL pV))))]
def Zd(T:Tx K mg):Ok P w K mg base CX0 3 "minus" (Ez K):=T.f11.ok λR h=>#[Vs K,jV1 h,(aZ (cL (c0 (qG T) R.r (aB (bR jN (bR eX (iT pV aW) (iT pV aW)) (bR eX (iT pV aW) (iT pV aW))) (aB (bR eX (iT pV aW) (iT pV aW)) aO)))))]
def Pq(T:Tx K mg):Ok P w K mg base CX0 4 "divided" (vF K):=T.f52.ok λR h=>#[Ja K,jXZ h,(aZ (cL (kA R (dL pV) (λ_ _ _ _=>(c0 (Ml T) R.r (aB pV (aB pV aO)))))))]
def jUX(T:Tx K mg):Ok P w K mg base CX0 7 "worth" (Og K):=T.f53.ok λR h=>#[Vo K,jVw h,(aQ (sA R (c0 (jXa T) R.r (aB pV aO))) (aQ (sK R (dL pV) (λ_ _ _ _=>(c0 (jW6 T) R.r (aB pV (aB pV aO))))) (aQ (sA R (c0 (ok_best T) R.r (aB pV (aB (kA R (dL pV) (λ_ _ _ _=>(fU (aB aW (aB aW aO))))) (aB (kA R (dL (iL pV aW)) (λ_ _ _ _=>(fU (aB aW (aB aW aO))))) aO))))) (aQ (sA R (c0 (jW4 T) R.r (aB (iT pV aW) aO))) (aZ (cL (fU (aB (c0 (Zd T) R.r (aB (c0 (Ml T) R.r (aB (fU (aB aW (aB aW aO))) (aB pV aO))) (aB pV aO))) (aB (c0 (Pq T) R.r (aB (iT pV aW) (aB pV aO))) (aB (c0 (Pq T) R.r (aB (iT pV aW) (aB pV aO))) aO))))))))))]
def ok_less(T:Tx K mg):Ok P w K mg base CX0 4 "less" (Vz K):=T.f56.ok λR h=>#[jJ5 K,rd_less h,(aZ (cL (kG R (nR rfl T.n_zip (aB pV (aB pV aO))) (λ_ _ _ _=>(c0 (Zd T) R.r (aB pV (aB pV aO)))))))]
def jW5(T:Tx K mg):Ok P w K mg base CX0 1 "spread" (Jg K):=T.f57.ok λR h=>#[Nx K,jWt h,(aQ (sK R (gZ rfl T.n_range (aB pV aO)) (λ_ _ _ _=>(fU (aB aW (aB aW aO))))) (aQ (fA R (nR rfl T.n_zip (aB pV (aB pV aO))) (gN2 R) (aZ (rY pV (xW pV pV oQ)))) (aZ (cL pV))))]
def qZ(T:Tx K mg):OkM P w K mg base CX0 1 (dY K "Table") "sizes" (lF K):=T.f21_1.ok λR h=>#[sO K,Qo T.tt h,(aZ (cL (mS jL rfl T.n_list pU (aB (gQ pV rfl) aO))))]
def Pm(T:Tx K mg):Ok P w K mg base CX0 8 "weighed" (vA K):=T.f58.ok λR h=>#[Ih K,jZs h,(aQ (fT (cV xX pV nS (dF _)) Jm dR) (aQ (fT (cV Hq pV (iL pV pV) (by with_unfolding_all rfl)) Jm dR) (aQ (sA R (c0 (zU T) R.r (aB (bR uT (jX rF pV lN (lM pV)) (jX rF pV (lM (bR gX pV aW)) lN)) aO))) (aQ (sA R (c0 (Kz T) R.r (aB pV (aB pV (aB pV (aB pV aO)))))) (aQ (sA R (c0 (jUX T) R.r (aB (kA R (dL (iL pV pV)) (λ_ _ _ _=>(c0 (ok_less T) R.r (aB (c0 (Kz T) R.r (aB pV (aB pV (aB pV (aB pV aO))))) (aB pV aO))))) aO))) (aQ (fT (Ck (c0 (Ze T) R.r (aB (fU (aB aW (aB aW aO))) (aB (iT pV aW) aO)))) (aZ (cL (fU (aB Ib (aB (c0 (jW5 T) R.r (aB (iT pV aW) (aB (iL pV pV) (aB (iL (m0 pV T.tt.cl (qZ T) R.r) pV) aO)))) aO))))) dR) (aZ (cL (fU (aB Ib (aB (pe_dzip R.r.units rfl T.n_dict rfl T.n_zip rfl (aB pV (aB (iT pV aW) aO))) aO)))))))))))]
def Po(T:Tx K mg):Ok P w K mg base CX0 9 "_law_taken" (vC K):=T.f81.ok λR h=>#[Ip K,jZ0 h,(aQ (sK R (dL pV) (λ_ _ _ _=>(Mi rfl T.n_list rfl T.n_range rfl pV))) (aQ (sA R (kD aO)) (aQ (sA R (mR jW aW)) (aQ (wA (cV kS pV (cO cI rfl T.n_len fJ (aB pV aO)) (dF _)) (aQ (sA R (cO cI rfl T.n_len fJ (aB pV aO))) (aZ (fA R (dL pV) (gN2 R) (aZ (fT (cV Tb pV (iL pV pV) (by with_unfolding_all rfl)) (aQ (sA R (c0 (Pm T) R.r (aB pV (aB pV (aB pV (aB (kA R (dL pV) (λ_ _ _ _=>(mS jL rfl T.n_list pU (aB pV aO)))) aO)))))) (aZ (fT (cV Eh (iT pV aW) Ib (dF _)) (aQ (rY (kI R (dL (iL pV pV)) (λ_ _ _ _=>(cV Ef pV pV (dF _))) (λ_ _ _ _=>pV)) (xW pV pV oQ)) (aZ (kE (xQ PySem.F.plainAttrs_list PySem.F.slot_list_append PySem.F.type_list_append qC pV (aB (fU (aB pV (aB pV aO))) aO))))) dR))) dR)))))) (aZ (cL (fU (aB pV (aB pV aO)))))))))]
def Pp(T:Tx K mg):Ok P w K mg base CX0 1 "_law_right" (vD K):=T.f82.ok λR h=>#[Ir K,jZ3 h,(aZ (cL (jZW (oK (jZU 1 (fY (gH (by decide) _) R.r.units)) (iT pV aW) pV (dF _)) (jZY (oK (jZU 1 (fY (gH (by decide) _) R.r.units)) (kA R (dL (iT pV aW)) (λ_ _ _ _=>(jX Ek pV lN (lM aW)))) pV (dF _))))))]
def jJl(T:Tx K mg):Ok P w K mg base CX0 2 "pairs_of" (zE K):=T.f60.ok λR h=>#[Cu K,jJa h,(aQ (sA R (kD aO)) (aQ (fA R (En rfl T.n_enumerate (m0 pV T.tt.cl (qZ T) R.r)) (gN2 R) (aZ (kE (xQ PySem.F.plainAttrs_list PySem.F.slot_list_extend PySem.F.type_list_extend Th pV (aB (kA R (gZ rfl T.n_range (aB pV aO)) (λ_ _ _ _=>(fU (aB pV (aB pV aO))))) aO))))) (aZ (cL pV))))]
def jJp(T:Tx K mg):Ok P w K mg base CX0 2 "all_kept" (zI K):=T.f55.ok λR h=>#[Cz K,jJh h,(aZ (cL (kA R (dL (m0 pV T.tt.cl (qZ T) R.r)) (λ_ _ _ _=>(Mi rfl T.n_list rfl T.n_range rfl pV)))))]
def xA(T:Tx K mg):Ok P w K mg base CX0 9 "gone_through" (mI K):=T.f61.ok λR h=>#[qQ K,Lq h,(aQ (sA R Fe) (aQ (fA R (dL pV) (gN2 R) (aZ (fT (cV Tb pV (iL pV pV) (by with_unfolding_all rfl)) (aQ (sA R (c0 (Pm T) R.r (aB pV (aB pV (aB pV (aB pV aO)))))) (aZ (fT (cV Eh (iT pV aW) Ib (dF _)) (aQ (kE (xQ PySem.F.plainAttrs_list PySem.F.slot_list_remove PySem.F.type_list_remove Tg (iL pV pV) (aB pV aO))) (aZ (kE (xQ PySem.F.plainAttrs_list PySem.F.slot_list_append PySem.F.type_list_append qC pV (aB (fU (aB pV (aB pV (aB (iT pV aW) aO)))) aO))))) (aZ (Mg (xT R.r) pV (fU (aB pV (aB pV aO))) (iT pV aW) rfl))))) dR))) (aZ (cL pV))))]
def Te(T:Tx K mg):Okd P w K mg base CX0 10 "rounds" (An K):=T.f62.ok λR h=>#[Nz K,jWv h,(aQ (sA R (c0 (jJl T) R.r (aB pV aO))) (aQ (fT (cV xX pV nS (dF _)) (aZ (sA R pV)) dR) (aQ (fT (cV (jZV 1 (fY (gH (by decide) _) R.r.units)) (cO Ts rfl T.n_sorted Tz (aB pV aO)) pV (dF _)) Jm dR) (aQ (sA R (c0 (jJp T) R.r (aB pV aO))) (aQ (sA R (kD aO)) (aQ (sA R aW) (aQ (sA R (c0 (xA T) R.r (aB pV (aB pV (aB pV (aB pV aO)))))) (aQ (wA (cV kS pV (cO cI rfl T.n_len fJ (aB pV aO)) (dF _)) (aQ (sA R (cO cI rfl T.n_len fJ (aB pV aO))) (aZ (sA R (c0 (xA T) R.r (aB pV (aB pV (aB pV (aB pV aO))))))))) (aZ (cL (fU (aB pV (aB pV (aB pV aO))))))))))))))]
def law_fn(T:Tx K mg){f:Addr}{fd:FuncData}(F:xH K "law" "law" (top 83) .none f fd):xN P w K mg base CX0 11 f fd ["_law_script"] (Nf K):=F.fn λR h=>#[t_law K,rd_law h,(aQ (sA R (c0 (jXe T) R.r (aB pV aO))) (aQ (sA R (c0 (jXc T) R.r (aB pV (aB (c0 (jXh T) R.r (aB pV aO)) (aB pV aO))))) (aQ (fT (cV Ef (bR gI (c0 (gS T) R.r (aB pV (aB aW aO))) aW) aW (dF _)) (aZ (kE (c0 (jXj T) R.r (aB pV (aB pV (aB pV aO)))))) dR) (aQ (sA R (c0 (jXd T) R.r (aB pV (aB pV aO)))) (aQ (sA R (c0 (jXg T) R.r (aB pV (aB pV aO)))) (aQ (sA R (mS jL rfl T.n_list pU (aB pV aO))) (aQ (rY (c0 (Po T) R.r (aB pV (aB pV (aB pV aO)))) (gN2 R)) (aQ (fT (PW.pt (Rs (pt_not (Ck (c0 (Pp T) R.r (aB (c0 (Te T).ok R.r (aB pV (aB pV aO))) (aB pV (aB pV aO)))))) (Ia (cV (jZV 1 (fY (gH (by decide) _) R.r.units)) pV pV (dF _))))) (aZ (cL pe_bl)) dR) (aQ (rY (c0 (Po T) R.r (aB pV (aB pV (aB (cO Ts rfl T.n_sorted Tz (aB pV aO)) aO)))) (gN2 R)) (aZ (cL (jZW (oK (jZU 1 (fY (gH (by decide) _) R.r.units)) pV pV (dF _)) (jZY (c0 (Pp T) R.r (aB (c1 (Te T) R.r (aB pV aO)) (aB pV (aB pV aO)))))))))))))))))]
end
def CorK_mk(y:W.nsIn K mainGlobals "Corner"=some (some (.ref C)))(pg:PySem.W.plainGet K C Str.empty=true)(hd:PySem.W.hasDictIn K C=true)(po:PySem.W.plainOver K C=true)(sa:W.findIn K (.ref C) "__setattr__"=some (some (.builtin "object.__setattr__")))(b:W.findIn K (.ref C) "begun"=some none)(c:W.findIn K (.ref C) "spans"=some none)(d:W.findIn K (.ref C) "kept"=some none)(a:W.findIn K (.ref C) "inside"=some none):xJ K:=
 #[by rw[mX y];exact#[pg,hd,po,sa],by rw[mX y];exact b,by rw[mX y];exact c,by rw[mX y];exact d,by rw[mX y];exact a]
def TabK_mk(y:W.nsIn K mainGlobals "Table"=some (some (.ref C)))(pg:PySem.W.plainGet K C Str.empty=true)(hd:PySem.W.hasDictIn K C=true)(po:PySem.W.plainOver K C=true)(sa:W.findIn K (.ref C) "__setattr__"=some (some (.builtin "object.__setattr__")))(b:W.findIn K (.ref C) "many"=some none)(a:W.findIn K (.ref C) "cells"=some none):TabK K:=
 #[by rw[mX y];exact#[pg,hd,po,sa],by rw[mX y];exact b,by rw[mX y];exact a]
def fin{l:PySem.W.OpenLaw}{w:World}{mg:Str->Option Value}{I:Addr}(b:mg "law"=some (.ref I))(T:Tx K mg)(Z:∃f fd,xH K "law" "law" (top 83) .none f fd/\mg "law"=some (.ref f)):
  ∃fd:FuncData,(∀(s:Shared)(v:Value),BindsTo s fd #[[v],[]] [("_law_script",v)])/\∀base:Heap,K.In base->base.Ns mainGlobals mg->xN l.prog w K mg base CX0 11 I fd ["_law_script"] (Nf K):=by
 obtain⟨f,fd,F,hf⟩:=Z;rw[b]at hf;cases hf;have c:=F;obtain⟨Y,D,kV,i,z,C,a,ct,m,rfl,U,p⟩:=F.ex;exact#[_,λs v=>.of_eq rfl,λbase _ _=>law_fn T c]
def walk{l:PySem.W.OpenLaw}{q:Program}{t:List Str}{Q:(Str->Option Value)->Heap->Prop}{N:World->Heap->Prop}{d:DefRec}{K:Params->aR}(hn:l.most=some 63)(C:d.params.defaults=[])
  (b:∀(w:World)(h:Heap),N w h->(K w.params).In h)
  (F:∀(w:World)(mg:Str->Option Value)(I:Addr)(h:Heap),(K w.params).In h->h.Ns mainGlobals mg->mg d.name=some (.ref I)->
   ∃fd:FuncData,(∀(s:Shared)(u:Value),BindsTo s fd #[[u],[]] [("_law_script",u)])/\∀base:Heap,(K w.params).In base->base.Ns mainGlobals mg->xN l.prog w (K w.params) mg base CX0 11 I fd ["_law_script"] (Nf (K w.params))):
  PySem.W.WalkO q t Q N l.row.toRowW d [] (λf j=>PySem.call f j):=
 L2.walk_of (n:=63) (k:=11) (x:="_law_script") (CX:=λ_=>CX0) (sp:=λw=>Nf (K w.params)) hn (by decide) C #[rfl,by decide,by decide] b F (λ_ _ a ns S _ v=>#[a,ns,rfl,v,S,λ_=>rfl]) λ_ _ _ _ _ z=>z
end My
end
set_option Elab.async true
namespace PySem.Challenge.cw_mixplay_k35_rounds_in_order_holds
def tw13207479860762024239:=0
def tw4785738019318865571:=0
def tw5548052053656904024:=0
def tw11357408279939523681:=0
def tw11643421288881138702:=0
def tw17206860465389781308:=0
def tw2190504685576758394:=0
def tw3824425623277839490:=0
def tw11993176288634109725:=0
def tw17672199249449588467:=0
def tw13326469437693631448:=0
def tw12547545693782822720:=0
def tw1546844312756088296:=0
def tw7230792807512976401:=0
def tw12650071296983330121:=0
def tw3970829067405678195:=0
def tw4164249319122488312:=0
def tw1066060029102501705:=0
def tw58681799182343732:=0
def tw9022693424509265279:=0
def tw298697705535680054:=0
def tw10785558275054015435:=0
def tw17498884595604757257:=0
def tw14312697017092958651:=0
def tw3431312856568087169:=0
def tw2983598110181195657:=0
def tw11499329823816627304:=0
def tw3204190762932411877:=0
def tw12178684074798262926:=0
def tw15594542256765308220:=0
def tw14786296812215074282:=0
def tw12412423328195335210:=0
def tw2484313536998640686:=0
def tw8959295525103237706:=0
def tw17653377958745331875:=0
def tw3006122029532123179:=0
def tw17047714719882097397:=0
def tw9260142908874326081:=0
def tw5855785866762358098:=0
def tw17381950033900991890:=0
def tw3152679316357348408:=0
def tw3297303711144869897:=0
def tw1216668853790662873:=0
def tw10982240105015581095:=0
def tw2790263635106049872:=0
def tw7604144963618396323:=0
def tw18322200163148554947:=0
def tw2333753814381622673:=0
def tw4885747134978376905:=0
def tw7085803033033175643:=0
def tw8913686263838466345:=0
def tw9192092953394360217:=0
def tw11732875909346536166:=0
def tw17726924487085680679:=0
def tw10994055458558527620:=0
def tw14677679910021607428:=0
def tw14222779618092370295:=0
def tw1232120253878568599:=0
def tw6030752575541657503:=0
def tw14003722079622474953:=0
def tw14747517989946772699:=0
def tw14453482248204747015:=0
def tw4599557293235170221:=0
def tw16850199122626362064:=0
def tw13222982889430503989:=0
def tw2113915770911654089:=0
def tw14148176104980565598:=0
def tw2339480078817745134:=0
def tw4569213834175017662:=0
def tw1991345160354558735:=0
def tw7011711411501071873:=0
def tw342203435536765552:=0
def tw6184672847558866113:=0
def tw2786203289943250003:=0
def tw9116050065029806730:=0
def tw11983385481694282424:=0
def tw6421255394671787631:=0
def tw481656334907671505:=0
def tw16276100701412237061:=0
def tw18295106578657773452:=0
def tw36909645886388343:=0
def tw16383357820638198382:=0
def tw2727310463447062942:=0
def tw10916195845147230335:=0
def tw14560423072107387790:=0
def tw15697438774636068357:=0
def tw12307505526507856415:=0
def tw10727335249312344344:=0
def tw1464812083489680164:=0
def tw8325831318730371329:=0
def tw11777862562854257190:=0
def tw17650680320360451218:=0
def tw14990231381971031455:=0
def tw17813611060345337219:=0
def tw10482068533527938421:=0
def tw4758636635933721197:=0
def tw15924598347189796928:=0
def tw3633330024939318061:=0
def tw4410243893665842813:=0
def tw1956131966365641785:=0
def tw2451013176623017337:=0
def tw17401344129811075604:=0
def tw1216676733902408633:=0
def tw3201094930319315110:=0
def tw10908420624122746209:=0
def tw16455463401635289457:=0
def tw7930049593889045372:=0
def tw14235775499720440092:=0
def tw14397878203830183817:=0
def tw7944691915800071593:=0
def tw6276386742836917227:=0
def tw5909329002206811055:=0
def tw8637543455634969864:=0
def tw15074661441906887472:=0
def tw12952702611509503748:=0
def tw17722055027192774252:=0
def tw1694931695170784123:=0
def tw17988130125108700752:=0
def tw14472562484706311511:=0
def tw1309917290298140799:=0
def tw7058784763525874752:=0
def tw3240802154363892109:=0
def tw921023108411577936:=0
def tw9960520082243738685:=0
def tw3252442413949755289:=0
def tw4389087995545049699:=0
def tw9522842834979369851:=0
def tw12632937966610161939:=0
def tw11706689058137124498:=0
def tw15450237365393525254:=0
def tw8713902063524163162:=0
def tw15502856784433752014:=0
def tw17054791378064237807:=0
def tw1160437096551377016:=0
def tw6576718088330163586:=0
def tw1945182381146183366:=0
def tw85158773080078615:=0
def tw10226744593538108821:=0
def tw7168123601247918975:=0
def tw1205476726203132975:=0
def tw10724126553547110010:=0
def tw16699465090224260016:=0
def tw16985889319055478291:=0
def tw11037037965368680636:=0
def tw7846125288933729491:=0
def tw10762690355470762551:=0
def tw5370663749423535949:=0
def tw3385047588476250840:=0
def tw17581705012811989413:=0
def tw11630518516937897966:=0
def tw4796971314356084241:=0
def tw14188501643765595230:=0
def tw11788148853045729623:=0
def tw9323893765553975918:=0
def tw10351530320331404081:=0
def tw4408632236730261082:=0
def tw4582215227183752393:=0
def tw4583567173920536552:=0
def tw2401256334876223470:=0
def tw17156395203769699029:=0
def tw1962024410835376313:=0
def tw16961574765456080130:=0
def tw5445797195411674710:=0
def tw10089111482974640628:=0
def tw16507858520858640014:=0
def tw5922067653028239988:=0
def tw14052612178202331348:=0
def tw9770444832967005485:=0
def tw11749338426303308591:=0
def tw7305304758396477869:=0
def tw5793455195891394191:=0
def tw4477300265552707181:=0
def tw2199959002640017180:=0
def tw2440799439178365822:=0
def tw6051620691900662977:=0
def tw6495291662703635437:=0
def tw4042989799975594735:=0
def tw4948004830463528189:=0
def tw12511073281210531943:=0
def tw7992478191783020401:=0
def tw9726457793621868561:=0
def tw4998217794238547564:=0
def tw17843824634157345399:=0
def tw15275810742290557485:=0
def tw11234059912258381567:=0
def tw4514678790611500551:=0
def tw9399797862063712200:=0
def tw15997879572633090610:=0
def tw9740626583015938791:=0
def tw10814911815315696769:=0
def tw54727498433032658:=0
def tw9077991234485922445:=0
def tw5284023890176528183:=0
def tw9878666597263982700:=0
def tw8994874361601359685:=0
def tw8372050343184793733:=0
def tw11705186367859172512:=0
def tw16745463585944181334:=0
def tw8268988775135057702:=0
def tw5505663552562526816:=0
def tw10336150928874658899:=0
def tw14609895440893176716:=0
def tw8341537717060603689:=0
def tw17030455980825129370:=0
def tw3648590395206840508:=0
def tw8030848318429457839:=0
def tw17381782346748988580:=0
def tw4721534311151904064:=0
def tw15652037520924776189:=0
def tw9473399948177954195:=0
def tw951800647643636870:=0
def tw10247620921464169200:=0
def tw6416500104520375630:=0
def tw14376886258324750586:=0
def tw11563471974908841728:=0
def tw17230610709387804383:=0
def tw13925392341323363447:=0
def tw16543992184084589155:=0
def tw3961454246541950850:=0
def tw2421926341677456558:=0
def tw3420938121864005944:=0
def tw13423701096550059954:=0
def tw8082330220289102228:=0
def tw6095863684308372427:=0
def tw3671063411593691056:=0
def tw11119349551118645575:=0
def tw6018282671784322596:=0
def tw9274741984696025576:=0
def tw6027782161395880:=0
def tw16498556951667275531:=0
def tw15804800389657510769:=0
def tw10192838114635650433:=0
def tw6933344772160933491:=0
def tw2409902508705141966:=0
def tw3435366795786733489:=0
def tw13630447438671389167:=0
def tw14255369937815409370:=0
def tw7780230094842235924:=0
def tw15350445734833999774:=0
def tw1731126360300883097:=0
def tw17973188136314416099:=0
def tw6461606810461159401:=0
def tw6091275560545651014:=0
def tw17574728450109596876:=0
def tw11509427717525527324:=0
def tw13952638849678178301:=0
def tw6971209016555583512:=0
def tw550291056076605266:=0
def tw7741199949965075546:=0
def tw7624673046467110921:=0
def tw3518993033257392093:=0
def tw14005460805385451662:=0
def tw16750501007578012042:=0
def tw287876061468168407:=0
def tw3370423487874542824:=0
def tw14359927481265752472:=0
def tw14219493702593480824:=0
def tw9783913794282816015:=0
def tw9735426300833302543:=0
def tw5639604100960217543:=0
def tw18002035843203412808:=0
def tw5548253769801901347:=0
def tw242405801343286456:=0
def tw638325275307298689:=0
def tw5997693624480863602:=0
def tw5552896052170785159:=0
def tw451343974518793763:=0
def tw3450787768753987136:=0
def tw17437741580640480528:=0
def tw9749014478178203207:=0
def tw5999076530558932626:=0
def tw7164854552599449194:=0
def tw8458561904222143752:=0
def tw9263989385755182965:=0
def tw9937481972112180700:=0
def tw15600838214179804447:=0
def tw6990213827298010427:=0
def tw3598532872605886872:=0
def tw4271795904208228435:=0
def tw4740397417882792892:=0
def tw12029204268394615483:=0
def tw11180651504434700296:=0
def tw9330660899214177927:=0
def tw9164724763905490248:=0
def tw16108820477072807334:=0
def tw1580675713424279981:=0
def tw11156042187973544558:=0
def tw10307788912488482457:=0
def tw13848292240551927976:=0
def tw245266678595334442:=0
def tw7242375602940191657:=0
def tw2404531768691861370:=0
def tw10744941751002664872:=0
def tw8246294213903787504:=0
def tw13569466118162791082:=0
def tw1442681285586178626:=0
def tw3956870243423783347:=0
def tw16783183513648495704:=0
def tw9988143727882886862:=0
def tw7995194314473094400:=0
end PySem.Challenge.cw_mixplay_k35_rounds_in_order_holds
open PySem PySem.W PyProof.Rows
set_option maxRecDepth 100000 in
set_option maxHeartbeats 0 in
theorem PySem.Challenge.cw_mixplay_k35_rounds_in_order_holds : PySem.Challenge.rw_mixplay_k35_rounds_in_order.Holds := by
  w_on; o_law; z_head; (case hw => w_witness2)
  k_fill
  refine L2.walk_x (fun _ => rfl) (My.walk (l := PySem.Challenge.rw_mixplay_k35_rounds_in_order) rfl rfl (fun w h Y => Y) ?F)
  case F =>
    intro w mg fa h KX G hmg
    refine' My.fin hmg ?T (L2.law_mk KX G ?z1 ?z2 ?z3 ?z4)
    (case z1 => k_is)
    (case z2 => k_is)
    (case z3 => k_is)
    (case z4 => k_is)
    constructor
    all_goals first
      | (refine' L2.Df.mk' KX G ?a ?l ?c ?k; (case a => k_is); (case l => k_is); (case c => k_is); (case k => k_is))
      | (refine' L2.Df.mkD KX G ?a ?l ?c ?k ?d ?e ?b; (case a => k_is); (case l => k_is); (case c => k_is); (case k => k_is); (case d => k_is); (case e => rfl); (case b => first | exact fun _ _ _ _ _ _ => L2.ar4 fun _ _ _ _ => ⟨_, rfl, rfl⟩ | exact fun _ _ _ _ _ _ => L2.ar2 fun _ _ => ⟨_, rfl, rfl⟩))
      | (refine' L2.Dfd.mkD KX G ?a ?l ?c ?k ?d ?e ?b ?b2; (case a => k_is); (case l => k_is); (case c => k_is); (case k => k_is); (case d => k_is); (case e => rfl); (case b => exact fun _ _ _ _ _ _ => L2.ar2 fun _ _ => ⟨_, rfl, rfl⟩); (case b2 => exact fun _ _ _ _ _ _ => L2.ar1 fun _ => ⟨_, rfl, rfl⟩))
      | (refine' L2.Mf.mk' ?y ?a ?i ?l ?c ?k; (case y => k_is); (case a => k_is); (case i => k_is); (case l => k_is); (case c => k_is); (case k => k_is))
      | (refine' PySem.W.mg_none_of KX G ?z; (case z => k_is))
      | (refine' L2.cls_mk KX G ?y; (case y => k_is))
      | (refine' L2.mkc_mk ?y ?a ?b; (case y => k_is); (case a => k_is); (case b => k_is))
      | (refine' L2.gi_mk KX G ?z; (case z => k_is))
      | (refine' My.CorK_mk ?y ?g ?d ?o ?s ?n0 ?n1 ?n2 ?n3; (case y => k_is); (case g => k_is); (case d => k_is); (case o => k_is); (case s => k_is); (case n0 => k_is); (case n1 => k_is); (case n2 => k_is); (case n3 => k_is))
      | (refine' My.TabK_mk ?y ?g ?d ?o ?s ?n0 ?n1; (case y => k_is); (case g => k_is); (case d => k_is); (case o => k_is); (case s => k_is); (case n0 => k_is); (case n1 => k_is))

