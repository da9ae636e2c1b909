import PyProof.Rows.All
import Wide.All
import OpenK.AllK
import Wide.FinOn
import Lean
import PyProof.EqAt
import PyProof.EqKinds
import PyProof.TupleCall
import PySem.Challenge.RW_mixplay_k51_who_breaks_a_plan
set_option Elab.async false
set_option linter.all false
set_option maxRecDepth 100000
namespace L2
open PySem PySem.Spec PyProof.Rows
noncomputable abbrev Key:=Sum Int Str
noncomputable def keyIs:Key→Value→Bool
  | .inl k,v=>Value.isInt k v
  | .inr x,v=>Value.isStrOf x v
noncomputable def keyH (w:World):Key→Int
  | .inl k=>hashInt k
  | .inr x=>hashStr w x
theorem keyIs_shape:∀ {k:Key} {v:Value},keyIs k v=true→(∃ i t,k=Sum.inl i∧v=Value.int i t)∨(∃ x t,k=Sum.inr x∧v=Value.str x t)
  | .inl i,v,h=>by
    obtain ⟨t,e⟩:=Value.isInt_shape (k:=i) (v:=v) h
    exact .inl ⟨i,t,rfl,e⟩
  | .inr x,v,h=>by
    obtain ⟨t,e⟩:=Value.isStrOf_shape (x:=x) (v:=v) h
    exact .inr ⟨x,t,rfl,e⟩
theorem keyIs_int (i:Int) (t:Tok):keyIs (.inl i) (.int i t)=true:=by simp [keyIs,Value.isInt]
theorem keyIs_str (x:Str) (t:Tok):keyIs (.inr x) (.str x t)=true:=by simp [keyIs,Value.isStrOf]
theorem key_ll (a b:Int):decide ((Sum.inl a:Key)=Sum.inl b)=(a == b):=by
  by_cases e:a=b
  · subst e;simp
  · have h:¬ (Sum.inl a:Key)=Sum.inl b:=fun q=>e (Sum.inl.inj q)
    rw [decide_eq_false h]
    exact (beq_eq_false_iff_ne.mpr e).symm
theorem key_rr (a b:Str):decide ((Sum.inr a:Key)=Sum.inr b)=decide (a=b):=by
  by_cases e:a=b
  · subst e;simp
  · have h:¬ (Sum.inr a:Key)=Sum.inr b:=fun q=>e (Sum.inr.inj q)
    rw [decide_eq_false h,decide_eq_false e]
theorem key_lr (a:Int) (b:Str):decide ((Sum.inl a:Key)=Sum.inr b)=false:=decide_eq_false (fun q=>nomatch q)
theorem key_rl (a:Str) (b:Int):decide ((Sum.inr a:Key)=Sum.inl b)=false:=decide_eq_false (fun q=>nomatch q)
noncomputable def mixKind (prog:Program) (w:World):PySem.KeyKind prog w Key where
  is:=keyIs
  hash:=keyH w
  inj:=fun v a b ha hb=>by
    rcases keyIs_shape ha with ⟨i,t,rfl,rfl⟩ | ⟨x,t,rfl,rfl⟩
    · rcases keyIs_shape hb with ⟨j,u,rfl,e⟩ | ⟨y,u,rfl,e⟩
      · injection e with e1 _;rw [e1]
      · exact nomatch e
    · rcases keyIs_shape hb with ⟨j,u,rfl,e⟩ | ⟨y,u,rfl,e⟩
      · exact nomatch e
      · injection e with e1 _;rw [e1]
  byValue:=fun k v h=>by
    rcases keyIs_shape h with ⟨i,t,rfl,rfl⟩ | ⟨x,t,rfl,rfl⟩ <;> rfl
  pyHash:=fun hv h=>by
    rcases keyIs_shape hv with ⟨i,t,rfl,rfl⟩ | ⟨x,t,rfl,rfl⟩
    · exact wpAny_pyHash_int h
    · exact wpAny_pyHash_str h
  eqBool:=fun hu hv h=>by
    rcases keyIs_shape hu with ⟨i,t,rfl,rfl⟩ | ⟨x,t,rfl,rfl⟩
    · rcases keyIs_shape hv with ⟨j,u,rfl,rfl⟩ | ⟨y,u,rfl,rfl⟩
      · rw [key_ll] at h;exact wpAny_eqBool_int h
      · rw [key_lr] at h;exact SeqAt.EqAt.int_str i t y u _ _ _ _ h
    · rcases keyIs_shape hv with ⟨j,u,rfl,rfl⟩ | ⟨y,u,rfl,rfl⟩
      · rw [key_rl] at h;exact SeqAt.EqAt.str_int x t j u _ _ _ _ h
      · rw [key_rr] at h;exact wpAny_eqBool_str h
  «strs»:=fun k x t v h=>by
    rcases keyIs_shape h with ⟨i,u,rfl,e⟩ | ⟨y,u,rfl,e⟩
    · exact nomatch e
    · injection e with e1 _
      subst e1
      cases v <;> rfl
theorem mixKind_int (prog:Program) (w:World) (i:Int) (t:Tok):(mixKind prog w).is (.inl i) (.int i t)=true:=keyIs_int i t
theorem mixKind_str (prog:Program) (w:World) (x:Str) (t:Tok):(mixKind prog w).is (.inr x) (.str x t)=true:=keyIs_str x t
end L2
namespace L2
open PySem PySem.Spec PyProof.Rows
inductive V where
  | non | bl (b:Bool) | int (i:Int) | str (x:Str) | byt (b:Array UInt8) | flt (b:UInt64) | ref (a:Addr) | ty (n:String)
  deriving DecidableEq
noncomputable def RelV:V→Value→Prop
  | .non,u=>u=Value.none
  | .bl b,u=>u=Value.bool b
  | .int i,u=>∃ t,u=Value.int i t
  | .str x,u=>∃ t,u=Value.str x t
  | .byt b,u=>∃ t,u=Value.bytes b t
  | .flt b,u=>∃ t,u=Value.float b t
  | .ref a,u=>u=Value.ref a
  | .ty n,u=>u=Value.type n
noncomputable abbrev Vals:List V→List Value→Prop:=Paired RelV
theorem Vals.length {xs:List V} {us:List Value} (r:Vals xs us):xs.length=us.length:=Paired.length r
theorem Vals.get:∀ {xs:List V} {us:List Value} {i:Nat} {x:V},Vals xs us→xs[i]?=some x→∃ u,us[i]?=some u∧RelV x u
  | _,_,_,_,.nil,e=>by simp at e
  | _,_,0,_,.cons r _,e=>by simp at e;subst e;exact ⟨_,rfl,r⟩
  | _,_,i+1,x,.cons _ t,e=>by
    obtain ⟨u,h1,h2⟩:=Vals.get (i:=i) (x:=x) t (by simpa using e)
    exact ⟨u,by simpa using h1,h2⟩
theorem Vals.set {x:V} {u:Value} (r:RelV x u):∀ {xs:List V} {us:List Value} (i:Nat),Vals xs us→Vals (xs.set i x) (us.set i u)
  | _,_,_,.nil=>.nil
  | _,_,0,.cons _ t=>.cons r t
  | _,_,i+1,.cons q t=>.cons q (Vals.set r i t)
theorem Vals.append:∀ {xs ys:List V} {us ws:List Value},Vals xs us→Vals ys ws→Vals (xs ++ ys) (us ++ ws)
  | _,_,_,_,.nil,s=>s
  | _,_,_,_,.cons r t,s=>.cons r (Vals.append t s)
theorem Vals.take:∀ {xs:List V} {us:List Value} (n:Nat),Vals xs us→Vals (xs.take n) (us.take n)
  | _,_,0,_=>.nil
  | _,_,_+1,.nil=>.nil
  | _,_,n+1,.cons r t=>.cons r (Vals.take n t)
theorem Vals.drop:∀ {xs:List V} {us:List Value} (n:Nat),Vals xs us→Vals (xs.drop n) (us.drop n)
  | _,_,0,r=>r
  | _,_,_+1,.nil=>.nil
  | _,_,n+1,.cons _ t=>Vals.drop n t
theorem Vals.none_of:∀ {xs:List V} {us:List Value} {i:Nat},Vals xs us→xs[i]?=none→us[i]?=none:=fun {xs us i} r e=>by
  have h1:=r.length
  have h2:xs.length≤i:=List.getElem?_eq_none_iff.mp e
  exact List.getElem?_eq_none_iff.mpr (by omega)
noncomputable def RelO:Option V→Option Value→Prop
  | some v,some u=>RelV v u
  | none,none=>True
  | _,_=>False
noncomputable def KV {κ:Type}:List (κ×V)→List (κ×Value)→Prop:=Paired fun (p:κ×V) (q:κ×Value)=>p.1=q.1∧RelV p.2 q.2
noncomputable def kV:Key→V
  | .inl i=>.int i
  | .inr x=>.str x
inductive HO where
  /-- a list -/
  | lst (xs:List V)
  /-- a tuple (never changes) -/
  | tup (xs:List V)
  /-- a dict whose keys are ints and texts;one whose keys are tuples of ints and texts (the empty one is both) -/
  | dK (kvs:List (Key×V)) | dT (kvs:List (List Key×V))
  /-- a set of ints: its members,its size -/
  | set (S:Int→Bool) (n:Nat)
  /-- an instance of the class at C,its dict at dx,its attributes -/
  | ins (C dx:Addr) (fs:List (Str×V))
  /-- the dict of the instance at x -/
  | own (x:Addr)
  /-- the dict of an exception -/
  | xd (fs:List (Str×V))
  /-- a bound method,f of x -/
  | met (f x:Addr)
  /-- a range object lo,lo+1,.. below hi -/
  | rng (lo hi:Int)
  /-- a thing that is known to the object (the script;a dict while a loop walks it): read,never written while it is so -/
  | frz (o:Obj) (u:HO)
  /-- a code object's table -/
  | tbl (ps:Array Value)
  /-- any other thing,by what is true of its one object (a def of one's own: SetO a S n:=HO.ext fun h=>..) -/
  | ext (φ:Heap→Prop)
noncomputable abbrev Hp:=Addr→Option HO
noncomputable def upd (H:Hp) (a:Addr) (o:HO):Hp:=fun b=>if b=a then some o else H b
theorem upd_same {H:Hp} {a:Addr} {o:HO}:upd H a o a=some o:=by unfold upd;rw [if_pos rfl]
theorem upd_ne {H:Hp} {a b:Addr} {o:HO} (h:b≠a):upd H a o b=H b:=by unfold upd;rw [if_neg h]
theorem ne_of {H:Hp} {a b:Addr} {o u:HO} (h:H a=some o) (h':H b=some u) (d:o≠u):a≠b:=by
  intro e;subst e;rw [h] at h';exact d (Option.some.inj h')
theorem ne_of_none {H:Hp} {a b:Addr} {o:HO} (h:H a=some o) (h':H b=none):a≠b:=by
  intro e;subst e;rw [h] at h';cases h'
section
variable (P:Program) (w:World)
noncomputable def ObjOk (H:Hp) (h:Heap) (a:Addr):HO→Prop
  | .lst xs=>xs.length≤sizeLine∧∃ (its:List Value) (n:Nat),Vals xs its∧h.get? a=some { cls:=.type "list",data:=.seq its.toArray n }
  | .tup xs=>xs.length≤sizeLine∧∃ its:List Value,Vals xs its∧IsTup h a its.toArray
  | .dK kvs=>kvs.length≤sizeLine∧(a == sysModules)=false∧∃ vs,KV kvs vs∧h.DictOf (mixKind P w) a vs
  | .dT kvs=>kvs.length≤sizeLine∧(a == sysModules)=false∧∃ xs:List (List Key×Addr×Value),
      Paired (fun (p:List Key×V) (q:List Key×Addr×Value)=>p.1=q.1∧H q.2.1=some (.tup (p.1.map kV))∧RelV p.2 q.2.2) kvs xs ∧
      ∃ o es ep,h.get? a=some o∧o.ExactDict∧o.data=.dict es ep∧es.toList=xs.map (entryOfKey (tupleKind (mixKind P w)))∧(xs.map (·.1)).Nodup
  | .set S n=>h.SetOf (intKind P w) a S n
  | .ins C dx fs=>H dx=some (.own a)∧fs.length≤1000∧dx≠a∧h.get? a=some (PySem.W.instObj C dx) ∧
      ∃ mA,h.Ns1 dx mA∧(∀ f,RelO (fs.lookup f) (mA f))∧PySem.Within mA (fs.map (·.1))
  | .own _=>∃ o,h.get? a=some o
  | .xd fs=>∃ mA,h.Ns1 a mA∧∀ f,RelO (fs.lookup f) (mA f)
  | .rng lo hi=>∃ t u v,h.get? a=some { cls:=.type "range",data:=.fields #[.int lo t,.int hi u,.int 1 v] }
  | .frz o u=>h.get? a=some o∧ObjOk H h a u
  | .tbl ps=>h.get? a=some { cls:=.none,data:=.fields ps }
  | .met f x=>h.get? a=some (PySem.W.methodObj (.ref f) (.ref x))
  | .ext φ=>φ h∧(∃ o,h.get? a=some o)∧∀ h1 h2:Heap,φ h1→(∀ o,h1.get? a=some o→h2.get? a=some o)→φ h2
noncomputable def HOk (H:Hp) (h:Heap):Prop:=∀ a o,H a=some o→ObjOk P w H h a o
end
section
variable {P:Program} {w:World} {H H':Hp} {h h':Heap} {a:Addr} {o:HO}
theorem ObjOk.lt (x:ObjOk P w H h a o):a < h.objs.size:=by
  cases o with
  | lst xs=>obtain ⟨_,_,_,_,e⟩:=x;exact Heap.lt_size e
  | tup xs=>obtain ⟨_,_,_,p⟩:=x;exact p.lt
  | dK kvs=>obtain ⟨_,_,_,_,o,_,_,e,_⟩:=x;exact Heap.lt_size e
  | dT kvs=>obtain ⟨_,_,_,_,o,_,_,e,_⟩:=x;exact Heap.lt_size e
  | set S n=>obtain ⟨o,_,_,_,e,_⟩:=x;exact Heap.lt_size e
  | ins C dx fs=>obtain ⟨_,_,_,e,_⟩:=x;exact Heap.lt_size e
  | own y=>obtain ⟨_,e⟩:=x;exact Heap.lt_size e
  | xd fs=>obtain ⟨_,⟨_,_,_,e,_⟩,_⟩:=x;exact Heap.lt_size e
  | rng lo hi=>obtain ⟨_,_,_,e⟩:=x;exact Heap.lt_size e
  | frz ob u=>obtain ⟨e,_⟩:=x;exact Heap.lt_size e
  | tbl ps=>exact Heap.lt_size (show h.get? a=some _ from x)
  | met f y=>exact Heap.lt_size (show h.get? a=some _ from x)
  | ext φ=>obtain ⟨_,⟨_,e⟩,_⟩:=x;exact Heap.lt_size e
theorem Paired.mapP {α β:Type} {F G:α→β→Prop}:∀ {l₁:List α} {l₂:List β},Paired F l₁ l₂→(∀ a b,F a b→G a b)→Paired G l₁ l₂
  | _,_,.nil,_=>.nil
  | _,_,.cons r t,f=>.cons (f _ _ r) (Paired.mapP t f)
theorem ObjOk.stay (x:ObjOk P w H h a o) (k:∀ b u,(b=a∨H b=some (.own a))→h.get? b=some u→h'.get? b=some u)
    (ho:∀ b,H b=some (.own a)→H' b=some (.own a)) (ht:∀ b xs,H b=some (.tup xs)→H' b=some (.tup xs)):ObjOk P w H' h' a o:=by
  induction o with
  | lst xs=>obtain ⟨z,its,n,r,e⟩:=x;exact ⟨z,its,n,r,k _ _ (.inl rfl) e⟩
  | tup xs=>obtain ⟨z,its,r,ob,e,c⟩:=x;exact ⟨z,its,r,ob,k _ _ (.inl rfl) e,c⟩
  | dK kvs=>obtain ⟨z,y,vs,r,ob,es,ep,e,c⟩:=x;exact ⟨z,y,vs,r,ob,es,ep,k _ _ (.inl rfl) e,c⟩
  | dT kvs =>
    obtain ⟨z,y,xs,r,ob,es,ep,e,c⟩:=x
    exact ⟨z,y,xs,Paired.mapP r fun p q z=>⟨z.1,ht _ _ z.2.1,z.2.2⟩,ob,es,ep,k _ _ (.inl rfl) e,c⟩
  | set S n=>obtain ⟨ob,es,ep,t,e,c⟩:=x;exact ⟨ob,es,ep,t,k _ _ (.inl rfl) e,c⟩
  | ins C dx fs =>
    obtain ⟨d,z,ne,e,mA,⟨od,es,ep,e2,c⟩,r⟩:=x
    exact ⟨ho _ d,z,ne,k _ _ (.inl rfl) e,mA,⟨od,es,ep,k _ _ (.inr d) e2,c⟩,r⟩
  | own y=>obtain ⟨ob,e⟩:=x;exact ⟨ob,k _ _ (.inl rfl) e⟩
  | xd fs=>obtain ⟨mA,⟨od,es,ep,e,c⟩,r⟩:=x;exact ⟨mA,⟨od,es,ep,k _ _ (.inl rfl) e,c⟩,r⟩
  | rng lo hi=>obtain ⟨t,u,v,e⟩:=x;exact ⟨t,u,v,k _ _ (.inl rfl) e⟩
  | frz ob u ih=>obtain ⟨e,q⟩:=x;exact ⟨k _ _ (.inl rfl) e,ih q⟩
  | tbl ps =>
    have e:h.get? a=some { cls:=.none,data:=.fields ps }:=x
    show h'.get? a=some { cls:=.none,data:=.fields ps }
    exact k a _ (.inl rfl) e
  | met f y =>
    have e:h.get? a=some (PySem.W.methodObj (.ref f) (.ref y)):=x
    show h'.get? a=some (PySem.W.methodObj (.ref f) (.ref y))
    exact k a _ (.inl rfl) e
  | ext φ=>obtain ⟨p,⟨o,e⟩,st⟩:=x;exact ⟨st _ _ p fun o q=>k _ _ (.inl rfl) q,⟨o,k _ _ (.inl rfl) e⟩,st⟩
theorem HOk.lt (x:HOk P w H h) (e:H a=some o):a < h.objs.size:=(x a o e).lt
theorem HOk.fresh (x:HOk P w H h) (e:h.objs.size≤a):H a=none:=by
  cases q:H a with
  | none=>rfl
  | some u=>exact absurd (Nat.lt_of_lt_of_le (x.lt q) e) (Nat.lt_irrefl _)
theorem HOk.kept (x:HOk P w H h) (k:∀ b u,h.get? b=some u→h'.get? b=some u):HOk P w H h':=fun a o e =>
  (x a o e).stay (fun b u _ q=>k b u q) (fun _ q=>q) fun _ _ q=>q
theorem HOk.laid (x:HOk P w H h) (k:∀ b u,h.get? b=some u→h'.get? b=some u) (hp:h.objs.size≤a) (new:ObjOk P w (upd H a o) h' a o):HOk P w (upd H a o) h':=fun b u e=>by
  have hn:=x.fresh hp
  by_cases hb:b=a
  · subst hb;rw [upd_same] at e;cases e;exact new
  · rw [upd_ne hb] at e
    exact (x b u e).stay (fun c v _ q=>k c v q) (fun c q=>by rw [upd_ne (ne_of_none q hn)];exact q) fun c xs q=>by rw [upd_ne (ne_of_none q hn)];exact q
end
noncomputable def Rd (H:Hp) (a:Addr) (u:HO):Prop:=H a=some u∨∃ o,H a=some (.frz o u)
theorem Rd.of {H:Hp} {a:Addr} {u:HO} (h:H a=some u):Rd H a u:=.inl h
theorem Rd.ok {P:Program} {w:World} {H:Hp} {h:Heap} {a:Addr} {u:HO} (r:Rd H a u) (x:HOk P w H h):ObjOk P w H h a u:=by
  rcases r with r | ⟨o,r⟩
  · exact x a u r
  · obtain ⟨_,q⟩:=x a _ r
    exact q
noncomputable def Mut:Option HO→Prop
  | some (.lst _)=>True
  | some (.dK _)=>True
  | some (.dT _)=>True
  | some (.set _ _)=>True
  | some (.ins _ _ _)=>True
  | some (.ext _)=>True
  | _=>False
section
variable {P:Program} {w:World} {H:Hp} {h h':Heap} {x e:Addr} {o':HO}
theorem HOk.write (ok:HOk P w H h) (mu:Mut (H x)) (he:e=x∨H e=some (.own x)) (k:∀ b u,b≠e→h.get? b=some u→h'.get? b=some u) (heo:∃ u,h'.get? e=some u)
    (new:ObjOk P w (upd H x o') h' x o'):HOk P w (upd H x o') h':=fun b u q=>by
  have nown:∀ c y,H c=some (.own y)→c≠x:=fun c y r z=>by subst z;rw [r] at mu;exact mu
  have ntup:∀ c xs,H c=some (.tup xs)→c≠x:=fun c xs r z=>by subst z;rw [r] at mu;exact mu
  by_cases hb:b=x
  · subst hb;rw [upd_same] at q;cases q;exact new
  · rw [upd_ne hb] at q
    by_cases hbe:b=e
    · have q':H b=some (.own x):=by
        rcases he with z | z
        · exact absurd (hbe.trans z) hb
        · rw [hbe];exact z
      rw [q] at q';cases q'
      obtain ⟨v,hv⟩:=heo
      exact ⟨v,by rw [hbe];exact hv⟩
    · refine (ok b u q).stay (fun c v hc r=>k c v ?_ r) (fun c r=>by rw [upd_ne (nown c b r)];exact r) fun c xs r=>by rw [upd_ne (ntup c xs r)];exact r
      rcases hc with rfl | hc
      · exact hbe
      · rintro rfl
        rcases he with z | z
        · exact nown c b hc z
        · rw [hc] at z;cases z;exact hb rfl
end
structure Un (fs ex:List Addr) (H H':Hp) (h h':Heap):Prop where
  keep:∀ b o,h.get? b=some o→H b=none→b∉fs→b∉ex→h'.get? b=some o
  slot:∀ b o,h.get? b=some o→H b=none→b∈fs→b∉ex→∃ sl,h'.get? b=some { o with slots:=sl }
  free:∀ b o,h.get? b=some o→H b=none→b∉ex→H' b=none
  there:∀ b o,h.get? b=some o→b∉ex→∃ o',h'.get? b=some o'
  tups:∀ b xs,H b=some (.tup xs)→H' b=some (.tup xs)
  frzs:∀ b o u,H b=some (.frz o u)→H' b=some (.frz o u)
  tbls:∀ b ps,H b=some (.tbl ps)→∃ more,H' b=some (.tbl (ps ++ more))
section
variable {fs fs' ex ex':List Addr} {H H1 H2:Hp} {h h1 h2 h':Heap} {a x e:Addr} {o:HO}
theorem Un.any (u:Un fs ex H H1 h h1) {b:Addr} {ob:Obj} (q:h.get? b=some ob) (n:H b=none) (hx:b∉ex):∃ sl,h1.get? b=some { ob with slots:=sl }:=by
  by_cases hb:b∈fs
  · exact u.slot b ob q n hb hx
  · exact ⟨ob.slots,u.keep b ob q n hb hx⟩
theorem Un.trans (a:Un fs ex H H1 h h1) (b:Un fs ex H1 H2 h1 h2):Un fs ex H H2 h h2 where
  keep:=fun c ob q n hc hx=>b.keep c ob (a.keep c ob q n hc hx) (a.free c ob q n hx) hc hx
  slot:=fun c ob q n hc hx=>by
    obtain ⟨sl,e1⟩:=a.slot c ob q n hc hx
    obtain ⟨sl',e2⟩:=b.slot c _ e1 (a.free c ob q n hx) hc hx
    exact ⟨sl',e2⟩
  free:=fun c ob q n hx=>by
    obtain ⟨o',e1⟩:=a.there c ob q hx
    exact b.free c o' e1 (a.free c ob q n hx) hx
  there:=fun c ob q hx=>by
    obtain ⟨o',e1⟩:=a.there c ob q hx
    exact b.there c o' e1 hx
  tups:=fun c xs q=>b.tups c xs (a.tups c xs q)
  frzs:=fun c ob xs q=>b.frzs c ob xs (a.frzs c ob xs q)
  tbls:=fun c ps q=>by
    obtain ⟨m1,e1⟩:=a.tbls c ps q
    obtain ⟨m2,e2⟩:=b.tbls c _ e1
    exact ⟨m1 ++ m2,by rw [e2,Array.append_assoc]⟩
theorem Un.kept (k:∀ b u,h.get? b=some u→h'.get? b=some u):Un fs ex H H h h' :=
  ⟨fun b ob q _ _ _=>k b ob q,fun b ob q _ _ _=>⟨ob.slots,k b ob q⟩,fun _ _ _ n _=>n,fun b ob q _=>⟨ob,k b ob q⟩,fun _ _ q=>q,fun _ _ _ q=>q,fun _ ps q=>⟨#[],by rw [q];simp⟩⟩
theorem Un.refl:Un fs ex H H h h:=Un.kept fun _ _ q=>q
theorem Un.laid (k:∀ b u,h.get? b=some u→h'.get? b=some u) (hp:h.objs.size≤a) (hn:H a=none):Un fs ex H (upd H a o) h h' where
  keep:=fun b u q _ _ _=>k b u q
  slot:=fun b u q _ _ _=>⟨u.slots,k b u q⟩
  free:=fun b u q n _=>by rw [upd_ne (Nat.ne_of_lt (Nat.lt_of_lt_of_le (Heap.lt_size q) hp))];exact n
  there:=fun b u q _=>⟨u,k b u q⟩
  tups:=fun b xs q=>by rw [upd_ne (ne_of_none q hn)];exact q
  frzs:=fun b u xs q=>by rw [upd_ne (ne_of_none q hn)];exact q
  tbls:=fun b ps q=>⟨#[],by rw [upd_ne (ne_of_none q hn),q];simp⟩
theorem Un.write (mu:Mut (H x)) (he:e=x∨H e=some (.own x)) (k:∀ b u,b≠e→h.get? b=some u→h'.get? b=some u) (heo:∃ u,h'.get? e=some u):Un fs ex H (upd H x o) h h':=by
  have hx:∀ b,H b=none→b≠x:=fun b n z=>by subst z;rw [n] at mu;exact mu
  have hb:∀ b,H b=none→b≠e:=fun b n z=>by
    subst z
    rcases he with r | r
    · exact hx b n r
    · rw [n] at r;cases r
  have hm:∀ b u,H b=some u→¬ Mut (some u)→b≠x:=fun b u q nm z=>by subst z;rw [q] at mu;exact nm mu
  refine ⟨fun b u q n _ _=>k b u (hb b n) q,fun b u q n _ _=>⟨u.slots,k b u (hb b n) q⟩,fun b u q n _=>by rw [upd_ne (hx b n)];exact n,fun b u q _=>?_,
    fun b xs q=>by rw [upd_ne (hm b _ q fun z=>z)];exact q,fun b u xs q=>by rw [upd_ne (hm b _ q fun z=>z)];exact q,fun b ps q=>⟨#[],by rw [upd_ne (hm b _ q fun z=>z),q];simp⟩⟩
  by_cases hbe:b=e
  · subst hbe;exact heo
  · exact ⟨u,k b u hbe q⟩
theorem Un.mono (u:Un fs ex H H1 h h1) (hs:∀ b∈fs,b∈fs') (hx:∀ b∈ex,b∈ex'):Un fs' ex' H H1 h h1 :=
  ⟨fun b ob q n hb he=>u.keep b ob q n (fun z=>hb (hs b z)) fun z=>he (hx b z),fun _ _ q n _ he=>u.any q n fun z=>he (hx _ z),fun b ob q n he=>u.free b ob q n fun z=>he (hx b z),fun b ob q he=>u.there b ob q fun z=>he (hx b z),u.tups,u.frzs,u.tbls⟩
end
noncomputable def trk (h:Heap) (H:Hp):List Addr:=(List.range h.objs.size).filter fun a=>(H a).isSome
noncomputable def hidT (h:Heap) (H:Hp):Heap:=PySem.W.hideAll h (trk h H)
theorem hidT_size (h:Heap) (H:Hp):(hidT h H).objs.size=h.objs.size:=PySem.W.hideAll_size _ _
theorem hidT_get {h:Heap} {H:Hp} {b:Addr} {o:Obj} (e:h.get? b=some o) (n:H b=none):(hidT h H).get? b=some o :=
  PySem.W.hideAll_get _ e fun hm=>by
    have q:(H b).isSome=true:=(List.mem_filter.mp hm).2
    rw [n] at q;simp at q
theorem of_hidT {h:Heap} {H:Hp} {b:Addr} {o:Obj} (e:(hidT h H).get? b=some o):h.get? b=some o∧H b=none:=by
  have e':h.get? b=some o:=PySem.W.of_hideAll (trk h H) e
  refine ⟨e',?_⟩
  cases q:H b with
  | none=>rfl
  | some x =>
    have hm:b∈trk h H:=List.mem_filter.mpr ⟨List.mem_range.mpr (Heap.lt_size e'),by simp [q]⟩
    have z:(hidT h H).get? b=none:=PySem.W.hideAll_none (trk h H) hm
    rw [z] at e;cases e
noncomputable def allNews (g h:Heap) (L:Addr):List (Addr×Obj):=(List.range h.objs.size).filterMap fun a=>if a=L∨(g.get? a).isSome=true then none else (h.get? a).map fun o=>(a,o)
noncomputable def rest (g h:Heap) (L d:Addr):List (Addr×Obj):=(allNews g h L).filter fun p=>decide (p.1≠d)
end L2
namespace L2
open PySem PySem.Spec PyProof.Rows
structure Mod (K:PySem.W.Frag) (mg:Str→Option Value) (base:Heap):Prop where
  kin:K.In base
  glob:base.Ns mainGlobals mg
  blt:∃ mb,base.Ns builtinsNs mb∧∀ x:Str,x ≠ "__name__" → mb x=bootBuiltins x
  nolimit:base.NoLimit
structure Cx where
  prog:Program
  w:World
  K:PySem.W.Frag
  mg:Str→Option Value
  base:Heap
  A:Around
  N:List Str
  s₀:Shared
  H₀:Hp
  env:Env
  outer:List Env
  stack:List Env
  ex:List Addr
  fn:Str→Bool
  calm:Bool
  pn:List (Addr×Obj)
  xe:Value→Shared→Prop
noncomputable def frs (l:List Env):List Addr:=l.filterMap (·.frame)
noncomputable abbrev Cx.fs (X:Cx):List Addr:=frs X.outer
noncomputable def Vis (sc:Scope) (x:Str):Prop:=sc.names.lookup x=some .local∨sc.names.lookup x=some .cell∨sc.names.lookup x=some .free
noncomputable def Loc (sc:Scope) (x:Str):Prop:=sc.names.lookup x=some .local∨sc.names.lookup x=some .cell
noncomputable def Look (env:Env) (h:Heap) (m:Str→Option Value) (x:Str) (u:Value):Prop :=
  (env.kindOf x=some .local∧m x=some u)∨((env.kindOf x=some .cell∨env.kindOf x=some .free)∧∃ c,env.cells.lookup x=some c∧h.IsCell c (some u))
structure Cx.Ok (X:Cx):Prop where
  mod:Mod X.K X.mg X.base
  kind:X.env.scope.kind=.function
  glob:X.env.globals=mainGlobals
  blt:X.env.builtins=builtinsNs
  above:X.s₀.heap.objs.size≤X.env.locals
  inj:∀ x y c,X.env.cells.lookup x=some c→X.env.cells.lookup y=some c→x=y
  has:∀ x,(X.env.kindOf x=some .cell∨X.env.kindOf x=some .free)→∃ c,X.env.cells.lookup x=some c
  cab:∀ x c,X.fn x=true→X.env.cells.lookup x=some c→X.s₀.heap.objs.size≤c
  hd:X.calm=true→X.A.handled=none
  frames:X.A.frames=some X.stack
  stk:X.stack=X.outer∨(X.stack=X.env :: X.outer∧X.env.frame=some X.env.locals)
  exf:∀ b∈X.ex,b≠X.env.locals∧∀ x c,X.env.cells.lookup x=some c→c≠b
  bs:∀ b o,X.base.get? b=some o→X.s₀.heap.get? b=some o∧X.H₀ b=none
  bsz:X.base.objs.size≤X.s₀.heap.objs.size
  noex:∀ b o,X.base.get? b=some o→b∉X.ex
  exfs:∀ b∈X.ex,b∉X.fs
  funs:X.s₀.heap.FunFrames X.base X.outer
  frf:∀ b∈X.fs,X.H₀ b=none
structure Inv (X:Cx) (pins:List (Addr×Obj)) (σ:List (Option V)) (H:Hp) (s:Shared):Prop where
  ok:X.Ok
  os:s.os=X.s₀.os
  bare:AllBare s.gens
  base:Un X.fs X.ex X.H₀ H X.s₀.heap s.heap
  loc:∃ m,s.heap.Ns X.env.locals m∧∀ (i:Nat) (x:Str) (v:V),X.N[i]?=some x→σ[i]?=some (some v)→Vis X.env.scope x→∃ u,RelV v u∧Look X.env s.heap m x u
  cell:∀ x c,X.env.cells.lookup x=some c→∃ v,s.heap.IsCell c v
  free:H X.env.locals=none
  freeC:∀ x c,X.env.cells.lookup x=some c→H c=none
  pin:∀ p∈X.pn ++ pins,s.heap.get? p.1=some p.2∧H p.1=none∧p.1≠X.env.locals∧p.1∉X.fs∧∀ v,p.2.data≠.cell v
  hok:HOk X.prog X.w H s.heap
  len:σ.length=X.N.length
section
variable {X:Cx} {pins:List (Addr×Obj)} {σ:List (Option V)} {H H':Hp} {s:Shared} {h':Heap}
theorem Cx.Ok.nofr (ok:X.Ok) {b:Addr} {o:Obj} (e:X.base.get? b=some o):b∉X.fs:=fun hb=>by
  have:=(ok.funs.mem hb).1
  rw [e] at this;cases this
theorem Inv.bs (I:Inv X pins σ H s):∀ b o,X.base.get? b=some o→s.heap.get? b=some o∧H b=none:=fun b o e =>
  ⟨I.base.keep b o (I.ok.bs b o e).1 (I.ok.bs b o e).2 (I.ok.nofr e) (I.ok.noex b o e),I.base.free b o (I.ok.bs b o e).1 (I.ok.bs b o e).2 (I.ok.noex b o e)⟩
theorem Inv.bk (I:Inv X pins σ H s):∀ b o,X.base.get? b=some o→s.heap.get? b=some o:=fun b o e=>(I.bs b o e).1
theorem Inv.mod (I:Inv X pins σ H s):Mod X.K X.mg X.base:=I.ok.mod
theorem Inv.kIn (I:Inv X pins σ H s):X.K.In s.heap:=I.ok.mod.kin.keeps I.bk
theorem Inv.nolimit (I:Inv X pins σ H s):s.heap.NoLimit:=I.ok.mod.nolimit.keeps I.bk
theorem Inv.fr (I:Inv X pins σ H s):∃ m,Fr X.base X.env.locals s.heap m :=
  let ⟨m,hn,_⟩:=I.loc
  ⟨m,hn,I.bk,Nat.le_trans I.ok.bsz I.ok.above⟩
theorem Inv.lt (I:Inv X pins σ H s):X.env.locals < s.heap.objs.size:=let ⟨_,hn,_⟩:=I.loc;hn.lt
theorem Inv.sz (I:Inv X pins σ H s):X.s₀.heap.objs.size≤s.heap.objs.size:=Nat.le_trans I.ok.above (Nat.le_of_lt I.lt)
theorem Inv.nofs (I:Inv X pins σ H s) {a:Addr} (h:s.heap.objs.size≤a):a∉X.fs:=fun hb=>by
  obtain ⟨_,o,ho,_⟩:=I.ok.funs.mem hb
  exact absurd (Nat.lt_of_lt_of_le (Heap.lt_size ho) (Nat.le_trans I.sz h)) (Nat.lt_irrefl _)
theorem Inv.cne (I:Inv X pins σ H s):∀ x c,X.env.cells.lookup x=some c→c≠X.env.locals:=fun x c e z=>by
  obtain ⟨v,o,ho,hd⟩:=I.cell x c e
  obtain ⟨m,⟨o',es,ep,ho',hd',_⟩,_⟩:=I.loc
  rw [z,ho'] at ho;cases ho;rw [hd'] at hd;cases hd
theorem Inv.funs (I:Inv X pins σ H s):s.heap.FunFrames X.base X.outer:=by
  have all:∀ (l:List Env),(∀ b∈frs l,b∈X.fs)→X.s₀.heap.FunFrames X.base l→s.heap.FunFrames X.base l:=by
    intro l
    induction l with
    | nil=>intro _ _;trivial
    | cons env r ih =>
      intro hs hl
      obtain ⟨hk,⟨L,o,hf,hn,ho,hd⟩,hr⟩:=hl
      have hL:L∈X.fs:=hs L (by unfold frs;rw [List.filterMap_cons,hf];exact List.mem_cons_self)
      obtain ⟨sl,e⟩:=I.base.slot L o ho (I.ok.frf L hL) hL fun z=>I.ok.exfs L z hL
      exact ⟨hk,⟨L,_,hf,hn,e,hd⟩,ih (fun b hb=>hs b (by unfold frs;rw [List.filterMap_cons,hf];exact List.mem_cons_of_mem _ hb)) hr⟩
  exact all X.outer (fun _ hb=>hb) I.ok.funs
theorem Inv.stack (I:Inv X pins σ H s):s.heap.FunFrames X.base X.stack:=by
  rcases I.ok.stk with e | ⟨e,hf⟩
  · rw [e];exact I.funs
  · rw [e]
    obtain ⟨m,hn,_⟩:=I.loc
    refine .cons (by rw [I.ok.kind];decide) hf hn ?_ I.funs
    exact Heap.get?_none_of_le (Nat.le_trans I.ok.bsz I.ok.above)
theorem Inv.stkSub (I:Inv X pins σ H s):∀ b∈frs X.stack,b∈X.env.locals :: X.fs:=fun b hb=>by
  rcases I.ok.stk with e | ⟨e,hf⟩
  · rw [e] at hb;exact List.mem_cons_of_mem _ hb
  · rw [e] at hb
    unfold frs at hb
    rw [List.filterMap_cons,hf] at hb
    exact hb
theorem Inv.stkFree (I:Inv X pins σ H s):∀ b∈frs X.stack,H b=none:=fun b hb=>by
  rcases List.mem_cons.mp (I.stkSub b hb) with e | hb
  · rw [e];exact I.free
  · obtain ⟨_,o,ho,_⟩:=I.ok.funs.mem hb
    exact I.base.free b o ho (I.ok.frf b hb) fun z=>I.ok.exfs b z hb
theorem Inv.step {g':Array GenState} {t':Nat} {d':Drawn} {ch:List Addr} (I:Inv X pins σ H s)
    (hch:∀ b∈ch,(b∈X.ex∨X.s₀.heap.objs.size≤b)∧b≠X.env.locals∧(∀ x c,X.env.cells.lookup x=some c→c≠b)∧∀ p∈X.pn ++ pins,p.1≠b)
    (keep:∀ b o,b≠X.env.locals→b∉X.fs→b∉ch→s.heap.get? b=some o→H b=none→h'.get? b=some o)
    (slot:∀ b o,b≠X.env.locals→b∈X.fs→b∉ch→s.heap.get? b=some o→H b=none→∃ sl,h'.get? b=some { o with slots:=sl }) (free:∀ b o,b∉ch→s.heap.get? b=some o→H b=none→H' b=none)
    (there:∀ b o,b∉ch→s.heap.get? b=some o→∃ o',h'.get? b=some o')
    (tups:∀ b xs,H b=some (.tup xs)→H' b=some (.tup xs)) (frzs:∀ b o u,H b=some (.frz o u)→H' b=some (.frz o u)) (tbls:∀ b ps,H b=some (.tbl ps)→∃ more,H' b=some (.tbl (ps ++ more)))
    (ns:∀ m,s.heap.Ns X.env.locals m→h'.Ns X.env.locals m) (hok:HOk X.prog X.w H' h') (hg:AllBare g') :
    Inv X pins σ H' { s with heap:=h',gens:=g',drawn:=d',toks:=t' }:=by
  have neL:∀ b o,X.s₀.heap.get? b=some o→b≠X.env.locals:=fun b o e=>Nat.ne_of_lt (Nat.lt_of_lt_of_le (Heap.lt_size e) I.ok.above)
  have neC:∀ b o,X.s₀.heap.get? b=some o→b∉X.ex→b∉ch:=fun b o e hx hb=>by
    rcases (hch b hb).1 with z | z
    · exact hx z
    · exact absurd (Nat.lt_of_lt_of_le (Heap.lt_size e) z) (Nat.lt_irrefl _)
  have cellK:∀ x c,X.env.cells.lookup x=some c→∀ v,s.heap.IsCell c v→h'.IsCell c v:=fun x c e v ⟨o,ho,hd⟩=>by
    have nch:c∉ch:=fun z=>(hch c z).2.2.1 x c e rfl
    by_cases hc:c∈X.fs
    · obtain ⟨sl,q⟩:=slot c o (I.cne x c e) hc nch ho (I.freeC x c e)
      exact ⟨_,q,hd⟩
    · exact ⟨o,keep c o (I.cne x c e) hc nch ho (I.freeC x c e),hd⟩
  refine ⟨I.ok,I.os,hg,⟨fun b o e n hb hx=>?_,fun b o e n hb hx=>?_,fun b o e n hx=>?_,fun b o e hx=>?_,fun b xs e=>tups b xs (I.base.tups b xs e),fun b o xs e=>frzs b o xs (I.base.frzs b o xs e),fun b ps e=>?_⟩,?_,fun x c e=>?_,?_,fun x c e=>?_,fun p hp=>?_,hok,I.len⟩
  · exact keep b o (neL b o e) hb (neC b o e hx) (I.base.keep b o e n hb hx) (I.base.free b o e n hx)
  · obtain ⟨sl,e1⟩:=I.base.slot b o e n hb hx
    obtain ⟨sl',e2⟩:=slot b _ (neL b o e) hb (neC b o e hx) e1 (I.base.free b o e n hx)
    exact ⟨sl',e2⟩
  · obtain ⟨o',e1⟩:=I.base.there b o e hx
    exact free b o' (neC b o e hx) e1 (I.base.free b o e n hx)
  · obtain ⟨o',e1⟩:=I.base.there b o e hx
    exact there b o' (neC b o e hx) e1
  · obtain ⟨m1,e1⟩:=I.base.tbls b ps e
    obtain ⟨m2,e2⟩:=tbls b _ e1
    exact ⟨m1 ++ m2,by rw [e2,Array.append_assoc]⟩
  · obtain ⟨m,hn,hl⟩:=I.loc
    refine ⟨m,ns m hn,fun i x v e1 e2 e3=>?_⟩
    obtain ⟨u,r,l⟩:=hl i x v e1 e2 e3
    refine ⟨u,r,?_⟩
    rcases l with l | ⟨k,c,e,z⟩
    · exact .inl l
    · exact .inr ⟨k,c,e,cellK x c e _ z⟩
  · obtain ⟨v,z⟩:=I.cell x c e
    exact ⟨v,cellK x c e v z⟩
  · obtain ⟨m,⟨o,_,_,ho,_⟩,_⟩:=I.loc
    exact free _ o (fun z=>(hch _ z).2.1 rfl) ho I.free
  · obtain ⟨v,o,ho,hd⟩:=I.cell x c e
    exact free c o (fun z=>(hch c z).2.2.1 x c e rfl) ho (I.freeC x c e)
  · obtain ⟨e,n,ne,nf,d⟩:=I.pin p hp
    have nch:p.1∉ch:=fun z=>(hch p.1 z).2.2.2 p hp rfl
    exact ⟨keep p.1 p.2 ne nf nch e n,free p.1 p.2 nch e n,ne,nf,d⟩
theorem Inv.un {t':Nat} (I:Inv X pins σ H s) (u:Un X.fs [] H H' s.heap h') (hok:HOk X.prog X.w H' h'):Inv X pins σ H' { s with heap:=h',toks:=t' }:=by
  obtain ⟨m,⟨o,es,ep,ho,r⟩,_⟩:=id I.loc
  obtain ⟨sl,hL⟩:=u.any ho I.free (by simp)
  exact I.step (g':=s.gens) (d':=s.drawn) (ch:=[]) (fun _ z=>nomatch z) (fun b o _ hb _ e n=>u.keep b o e n hb (by simp)) (fun b o _ hb _ e n=>u.slot b o e n hb (by simp)) (fun b o _ e n=>u.free b o e n (by simp)) (fun b o _ e=>u.there b o e (by simp)) u.tups u.frzs u.tbls (fun m' hm=>by
    obtain ⟨o',es',ep',ho',r'⟩:=hm
    rw [ho] at ho';cases ho'
    exact ⟨_,es',ep',hL,r'⟩) hok I.bare
theorem Inv.call {g':Array GenState} {t':Nat} {d':Drawn} {ch:List Addr} (I:Inv X pins σ H s) (u:Un (frs X.stack) ch H H' s.heap h') (hok:HOk X.prog X.w H' h') (hg:AllBare g')
    (hch:∀ b∈ch,(b∈X.ex∨X.s₀.heap.objs.size≤b)∧b≠X.env.locals∧(∀ x c,X.env.cells.lookup x=some c→c≠b)∧∀ p∈X.pn ++ pins,p.1≠b) :
    Inv X pins σ H' { s with heap:=h',gens:=g',drawn:=d',toks:=t' }:=by
  obtain ⟨m,⟨o,es,ep,ho,r⟩,_⟩:=id I.loc
  obtain ⟨sl,hL⟩:=u.any ho I.free fun z=>(hch _ z).2.1 rfl
  exact I.step (ch:=ch) hch (fun b o hL hb hc e n=>u.keep b o e n (fun z=>(List.mem_cons.mp (I.stkSub b z)).elim hL hb) hc) (fun b o _ _ hc e n=>u.any e n hc) (fun b o hc e n=>u.free b o e n hc) (fun b o hc e=>u.there b o e hc) u.tups u.frzs u.tbls (fun m' hm=>by
    obtain ⟨o',es',ep',ho',r'⟩:=hm
    rw [ho] at ho';cases ho'
    exact ⟨_,es',ep',hL,r'⟩) hok hg
theorem Inv.turned {t':Nat} {it:Addr} (I:Inv X pins σ H s) (k:∀ b o,b≠it→s.heap.get? b=some o→h'.get? b=some o) (hn:H it=none) (hL:it≠X.env.locals)
    (h1:it∈X.ex∨X.s₀.heap.objs.size≤it) (h2:∀ x c,X.env.cells.lookup x=some c→c≠it) (h3:∀ p∈X.pn ++ pins,p.1≠it):Inv X pins σ H { s with heap:=h',toks:=t' }:=by
  have nit:∀ b u,H b=some u→b≠it:=fun b u e z=>by rw [z,hn] at e;cases e
  refine I.step (g':=s.gens) (d':=s.drawn) (ch:=[it]) (fun b hb=>?_) (fun b o _ _ hc e _=>k b o (fun z=>hc (by simp [z])) e) (fun b o _ _ hc e _=>⟨o.slots,k b o (fun z=>hc (by simp [z])) e⟩) (fun _ _ _ _ n=>n)
    (fun b o hc e=>⟨o,k b o (fun z=>hc (by simp [z])) e⟩) (fun _ _ e=>e) (fun _ _ _ e=>e) (fun b ps e=>⟨#[],by rw [e];simp⟩) (fun m hm=>?_) (fun b u e=>?_) I.bare
  · have e:b=it:=by simpa using hb
    subst e
    exact ⟨h1,hL,h2,h3⟩
  · obtain ⟨o,es,ep,ho,r⟩:=hm
    exact ⟨o,es,ep,k _ o (Ne.symm hL) ho,r⟩
  · refine (I.hok b u e).stay (fun c v hc q=>k c v ?_ q) (fun _ q=>q) fun _ _ q=>q
    rcases hc with z | z
    · rw [z];exact nit b u e
    · exact nit c _ z
theorem Inv.tok (I:Inv X pins σ H s) (t:Nat):Inv X pins σ H { s with toks:=t }:=I.un (h':=s.heap) (t':=t) Un.refl I.hok
theorem Inv.kept {t':Nat} (I:Inv X pins σ H s) (k:∀ b u,s.heap.get? b=some u→h'.get? b=some u):Inv X pins σ H { s with heap:=h',toks:=t' }:=I.un (Un.kept k) (I.hok.kept k)
theorem Inv.laid {a:Addr} {o:HO} {t':Nat} (I:Inv X pins σ H s) (k:∀ b u,s.heap.get? b=some u→h'.get? b=some u) (hp:s.heap.objs.size≤a) (new:ObjOk X.prog X.w (upd H a o) h' a o) :
    Inv X pins σ (upd H a o) { s with heap:=h',toks:=t' }:=I.un (Un.laid k hp (I.hok.fresh hp)) (I.hok.laid k hp new)
theorem Inv.write {x e:Addr} {o:HO} {t':Nat} (I:Inv X pins σ H s) (mu:Mut (H x)) (he:e=x∨H e=some (.own x)) (k:∀ b u,b≠e→s.heap.get? b=some u→h'.get? b=some u) (heo:∃ u,h'.get? e=some u)
    (new:ObjOk X.prog X.w (upd H x o) h' x o):Inv X pins σ (upd H x o) { s with heap:=h',toks:=t' }:=I.un (Un.write mu he k heo) (I.hok.write mu he k heo new)
theorem Inv.pins_of {pins':List (Addr×Obj)} (I:Inv X pins σ H s) (h:∀ p∈pins',s.heap.get? p.1=some p.2∧H p.1=none∧p.1≠X.env.locals∧p.1∉X.fs∧∀ v,p.2.data≠.cell v):Inv X pins' σ H s :=
  ⟨I.ok,I.os,I.bare,I.base,I.loc,I.cell,I.free,I.freeC,fun p hp=>(List.mem_append.mp hp).elim (fun z=>I.pin p (List.mem_append_left _ z)) (h p),I.hok,I.len⟩
theorem nodup_ix {N:List Str} (hN:N.Nodup) {i j:Nat} {x:Str} (a:N[i]?=some x) (b:N[j]?=some x):i=j:=by
  obtain ⟨h1,e1⟩:=List.getElem?_eq_some_iff.mp a
  obtain ⟨h2,e2⟩:=List.getElem?_eq_some_iff.mp b
  exact (List.getElem_inj hN).mp (e1.trans e2.symm)
theorem store_ok2 {M:Model} {A:Around} {E:Value→Shared→Prop} {i:Nat} {x:Str} {v:V} {u:Value} {Q:Unit→Shared→Prop} (I:Inv X pins σ H s) (hN:X.N.Nodup) (hi:X.N[i]?=some x) (hx:Loc X.env.scope x) (r:RelV v u)
    (h:∀ s',Inv X pins (σ.set i (some v)) H s'→(∃ a,Heap.SameBut a s.heap s'.heap∧(a=X.env.locals∨X.env.cells.lookup x=some a))→Q () s') (hf:X.fn x=true∨X.env.scope.names.lookup x=some .local:=by first | exact .inl rfl | exact .inr rfl | assumption):wpAny M A (storeName X.env x u) Q E s:=by
  obtain ⟨m,hn,hl⟩:=id I.loc
  have hcls:(X.env.scope.kind == .class || (X.env.scope.kind == .module && X.env.locals != X.env.globals))=false:=by rw [I.ok.kind];rfl
  have hiσ:i < σ.length:=by rw [I.len];exact (List.getElem?_eq_some_iff.mp hi).1
  have cne:=I.cne
  have tracked:∀ {a:Addr} {h':Heap},(∃ o,s.heap.get? a=some o∧H a=none)→Heap.SameBut a s.heap h'→HOk X.prog X.w H h':=fun {a h'} ha hs b ob e=>by
    obtain ⟨_,_,hfree⟩:=ha
    refine (I.hok b ob e).stay (fun c w' hc q=>(hs.2 c ?_).trans q) (fun _ q=>q) fun _ _ q=>q
    rintro rfl
    rcases hc with rfl | hc
    · rw [hfree] at e;cases e
    · rw [hfree] at hc;cases hc
  rcases hx with hk | hk
  · refine wpAny_storeName_local hk hn (fun h' hn' hs=>?_) hcls
    obtain ⟨oL,_,_,hoL,_⟩:=id hn
    refine h _ ⟨I.ok,I.os,I.bare,⟨fun b o e n hb hx=>?_,fun b o e n hb hx=>?_,I.base.free,fun b o e hx=>?_,I.base.tups,I.base.frzs,I.base.tbls⟩,⟨_,hn',fun j y v' e1 e2 e3=>?_⟩,fun y c e=>?_,I.free,I.freeC,fun p hp=>?_,tracked ⟨oL,hoL,I.free⟩ hs,by simpa using I.len⟩ ⟨_,hs,.inl rfl⟩
    · exact (hs.2 b (Nat.ne_of_lt (Nat.lt_of_lt_of_le (Heap.lt_size e) I.ok.above))).trans (I.base.keep b o e n hb hx)
    · obtain ⟨sl,e1⟩:=I.base.slot b o e n hb hx
      exact ⟨sl,(hs.2 b (Nat.ne_of_lt (Nat.lt_of_lt_of_le (Heap.lt_size e) I.ok.above))).trans e1⟩
    · obtain ⟨o',e1⟩:=I.base.there b o e hx
      exact ⟨o',(hs.2 b (Nat.ne_of_lt (Nat.lt_of_lt_of_le (Heap.lt_size e) I.ok.above))).trans e1⟩
    · by_cases hj:j=i
      · subst hj
        rw [hi] at e1;cases e1
        rw [List.getElem?_set_self hiσ] at e2
        cases e2
        exact ⟨u,r,.inl ⟨hk,by simp⟩⟩
      · rw [List.getElem?_set_ne (Ne.symm hj)] at e2
        obtain ⟨u',r',q⟩:=hl j y v' e1 e2 e3
        refine ⟨u',r',?_⟩
        rcases q with ⟨k,e⟩ | ⟨k,c,e,z⟩
        · refine .inl ⟨k,?_⟩
          have:y≠x:=fun e=>hj (nodup_ix hN e1 (e ▸ hi))
          simp [this,e]
        · exact .inr ⟨k,c,e,z.sameBut hs (cne y c e)⟩
    · obtain ⟨w',z⟩:=I.cell y c e
      exact ⟨w',z.sameBut hs (cne y c e)⟩
    · obtain ⟨e,n,ne,nf,d⟩:=I.pin p hp
      exact ⟨(hs.2 p.1 ne).trans e,n,ne,nf,d⟩
  · have hfn:X.fn x=true:=by
      rcases hf with z | z
      · exact z
      · rw [z] at hk;cases hk
    obtain ⟨c,hc⟩:=I.ok.has x (.inl hk)
    obtain ⟨w',z⟩:=I.cell x c hc
    refine wpAny_storeName_cell I.ok.kind hk hc z (fun h' hc' hs=>?_)
    obtain ⟨oc,hoc,hocd⟩:=id z
    refine h { s with heap:=h' } ⟨I.ok,I.os,I.bare,⟨fun b o e n hb hx=>?_,fun b o e n hb hx=>?_,I.base.free,fun b o e hx=>?_,I.base.tups,I.base.frzs,I.base.tbls⟩,⟨m,hn.sameBut hs (Ne.symm (cne x c hc)),fun j y v' e1 e2 e3=>?_⟩,fun y c' e=>?_,I.free,I.freeC,fun p hp=>?_,tracked ⟨oc,hoc,I.freeC x c hc⟩ hs,by simpa using I.len⟩ ⟨c,hs,.inr hc⟩
    · exact (hs.2 b (Nat.ne_of_lt (Nat.lt_of_lt_of_le (Heap.lt_size e) (I.ok.cab x c hfn hc)))).trans (I.base.keep b o e n hb hx)
    · obtain ⟨sl,e1⟩:=I.base.slot b o e n hb hx
      exact ⟨sl,(hs.2 b (Nat.ne_of_lt (Nat.lt_of_lt_of_le (Heap.lt_size e) (I.ok.cab x c hfn hc)))).trans e1⟩
    · obtain ⟨o',e1⟩:=I.base.there b o e hx
      exact ⟨o',(hs.2 b (Nat.ne_of_lt (Nat.lt_of_lt_of_le (Heap.lt_size e) (I.ok.cab x c hfn hc)))).trans e1⟩
    · by_cases hj:j=i
      · subst hj
        rw [hi] at e1;cases e1
        rw [List.getElem?_set_self hiσ] at e2
        cases e2
        exact ⟨u,r,.inr ⟨.inl hk,c,hc,hc'⟩⟩
      · rw [List.getElem?_set_ne (Ne.symm hj)] at e2
        obtain ⟨u',r',q⟩:=hl j y v' e1 e2 e3
        refine ⟨u',r',?_⟩
        rcases q with q | ⟨k,c',e,z'⟩
        · exact .inl q
        · refine .inr ⟨k,c',e,z'.sameBut hs ?_⟩
          rintro rfl
          exact hj (nodup_ix hN e1 (I.ok.inj _ _ _ e hc ▸ hi))
    · by_cases hcc:c'=c
      · subst hcc;exact ⟨_,hc'⟩
      · obtain ⟨w2,z2⟩:=I.cell y c' e
        exact ⟨w2,z2.sameBut hs hcc⟩
    · obtain ⟨e,n,ne,nf,d⟩:=I.pin p hp
      refine ⟨(hs.2 p.1 ?_).trans e,n,ne,nf,d⟩
      intro q
      rw [q,hoc] at e
      have q':oc=p.2:=Option.some.inj e
      exact d w' (by rw [← q'];exact hocd)
theorem store_ok {M:Model} {A:Around} {E:Value→Shared→Prop} {i:Nat} {x:Str} {v:V} {u:Value} {Q:Unit→Shared→Prop} (I:Inv X pins σ H s) (hN:X.N.Nodup) (hi:X.N[i]?=some x) (hx:Loc X.env.scope x) (r:RelV v u)
    (h:∀ s',Inv X pins (σ.set i (some v)) H s'→Q () s') (hf:X.fn x=true∨X.env.scope.names.lookup x=some .local:=by first | exact .inl rfl | exact .inr rfl | assumption):wpAny M A (storeName X.env x u) Q E s :=
  store_ok2 I hN hi hx r (fun s' I' _=>h s' I') hf
theorem Inv.call' {s':Shared} {ch:List Addr} (I:Inv X pins σ H s) (ho:s'.os=s.os) (u:Un (frs X.stack) ch H H' s.heap s'.heap) (hok:HOk X.prog X.w H' s'.heap) (hg:AllBare s'.gens)
    (hch:∀ b∈ch,(b∈X.ex∨X.s₀.heap.objs.size≤b)∧b≠X.env.locals∧(∀ x c,X.env.cells.lookup x=some c→c≠b)∧∀ p∈X.pn ++ pins,p.1≠b):Inv X pins σ H' s':=by
  obtain ⟨h',g',d',t',o'⟩:=s'
  have e:o'=s.os:=ho
  subst e
  exact I.call (g':=g') (t':=t') (d':=d') u hok hg hch
end
noncomputable abbrev XK:=Value→Option Addr→Hp→Prop
noncomputable abbrev St:=List (Option V)
noncomputable abbrev VK:=V→Hp→Prop
noncomputable abbrev TE:=St→Hp→VK→Prop
noncomputable abbrev TT:=St→Hp→(Bool→Hp→Prop)→Prop
noncomputable abbrev TA:=St→Hp→(List V→Hp→Prop)→Prop
structure Ends where
  nx:St→Hp→Prop
  rt:VK
  bk:St→Hp→Prop:=fun _ _=>False
  ct:St→Hp→Prop:=fun _ _=>False
noncomputable abbrev TS:=Ends→St→Hp→Prop
noncomputable def EP (X:Cx) (pins:List (Addr×Obj)) (σ:St) (Q:VK) (u:Value) (s':Shared):Prop:=∃ v H',Inv X pins σ H' s'∧RelV v u∧Q v H'
noncomputable def TP (X:Cx) (pins:List (Addr×Obj)) (σ:St) (Q:Bool→Hp→Prop) (b:Bool) (s':Shared):Prop:=∃ H',Inv X pins σ H' s'∧Q b H'
noncomputable def AP (X:Cx) (pins:List (Addr×Obj)) (σ:St) (Q:List V→Hp→Prop) (us:List Value) (s':Shared):Prop:=∃ vs H',Inv X pins σ H' s'∧Vals vs us∧Q vs H'
noncomputable def SP (X:Cx) (pins:List (Addr×Obj)) (D:Ends) (f:Flow) (s':Shared):Prop :=
  match f with
  | .next=>∃ σ' H',Inv X pins σ' H' s'∧D.nx σ' H'
  | .brk=>∃ σ' H',Inv X pins σ' H' s'∧D.bk σ' H'
  | .cont=>∃ σ' H',Inv X pins σ' H' s'∧D.ct σ' H'
  | .ret u=>∃ v σ' H',Inv X pins σ' H' s'∧RelV v u∧D.rt v H'
noncomputable def PE (X:Cx) (e:Expr) (t:TE):Prop :=
  ∀ (pins:List (Addr×Obj)) (s:Shared) (σ:St) (H:Hp) (Q:VK),Inv X pins σ H s→t σ H Q→wpAny (model X.prog X.w) X.A (eval e X.env) (EP X pins σ Q) X.xe s
noncomputable def PT (X:Cx) (e:Expr) (t:TT):Prop :=
  ∀ (pins:List (Addr×Obj)) (s:Shared) (σ:St) (H:Hp) (Q:Bool→Hp→Prop),Inv X pins σ H s→t σ H Q→wpAny (model X.prog X.w) X.A (isTrue e X.env (eval e X.env)) (TP X pins σ Q) X.xe s
noncomputable def PW (X:Cx) (e:Expr) (t:TT):Prop :=
  ∀ (whole:Sem Value) (pins:List (Addr×Obj)) (s:Shared) (σ:St) (H:Hp) (Q:Bool→Hp→Prop),Inv X pins σ H s→t σ H Q→wpAny (model X.prog X.w) X.A (isTrue e X.env whole) (TP X pins σ Q) X.xe s
theorem PW.pt {X:Cx} {e:Expr} {t:TT} (h:PW X e t):PT X e t:=h _
noncomputable def PA (X:Cx) (es:List Expr) (t:TA):Prop :=
  ∀ (pos:Pos) (pins:List (Addr×Obj)) (s:Shared) (σ:St) (H:Hp) (Q:List V→Hp→Prop),Inv X pins σ H s→t σ H Q→wpAny (model X.prog X.w) X.A (spliced (backTo pos (starEach es X.env))) (AP X pins σ Q) X.xe s
noncomputable def PS (X:Cx) (st:Stmt) (t:TS):Prop :=
  ∀ (pins:List (Addr×Obj)) (s:Shared) (σ:St) (H:Hp) (D:Ends),Inv X pins σ H s→t D σ H→wpAny (model X.prog X.w) X.A (exec st X.env) (SP X pins D) X.xe s
noncomputable def PSs (X:Cx) (st:List Stmt) (t:TS):Prop :=
  ∀ (pins:List (Addr×Obj)) (s:Shared) (σ:St) (H:Hp) (D:Ends),Inv X pins σ H s→t D σ H→wpAny (model X.prog X.w) X.A (execs st X.env) (SP X pins D) X.xe s
theorem thn {α:Type} {t:Sem α} {Q Q':α→Shared→Prop} {M:Model} {A:Around} {E:Value→Shared→Prop} {s:Shared} (h:wpAny M A t Q E s) (hQ:∀ a s,Q a s→Q' a s):wpAny M A t Q' E s:=wpAny_mono h hQ fun _ _ x=>x
end L2
namespace L2
open PySem PySem.Spec PyProof.Rows
section
variable {X:Cx}
noncomputable def exI (x:V) (k:Int→Prop):Prop:=match x with
  | .int i=>k i
  | x=>∃ i,x=.int i∧k i
noncomputable def exB (x:V) (k:Bool→Prop):Prop:=match x with
  | .bl i=>k i
  | x=>∃ i,x=.bl i∧k i
noncomputable def exR (x:V) (k:Addr→Prop):Prop:=match x with
  | .ref i=>k i
  | x=>∃ i,x=.ref i∧k i
theorem exI_lit {i:Int} {k:Int→Prop}:exI (.int i) k=k i:=rfl
theorem exB_lit {i:Bool} {k:Bool→Prop}:exB (.bl i) k=k i:=rfl
theorem exR_lit {i:Addr} {k:Addr→Prop}:exR (.ref i) k=k i:=rfl
theorem exI_ex {x:V} {k:Int→Prop}:exI x k=∃ i,x=.int i∧k i:=by
  cases x <;> first | rfl | exact propext ⟨fun h=>⟨_,rfl,h⟩,fun ⟨_,e,h⟩=>by cases e;exact h⟩
theorem exB_ex {x:V} {k:Bool→Prop}:exB x k=∃ i,x=.bl i∧k i:=by
  cases x <;> first | rfl | exact propext ⟨fun h=>⟨_,rfl,h⟩,fun ⟨_,e,h⟩=>by cases e;exact h⟩
theorem exR_ex {x:V} {k:Addr→Prop}:exR x k=∃ i,x=.ref i∧k i:=by
  cases x <;> first | rfl | exact propext ⟨fun h=>⟨_,rfl,h⟩,fun ⟨_,e,h⟩=>by cases e;exact h⟩
theorem exI_mono {x:V} {k k':Int→Prop} (h:exI x k) (m:∀ i,k i→k' i):exI x k':=by
  rw [exI_ex] at h ⊢
  obtain ⟨i,e,h⟩:=h
  exact ⟨i,e,m i h⟩
noncomputable def tVar (i:Nat):TE:=fun σ H Q=>match σ[i]? with | some (some v)=>Q v H | _=>False
noncomputable def tC (v:V):TE:=fun _ H Q=>Q v H
theorem pe_var {i:Nat} {x:Str} {pos:Pos} (hN:X.N[i]?=some x) (hv:Vis X.env.scope x) (hd:(x == ("__debug__" : Str))=false:=by decide) (hcd:(x == ("__classdict__" : Str))=false:=by decide):PE X (.Name x pos) (tVar i):=by
  intro pins s σ H Q I h
  have h:∃ v,σ[i]?=some (some v)∧Q v H:=by
    unfold tVar at h
    split at h
    · exact ⟨_,‹_›,h⟩
    · exact h.elim
  obtain ⟨v,e,h⟩:=h
  obtain ⟨m,hn,hl⟩:=I.loc
  obtain ⟨u,r,l⟩:=hl i x v hN e hv
  have fin:EP X pins σ Q u s:=⟨v,H,I,r,h⟩
  rcases l with ⟨hk,hm⟩ | ⟨hk,c,hc,hcell⟩
  · exact wpAny_Name (wpAny_loadName_local I.ok.kind hk hn hm fin) hd
  · rcases hk with hk | hk
    · exact wpAny_Name (wpAny_loadName_cell I.ok.kind hk hc hcell fin) hd
    · exact wpAny_Name (wpAny_loadName_free I.ok.kind hk hc hcell fin hcd) hd
theorem pe_int {i j pos}:PE X (.Constant (.int i) j pos) (tC (.int i)):=fun _ _ _ H _ I h=>wpAny_Constant_int ⟨.int i,H,I.tok _,⟨_,rfl⟩,h⟩
theorem pe_bl {b j pos}:PE X (.Constant (.bool b) j pos) (tC (.bl b)):=fun _ _ _ H _ I h=>Constant_bool ⟨.bl b,H,I,rfl,h⟩
theorem pe_non {j pos}:PE X (.Constant .none j pos) (tC .non):=fun _ _ _ H _ I h=>Constant_none ⟨.non,H,I,rfl,h⟩
theorem pe_str {x j pos}:PE X (.Constant (.str x) j pos) (tC (.str x)):=fun _ _ _ H _ I h=>Calls.Constant_str ⟨.str x,H,I.tok _,⟨_,rfl⟩,h⟩
noncomputable def Gl (X:Cx) (x:Str):Prop:=X.env.kindOf x=some .globalImplicit
theorem ld_glob {E:Value→Shared→Prop} {pins:List (Addr×Obj)} {s:Shared} {σ:St} {H:Hp} {x:Str} {u:Value} {pos:Pos} {Q:Value→Shared→Prop} (I:Inv X pins σ H s) (hg:Gl X x) (hm:X.mg x=some u) (h:Q u s)
    (hd:(x == ("__debug__" : Str))=false:=by decide):wpAny (model X.prog X.w) X.A (eval (.Name x pos) X.env) Q E s :=
  Calls.Name_function_global I.ok.kind hg (Calls.loadGlobal_global (by rw [I.ok.glob];exact I.mod.glob.keeps I.bk) hm h) hd
theorem ld_blt {E:Value→Shared→Prop} {pins:List (Addr×Obj)} {s:Shared} {σ:St} {H:Hp} {x:Str} {u:Value} {pos:Pos} {Q:Value→Shared→Prop} (I:Inv X pins σ H s) (hg:Gl X x) (hm:X.mg x=none) (hv:bootBuiltins x=some u) (h:Q u s)
    (hn:x ≠ "__name__":=by decide) (hd:(x == ("__debug__" : Str))=false:=by decide):wpAny (model X.prog X.w) X.A (eval (.Name x pos) X.env) Q E s:=by
  obtain ⟨mb,h1,h2⟩:=I.mod.blt
  exact Calls.Name_function_global I.ok.kind hg (Calls.loadGlobal_builtin (by rw [I.ok.glob];exact I.mod.glob.keeps I.bk) hm (by rw [I.ok.blt];exact h1.keeps I.bk) ((h2 x hn).trans hv) h) hd
theorem pe_glob {x:Str} {v:V} {u:Value} {pos:Pos} (hg:Gl X x) (hm:X.mg x=some u) (r:RelV v u) (hd:(x == ("__debug__" : Str))=false:=by decide):PE X (.Name x pos) (tC v) :=
  fun _ _ _ H _ I h=>ld_glob I hg hm ⟨v,H,I,r,h⟩ hd
theorem pe_bltn {x:Str} {v:V} {u:Value} {pos:Pos} (hg:Gl X x) (hm:X.mg x=none) (hv:bootBuiltins x=some u) (r:RelV v u) (hn:x ≠ "__name__":=by decide) (hd:(x == ("__debug__" : Str))=false:=by decide):PE X (.Name x pos) (tC v) :=
  fun _ _ _ H _ I h=>ld_blt I hg hm hv ⟨v,H,I,r,h⟩ hn hd
variable {a b:Expr} {ta tb:TE} {pos:Pos}
noncomputable def PC (X:Cx) (op:CmpOp) (a b:Expr) (t:TE):Prop :=
  ∀ (pins:List (Addr×Obj)) (s:Shared) (σ:St) (H:Hp) (Q:VK),Inv X pins σ H s→t σ H Q →
    wpAny (model X.prog X.w) X.A (eval a X.env) (fun v s₁=>wpAny (model X.prog X.w) X.A (eval b X.env) (fun u s₂=>wpAny (model X.prog X.w) X.A (compareOp op v u) (EP X pins σ Q) X.xe s₂) X.xe s₁) X.xe s
theorem nobehind (b:Expr) {op:CmpOp} (h:op≠.In) (h2:op≠.NotIn):behindInMarks op b=false:=by
  have e1:(op == CmpOp.In)=false:=by cases op <;> first | rfl | exact absurd rfl h
  have e2:(op == CmpOp.NotIn)=false:=by cases op <;> first | rfl | exact absurd rfl h2
  cases b <;> simp [behindInMarks,e1,e2]
noncomputable def tB (t:TE):TT:=fun σ H Q=>t σ H fun x H1=>∃ c,x=.bl c∧Q c H1
theorem pt_cmp {op:CmpOp} {t:TE} (h:PC X op a b t) (h1:behindInMarks op b=false:=by first | exact nobehind _ (by decide) (by decide) | rfl):PT X (.Compare a [op] [b] pos) (tB t):=by
  intro pins s σ H Q I hw
  refine wpAny_isTrue_Compare1 (thn (h pins s σ H _ I hw) fun v s1 h1=>thn h1 fun u s2 h2=>thn h2 fun c s3 ⟨x,H1,I1,r1,q1⟩=>?_) h1
  obtain ⟨d,rfl,q⟩:=q1
  cases r1
  exact wpAny_truthy_bool ⟨H1,I1,q⟩
theorem pt_val {e:Expr} {t:TE} (h:PE X e t) (he:∀ whole,isTrue e X.env whole=(do let v ← whole;standAt e.pos;holding [v] (truthy v)):=by intro _;rfl):PT X e (tB t):=by
  intro pins s σ H Q I hw
  refine isTrue_plain (thn (h pins s σ H _ I hw) fun v s1 ⟨x,H1,I1,r1,q1⟩=>?_) (he _)
  obtain ⟨d,rfl,q⟩:=q1
  cases r1
  exact wpAny_truthy_bool ⟨H1,I1,q⟩
variable {tA tB':TT} {rest:List Expr}
noncomputable def tAnd (t u:TT):TT:=fun σ H Q=>t σ H fun c H1=>if c=true then u σ H1 Q else Q false H1
noncomputable def tOr (t u:TT):TT:=fun σ H Q=>t σ H fun c H1=>if c=true then Q true H1 else u σ H1 Q
noncomputable def tNot (t:TT):TT:=fun σ H Q=>t σ H fun c H1=>Q (!c) H1
theorem pw_and1 (ha:PT X a tA):PW X (.BoolOp .And [a] pos) tA:=by
  intro wh pins s σ H Q I h
  refine isTrue_and (thn (ha pins s σ H Q I h) fun c s1 e=>?_)
  cases c with
  | true=>exact isTrue_and_nil e
  | false=>exact e
theorem pw_or1 (ha:PT X a tA):PW X (.BoolOp .Or [a] pos) tA:=by
  intro wh pins s σ H Q I h
  refine isTrue_or (thn (ha pins s σ H Q I h) fun c s1 e=>?_)
  cases c with
  | false=>exact isTrue_or_nil e
  | true=>exact e
theorem pw_and (ha:PT X a tA) (hb:PW X (.BoolOp .And (b :: rest) pos) tB'):PW X (.BoolOp .And (a :: b :: rest) pos) (tAnd tA tB'):=by
  intro wh pins s σ H Q I h
  refine isTrue_and (thn (ha pins s σ H _ I h) fun c s1 ⟨H1,I1,q1⟩=>?_)
  cases c with
  | true=>exact hb wh pins s1 σ H1 Q I1 q1
  | false=>exact ⟨H1,I1,q1⟩
theorem pw_or (ha:PT X a tA) (hb:PW X (.BoolOp .Or (b :: rest) pos) tB'):PW X (.BoolOp .Or (a :: b :: rest) pos) (tOr tA tB'):=by
  intro wh pins s σ H Q I h
  refine isTrue_or (thn (ha pins s σ H _ I h) fun c s1 ⟨H1,I1,q1⟩=>?_)
  cases c with
  | true=>exact ⟨H1,I1,q1⟩
  | false=>exact hb wh pins s1 σ H1 Q I1 q1
theorem pt_not (ha:PT X a tA):PT X (.UnaryOp .Not a pos) (tNot tA):=by
  intro pins s σ H Q I h
  exact isTrue_not (ha pins s σ H (fun c H1=>Q (!c) H1) I h)
noncomputable def tAndV (ta tb:TE):TE:=fun σ H Q=>ta σ H fun x H1=>∃ c,x=.bl c∧if c=true then tb σ H1 Q else Q (.bl false) H1
noncomputable def tOrV (ta tb:TE):TE:=fun σ H Q=>ta σ H fun x H1=>∃ c,x=.bl c∧if c=true then Q (.bl true) H1 else tb σ H1 Q
noncomputable def tNotV (ta:TE):TE:=fun σ H Q=>ta σ H fun x H1=>∃ c,x=.bl c∧Q (.bl (!c)) H1
theorem pe_one {op} {t:TE} (h:PE X a t):PE X (.BoolOp op [a] pos) t:=fun pins s σ H Q I hw=>BoolOp_one (h pins s σ H Q I hw)
theorem pe_and (ha:PE X a ta) (hb:PE X (.BoolOp .And (b :: rest) pos) tb):PE X (.BoolOp .And (a :: b :: rest) pos) (tAndV ta tb):=by
  intro pins s σ H Q I h
  refine BoolOp_and (thn (ha pins s σ H _ I h) fun v s1 ⟨x,H1,I1,r1,q1⟩=>?_)
  obtain ⟨c,rfl,q1⟩:=q1
  cases r1
  refine wpAny_truthy_bool ?_
  cases c with
  | true=>exact hb pins s1 σ H1 Q I1 q1
  | false=>exact ⟨.bl false,H1,I1,rfl,q1⟩
theorem pe_not (ha:PE X a ta):PE X (.UnaryOp .Not a pos) (tNotV ta):=by
  intro pins s σ H Q I h
  refine UnaryOp_ (thn (ha pins s σ H _ I h) fun v s1 ⟨x,H1,I1,r1,q1⟩=>?_)
  obtain ⟨c,rfl,q1⟩:=q1
  cases r1
  exact not_of (wpAny_truthy_bool ⟨.bl (!c),H1,I1,rfl,q1⟩)
end
end L2
namespace L2
open PySem PySem.Spec PyProof.Rows
noncomputable def SqL (K:PySem.W.Frag) (H:Hp) (a:Addr) (xs:List V):Prop :=
  Rd H a (.lst xs) ∨
    ∃ (o:Obj) (its:Array Value) (n:Nat),K.lookup a=some o∧o.cls=.type "list" ∧ o.dict=none∧o.data=.seq its n∧its.size≤sizeLine∧Vals xs its.toList
noncomputable def SqT (K:PySem.W.Frag) (H:Hp) (a:Addr) (xs:List V):Prop :=
  Rd H a (.tup xs) ∨
    ∃ (o:Obj) (its:Array Value) (n:Nat),K.lookup a=some o∧o.cls=.type "tuple" ∧ o.data=.seq its n∧its.size≤sizeLine∧Vals xs its.toList
noncomputable def absV:Value→Option V
  | .none=>some .non
  | .bool b=>some (.bl b)
  | .int i _=>some (.int i)
  | .str x _=>some (.str x)
  | .bytes b _=>some (.byt b)
  | .float b _=>some (.flt b)
  | .ref a=>some (.ref a)
  | .type n=>some (.ty n)
  | _=>none
theorem RelV.abs {x:V} {u:Value} (r:RelV x u):absV u=some x:=by
  cases x with
  | non=>cases r;rfl
  | bl _=>cases r;rfl
  | int _=>obtain ⟨t,rfl⟩:=r;rfl
  | str _=>obtain ⟨t,rfl⟩:=r;rfl
  | byt _=>obtain ⟨t,rfl⟩:=r;rfl
  | flt _=>obtain ⟨t,rfl⟩:=r;rfl
  | ref _=>cases r;rfl
  | ty _=>cases r;rfl
theorem RelV.inj {x y:V} {u:Value} (r:RelV x u) (q:RelV y u):x=y:=Option.some.inj (r.abs.symm.trans q.abs)
theorem Vals.inj:∀ {xs ys:List V} {us:List Value},Vals xs us→Vals ys us→xs=ys
  | _,_,_,.nil,.nil=>rfl
  | _,_,_,.cons r t,.cons r' t'=>by rw [r.inj r',Vals.inj t t']
section
variable {X:Cx} {pins:List (Addr×Obj)} {σ:St} {H:Hp} {s:Shared} {a:Addr} {xs ys:List V}
theorem SqL.of {K:PySem.W.Frag} (h:H a=some (.lst xs)):SqL K H a xs:=.inl (.inl h)
theorem SqT.of {K:PySem.W.Frag} (h:H a=some (.tup xs)):SqT K H a xs:=.inl (.inl h)
theorem Inv.list (I:Inv X pins σ H s) (h:SqL X.K H a xs):∃ its:List Value,Vals xs its∧PlainL s.heap a its.toArray∧xs.length≤sizeLine:=by
  rcases h with h | ⟨o,its,n,hk,hc,hd,hs,hz,r⟩
  · obtain ⟨z,its,n,r,e⟩:=h.ok I.hok
    exact ⟨its,r,⟨_,n,e,rfl,rfl,rfl⟩,z⟩
  · refine ⟨its.toList,r,⟨o,n,I.kIn a o hk,hc,hd,by simpa using hs⟩,?_⟩
    have e:=r.length
    simp only [Array.length_toList] at e
    omega
theorem Inv.tuple (I:Inv X pins σ H s) (h:SqT X.K H a xs):∃ its:List Value,Vals xs its∧IsTup s.heap a its.toArray∧xs.length≤sizeLine:=by
  rcases h with h | ⟨o,its,n,hk,hc,hs,hz,r⟩
  · obtain ⟨z,its,r,p⟩:=h.ok I.hok
    exact ⟨its,r,p,z⟩
  · refine ⟨its.toList,r,⟨o,I.kIn a o hk,hc,n,by simpa using hs⟩,?_⟩
    have e:=r.length
    simp only [Array.length_toList] at e
    omega
theorem Inv.list_inj (I:Inv X pins σ H s) (h:SqL X.K H a xs) (h':SqL X.K H a ys):xs=ys:=by
  obtain ⟨its,r,⟨o,n,e,_,_,d⟩,_⟩:=I.list h
  obtain ⟨its',r',⟨o',n',e',_,_,d'⟩,_⟩:=I.list h'
  rw [e] at e';cases e'
  rw [d] at d'
  injection d' with d1 _
  have:its=its':=by simpa using congrArg Array.toList d1
  subst this
  exact r.inj r'
theorem Inv.tuple_inj (I:Inv X pins σ H s) (h:SqT X.K H a xs) (h':SqT X.K H a ys):xs=ys:=by
  obtain ⟨its,r,⟨o,e,_,n,d⟩,_⟩:=I.tuple h
  obtain ⟨its',r',⟨o',e',_,n',d'⟩,_⟩:=I.tuple h'
  rw [e] at e';cases e'
  rw [d] at d'
  injection d' with d1 _
  have:its=its':=by simpa using congrArg Array.toList d1
  subst this
  exact r.inj r'
end
noncomputable abbrev Cx.wish (X:Cx) (E:Value→Shared→Prop):Cx:={ X with xe:=E }
noncomputable abbrev Cx.nox (X:Cx):Cx:=X.wish fun _ _=>False
theorem Cx.Ok.wish {X:Cx} (ok:X.Ok) (E:Value→Shared→Prop):(X.wish E).Ok :=
  ⟨ok.mod,ok.kind,ok.glob,ok.blt,ok.above,ok.inj,ok.has,ok.cab,ok.hd,ok.frames,ok.stk,ok.exf,ok.bs,ok.bsz,ok.noex,ok.exfs,ok.funs,ok.frf⟩
theorem Cx.Ok.unwish {X:Cx} {E:Value→Shared→Prop} (ok:(X.wish E).Ok):X.Ok :=
  ⟨ok.mod,ok.kind,ok.glob,ok.blt,ok.above,ok.inj,ok.has,ok.cab,ok.hd,ok.frames,ok.stk,ok.exf,ok.bs,ok.bsz,ok.noex,ok.exfs,ok.funs,ok.frf⟩
section
variable {X:Cx} {pins:List (Addr×Obj)} {σ:St} {H:Hp} {s:Shared} {E:Value→Shared→Prop}
theorem Inv.wish (I:Inv X pins σ H s) (E:Value→Shared→Prop):Inv (X.wish E) pins σ H s:=⟨I.ok.wish E,I.os,I.bare,I.base,I.loc,I.cell,I.free,I.freeC,I.pin,I.hok,I.len⟩
theorem Inv.unwish (I:Inv (X.wish E) pins σ H s):Inv X pins σ H s:=⟨I.ok.unwish,I.os,I.bare,I.base,I.loc,I.cell,I.free,I.freeC,I.pin,I.hok,I.len⟩
theorem SP.unwish {D:Ends} {f:Flow} {s':Shared} (h:SP (X.wish E) pins D f s'):SP X pins D f s':=by
  cases f with
  | next=>obtain ⟨σ',H',I,q⟩:=h;exact ⟨σ',H',I.unwish,q⟩
  | brk=>obtain ⟨σ',H',I,q⟩:=h;exact ⟨σ',H',I.unwish,q⟩
  | cont=>obtain ⟨σ',H',I,q⟩:=h;exact ⟨σ',H',I.unwish,q⟩
  | ret u=>obtain ⟨v,σ',H',I,r,q⟩:=h;exact ⟨v,σ',H',I.unwish,r,q⟩
theorem PE.nox {e:Expr} {t:TE} (h:PE X.nox e t):PE X e t:=fun pins s σ H Q I hw =>
  wpAny_mono (h pins s σ H Q (I.wish _) hw) (fun _ _ ⟨v,H',I',r,q⟩=>⟨v,H',I'.unwish,r,q⟩) fun _ _ z=>False.elim z
theorem PT.nox {e:Expr} {t:TT} (h:PT X.nox e t):PT X e t:=fun pins s σ H Q I hw =>
  wpAny_mono (h pins s σ H Q (I.wish _) hw) (fun _ _ ⟨H',I',q⟩=>⟨H',I'.unwish,q⟩) fun _ _ z=>False.elim z
theorem PSs.nox {st:List Stmt} {t:TS} (h:PSs X.nox st t):PSs X st t:=fun pins s σ H D I hw =>
  wpAny_mono (h pins s σ H D (I.wish _) hw) (fun _ _ q=>q.unwish) fun _ _ z=>False.elim z
end
section
variable {X:Cx} {st:Stmt} {rest:List Stmt} {t u:TS} {e:Expr} {te:TE} {pos:Pos}
noncomputable def tNext:TS:=fun D σ H=>D.nx σ H
noncomputable def tSeq (t u:TS):TS:=fun D σ H=>t { D with nx:=u D } σ H
theorem pss_nil:PSs X [] tNext:=fun _ _ σ H _ I h=>wpAny_execs_nil ⟨σ,H,I,h⟩
theorem pss_cons (h1:PS X st t) (h2:PSs X rest u):PSs X (st :: rest) (tSeq t u):=by
  intro pins s σ H D I h
  refine wpAny_execs_cons (thn (h1 pins s σ H { D with nx:=u D } I h) fun f s1 q=>?_)
  cases f with
  | next =>
    obtain ⟨σ',H',I',q⟩:=q
    exact h2 pins s1 σ' H' D I' q
  | ret v=>exact q
  | brk=>exact q
  | cont=>exact q
theorem pss_one (h1:PS X st t):PSs X [st] t:=by
  intro pins s σ H D I h
  refine wpAny_execs_cons (thn (h1 pins s σ H D I h) fun f s1 q=>?_)
  cases f with
  | next=>exact wpAny_execs_nil q
  | ret v=>exact q
  | brk=>exact q
  | cont=>exact q
theorem Inv.quiet {pins:List (Addr×Obj)} {σ:St} {H:Hp} {s:Shared} (I:Inv X pins σ H s):interactive X.env=false:=by simp [interactive,I.ok.kind]
noncomputable def tDrop (te:TE):TS:=fun D σ H=>te σ H fun _ H1=>D.nx σ H1
theorem ps_expr (he:PE X e te) (hs:swapsWith e none pos.line X.env=pure false:=by rfl):PS X (.Expr e pos) (tDrop te):=by
  intro pins s σ H D I h
  exact wpAny_Expr_any (thn (he pins s σ H _ I h) fun v s1 ⟨x,H1,I1,r1,q1⟩=>⟨σ,H1,I1,q1⟩) I.quiet hs
noncomputable def tRet (te:TE):TS:=fun D σ H=>te σ H D.rt
theorem ps_ret (he:PE X e te):PS X (.Return (some e) pos) (tRet te):=by
  intro pins s σ H D I h
  exact wpAny_Return_some (thn (he pins s σ H _ I h) fun v s1 ⟨x,H1,I1,r1,q1⟩=>⟨x,σ,H1,I1,r1,q1⟩)
noncomputable def tIfS (c:TT) (t u:TS):TS:=fun D σ H=>c σ H fun b H1=>if b=true then t D σ H1 else u D σ H1
theorem ps_if {c:Expr} {a b:List Stmt} {tc:TT} (hc:PT X c tc) (ha:PSs X a t) (hb:PSs X b u):PS X (.If c a b pos) (tIfS tc t u):=by
  intro pins s σ H D I h
  refine wpAny_If (thn (hc pins s σ H _ I h) fun d s1 ⟨H1,I1,q1⟩=>?_)
  cases d with
  | true=>exact ha pins s1 σ H1 D I1 q1
  | false=>exact hb pins s1 σ H1 D I1 q1
noncomputable def tNever:TS:=fun _ _ _=>False
theorem ps_never:PS X st tNever:=fun _ _ _ _ _ _ h=>h.elim
end
noncomputable abbrev TG:=V→St→Hp→(St→Hp→Prop)→Prop
noncomputable abbrev TGs:=List V→St→Hp→(St→Hp→Prop)→Prop
noncomputable def PG (X:Cx) (target:Expr) (t:TG):Prop :=
  ∀ (pins:List (Addr×Obj)) (s:Shared) (σ:St) (H:Hp) (v:V) (u:Value) (Q:St→Hp→Prop),Inv X pins σ H s→RelV v u→t v σ H Q →
    wpAny (model X.prog X.w) X.A (assign target X.env u) (fun _ s'=>∃ σ' H',Inv X pins σ' H' s'∧Q σ' H') X.xe s
noncomputable def PGs (X:Cx) (ts:List Expr) (t:TGs):Prop :=
  ∀ (pins:List (Addr×Obj)) (s:Shared) (σ:St) (H:Hp) (vs:List V) (us:List Value) (Q:St→Hp→Prop),Inv X pins σ H s→Vals vs us→t vs σ H Q →
    wpAny (model X.prog X.w) X.A (assignInOrder ((assignEach ts X.env).map (·.2)) us) (fun _ s'=>∃ σ' H',Inv X pins σ' H' s'∧Q σ' H') X.xe s
noncomputable abbrev TSet:=V→V→V→Hp→(Hp→Prop)→Prop
noncomputable def PSet (X:Cx) (t:TSet):Prop :=
  ∀ (pins:List (Addr×Obj)) (s:Shared) (σ:St) (H:Hp) (o i v:V) (ov iv u:Value) (Q:Hp→Prop),Inv X pins σ H s→RelV o ov→RelV i iv→RelV v u→t o i v H Q →
    wpAny (model X.prog X.w) X.A (setItem ov iv u) (fun _ s'=>∃ H',Inv X pins σ H' s'∧Q H') X.xe s
section
variable {X:Cx} {pos:Pos}
noncomputable def gName (i:Nat):TG:=fun v σ H Q=>Q (σ.set i (some v)) H
theorem pg_name {i:Nat} {x:Str} (hN:X.N.Nodup) (hi:X.N[i]?=some x) (hx:Loc X.env.scope x) (hf:X.fn x=true∨X.env.scope.names.lookup x=some .local:=by first | exact .inl rfl | exact .inr rfl | assumption):PG X (.Name x pos) (gName i):=by
  intro pins s σ H v u Q I r h
  exact wpAny_assign_Name (store_ok I hN hi hx r (fun s' I'=>⟨_,H,I',h⟩) hf)
noncomputable def gNil:TGs:=fun vs σ H Q=>vs=[]∧Q σ H
noncomputable def gCons (t:TG) (u:TGs):TGs:=fun vs σ H Q=>∃ v r,vs=v :: r∧t v σ H fun σ' H'=>u r σ' H' Q
theorem pgs_nil:PGs X [] gNil:=by
  intro pins s σ H vs us Q I r h
  obtain ⟨e,h⟩:=h
  subst e
  cases r
  exact assignInOrder_nil ⟨σ,H,I,h⟩
theorem pgs_cons {e:Expr} {es:List Expr} {t:TG} {u:TGs} (h1:PG X e t) (h2:PGs X es u)
    (hs:(assignEach (e :: es) X.env).map (·.2)=assign e X.env :: (assignEach es X.env).map (·.2):=by rfl):PGs X (e :: es) (gCons t u):=by
  intro pins s σ H vs us Q I r h
  obtain ⟨v,vr,e1,h⟩:=h
  subst e1
  cases r with
  | cons r rr =>
    rw [hs]
    refine assignInOrder_cons (thn (h1 pins s σ H _ _ _ I r h) fun _ s1 ⟨σ1,H1,I1,q1⟩=>?_)
    exact h2 pins s1 σ1 H1 _ _ Q I1 rr q1
noncomputable def gTup (K:PySem.W.Frag) (n:Nat) (t:TGs):TG:=fun v σ H Q=>∃ a xs,v=.ref a∧SqT K H a xs∧xs.length=n∧t xs σ H Q
theorem pg_tup {es:List Expr} {k:Nat} {t:TGs} {n:Nat} (hc:X.calm=true) (h:PGs X es t)
    (hn:(assignEach es X.env).length=n:=by rfl) (hst:(assignEach es X.env).findIdx? (·.1)=none:=by rfl):PG X (.Tuple es k pos) (gTup X.K n t):=by
  intro pins s σ H v u Q I r hw
  obtain ⟨a,xs,e1,hq,hl,hw⟩:=hw
  subst e1
  cases r
  obtain ⟨its,rv,ht,hz⟩:=I.tuple hq
  refine assign_Tuple_tuple (I.ok.hd hc) ht (by simp [hn,← hl,rv.length]) hst fun h' hx=>?_
  have I1:Inv X pins σ H { s with heap:=h' }:=I.kept (t':=s.toks) fun b o e=>hx b o (Nat.ne_of_lt (Heap.lt_size e)) e
  exact h pins _ σ H xs _ Q I1 (by simpa using rv) hw
noncomputable def gSub (to ti:TE) (t:TSet):TG:=fun v σ H Q=>to σ H fun o H1=>ti σ H1 fun i H2=>t o i v H2 fun H3=>Q σ H3
theorem pg_sub {o i:Expr} {to ti:TE} {t:TSet} (ho:PE X o to) (hi:PE X i ti) (hs:PSet X t)
    (ha:∀ v,assign (.Subscript o i pos) X.env v=(do
      let ov ← holding [v] (eval o X.env)
      let iv ← holding [v,ov] (eval i X.env)
      standAt pos
      holding [v,ov,iv] (setItem ov iv v)
      release [v,ov,iv] []):=by intro _;rfl):PG X (.Subscript o i pos) (gSub to ti t):=by
  intro pins s σ H v u Q I r h
  rw [ha]
  refine wpAny_bind (wpAny_holding (thn (ho pins s σ H _ I h) fun ov s1 ⟨x,H1,I1,r1,q1⟩=>?_))
  refine wpAny_bind (wpAny_holding (thn (hi pins s1 σ H1 _ I1 q1) fun iv s2 ⟨y,H2,I2,r2,q2⟩=>?_))
  refine wpAny_bind (wpAny_standAt (wpAny_bind (wpAny_holding (thn (hs pins s2 σ H2 x y v ov iv u _ I2 r1 r2 r q2) fun _ s3 ⟨H3,I3,q3⟩=>?_))))
  exact wpAny_release ⟨σ,H3,I3,q3⟩
noncomputable def tAsg (te:TE) (g:TG):TS:=fun D σ H=>te σ H fun x H1=>g x σ H1 D.nx
theorem ps_asg {tg e:Expr} {te:TE} {g:TG} (he:PE X e te) (hg:PG X tg g) (hs:swapsWithSole [tg] e pos.line X.env=pure false:=by rfl) (hw:swappedStores [tg] e X.env=pure none:=by rfl)
    (h1:(assignEach [tg] X.env).map (·.2)=[assign tg X.env]:=by rfl):PS X (.Assign [tg] e pos) (tAsg te g):=by
  intro pins s σ H D I h
  refine wpAny_Assign_stores (thn (he pins s σ H _ I h) fun v s1 ⟨x,H1,I1,r1,q1⟩=>?_) hs hw
  rw [h1]
  exact thn (hg pins s1 σ H1 x v _ I1 r1 q1) fun _ s2 q=>q
theorem ps_set {i:Nat} {x:Str} {e:Expr} {te:TE} {pos':Pos} (hN:X.N.Nodup) (hi:X.N[i]?=some x) (hx:Loc X.env.scope x) (he:PE X e te) (hs:swapsWith e (some (.Name x pos')) pos.line X.env=pure false:=by rfl) (hf:X.fn x=true∨X.env.scope.names.lookup x=some .local:=by first | exact .inl rfl | exact .inr rfl | assumption) :
    PS X (.Assign [.Name x pos'] e pos) (tAsg te (gName i)):=by
  intro pins s σ H D I h
  refine wpAny_Assign_Name (thn (he pins s σ H _ I h) fun v s1 ⟨y,H1,I1,r1,q1⟩=>?_) hs
  exact store_ok I1 hN hi hx r1 (fun s2 I2=>⟨_,H1,I2,q1⟩) hf
noncomputable def tPar (i j:Nat) (ta:TA):TS:=fun D σ H=>ta σ H fun vs H1=>∃ v w,vs=[v,w]∧D.nx ((σ.set i (some v)).set j (some w)) H1
theorem ps_par {i j:Nat} {x y:Str} {a b:Expr} {ta:TA} {px py pt:Pos} {kt k2 pt2} (hc:X.calm=true) (hN:X.N.Nodup) (hi:X.N[i]?=some x) (hj:X.N[j]?=some y) (hij:i≠j)
    (hx:X.env.scope.names.lookup x=some .local) (hy:X.env.scope.names.lookup y=some .local) (ha:PA X [a,b] ta)
    (hw:swappedStores [.Tuple [.Name x px,.Name y py] kt pt] (.Tuple [a,b] k2 pt2) X.env=pure (some [x,y]))
    (hs:swapsWithSole [.Tuple [.Name x px,.Name y py] kt pt] (.Tuple [a,b] k2 pt2) pos.line X.env=pure false:=by rfl) :
    PS X (.Assign [.Tuple [.Name x px,.Name y py] kt pt] (.Tuple [a,b] k2 pt2) pos) (tPar i j ta):=by
  intro pins s σ H D I h
  rw [exec_Assign_arm]
  refine wpAny_bind (wpAny_standAt ?_)
  rw [hs]
  refine wpAny_bind (wpAny_pure ?_)
  rw [if_neg (by decide)]
  refine wpAny_bind (Tuple_ (thn (ha _ pins s σ H _ I h) fun us s1 ⟨vs,H1,I1,r1,q1⟩=>?_))
  obtain ⟨v,w,e1,q1⟩:=q1
  subst e1
  obtain ⟨u1,u2,rfl,rv,rw'⟩:∃ u1 u2,us=[u1,u2]∧RelV v u1∧RelV w u2:=by
    cases r1 with
    | cons p q =>
      cases q with
      | cons p' q' =>
        cases q'
        exact ⟨_,_,rfl,p,p'⟩
  refine wpAny_newObj_type ?_ (by show 2≤sizeLine;decide)
  have I2:Inv X pins σ H1 { s1 with heap:=s1.heap.push { cls:=.type "tuple",data:=.seq [u1,u2].toArray } }:=I1.kept (t':=s1.toks) fun b o e=>Heap.get?_push_of_some _ e
  rw [hw]
  refine wpAny_bind (wpAny_pure ?_)
  show wpAny (model X.prog X.w) X.A (do rule "assign.swapped-stores";let items ← unpackItems (.ref s1.heap.objs.size) 2 none;assignInOrder [fun v=>bindName X.env y v,fun v=>bindName X.env x v] items.reverse;pure Flow.next) _ _ _
  refine wpAny_bind (wpAny_rule (wpAny_bind (unpackItems_tuple (items:=#[u1,u2]) (I.ok.hd hc) (IsTup.new s1.heap _) fun h' hx'=>?_)))
  have I3:=I2.kept (h':=h') (t':=s1.toks) fun b o e=>hx' b o (Nat.ne_of_lt (Heap.lt_size e)) e
  show wpAny _ _ (assignInOrder [fun v=>bindName X.env y v,fun v=>bindName X.env x v] [u2,u1] >>= fun _=>pure Flow.next) _ _ _
  refine wpAny_bind (assignInOrder_cons (wpAny_bindName (store_ok I3 hN hj (.inl hy) rw' (fun s2 I4=>?_) (.inr hy))))
  refine assignInOrder_cons (wpAny_bindName (store_ok I4 hN hi (.inl hx) rv (fun s3 I5=>assignInOrder_nil (wpAny_pure ?_)) (.inr hx)))
  rw [List.set_comm _ _ (Ne.symm hij)] at I5
  exact ⟨_,H1,I5,q1⟩
end
section
variable {X:Cx} {pos:Pos}
noncomputable def tWhile (c:TT) (tb:TS):TS:=fun D σ H=>∃ W:Nat→St→Hp→Prop,(∃ m,W m σ H)∧∀ m σ H,W m σ H →
  c σ H fun b H1=>if b=true then ∃ N:St→Hp→Prop,(∀ σ' H',N σ' H'→∃ m',m' < m∧W m' σ' H')∧tb { D with nx:=N,ct:=N,bk:=D.nx } σ H1 else D.nx σ H1
theorem ps_while {c:Expr} {body:List Stmt} {tc:TT} {tb:TS} (hp:PassesOwn (model X.prog X.w) X.A X.env X.xe) (hc:PT X c tc) (hb:PSs X body tb):PS X (.While c body [] pos) (tWhile tc tb):=by
  intro pins s σ H D I h
  obtain ⟨W,⟨m0,w0⟩,turn⟩:=h
  refine wpAny_While (codeAny_whileLoop (fun n s'=>∃ σ' H',Inv X pins σ' H' s'∧W n σ' H') ?_ m0 ⟨σ,H,I,w0⟩)
  rintro n s1 ⟨σ1,H1,I1,w1⟩
  refine wpAny_passesOwn hp (thn (hc pins s1 σ1 H1 _ I1 (turn n σ1 H1 w1)) fun b s2 ⟨H2,I2,q2⟩=>?_)
  cases b with
  | true =>
    obtain ⟨N,hN,q2⟩:=q2
    rw [if_pos rfl]
    refine wpAny_passesOwn hp (thn (hb pins s2 σ1 H2 _ I2 q2) fun f s3 q3=>?_)
    cases f with
    | next =>
      obtain ⟨σ3,H3,I3,n3⟩:=q3
      obtain ⟨m',hm,w3⟩:=hN σ3 H3 n3
      exact ⟨m',hm,σ3,H3,I3,w3⟩
    | cont =>
      obtain ⟨σ3,H3,I3,n3⟩:=q3
      obtain ⟨m',hm,w3⟩:=hN σ3 H3 n3
      exact ⟨m',hm,σ3,H3,I3,w3⟩
    | brk=>exact q3
    | ret v=>exact q3
  | false =>
    rw [if_neg Bool.false_ne_true]
    exact wpAny_execs_nil ⟨σ1,H2,I2,q2⟩
end
structure It where
  go:Nat→Hp→Prop
  yld:Nat→Hp→V→Hp→Prop
  stop:Nat→Hp→Prop
noncomputable def FpOk (X:Cx) (pins:List (Addr×Obj)) (H:Hp) (b:Addr):Prop :=
  H b=none∧b≠X.env.locals∧b∉X.fs∧(b∈X.ex∨X.s₀.heap.objs.size≤b)∧(∀ x c,X.env.cells.lookup x=some c→c≠b)∧∀ p∈X.pn ++ pins,p.1≠b
theorem Inv.fpOk {X:Cx} {pins:List (Addr×Obj)} {σ:St} {H H':Hp} {s:Shared} {b:Addr} (I:Inv X pins σ H s) (hb:s.heap.objs.size≤b) (hn:H' b=none):FpOk X pins H' b:=by
  refine ⟨hn,Nat.ne_of_gt (Nat.lt_of_lt_of_le I.lt hb),I.nofs hb,.inr (Nat.le_trans I.sz hb),fun x c e z=>?_,fun p hp z=>?_⟩
  · obtain ⟨v,q⟩:=I.cell x c e
    exact absurd (Nat.lt_of_lt_of_le q.lt (by rw [z];exact hb)) (Nat.lt_irrefl _)
  · exact absurd (Nat.lt_of_lt_of_le (Heap.lt_size (I.pin p hp).1) (by rw [z];exact hb)) (Nat.lt_irrefl _)
structure Turn (P:Program) (w:World) (K:PySem.W.Frag) (tg:Expr) (J:It) (fp:List Addr) (it:Addr) (tn:Nat→Heap→Prop):Prop where
  mem:it∈fp
  obj:∀ i h,tn i h→∀ b∈fp,∃ o,h.get? b=some o∧∀ v,o.data≠.cell v
  keep:∀ i h h',tn i h→(∀ b∈fp,∀ o,h.get? b=some o→h'.get? b=some o)→tn i h'
  item:∀ (X:Cx),X.prog=P→X.w=w→X.K=K→X.calm=true→∀ (i:Nat) (pins:List (Addr×Obj)) (s:Shared) (σ:St) (H:Hp) (E:Value→Shared→Prop),Inv X pins σ H s→(∀ b∈fp,FpOk X pins H b)→tn i s.heap→J.go i H →
    wpAny (model P w) X.A (pyNext (.ref it)) (fun r s1=>∃ u,r=some u ∧
      wpAny (model P w) X.A (letOwnedTupleGo tg (.ref it) u) (fun _ s2=>∃ x H',Inv X pins σ H' s2∧RelV x u∧J.yld i H x H'∧tn (i+1) s2.heap∧∀ b∈fp,H' b=none) E s1) E s
  done:∀ (X:Cx),X.prog=P→X.w=w→X.K=K→X.calm=true→∀ (i:Nat) (pins:List (Addr×Obj)) (s:Shared) (σ:St) (H:Hp) (E:Value→Shared→Prop),Inv X pins σ H s→(∀ b∈fp,FpOk X pins H b)→tn i s.heap→J.stop i H →
    wpAny (model P w) X.A (pyNext (.ref it)) (fun r s1=>r=none∧Inv X pins σ H s1) E s
  self:∀ (A:Around) (i:Nat) (s:Shared) (Q:Value→Shared→Prop) (E:Value→Shared→Prop),tn i s.heap→Q (.ref it) s→wpAny (model P w) A (pyIter (.ref it)) Q E s
noncomputable abbrev TI:=St→Hp→(It→Hp→Prop)→Prop
noncomputable def PIE (X:Cx) (pins:List (Addr×Obj)) (σ:St) (tg:Expr) (R:It→Hp→Prop) (itv:Value) (s2:Shared):Prop :=
  ∃ (it:Addr) (fp:List Addr) (tn:Nat→Heap→Prop) (J:It) (H':Hp),itv=.ref it∧Inv X pins σ H' s2∧Turn X.prog X.w X.K tg J fp it tn∧tn 0 s2.heap∧(∀ b∈fp,FpOk X pins H' b)∧R J H'
noncomputable def PI (X:Cx) (tg iter:Expr) (wi:TI):Prop :=
  ∀ (pins:List (Addr×Obj)) (s:Shared) (σ:St) (H:Hp) (R:It→Hp→Prop),Inv X pins σ H s→wi σ H R →
    wpAny (model X.prog X.w) X.A (eval iter X.env) (fun v s1=>wpAny (model X.prog X.w) X.A (pyIter v) (PIE X pins σ tg R) X.xe s1) X.xe s
theorem go_of {M:Model} {A:Around} {E:Value→Shared→Prop} {s:Shared} {tg:Expr} {it:Addr} {u:Value} {o:Obj} {n:String} {vs:Array Value} {Q:Unit→Shared→Prop} (ho:s.heap.get? it=some o) (hc:o.cls=.type n) (hd:o.data=.fields vs)
    (hn:["enumerate", "zip", "dict_itemiterator", "dict_reverseitemiterator", "odict_iterator", "itertools.zip_longest", "itertools.pairwise"].contains n=false) (hQ:Q () s):wpAny M A (letOwnedTupleGo tg (.ref it) u) Q E s:=by
  unfold letOwnedTupleGo
  cases tg <;> first
    | exact wpAny_pure hQ
    | (cases u <;> first
        | exact wpAny_pure hQ
        | (refine wpAny_bind (wpAny_load ho ?_)
           rw [hc,hd]
           show wpAny M A (if (["enumerate", "zip", "dict_itemiterator", "dict_reverseitemiterator", "odict_iterator", "itertools.zip_longest", "itertools.pairwise"].contains n && vs[0]? == some (rawInt _))=true then _ else _) Q E s
           rw [if_neg (by intro h;rw [hn,Bool.false_and] at h;cases h)]
           exact wpAny_pure hQ))
noncomputable def Itl (K:PySem.W.Frag) (a:Addr):It :=
  ⟨fun i H=>∃ xs x,SqL K H a xs∧xs[i]?=some x,fun i H x H'=>H'=H∧∀ xs,SqL K H a xs→xs[i]?=some x,fun i H=>∃ xs,SqL K H a xs∧xs.length≤i⟩
noncomputable def Itt (K:PySem.W.Frag) (a:Addr):It :=
  ⟨fun i H=>∃ xs x,SqT K H a xs∧xs[i]?=some x,fun i H x H'=>H'=H∧∀ xs,SqT K H a xs→xs[i]?=some x,fun i H=>∃ xs,SqT K H a xs∧xs.length≤i⟩
noncomputable def Itr (lo:Int) (n:Nat):It:=⟨fun i _=>i < n,fun i H x H'=>H'=H∧x=.int (lo+i),fun i _=>n≤i⟩
theorem turn_list {P:Program} {w:World} {K:PySem.W.Frag} {tg:Expr} (a it:Addr):Turn P w K tg (Itl K a) [it] it (fun i h=>h.IsListIter it a i) where
  mem:=by simp
  obj:=fun i h st b hb=>by
    have e:b=it:=by simpa using hb
    subst e
    obtain ⟨o,e,c,d⟩:=st
    exact ⟨o,e,fun v z=>by rw [d] at z;cases z⟩
  keep:=fun i h h' st k=>st.at fun o e=>k it (by simp) o e
  item:=by
    intro X hP hw hK hc i pins s σ H E I hf st hg
    subst hP hw hK
    obtain ⟨xs,x,hq,hx⟩:=hg
    obtain ⟨its,rv,p,hz⟩:=I.list hq
    obtain ⟨u,hu,ru⟩:=rv.get hx
    obtain ⟨f0,f1,f2,f3,f4,f5⟩:=hf it (by simp)
    refine wpAny_pyNext_list_item st p.isList (x:=u) (by simpa using hu) fun h' st' sb=>?_
    have I1:Inv X pins σ H { s with heap:=h' }:=I.turned (t':=s.toks) (fun b o hb e=>(sb.2 b hb).trans e) f0 f1 f3 f4 f5
    obtain ⟨o,e,c,d⟩:=id st'
    exact ⟨u,rfl,go_of (s:={ s with heap:=h' }) e c d (by decide) ⟨x,H,I1,ru,⟨rfl,fun ys hy=>by rw [I.list_inj hy hq];exact hx⟩,st',fun b hb=>(hf b hb).1⟩⟩
  done:=by
    intro X hP hw hK hc i pins s σ H E I hf st hg
    subst hP hw hK
    obtain ⟨xs,hq,hx⟩:=hg
    obtain ⟨its,rv,p,hz⟩:=I.list hq
    obtain ⟨f0,f1,f2,f3,f4,f5⟩:=hf it (by simp)
    have hl:=rv.length
    exact wpAny_pyNext_list_end (I.ok.hd hc) st p.isList (by simp;omega) fun h' eb=>⟨rfl,I.turned (t':=s.toks) (fun b o hb e=>eb b o hb e) f0 f1 f3 f4 f5⟩
  self:=fun _ _ _ _ _ st h=>wpAny_pyIter_listiter st h
theorem turn_tuple {P:Program} {w:World} {K:PySem.W.Frag} {tg:Expr} (a it:Addr):Turn P w K tg (Itt K a) [it] it (fun i h=>h.IsTupleIter it a i) where
  mem:=by simp
  obj:=fun i h st b hb=>by
    have e:b=it:=by simpa using hb
    subst e
    obtain ⟨o,e,c,d⟩:=st
    exact ⟨o,e,fun v z=>by rw [d] at z;cases z⟩
  keep:=fun i h h' st k=>st.at fun o e=>k it (by simp) o e
  item:=by
    intro X hP hw hK hc i pins s σ H E I hf st hg
    subst hP hw hK
    obtain ⟨xs,x,hq,hx⟩:=hg
    obtain ⟨its,rv,p,hz⟩:=I.tuple hq
    obtain ⟨u,hu,ru⟩:=rv.get hx
    obtain ⟨f0,f1,f2,f3,f4,f5⟩:=hf it (by simp)
    refine wpAny_pyNext_tuple_item st (show s.heap.IsTuple a its.toArray from p) (x:=u) (by simpa using hu) fun h' st' sb=>?_
    have I1:Inv X pins σ H { s with heap:=h' }:=I.turned (t':=s.toks) (fun b o hb e=>(sb.2 b hb).trans e) f0 f1 f3 f4 f5
    obtain ⟨o,e,c,d⟩:=id st'
    exact ⟨u,rfl,go_of (s:={ s with heap:=h' }) e c d (by decide) ⟨x,H,I1,ru,⟨rfl,fun ys hy=>by rw [I.tuple_inj hy hq];exact hx⟩,st',fun b hb=>(hf b hb).1⟩⟩
  done:=by
    intro X hP hw hK hc i pins s σ H E I hf st hg
    subst hP hw hK
    obtain ⟨xs,hq,hx⟩:=hg
    obtain ⟨its,rv,p,hz⟩:=I.tuple hq
    obtain ⟨f0,f1,f2,f3,f4,f5⟩:=hf it (by simp)
    have hl:=rv.length
    exact wpAny_pyNext_tuple_end (I.ok.hd hc) st (show s.heap.IsTuple a its.toArray from p) (by simp;omega) fun h' eb=>⟨rfl,I.turned (t':=s.toks) (fun b o hb e=>eb b o hb e) f0 f1 f3 f4 f5⟩
  self:=fun _ _ _ _ _ st h=>wpAny_pyIter_tupleiter st h
theorem turn_range {P:Program} {w:World} {K:PySem.W.Frag} {tg:Expr} (it:Addr) (lo:Int) (n:Nat):Turn P w K tg (Itr lo n) [it] it (fun i h=>IsRangeIter h it (lo+(i:Nat) * 1) ((n:Int) - (i:Nat)) 1) where
  mem:=by simp
  obj:=fun i h st b hb=>by
    have e:b=it:=by simpa using hb
    subst e
    exact ⟨_,st,fun v z=>by
      have z':Data.fields _=Data.cell v:=z
      cases z'⟩
  keep:=fun i h h' st k=>k it (by simp) _ st
  item:=by
    intro X hP hw hK hc i pins s σ H E I hf st hg
    subst hP hw hK
    obtain ⟨f0,f1,f2,f3,f4,f5⟩:=hf it (by simp)
    have W:=Walks.range (prog:=X.prog) (w:=X.w) (I.ok.hd hc) it lo 1 n
    refine W.item i s _ _ hg st fun v h' tk hv st' kk=>?_
    obtain ⟨t,rfl⟩:=hv
    have I1:Inv X pins σ H { s with heap:=h',toks:=tk }:=I.turned (fun b o hb e=>kk b o (by simpa using hb) e) f0 f1 f3 f4 f5
    refine ⟨_,rfl,go_of (s:={ s with heap:=h',toks:=tk }) (n:="range_iterator") st' rfl rfl (by decide) ⟨.int (lo+i),H,I1,⟨t,?_⟩,⟨rfl,rfl⟩,st',fun b hb=>(hf b hb).1⟩⟩
    rw [Int.mul_one]
  done:=by
    intro X hP hw hK hc i pins s σ H E I hf st hg
    subst hP hw hK
    obtain ⟨f0,f1,f2,f3,f4,f5⟩:=hf it (by simp)
    exact wpAny_pyNext_range_end (I.ok.hd hc) st (by have:n≤i:=hg;omega) fun h' eb=>⟨rfl,I.turned (t':=s.toks) (fun b o hb e=>eb b o hb e) f0 f1 f3 f4 f5⟩
  self:=fun _ _ _ _ _ st h=>wpAny_pyIter_rangeiter st h
end L2
namespace L2
open PySem PySem.Spec PyProof.Rows
section
variable {X:Cx} {tg:Expr}
noncomputable def iList (K:PySem.W.Frag) (tl:TE):TI:=fun σ H R=>tl σ H fun x H1=>exR x fun a=>(∃ xs,SqL K H1 a xs)∧R (Itl K a) H1
noncomputable def iTup (K:PySem.W.Frag) (tl:TE):TI:=fun σ H R=>tl σ H fun x H1=>∃ a,x=.ref a∧(∃ xs,SqT K H1 a xs)∧R (Itt K a) H1
theorem pi_list {l:Expr} {tl:TE} (hl:PE X l tl):PI X tg l (iList X.K tl):=by
  intro pins s σ H R I h
  refine thn (hl pins s σ H _ I h) fun v s1 ⟨x,H1,I1,r1,q1⟩=>?_
  obtain ⟨a,e,⟨xs,hq⟩,q⟩:=Eq.mp exR_ex q1
  subst e
  cases r1
  obtain ⟨its,rv,p,hz⟩:=I1.list hq
  refine wpAny_pyIter_list p.isList ?_
  refine ⟨s1.heap.objs.size,[s1.heap.objs.size],_,_,H1,rfl,I1.kept (t':=s1.toks) fun b o e=>Heap.get?_push_of_some _ e,turn_list a _,⟨_,Heap.get?_push_size _ rfl,rfl,rfl⟩,fun b hb=>?_,q⟩
  have e:b=s1.heap.objs.size:=by simpa using hb
  subst e
  exact I1.fpOk (Nat.le_refl _) (I1.hok.fresh (Nat.le_refl _))
theorem pi_tup {l:Expr} {tl:TE} (hl:PE X l tl):PI X tg l (iTup X.K tl):=by
  intro pins s σ H R I h
  refine thn (hl pins s σ H _ I h) fun v s1 ⟨x,H1,I1,r1,q1⟩=>?_
  obtain ⟨a,e,⟨xs,hq⟩,q⟩:=q1
  subst e
  cases r1
  obtain ⟨its,rv,p,hz⟩:=I1.tuple hq
  refine wpAny_pyIter_tuple (show s1.heap.IsTuple a its.toArray from p) ?_
  refine ⟨s1.heap.objs.size,[s1.heap.objs.size],_,_,H1,rfl,I1.kept (t':=s1.toks) fun b o e=>Heap.get?_push_of_some _ e,turn_tuple a _,⟨_,Heap.get?_push_size _ rfl,rfl,rfl⟩,fun b hb=>?_,q⟩
  have e:b=s1.heap.objs.size:=by simpa using hb
  subst e
  exact I1.fpOk (Nat.le_refl _) (I1.hok.fresh (Nat.le_refl _))
theorem range_it {pins:List (Addr×Obj)} {σ:St} {H:Hp} {s:Shared} {R:It→Hp→Prop} {E:Value→Shared→Prop} {lo hi:Int} {t u v:Tok} {tk:Nat} (I:Inv X pins σ H s) (h1:-(2 ^ 62)≤lo) (h2:lo < 2 ^ 62) (h3:-(2 ^ 62)≤hi) (h4:hi < 2 ^ 62)
    (q:R (Itr lo (hi - lo).toNat) H):wpAny (model X.prog X.w) X.A (pyIter (.ref s.heap.objs.size)) (PIE X pins σ tg R) E { s with heap:=s.heap.push { cls:=.type "range",data:=.fields #[.int lo t,.int hi u,.int 1 v] },toks:=tk }:=by
  refine wpAny_pyIter_range (IsRange.new ..) (small_one h1 h2 h3 h4) ?_
  have I1:Inv X pins σ H { s with heap:=s.heap.push { cls:=.type "range",data:=.fields #[.int lo t,.int hi u,.int 1 v] },toks:=tk }:=I.kept fun b o e=>Heap.get?_push_of_some _ e
  refine ⟨(s.heap.push { cls:=.type "range",data:=.fields #[.int lo t,.int hi u,.int 1 v] }).objs.size,[(s.heap.push { cls:=.type "range",data:=.fields #[.int lo t,.int hi u,.int 1 v] }).objs.size],_,_,H,rfl,
    I1.kept (t':=tk) fun b o e=>Heap.get?_push_of_some _ e,turn_range _ lo (hi - lo).toNat,?_,fun b hb=>?_,q⟩
  · have e1:lo+((0:Nat):Int) * 1=lo:=by simp
    have e2:(((hi - lo).toNat:Nat):Int) - ((0:Nat):Int)=Builtin.Range.rangeSize lo hi 1:=by rw [rangeSize_one];split <;> omega
    show IsRangeIter _ _ (lo+((0:Nat):Int) * 1) ((((hi - lo).toNat:Nat):Int) - ((0:Nat):Int)) 1
    rw [e1,e2]
    exact Heap.get?_push_size _ rfl
  · have e:b=(s.heap.push { cls:=.type "range",data:=.fields #[.int lo t,.int hi u,.int 1 v] }).objs.size:=by simpa using hb
    subst e
    exact I1.fpOk (Nat.le_refl _) (I1.hok.fresh (Nat.le_refl _))
noncomputable def iRng1 (ta:TA):TI:=fun σ H R=>ta σ H fun vs H1=>∃ j:Int,vs=[.int j]∧-(2 ^ 62)≤j∧j < 2 ^ 62∧R (Itr 0 j.toNat) H1
theorem pi_range1 {a:Expr} {ta:TA} {p pos:Pos} (hg:Gl X "range") (hm:X.mg "range" = none) (ha:PA X [a] ta) (hs:starEach [a] X.env=[(false,eval a X.env)]:=by rfl):PI X tg (.Call (.Name "range" p) [a] [] pos) (iRng1 ta):=by
  intro pins s σ H R I h
  refine Call_ (ld_blt I hg hm boot_range (PyProof.Rows.callWith_type1 (thn (ha pos pins s σ H _ I h) fun us s1 ⟨vs,H1,I1,r1,q1⟩=>?_) hs rfl))
  obtain ⟨j,e,q1,q2,q⟩:=q1
  subst e
  cases r1 with
  | cons r rr =>
    cases rr
    obtain ⟨t,rfl⟩:=r
    exact call_range_1 (range_it I1 (by omega) (by omega) q1 q2 (by simpa using q))
noncomputable def tFor (wi:TI) (g:TG) (tb:TS):TS:=fun D σ H=>wi σ H fun J H1=>∃ W:Nat→Nat→St→Hp→Prop,(∃ m,W 0 m σ H1)∧∀ i m σ H,W i m σ H →
  (J.stop i H∧D.nx σ H)∨(J.go i H∧∃ N:St→Hp→Prop,(∀ σ' H',N σ' H'→∃ m',m' < m∧W (i+1) m' σ' H')∧∀ x H',J.yld i H x H'→g x σ H' fun σ2 H2=>tb { D with nx:=N,ct:=N,bk:=D.nx } σ2 H2)
noncomputable def pinsAt (fp:List Addr) (h:Heap):List (Addr×Obj):=fp.filterMap fun b=>(h.get? b).map fun o=>(b,o)
theorem mem_pinsAt {fp:List Addr} {h:Heap} {b:Addr} {o:Obj} (hb:b∈fp) (e:h.get? b=some o):(b,o)∈pinsAt fp h:=List.mem_filterMap.mpr ⟨b,hb,by rw [e];rfl⟩
theorem of_pinsAt {fp:List Addr} {h:Heap} {p:Addr×Obj} (hp:p∈pinsAt fp h):p.1∈fp∧h.get? p.1=some p.2:=by
  obtain ⟨b,hb,e⟩:=List.mem_filterMap.mp hp
  cases q:h.get? b with
  | none=>rw [q] at e;cases e
  | some o =>
    rw [q] at e
    have e':(b,o)=p:=Option.some.inj e
    subst e'
    exact ⟨hb,q⟩
theorem Inv.pinned {pins:List (Addr×Obj)} {σ:St} {H:Hp} {s:Shared} {fp:List Addr} (I:Inv X pins σ H s) (hf:∀ b∈fp,FpOk X pins H b) (ho:∀ b∈fp,∃ o,s.heap.get? b=some o∧∀ v,o.data≠.cell v):Inv X (pins ++ pinsAt fp s.heap) σ H s :=
  I.pins_of fun p hp=>(List.mem_append.mp hp).elim (fun z=>I.pin p (List.mem_append_right _ z)) fun z=>by
    obtain ⟨hb,e⟩:=of_pinsAt z
    obtain ⟨f0,f1,f2,_⟩:=hf p.1 hb
    obtain ⟨o,e',d⟩:=ho p.1 hb
    rw [e] at e';cases e'
    exact ⟨e,f0,f1,f2,d⟩
theorem Inv.unpinned {pins pl:List (Addr×Obj)} {σ:St} {H:Hp} {s:Shared} (I:Inv X (pins ++ pl) σ H s):Inv X pins σ H s:=I.pins_of fun p hp=>I.pin p (List.mem_append_right _ (List.mem_append_left _ hp))
theorem ps_for {iter:Expr} {body:List Stmt} {wi:TI} {g:TG} {tb:TS} {pos:Pos} (hp:PassesOwn (model X.prog X.w) X.A X.env X.xe) (hc:X.calm=true) (hi:PI X tg iter wi) (hg:PG X tg g) (hb:PSs X body tb)
    (hs:∀ x,foldedSetIterable iter X.env x=pure x:=by intro _;rfl):PS X (.For tg iter body [] pos) (tFor wi g tb):=by
  intro pins s σ H D I h
  refine wpAny_For (thn (hi pins s σ H _ I h) fun v s1 h1=>thn h1 fun itv s2 h2=>?_) hs
  obtain ⟨it,fp,tn,J,H2,e,I2,T,st2,f2,W,⟨m0,w0⟩,turn⟩:=h2
  subst e
  -- what stays true of the iterator's objects through the loop
  have stat:∀ {H':Hp},(∀ b∈fp,H' b=none)→∀ b∈fp,FpOk X pins H' b:=fun hn b hb=>⟨hn b hb,(f2 b hb).2⟩
  refine codeAny_forLoop_any (fun n s'=>∃ i σ' H',Inv X pins σ' H' s'∧tn i s'.heap∧(∀ b∈fp,H' b=none)∧W i n σ' H') ?_ m0 ⟨0,σ,H2,I2,st2,fun b hb=>(f2 b hb).1,w0⟩
  rintro n s3 ⟨i,σ3,H3,I3,st3,fr3,w3⟩
  rcases turn i n σ3 H3 w3 with ⟨stop,qn⟩ | ⟨go,N,hN,step⟩
  · refine wpAny_passesOwn hp (thn (T.done X rfl rfl rfl hc i pins s3 σ3 H3 X.xe I3 (stat fr3) st3 stop) fun r s4 ⟨hr,I4⟩=>?_)
    subst hr
    exact wpAny_execs_nil ⟨σ3,H3,I4,qn⟩
  · refine wpAny_passesOwn hp (thn (T.item X rfl rfl rfl hc i pins s3 σ3 H3 X.xe I3 (stat fr3) st3 go) fun r s4 ⟨u,hr,h4⟩=>?_)
    subst hr
    refine wpAny_passesOwn hp (thn h4 fun _ s5 ⟨x,H5,I5,r5,y5,st5,fr5⟩=>?_)
    have I5':=I5.pinned (stat fr5) (T.obj _ _ st5)
    refine wpAny_passesOwn hp (thn (hg _ s5 σ3 H5 x u _ I5' r5 (step x H5 y5)) fun _ s6 ⟨σ6,H6,I6,q6⟩=>?_)
    refine wpAny_passesOwn hp (thn (hb _ s6 σ6 H6 _ I6 q6) fun f s7 q7=>?_)
    have again:∀ {σ7:St} {H7:Hp},Inv X (pins ++ pinsAt fp s5.heap) σ7 H7 s7→N σ7 H7→∃ m,m < n∧∃ i σ' H',Inv X pins σ' H' s7∧tn i s7.heap∧(∀ b∈fp,H' b=none)∧W i m σ' H':=fun {σ7 H7} I7 n7=>by
      obtain ⟨m',hm,w7⟩:=hN σ7 H7 n7
      refine ⟨m',hm,i+1,σ7,H7,I7.unpinned,T.keep _ _ _ st5 fun b hb o e=>(I7.pin (b,o) (List.mem_append_right _ (List.mem_append_right _ (mem_pinsAt hb e)))).1,fun b hb=>?_,w7⟩
      obtain ⟨o,e,d⟩:=T.obj _ _ st5 b hb
      exact (I7.pin (b,o) (List.mem_append_right _ (List.mem_append_right _ (mem_pinsAt hb e)))).2.1
    cases f with
    | next=>obtain ⟨σ7,H7,I7,n7⟩:=q7;exact again I7 n7
    | cont=>obtain ⟨σ7,H7,I7,n7⟩:=q7;exact again I7 n7
    | brk=>obtain ⟨σ7,H7,I7,q7⟩:=q7;exact ⟨σ7,H7,I7.unpinned,q7⟩
    | ret v=>obtain ⟨x7,σ7,H7,I7,r7,q7⟩:=q7;exact ⟨x7,σ7,H7,I7.unpinned,r7,q7⟩
end
theorem for_list {K:PySem.W.Frag} {a:Addr} {xs:List V} {g:TG} {tb:TS} {D:Ends} {σ:St} {H:Hp} (Pv:Nat→St→Hp→Prop) (h0:Pv 0 σ H) (hl:∀ i σ H,i≤xs.length→Pv i σ H→SqL K H a xs)
    (hs:∀ i x σ H,xs[i]?=some x→Pv i σ H→g x σ H fun σ2 H2=>tb { D with nx:=Pv (i+1),ct:=Pv (i+1),bk:=D.nx } σ2 H2) (hd:∀ σ H,Pv xs.length σ H→D.nx σ H) :
    ∃ W:Nat→Nat→St→Hp→Prop,(∃ m,W 0 m σ H)∧∀ i m σ H,W i m σ H →
      ((Itl K a).stop i H∧D.nx σ H)∨((Itl K a).go i H∧∃ N:St→Hp→Prop,(∀ σ' H',N σ' H'→∃ m',m' < m∧W (i+1) m' σ' H')∧∀ x H',(Itl K a).yld i H x H'→g x σ H' fun σ2 H2=>tb { D with nx:=N,ct:=N,bk:=D.nx } σ2 H2):=by
  refine ⟨fun i m σ H=>m=xs.length - i∧i≤xs.length∧Pv i σ H,⟨xs.length,by simp,Nat.zero_le _,h0⟩,?_⟩
  rintro i m σ H ⟨rfl,hi,p⟩
  have q:=hl i σ H hi p
  by_cases hlt:i < xs.length
  · refine .inr ⟨⟨xs,xs[i],q,by simp [hlt]⟩,Pv (i+1),fun σ' H' p'=>⟨xs.length - (i+1),by omega,rfl,hlt,p'⟩,fun x H' y=>?_⟩
    obtain ⟨e,y⟩:=y
    subst e
    exact hs i x σ _ (y xs q) p
  · have e:i=xs.length:=by omega
    subst e
    exact .inl ⟨⟨xs,q,Nat.le_refl _⟩,hd σ H p⟩
theorem for_range {lo:Int} {n:Nat} {g:TG} {tb:TS} {D:Ends} {σ:St} {H:Hp} (Pv:Nat→St→Hp→Prop) (h0:Pv 0 σ H)
    (hs:∀ i σ H,i < n→Pv i σ H→g (.int (lo+i)) σ H fun σ2 H2=>tb { D with nx:=Pv (i+1),ct:=Pv (i+1),bk:=D.nx } σ2 H2) (hd:∀ σ H,Pv n σ H→D.nx σ H) :
    ∃ W:Nat→Nat→St→Hp→Prop,(∃ m,W 0 m σ H)∧∀ i m σ H,W i m σ H →
      ((Itr lo n).stop i H∧D.nx σ H)∨((Itr lo n).go i H∧∃ N:St→Hp→Prop,(∀ σ' H',N σ' H'→∃ m',m' < m∧W (i+1) m' σ' H')∧∀ x H',(Itr lo n).yld i H x H'→g x σ H' fun σ2 H2=>tb { D with nx:=N,ct:=N,bk:=D.nx } σ2 H2):=by
  refine ⟨fun i m σ H=>m=n - i∧i≤n∧Pv i σ H,⟨n,by simp,Nat.zero_le _,h0⟩,?_⟩
  rintro i m σ H ⟨rfl,hi,p⟩
  by_cases hlt:i < n
  · refine .inr ⟨hlt,Pv (i+1),fun σ' H' p'=>⟨n - (i+1),by omega,rfl,hlt,p'⟩,fun x H' y=>?_⟩
    obtain ⟨e,y⟩:=y
    subst e y
    exact hs i σ _ hlt p
  · have e:i=n:=by omega
    subst e
    exact .inl ⟨Nat.le_refl _,hd σ H p⟩
theorem while_by {c:TT} {tb:TS} {D:Ends} {σ:St} {H:Hp} (Pv:St→Hp→Prop) (μ:St→Hp→Nat) (h0:Pv σ H)
    (hs:∀ σ H,Pv σ H→c σ H fun b H1=>if b=true then tb { D with nx:=fun σ' H'=>Pv σ' H'∧μ σ' H' < μ σ H,ct:=fun σ' H'=>Pv σ' H'∧μ σ' H' < μ σ H,bk:=D.nx } σ H1 else D.nx σ H1)
    (mono:∀ σ H Q Q',(∀ b H1,Q b H1→Q' b H1)→c σ H Q→c σ H Q'):tWhile c tb D σ H:=by
  refine ⟨fun m σ H=>m=μ σ H∧Pv σ H,⟨_,rfl,h0⟩,?_⟩
  rintro m σ H ⟨rfl,p⟩
  refine mono σ H _ _ (fun b H1 q=>?_) (hs σ H p)
  cases b with
  | true=>exact ⟨_,fun σ' H' ⟨p',l⟩=>⟨_,l,rfl,p'⟩,q⟩
  | false=>exact q
end L2
namespace L2
open PySem PySem.Spec PyProof.Rows
noncomputable abbrev R2:=V→V→Hp→VK→Prop
noncomputable def OpR (X:Cx) (f:Value→Value→Sem Value) (r:R2):Prop :=
  ∀ (pins:List (Addr×Obj)) (s:Shared) (σ:St) (H:Hp) (x y:V) (v u:Value) (Q:VK),Inv X pins σ H s→RelV x v→RelV y u→r x y H Q →
    wpAny (model X.prog X.w) X.A (f v u) (EP X pins σ Q) X.xe s
noncomputable def UnR (X:Cx) (f:Value→Sem Value) (r:V→Hp→VK→Prop):Prop :=
  ∀ (pins:List (Addr×Obj)) (s:Shared) (σ:St) (H:Hp) (x:V) (v:Value) (Q:VK),Inv X pins σ H s→RelV x v→r x H Q →
    wpAny (model X.prog X.w) X.A (f v) (EP X pins σ Q) X.xe s
noncomputable def CallR (X:Cx) (f:Value) (r:List V→Hp→VK→Prop):Prop :=
  ∀ (pins:List (Addr×Obj)) (s:Shared) (σ:St) (H:Hp) (xs:List V) (us:List Value) (Q:VK),Inv X pins σ H s→Vals xs us→r xs H Q →
    wpAny (model X.prog X.w) X.A (call f us) (EP X pins σ Q) X.xe s
noncomputable def tOp (r:R2) (ta tb:TE):TE:=fun σ H Q=>ta σ H fun x H1=>tb σ H1 fun y H2=>r x y H2 Q
noncomputable def tUn (r:V→Hp→VK→Prop) (ta:TE):TE:=fun σ H Q=>ta σ H fun x H1=>r x H1 Q
noncomputable def rI (C:Int→Int→Prop) (g:Int→Int→V):R2:=fun x y H Q=>exI x fun i=>exI y fun j=>C i j∧Q (g i j) H
noncomputable def rI0 (g:Int→Int→V):R2:=fun x y H Q=>exI x fun i=>exI y fun j=>Q (g i j) H
noncomputable def rU (g:Int→V):V→Hp→VK→Prop:=fun x H Q=>exI x fun i=>Q (g i) H
section
variable {X:Cx} {a b c:Expr} {ta tb tc:TE} {pos:Pos}
theorem binT (ha:PE X a ta) (hb:PE X b tb) {pins:List (Addr×Obj)} {s:Shared} {σ:St} {H:Hp} {R:V→V→Hp→Prop} (I:Inv X pins σ H s)
    (h:ta σ H fun x H1=>tb σ H1 fun y H2=>R x y H2) {Q:Value→Shared→Prop} {f:Value→Value→Sem Value}
    (hf:∀ v u s2 x y H2,Inv X pins σ H2 s2→RelV x v→RelV y u→R x y H2→wpAny (model X.prog X.w) X.A (f v u) Q X.xe s2) :
    wpAny (model X.prog X.w) X.A (eval a X.env) (fun v s₁=>wpAny (model X.prog X.w) X.A (eval b X.env) (fun u s₂=>wpAny (model X.prog X.w) X.A (f v u) Q X.xe s₂) X.xe s₁) X.xe s:=by
  refine thn (ha pins s σ H _ I h) fun v s1 ⟨x,H1,I1,r1,q1⟩=>?_
  refine thn (hb pins s1 σ H1 _ I1 q1) fun u s2 ⟨y,H2,I2,r2,q2⟩=>?_
  exact hf v u s2 x y H2 I2 r1 r2 q2
theorem pe_op {op:Operator} {r:R2} (ho:OpR X (binaryOp op) r) (ha:PE X a ta) (hb:PE X b tb):PE X (.BinOp a op b pos) (tOp r ta tb):=by
  intro pins s σ H Q I h
  exact wpAny_BinOp (binT ha hb I h fun v u s2 x y H2 I2 rx ry q=>ho pins s2 σ H2 x y v u Q I2 rx ry q)
theorem pe_un {op:UnaryOp} {r:V→Hp→VK→Prop} (ho:UnR X (unaryOp op) r) (ha:PE X a ta):PE X (.UnaryOp op a pos) (tUn r ta):=by
  intro pins s σ H Q I h
  exact UnaryOp_ (thn (ha pins s σ H _ I h) fun v s1 ⟨x,H1,I1,r1,q1⟩=>ho pins s1 σ H1 x v Q I1 r1 q1)
theorem opI {f:Value→Value→Sem Value} {C:Int→Int→Prop} {g:Int→Int→Int}
    (rule:∀ (i j:Int) (t u:Tok) (s:Shared) (Q:Value→Shared→Prop) (E:Value→Shared→Prop),C i j→Q (.int (g i j) s.toks) { s with toks:=s.toks+1 }→wpAny (model X.prog X.w) X.A (f (.int i t) (.int j u)) Q E s) :
    OpR X f (rI C fun i j=>.int (g i j)):=by
  intro pins s σ H x y v u Q I rx ry h
  obtain ⟨i,rfl,h1⟩:=Eq.mp exI_ex h
  obtain ⟨j,rfl,hc,q⟩:=Eq.mp exI_ex h1
  obtain ⟨t,rfl⟩:=rx
  obtain ⟨t',rfl⟩:=ry
  exact rule i j t t' s _ _ hc ⟨.int (g i j),H,I.tok _,⟨_,rfl⟩,q⟩
theorem opI0 {f:Value→Value→Sem Value} {g:Int→Int→Int}
    (rule:∀ (i j:Int) (t u:Tok) (s:Shared) (Q:Value→Shared→Prop) (E:Value→Shared→Prop),Q (.int (g i j) s.toks) { s with toks:=s.toks+1 }→wpAny (model X.prog X.w) X.A (f (.int i t) (.int j u)) Q E s) :
    OpR X f (rI0 fun i j=>.int (g i j)):=by
  intro pins s σ H x y v u Q I rx ry h
  obtain ⟨i,rfl,h1⟩:=Eq.mp exI_ex h
  obtain ⟨j,rfl,q⟩:=Eq.mp exI_ex h1
  obtain ⟨t,rfl⟩:=rx
  obtain ⟨t',rfl⟩:=ry
  exact rule i j t t' s _ _ ⟨.int (g i j),H,I.tok _,⟨_,rfl⟩,q⟩
theorem opB0 {f:Value→Value→Sem Value} {g:Int→Int→Bool}
    (rule:∀ (i j:Int) (t u:Tok) (s:Shared) (Q:Value→Shared→Prop) (E:Value→Shared→Prop),Q (.bool (g i j)) s→wpAny (model X.prog X.w) X.A (f (.int i t) (.int j u)) Q E s) :
    OpR X f (rI0 fun i j=>.bl (g i j)):=by
  intro pins s σ H x y v u Q I rx ry h
  obtain ⟨i,rfl,h1⟩:=Eq.mp exI_ex h
  obtain ⟨j,rfl,q⟩:=Eq.mp exI_ex h1
  obtain ⟨t,rfl⟩:=rx
  obtain ⟨t',rfl⟩:=ry
  exact rule i j t t' s _ _ ⟨.bl (g i j),H,I,rfl,q⟩
noncomputable def CDiv (i j:Int):Prop:=0 < j∧j < 1073741824
noncomputable def CPow (i j:Int):Prop:=0≤j∧j≤1000000∧i.natAbs < 2 ^ 64
noncomputable def CMul (i j:Int):Prop:=(-(2 ^ 64) < i∧i < 2 ^ 64)∨(-(2 ^ 64) < j∧j < 2 ^ 64)
theorem CMul.ok {i j:Int} (h:CMul i j):IntMulOk i j:=by
  rcases h with ⟨h1,h2⟩ | ⟨h1,h2⟩
  · exact .of_left (intBits_le_64 h1 h2)
  · exact .of_right (intBits_le_64 h1 h2)
theorem op_add:OpR X (binaryOp .Add) (rI0 fun i j=>.int (i+j)):=opI0 fun _ _ _ _ _ _ _ q=>add_int q
theorem op_sub:OpR X (binaryOp .Sub) (rI0 fun i j=>.int (i - j)):=opI0 fun _ _ _ _ _ _ _ q=>sub_int q
theorem op_fdiv:OpR X (binaryOp .FloorDiv) (rI CDiv fun i j=>.int (i / j)):=opI fun i j _ _ _ _ _ hc q=>by
  have h1:(0:Int) < j:=hc.1
  have h2:j < 1073741824:=hc.2
  exact floordiv_int (by omega) (by rw [Int.fdiv_eq_ediv_of_nonneg i (by omega)];exact q) (.inl (PyProof.noPylong_small (by omega)))
theorem op_mod:OpR X (binaryOp .Mod) (rI (fun _ j=>0 < j) fun i j=>.int (i % j)):=opI fun i j _ _ _ _ _ hc q=>by
  have h1:(0:Int) < j:=hc
  exact mod_int' (by omega) (by rw [Int.fmod_eq_emod_of_nonneg i (by omega)];exact q)
theorem op_pow:OpR X (binaryOp .Pow) (rI CPow fun i j=>.int (i ^ j.toNat)):=opI fun _ _ _ _ _ _ _ hc q=>pow_int_small hc.1 hc.2.1 hc.2.2 q
theorem unI {f:Value→Sem Value} {g:Int→Int}
    (rule:∀ (i:Int) (t:Tok) (s:Shared) (Q:Value→Shared→Prop) (E:Value→Shared→Prop),Q (.int (g i) s.toks) { s with toks:=s.toks+1 }→wpAny (model X.prog X.w) X.A (f (.int i t)) Q E s) :
    UnR X f (rU fun i=>.int (g i)):=by
  intro pins s σ H x v Q I rx h
  obtain ⟨i,rfl,q⟩:=Eq.mp exI_ex h
  obtain ⟨t,rfl⟩:=rx
  exact rule i t s _ _ ⟨.int (g i),H,I.tok _,⟨_,rfl⟩,q⟩
theorem un_neg:UnR X (unaryOp .USub) (rU fun i=>.int (-i)):=unI fun _ _ _ _ _ q=>neg_int q
end
noncomputable def scal:V→V→Bool
  | .non,.non=>true | .non,.int _=>true | .int _,.non=>true | .non,.bl _=>true | .bl _,.non=>true | .non,.str _=>true | .str _,.non=>true
  | .int _,.int _=>true | .bl _,.bl _=>true | .str _,.str _=>true | .byt _,.byt _=>true
  | .int _,.str _=>true | .str _,.int _=>true | .bl _,.str _=>true | .str _,.bl _=>true
  | _,_=>false
noncomputable def rEq:R2:=fun x y H Q=>scal x y=true∧Q (.bl (decide (x=y))) H
theorem scal_ii {i j:Int}:scal (.int i) (.int j)=true:=rfl
noncomputable def rNe:R2:=fun x y H Q=>scal x y=true∧Q (.bl (!decide (x=y))) H
theorem dec_int {i j:Int}:decide (V.int i=V.int j)=(i == j):=by
  rw [Bool.eq_iff_iff]
  simp
theorem dec_bl {i j:Bool}:decide (V.bl i=V.bl j)=(i == j):=by
  rw [Bool.eq_iff_iff]
  simp
theorem dec_str {i j:Str}:decide (V.str i=V.str j)=(i == j):=by
  rw [Bool.eq_iff_iff]
  simp
theorem dec_byt {i j:Array UInt8}:decide (V.byt i=V.byt j)=(i.toList == j.toList):=by
  rw [Bool.eq_iff_iff]
  cases i
  cases j
  simp
section
variable {X:Cx} {a b c:Expr} {ta tb tc:TE} {pos:Pos}
theorem fin_bl {pins:List (Addr×Obj)} {σ:St} {H:Hp} {s:Shared} {Q:VK} {k k':Bool} (I:Inv X pins σ H s) (q:Q (.bl k) H) (e:k=k'):EP X pins σ Q (.bool k') s:=by
  subst e
  exact ⟨.bl k,H,I,rfl,q⟩
theorem op_eq:OpR X (compareOp .Eq) rEq:=by
  intro pins s σ H x y v u Q I rx ry h
  obtain ⟨hs,q⟩:=h
  cases x with
  | non =>
    cases rx
    cases y with
    | non=>cases ry;exact PySem.EqNone.eq_none_none (fin_bl I q (by simp))
    | bl j=>cases ry;exact PySem.EqNone.eq_none_bool (fin_bl I q (by simp))
    | int j=>obtain ⟨t',rfl⟩:=ry;exact PySem.EqNone.eq_none_int (fin_bl I q (by simp))
    | str j=>obtain ⟨t',rfl⟩:=ry;exact PySem.EqNone.eq_none_str (fin_bl I q (by simp))
    | _=>exact absurd (show false=true from hs) Bool.false_ne_true
  | bl i =>
    cases rx
    cases y with
    | non=>cases ry;exact PySem.EqNone.eq_bool_none (fin_bl I q (by simp))
    | bl j=>cases ry;exact eq_bool (fin_bl I q dec_bl)
    | str j=>obtain ⟨t',rfl⟩:=ry;exact PySem.EqMixed.eq_bool_str (fin_bl I q (by simp))
    | _=>exact absurd (show false=true from hs) Bool.false_ne_true
  | int i =>
    obtain ⟨t,rfl⟩:=rx
    cases y with
    | non=>cases ry;exact PySem.EqNone.eq_int_none (fin_bl I q (by simp))
    | int j=>obtain ⟨t',rfl⟩:=ry;exact eq_int (fin_bl I q dec_int)
    | str j=>obtain ⟨t',rfl⟩:=ry;exact PySem.EqMixed.eq_int_str (fin_bl I q (by simp))
    | _=>exact absurd (show false=true from hs) Bool.false_ne_true
  | str i =>
    obtain ⟨t,rfl⟩:=rx
    cases y with
    | non=>cases ry;exact PySem.EqNone.eq_str_none (fin_bl I q (by simp))
    | bl j=>cases ry;exact PySem.EqMixed.eq_str_bool (fin_bl I q (by simp))
    | int j=>obtain ⟨t',rfl⟩:=ry;exact PySem.EqMixed.eq_str_int (fin_bl I q (by simp))
    | str j=>obtain ⟨t',rfl⟩:=ry;exact eq_str (fin_bl I q dec_str)
    | _=>exact absurd (show false=true from hs) Bool.false_ne_true
  | byt i =>
    obtain ⟨t,rfl⟩:=rx
    cases y with
    | byt j=>obtain ⟨t',rfl⟩:=ry;exact PySem.W.eq_bytes (fin_bl I q dec_byt)
    | _=>exact absurd (show false=true from hs) Bool.false_ne_true
  | _=>cases y <;> exact absurd (show false=true from hs) Bool.false_ne_true
theorem op_ne:OpR X (compareOp .NotEq) rNe:=by
  intro pins s σ H x y v u Q I rx ry h
  obtain ⟨hs,q⟩:=h
  cases x with
  | non =>
    cases rx
    cases y with
    | non=>cases ry;exact PySem.EqNone.ne_none_none (fin_bl I q (by simp))
    | bl j=>cases ry;exact PySem.EqNone.ne_none_bool (fin_bl I q (by simp))
    | int j=>obtain ⟨t',rfl⟩:=ry;exact PySem.EqNone.ne_none_int (fin_bl I q (by simp))
    | str j=>obtain ⟨t',rfl⟩:=ry;exact PySem.EqNone.ne_none_str (fin_bl I q (by simp))
    | _=>exact absurd (show false=true from hs) Bool.false_ne_true
  | bl i =>
    cases rx
    cases y with
    | non=>cases ry;exact PySem.EqNone.ne_bool_none (fin_bl I q (by simp))
    | bl j=>cases ry;exact ne_bool (fin_bl I q (congrArg not dec_bl))
    | str j=>obtain ⟨t',rfl⟩:=ry;exact PySem.EqMixed.ne_bool_str (fin_bl I q (by simp))
    | _=>exact absurd (show false=true from hs) Bool.false_ne_true
  | int i =>
    obtain ⟨t,rfl⟩:=rx
    cases y with
    | non=>cases ry;exact PySem.EqNone.ne_int_none (fin_bl I q (by simp))
    | int j=>obtain ⟨t',rfl⟩:=ry;exact ne_int (fin_bl I q (congrArg not dec_int))
    | str j=>obtain ⟨t',rfl⟩:=ry;exact PySem.EqMixed.ne_int_str (fin_bl I q (by simp))
    | _=>exact absurd (show false=true from hs) Bool.false_ne_true
  | str i =>
    obtain ⟨t,rfl⟩:=rx
    cases y with
    | non=>cases ry;exact PySem.EqNone.ne_str_none (fin_bl I q (by simp))
    | bl j=>cases ry;exact PySem.EqMixed.ne_str_bool (fin_bl I q (by simp))
    | int j=>obtain ⟨t',rfl⟩:=ry;exact PySem.EqMixed.ne_str_int (fin_bl I q (by simp))
    | str j=>obtain ⟨t',rfl⟩:=ry;exact ne_str (fin_bl I q (congrArg not dec_str))
    | _=>exact absurd (show false=true from hs) Bool.false_ne_true
  | byt i =>
    obtain ⟨t,rfl⟩:=rx
    cases y with
    | byt j=>obtain ⟨t',rfl⟩:=ry;exact PySem.W.ne_bytes (fin_bl I q (congrArg not dec_byt))
    | _=>exact absurd (show false=true from hs) Bool.false_ne_true
  | _=>cases y <;> exact absurd (show false=true from hs) Bool.false_ne_true
theorem op_lt:OpR X (compareOp .Lt) (rI0 fun i j=>.bl (decide (i < j))):=opB0 fun _ _ _ _ _ _ _ q=>lt_int q
theorem op_gt:OpR X (compareOp .Gt) (rI0 fun i j=>.bl (decide (j < i))):=opB0 fun _ _ _ _ _ _ _ q=>gt_int q
theorem op_ge:OpR X (compareOp .GtE) (rI0 fun i j=>.bl (decide (j≤i))):=opB0 fun _ _ _ _ _ _ _ q=>ge_int q
theorem op_isN:OpR X (compareOp .Is) (fun x y H Q=>y=.non∧Q (.bl (decide (x=.non))) H):=by
  intro pins s σ H x y v u Q I rx ry h
  obtain ⟨rfl,q⟩:=h
  cases ry
  refine is_none_gen (fin_bl I q ?_)
  cases x <;> first
    | (cases rx;rfl)
    | (obtain ⟨t,rfl⟩:=rx;rfl)
theorem OpR.or {f:Value→Value→Sem Value} {r r':R2} (h:OpR X f r) (h':OpR X f r'):OpR X f (fun x y H Q=>r x y H Q∨r' x y H Q):=by
  intro pins s σ H x y v u Q I rx ry q
  rcases q with q | q
  · exact h pins s σ H x y v u Q I rx ry q
  · exact h' pins s σ H x y v u Q I rx ry q
theorem nomark (b:Expr) {op:CmpOp} (h:op≠.In:=by decide) (h2:op≠.NotIn:=by decide):behindInMarks op b=false:=by
  have e1:(op == CmpOp.In)=false:=by cases op <;> first | rfl | exact absurd rfl h
  have e2:(op == CmpOp.NotIn)=false:=by cases op <;> first | rfl | exact absurd rfl h2
  cases b <;> simp [behindInMarks,e1,e2]
theorem pe_cmpR {op:CmpOp} {r:R2} (ho:OpR X (compareOp op) r) (ha:PE X a ta) (hb:PE X b tb) (hm:behindInMarks op b=false):PE X (.Compare a [op] [b] pos) (tOp r ta tb):=by
  intro pins s σ H Q I h
  exact wpAny_Compare1 (binT ha hb I h fun v u s2 x y H2 I2 rx ry q=>ho pins s2 σ H2 x y v u Q I2 rx ry q) hm
noncomputable def tTest (t:TE):TT:=fun σ H Q=>t σ H fun x H'=>exB x fun k=>Q k H'
theorem pt_cmpR {op:CmpOp} {r:R2} (ho:OpR X (compareOp op) r) (ha:PE X a ta) (hb:PE X b tb) (hm:behindInMarks op b=false):PT X (.Compare a [op] [b] pos) (tTest (tOp r ta tb)):=by
  intro pins s σ H Q I h
  refine wpAny_isTrue_Compare1 (thn (ha pins s σ H _ I h) fun v s1 ⟨x,H1,I1,r1,q1⟩=>thn (hb pins s1 σ H1 _ I1 q1) fun u s2 ⟨y,H2,I2,r2,q2⟩ =>
    thn (ho pins s2 σ H2 x y v u _ I2 r1 r2 q2) fun c s3 ⟨z,H3,I3,r3,q3⟩=>?_) hm
  obtain ⟨k,e,q3⟩:=Eq.mp exB_ex q3
  subst e
  cases r3
  exact wpAny_truthy_bool ⟨H3,I3,q3⟩
theorem line63:(sizeLine:Nat) < 2 ^ 63:=by rw [sizeLine_eq];decide
theorem vals1 {x:V} {us:List Value} (r:Vals [x] us):∃ u,us=[u]∧RelV x u:=by
  cases r with
  | cons r1 r2=>cases r2;exact ⟨_,rfl,r1⟩
theorem vals2 {x y:V} {us:List Value} (r:Vals [x,y] us):∃ u w',us=[u,w']∧RelV x u∧RelV y w':=by
  cases r with
  | cons r1 r2 =>
    cases r2 with
    | cons r3 r4=>cases r4;exact ⟨_,_,rfl,r1,r3⟩
theorem call_abs:CallR X (.builtin "abs") (fun xs H Q=>∃ i,xs=[.int i]∧Q (.int (if i < 0 then -i else i)) H):=by
  intro pins s σ H xs us Q I r h
  obtain ⟨i,rfl,q⟩:=h
  obtain ⟨u,rfl,t,rfl⟩:=vals1 r
  exact call_abs_int fun u tk=>⟨.int (if i < 0 then -i else i),H,I.tok _,⟨_,rfl⟩,q⟩
theorem call_max2 (hc:X.calm=true):CallR X (.builtin "max") (fun xs H Q=>∃ i j,xs=[.int i,.int j]∧Q (.int (if j > i then j else i)) H):=by
  intro pins s σ H xs us Q I r h
  obtain ⟨i,j,rfl,q⟩:=h
  obtain ⟨u,w',rfl,⟨t,rfl⟩,⟨t',rfl⟩⟩:=vals2 r
  refine max_two_ints (I.ok.hd hc) fun h' tk k=>⟨_,H,I.kept k,?_,q⟩
  by_cases hj:j > i
  · rw [if_pos hj,if_pos hj];exact ⟨_,rfl⟩
  · rw [if_neg hj,if_neg hj];exact ⟨_,rfl⟩
theorem call_min2 (hc:X.calm=true):CallR X (.builtin "min") (fun xs H Q=>∃ i j,xs=[.int i,.int j]∧Q (.int (if j < i then j else i)) H):=by
  intro pins s σ H xs us Q I r h
  obtain ⟨i,j,rfl,q⟩:=h
  obtain ⟨u,w',rfl,⟨t,rfl⟩,⟨t',rfl⟩⟩:=vals2 r
  refine min_two_ints (I.ok.hd hc) fun h' tk k=>⟨_,H,I.kept k,?_,q⟩
  by_cases hj:j < i
  · rw [if_pos hj,if_pos hj];exact ⟨_,rfl⟩
  · rw [if_neg hj,if_neg hj];exact ⟨_,rfl⟩
end
end L2
namespace L2
open PySem PySem.Spec PyProof.Rows
structure ObjM (h:Heap) (x dx C:Addr) (mA:Str→Option Value):Prop where
  obj:h.get? x=some (PySem.W.instObj C dx)
  ns:h.Ns1 dx mA
  ne:dx≠x
theorem lookIn_ns {h:Heap} {dx:Addr} {mA:Str→Option Value} (n:h.Ns1 dx mA):∃ od,h.get? dx=some od∧∀ name,PySem.W.lookIn name od=some (mA name):=by
  obtain ⟨o,es,ep,ho,hd,hk,_,hm⟩:=n
  refine ⟨o,ho,fun name=>?_⟩
  have e:=hm name
  unfold nsFind findBy at e
  rw [← Array.find?_toList] at e
  unfold PySem.W.lookIn
  rw [hd]
  dsimp only
  split
  · rename_i y q
    rw [q] at e
    exact congrArg some e
  · rename_i q
    rw [q] at e
    have a:es.toList.any (·.refKey)=false:=by
      rw [List.any_eq_false]
      intro y hy
      obtain ⟨z,t,hkey⟩:=hk y (Array.mem_toList_iff.mp hy)
      simp [DictEntry.refKey,hkey]
    have a':¬ es.toList.any (·.refKey)=true:=by rw [a];exact Bool.false_ne_true
    rw [if_neg a']
    exact congrArg some e
theorem ObjM.look {h:Heap} {x dx C:Addr} {mA:Str→Option Value} (I:ObjM h x dx C mA):∃ od,PySem.W.InstAt h x (PySem.W.instObj C dx) C (some od)∧∀ name,PySem.W.lookIn name od=some (mA name) :=
  let ⟨od,ho,hl⟩:=lookIn_ns I.ns
  ⟨od,⟨I.obj,rfl,rfl,ho⟩,hl⟩
section
variable {prog:Program} {w:World} {A:Around} {E:Value→Shared→Prop} {s:Shared} {K:PySem.W.Frag} {x dx C f:Addr} {mA:Str→Option Value} {name:Str} {v:Value}
theorem get_map {expr:Bool} {Q:Value→Shared→Prop} (X:K.In s.heap) (I:ObjM s.heap x dx C mA) (hg:PySem.W.plainGet K C name=true) (hh:PySem.W.hasDictIn K C=true)
    (ha:PySem.W.findIn K (.ref C) name=some none) (hv:mA name=some v) (hv':PySem.W.handedIn v=true) (h:Q v { s with toks:=s.toks+1 }) :
    wpAny (model prog w) A (getAttr (.ref x) name expr) Q E s:=by
  obtain ⟨od,J,hl⟩:=I.look
  exact PySem.W.get_value X J (PySem.W.plainGet_of hg).1 (PySem.W.findObj_own hh ha rfl (by rw [hl,hv])) hv' h
theorem get_meth {pl:Sem Bool} {Q:Value×List Value→Shared→Prop} (X:K.In s.heap) (I:ObjM s.heap x dx C mA) (hg:PySem.W.plainGet K C name=true)
    (hf:PySem.W.findIn K (.ref C) name=some (some (.ref f))) (ht:PySem.W.isFn K (.ref f)=true) (hv:mA name=none) (h:Q (.ref f,[.ref x]) s) :
    wpAny (model prog w) A (getMethod (.ref x) name pl) Q E s:=by
  obtain ⟨od,J,hl⟩:=I.look
  exact PySem.W.method_fn X J (PySem.W.plainGet_of hg).1 (PySem.W.plainGet_of hg).2 hf (beq_iff_eq.mp ht) (by show (PySem.W.lookIn name od).map (·.isSome)=some false;rw [hl,hv];rfl) h
theorem set_map {ns:List Str} {Q:Unit→Shared→Prop} (X:K.In s.heap) (I:ObjM s.heap x dx C mA)
    (hs:PySem.W.findIn K (.ref C) "__setattr__" = some (some (.builtin "object.__setattr__"))) (hp:PySem.W.plainOver K C=true) (ht:PySem.W.takerIn K C name=some none) (hh:PySem.W.hasDictIn K C=true)
    (hw:PySem.Within mA ns) (hsz:ns.length≤sizeLine)
    (h:∀ h',ObjM h' x dx C (fun y=>if y=name then some v else mA y)→Heap.SameBut dx s.heap h'→Q () { s with heap:=h',toks:=s.toks+2 }) :
    wpAny (model prog w) A (setAttr (.ref x) name v) Q E s:=by
  obtain ⟨od,J,hl⟩:=I.look
  refine PySem.W.set_plain X J hs (PySem.W.osa_open (s:={ s with toks:=s.toks+1 }) (r:=none) X J hp ht fun b=>?_)
  obtain ⟨cd,hc,hd'⟩:=PySem.W.any_some hh
  have hx:s.heap.get? x=some ⟨.ref C,some dx,.plain,#[]⟩:=I.obj
  refine wpAny_bind (wpAny_pure (wpAny_bind (wpAny_bind (wpAny_loadPart hx (wpAny_bind (PySem.W.Looks.here (s:={ s with toks:=s.toks+1 }) (PySem.W.looks_clsIn X hc) ?_))))))
  rw [hd']
  refine wpAny_pure (a:=some dx) (wpAny_bind (wpAny_pure (wpAny_bind ?_)))
  refine wpAny_nsSet1 (s:={ s with toks:=s.toks+1 }) I.ns fun h' hn2 hs2=>?_
  obtain ⟨oD,esD,epD,hoD,hdD,hcD⟩:=hn2.count (PySem.Within.cons name v hw)
  refine wpAny_bind (wpAny_lookBehind hoD (by rw [hdD];exact pastItsLine_dict (Nat.le_trans hcD (by rw [List.length_cons];omega))) ?_)
  exact wpAny_pure (h _ ⟨(hs2.2 _ (Ne.symm I.ne)).trans I.obj,hn2,I.ne⟩ hs2)
theorem make_map {R:Result→Shared→Prop} {vs:List Value} {kw:List (Str×Value)} (X:K.In s.heap) (hm:PySem.W.makesIn K C=true)
    (hi:PySem.W.findIn K (.ref C) "__init__" = some (some (.ref f))) (hf:PySem.W.typeIn K (.ref f)=some (.type "function"))
    (h:codeAny (model prog w) (A.under (.builtin "type.__call__" ⟨.ref C :: vs,kw⟩)) (.call (.ref f) ⟨.ref (s.heap.objs.size+1) :: vs,kw⟩) (PySem.W.InitBack (s.heap.objs.size+1) R)
      { s with heap:=(s.heap.push PySem.W.emptyDict).push (PySem.W.instObj C s.heap.objs.size) }) :
    codeAny (model prog w) A (.call (.ref C) ⟨vs,kw⟩) R s:=by
  obtain ⟨hh,g,d,t,os⟩:=s
  exact PySem.W.make_core (PySem.W.makes_of X hm) (PySem.W.looks_findIn X hi) (fun self=>PySem.W.bind_fn X self hf) (.inl rfl) h
end
noncomputable def putF (f:Str) (v:V):List (Str×V)→List (Str×V)
  | []=>[(f,v)]
  | (g,x) :: r=>if g=f then (g,v) :: r else (g,x) :: putF f v r
theorem lookup_putF (f g:Str) (v:V):∀ fs:List (Str×V),(putF f v fs).lookup g=if g=f then some v else fs.lookup g
  | []=>by
    show List.lookup g [(f,v)]=_
    by_cases h:g=f
    · have hb:(g == f)=true:=beq_iff_eq.mpr h
      simp only [List.lookup,hb,if_pos h]
    · have hb:(g == f)=false:=beq_eq_false_iff_ne.mpr h
      simp only [List.lookup,hb,if_neg h]
  | (k,x) :: r=>by
    have ih:=lookup_putF f g v r
    rw [show putF f v ((k,x) :: r)=(if k=f then (k,v) :: r else (k,x) :: putF f v r) from rfl]
    by_cases hk:k=f
    · rw [if_pos hk]
      by_cases h:g=k
      · have hb:(g == k)=true:=beq_iff_eq.mpr h
        simp only [List.lookup,hb,if_pos (h.trans hk)]
      · have hb:(g == k)=false:=beq_eq_false_iff_ne.mpr h
        simp only [List.lookup,hb,if_neg (fun e:g=f=>h (e.trans hk.symm))]
    · rw [if_neg hk]
      by_cases h:g=k
      · have hb:(g == k)=true:=beq_iff_eq.mpr h
        simp only [List.lookup,hb,if_neg (fun e:g=f=>hk (h.symm.trans e))]
      · have hb:(g == k)=false:=beq_eq_false_iff_ne.mpr h
        simp only [List.lookup,hb]
        exact ih
theorem keys_putF (f:Str) (v:V):∀ fs:List (Str×V),f∈(putF f v fs).map (·.1)∧∀ g,g∈fs.map (·.1)→g∈(putF f v fs).map (·.1)
  | []=>⟨by simp [putF],fun g h=>by simp at h⟩
  | (k,x) :: r=>by
    obtain ⟨i1,i2⟩:=keys_putF f v r
    rw [show putF f v ((k,x) :: r)=(if k=f then (k,v) :: r else (k,x) :: putF f v r) from rfl]
    by_cases hk:k=f
    · rw [if_pos hk]
      subst hk
      exact ⟨by simp,fun g h=>by simpa using h⟩
    · rw [if_neg hk]
      refine ⟨?_,fun g h=>?_⟩
      · rw [List.map_cons]
        exact List.mem_cons_of_mem _ i1
      · rw [List.map_cons] at h ⊢
        rcases List.mem_cons.mp h with e | e
        · exact List.mem_cons.mpr (.inl e)
        · exact List.mem_cons_of_mem _ (i2 g e)
theorem length_putF (f:Str) (v:V):∀ fs:List (Str×V),(putF f v fs).length≤fs.length+1
  | []=>by simp [putF]
  | (k,x) :: r=>by
    have ih:=length_putF f v r
    rw [show putF f v ((k,x) :: r)=(if k=f then (k,v) :: r else (k,x) :: putF f v r) from rfl]
    by_cases hk:k=f
    · rw [if_pos hk,List.length_cons,List.length_cons];omega
    · rw [if_neg hk,List.length_cons,List.length_cons];omega
theorem RelO.some_of {v:V} {o:Option Value} (r:RelO (some v) o):∃ u,o=some u∧RelV v u:=by
  cases o with
  | none=>exact (show False from r).elim
  | some u=>exact ⟨u,rfl,r⟩
theorem RelO.none_of {o:Option Value} (r:RelO none o):o=none:=by
  cases o with
  | none=>rfl
  | some u=>exact (show False from r).elim
theorem handed_of {v:V} {u:Value} (r:RelV v u):PySem.W.handedIn u=true:=by
  cases v with
  | non=>cases (show u=Value.none from r);rfl
  | bl b=>cases (show u=Value.bool b from r);rfl
  | int i=>obtain ⟨t,e⟩:=(show ∃ t,u=Value.int i t from r);cases e;rfl
  | str x=>obtain ⟨t,e⟩:=(show ∃ t,u=Value.str x t from r);cases e;rfl
  | byt b=>obtain ⟨t,e⟩:=(show ∃ t,u=Value.bytes b t from r);cases e;rfl
  | flt b=>obtain ⟨t,e⟩:=(show ∃ t,u=Value.float b t from r);cases e;rfl
  | ref a=>cases (show u=Value.ref a from r);rfl
  | ty n=>cases (show u=Value.type n from r);rfl
section
variable {P:Program} {w:World} {H H':Hp} {h h':Heap} {a C dx:Addr} {fs fs':List (Str×V)}
theorem ins_get (hok:HOk P w H h) (e:H a=some (.ins C dx fs)):∃ mA,ObjM h a dx C mA∧(∀ f,RelO (fs.lookup f) (mA f))∧PySem.Within mA (fs.map (·.1))∧fs.length≤1000∧H dx=some (.own a):=by
  obtain ⟨d,z,ne,ob,mA,n,r,q⟩:=(show ObjOk P w H h a (.ins C dx fs) from hok a _ e)
  exact ⟨mA,⟨ob,n,ne⟩,r,q,z,d⟩
end
structure Cls (K:PySem.W.Frag) (C:Addr):Prop where
  pg:PySem.W.plainGet K C Str.empty=true
  hd:PySem.W.hasDictIn K C=true
  po:PySem.W.plainOver K C=true
  sa:PySem.W.findIn K (.ref C) "__setattr__" = some (some (.builtin "object.__setattr__"))
theorem Cls.get {K:PySem.W.Frag} {C:Addr} (c:Cls K C) (f:Str):PySem.W.plainGet K C f=true:=c.pg
noncomputable def NoAttr (K:PySem.W.Frag) (C:Addr) (f:Str):Prop:=PySem.W.findIn K (.ref C) f=some none
theorem NoAttr.taker {K:PySem.W.Frag} {C:Addr} {f:Str} (n:NoAttr K C f):PySem.W.takerIn K C f=some none:=by
  unfold PySem.W.takerIn
  rw [show PySem.W.findIn K (.ref C) f=some none from n]
  rfl
structure Meth (K:PySem.W.Frag) (C:Addr) (m:Str) (f:Addr):Prop where
  at_:PySem.W.findIn K (.ref C) m=some (some (.ref f))
  fn:PySem.W.isFn K (.ref f)=true
  kp:PySem.W.keepIn K (.ref f)=true
section
variable {X:Cx} {pins:List (Addr×Obj)} {σ:St} {H:Hp} {s:Shared} {a C dx:Addr} {fs:List (Str×V)} {f:Str} {v:V} {A:Around} {E:Value→Shared→Prop}
theorem getattr_ok {b:Bool} {Q:Value→Shared→Prop} (I:Inv X pins σ H s) (e:H a=some (.ins C dx fs)) (c:Cls X.K C) (n:NoAttr X.K C f) (l:fs.lookup f=some v)
    (h:∀ u s',Inv X pins σ H s'→RelV v u→Q u s'):wpAny (model X.prog X.w) A (getAttr (.ref a) f b) Q E s:=by
  obtain ⟨mA,O,r,_,_,_⟩:=ins_get I.hok e
  obtain ⟨u,hu,ru⟩:=RelO.some_of (v:=v) (o:=mA f) (by rw [← l];exact r f)
  exact get_map I.kIn O (c.get f) c.hd n hu (handed_of ru) (h u _ (I.tok _) ru)
theorem getmeth_ok {m:Str} {g:Addr} {pl:Sem Bool} {Q:Value×List Value→Shared→Prop} (I:Inv X pins σ H s) (e:H a=some (.ins C dx fs)) (c:Cls X.K C) (k:Meth X.K C m g) (l:fs.lookup m=none)
    (h:Q (.ref g,[.ref a]) s):wpAny (model X.prog X.w) A (getMethod (.ref a) m pl) Q E s:=by
  obtain ⟨mA,O,r,_,_,_⟩:=ins_get I.hok e
  have hn:mA m=none:=RelO.none_of (by rw [← l];exact r m)
  exact get_meth I.kIn O (c.get m) k.at_ k.fn hn h
theorem setattr_ok {y:V} {u:Value} {Q:Unit→Shared→Prop} (I:Inv X pins σ H s) (e:H a=some (.ins C dx fs)) (c:Cls X.K C) (n:NoAttr X.K C f) (hl:fs.length < 1000) (ry:RelV y u)
    (h:∀ s',Inv X pins σ (upd H a (.ins C dx (putF f y fs))) s'→Q () s'):wpAny (model X.prog X.w) A (setAttr (.ref a) f u) Q E s:=by
  obtain ⟨mA,O,r,wi,_,ho⟩:=ins_get I.hok e
  have hz:(fs.map (·.1)).length≤sizeLine:=by rw [List.length_map,sizeLine_eq];omega
  refine set_map I.kIn O c.sa c.po n.taker c.hd wi hz fun h' O' sb=>h _ ?_
  have hd:∃ o,h'.get? dx=some o:=let ⟨o,_,_,e',_⟩:=O'.ns;⟨o,e'⟩
  refine I.write (x:=a) (e:=dx) (by rw [e];exact True.intro) (.inr ho) (fun b q hb z=>(sb.2 b hb).trans z) hd ?_
  refine ⟨by rw [upd_ne O.ne];exact ho,?_,O.ne,O'.obj,_,O'.ns,fun g=>?_,fun g hg=>?_⟩
  · have:=length_putF f y fs;omega
  · show RelO ((putF f y fs).lookup g) (if g=f then some u else mA g)
    rw [lookup_putF]
    by_cases q:g=f
    · rw [if_pos q,if_pos q];exact ry
    · rw [if_neg q,if_neg q];exact r g
  · by_cases q:g=f
    · rw [q];exact (keys_putF f y fs).1
    · refine (keys_putF f y fs).2 g (wi g fun z=>hg ?_)
      show (if g=f then some u else mA g)=none
      rw [if_neg q];exact z
theorem Inv.made (I:Inv X pins σ H s):Inv X pins σ (upd (upd H s.heap.objs.size (.own (s.heap.objs.size+1))) (s.heap.objs.size+1) (.ins C s.heap.objs.size []))
    { s with heap:=(s.heap.push PySem.W.emptyDict).push (PySem.W.instObj C s.heap.objs.size) }:=by
  have e1:(s.heap.push PySem.W.emptyDict).get? s.heap.objs.size=some PySem.W.emptyDict:=Heap.get?_push_size s.heap rfl
  have e2:((s.heap.push PySem.W.emptyDict).push (PySem.W.instObj C s.heap.objs.size)).get? (s.heap.objs.size+1)=some (PySem.W.instObj C s.heap.objs.size):=by
    have:=Heap.get?_push_size (s.heap.push PySem.W.emptyDict) (o:=PySem.W.instObj C s.heap.objs.size) rfl
    rwa [Heap.size_push] at this
  have e3:(s.heap.push PySem.W.emptyDict).Ns s.heap.objs.size (fun _=>none):=⟨PySem.W.emptyDict,#[],_,e1,rfl,(fun e he=>absurd he (by simp)),fun _=>rfl⟩
  have I1:=I.laid (a:=s.heap.objs.size) (o:=.own (s.heap.objs.size+1)) (h':=s.heap.push PySem.W.emptyDict) (t':=s.toks) (fun b u q=>Heap.get?_push_of_some _ q) (Nat.le_refl _) ⟨_,e1⟩
  refine I1.laid (a:=s.heap.objs.size+1) (o:=.ins C s.heap.objs.size []) (t':=s.toks) (fun b u q=>Heap.get?_push_of_some _ q) (Nat.le_of_eq (Heap.size_push _ _)) ?_
  have ne:s.heap.objs.size≠s.heap.objs.size+1:=Nat.ne_of_lt (Nat.lt_succ_self _)
  refine ⟨by rw [upd_ne ne,upd_same],Nat.zero_le _,ne,e2,fun _=>none,(Heap.Ns1.of_empty e3).at fun o q=>Heap.get?_push_of_some _ q,fun _=>True.intro,fun y hy=>absurd rfl hy⟩
theorem attr_of {prog:Program} {w:World} {env:Env} {e:Expr} {f:Str} {pos:Pos} {s:Shared} {Q:Value→Shared→Prop} (hb:attributeBase e f env (eval e env)=eval e env)
    (h:wpAny (model prog w) A (eval e env) (fun o s₁=>wpAny (model prog w) A (getAttr o f true) Q E s₁) E s):wpAny (model prog w) A (eval (.Attribute e f pos) env) Q E s :=
  Attribute_any_ h (by rw [arm_eval_Attribute,hb])
end
noncomputable def tFld (K:PySem.W.Frag) (ta:TE) (f:Str):TE:=fun σ H Q=>ta σ H fun x H1=>exR x fun a=>∃ C dx fs v,H1 a=some (.ins C dx fs)∧Cls K C∧NoAttr K C f∧fs.lookup f=some v∧Q v H1
noncomputable def sFld (K:PySem.W.Frag) (ta tv:TE) (f:Str):TS:=fun D σ H=>tv σ H fun y H1=>ta σ H1 fun x H2=>exR x fun a=>∃ C dx fs,H2 a=some (.ins C dx fs)∧Cls K C∧NoAttr K C f∧fs.length < 1000 ∧
  D.nx σ (upd H2 a (.ins C dx (putF f y fs)))
section
variable {X:Cx} {o e value:Expr} {f:Str} {pos pos' tpos:Pos} {ta tv:TE}
theorem pe_fld (he:PE X e ta) (hb:attributeBase e f X.env (eval e X.env)=eval e X.env):PE X (.Attribute e f pos) (tFld X.K ta f):=by
  intro pins s σ H Q I h
  refine attr_of hb (thn (he pins s σ H _ I h) fun u s1 ⟨x,H1,I1,rx,q0⟩=>?_)
  obtain ⟨a,ex,C,dx,fs,v,ea,c,n,l,q⟩:=Eq.mp exR_ex q0
  subst ex
  obtain rfl:u=Value.ref a:=rx
  exact getattr_ok I1 ea c n l fun u' s2 I2 ru=>⟨v,H1,I2,ru,q⟩
theorem ps_fld (ha:PE X o ta) (hv:PE X value tv) (hs:swapsWith value (some (.Attribute o f pos')) pos.line X.env=pure false):PS X (.Assign [.Attribute o f pos'] value pos) (sFld X.K ta tv f):=by
  intro pins s σ H D I h
  refine plainObj_wpAny_Assign_Attribute (thn (hv pins s σ H _ I h) fun u s1 ⟨y,H1,I1,ry,q⟩=>thn (ha pins s1 σ H1 _ I1 q) fun ov s2 ⟨x,H2,I2,rx,q0⟩=>?_) hs
  obtain ⟨a,ex,C,dx,fs,ea,c,n,l,q2⟩:=Eq.mp exR_ex q0
  subst ex
  obtain rfl:ov=Value.ref a:=rx
  exact setattr_ok I2 ea c n l ry fun s3 I3=>⟨σ,_,I3,q2⟩
end
section
variable {X:Cx} {pins:List (Addr×Obj)} {σ:St} {H:Hp} {s:Shared} {A:Around} {E:Value→Shared→Prop} {Q:Value→Shared→Prop} {c:Value} {b:Bool}
inductive TyOf (K:PySem.W.Frag) (H:Hp):V→Value→Prop where
  | non:TyOf K H .non (.type "NoneType")
  | bl (x:Bool):TyOf K H (.bl x) (.type "bool")
  | int (i:Int):TyOf K H (.int i) (.type "int")
  | str (x:Str):TyOf K H (.str x) (.type "str")
  | flt (x:UInt64):TyOf K H (.flt x) (.type "float")
  | lst {a:Addr} {xs:List V} (e:H a=some (.lst xs)):TyOf K H (.ref a) (.type "list")
  | frz {a:Addr} {o:Obj} {xs:List V} (e:H a=some (.frz o (.lst xs))):TyOf K H (.ref a) (.type "list")
  | tup {a:Addr} {xs:List V} (e:H a=some (.tup xs)):TyOf K H (.ref a) (.type "tuple")
  | dK {a:Addr} {kvs:List (Key×V)} (e:H a=some (.dK kvs)):TyOf K H (.ref a) (.type "dict")
  | dT {a:Addr} {kvs:List (List Key×V)} (e:H a=some (.dT kvs)):TyOf K H (.ref a) (.type "dict")
  | ins {a C dx:Addr} {fs:List (Str×V)} (e:H a=some (.ins C dx fs)) (cl:Cls K C) (ha:PySem.W.findIn K (.ref C) "__class__" = some (some (.builtin "object.__class__")))
      (hn:PySem.W.specialIn K (.builtin "object.__class__") "__get__" = some (some (.builtin "getset_descriptor.__get__"))) (htk:PySem.W.takesIn K (.builtin "object.__class__")=some true)
      (hm:PySem.W.mroIn K C (.type "object")=some true):TyOf K H (.ref a) (.ref C)
theorem isinst_ok {x:V} {u t:Value} (I:Inv X pins σ H s) (rx:RelV x u) (ty:TyOf X.K H x t) (e:PySem.W.kitOne X.K t c=some b) (h:∀ tk,Q (.bool b) { s with toks:=tk }) :
    wpAny (model X.prog X.w) A (call (.builtin "isinstance") [u,c]) Q E s:=by
  cases ty with
  | non=>cases (show u=Value.none from rx);exact PySem.W.kia_one PySem.W.kitx_none I.kIn True.intro e (fun z=>nomatch z) h
  | bl y=>cases (show u=Value.bool y from rx);exact PySem.W.kia_one PySem.W.kitx_bool I.kIn True.intro e (fun z=>nomatch z) h
  | int i=>obtain ⟨t,q⟩:=(show ∃ t,u=Value.int i t from rx);cases q;exact PySem.W.kia_one PySem.W.kitx_int I.kIn True.intro e (fun z=>nomatch z) h
  | str y=>obtain ⟨t,q⟩:=(show ∃ t,u=Value.str y t from rx);cases q;exact PySem.W.kia_one PySem.W.kitx_str I.kIn True.intro e (fun z=>nomatch z) h
  | flt y=>obtain ⟨t,q⟩:=(show ∃ t,u=Value.float y t from rx);cases q;exact PySem.W.kia_one PySem.W.kitx_float I.kIn True.intro e (fun z=>nomatch z) h
  | @lst a xs ea =>
    cases (show u=Value.ref a from rx)
    obtain ⟨_,_,n,_,h1⟩:=(show ObjOk X.prog X.w H s.heap a (.lst xs) from I.hok a _ ea)
    exact PySem.W.kia_one PySem.W.kitx_list I.kIn ⟨_,h1,rfl⟩ e (fun z=>nomatch z) h
  | @frz a ob xs ea =>
    cases (show u=Value.ref a from rx)
    obtain ⟨_,_,_,n,_,h1⟩:=(show ObjOk X.prog X.w H s.heap a (.frz ob (.lst xs)) from I.hok a _ ea)
    exact PySem.W.kia_one PySem.W.kitx_list I.kIn ⟨_,h1,rfl⟩ e (fun z=>nomatch z) h
  | @tup a xs ea =>
    cases (show u=Value.ref a from rx)
    obtain ⟨_,_,_,p⟩:=(show ObjOk X.prog X.w H s.heap a (.tup xs) from I.hok a _ ea)
    obtain ⟨o,h1,h2,_⟩:=p
    exact PySem.W.kia_one PySem.W.kitx_tuple I.kIn ⟨o,h1,h2⟩ e (fun z=>nomatch z) h
  | @dK a kvs ea =>
    cases (show u=Value.ref a from rx)
    obtain ⟨_,_,vs,_,p⟩:=(show ObjOk X.prog X.w H s.heap a (.dK kvs) from I.hok a _ ea)
    obtain ⟨o,es,ep,h1,h2,_⟩:=p
    exact PySem.W.kia_one PySem.W.kitx_dict I.kIn ⟨o,h1,h2.1⟩ e (fun z=>nomatch z) h
  | @dT a kvs ea =>
    cases (show u=Value.ref a from rx)
    obtain ⟨_,_,xs,_,o,es,ep,h1,h2,_⟩:=(show ObjOk X.prog X.w H s.heap a (.dT kvs) from I.hok a _ ea)
    exact PySem.W.kia_one PySem.W.kitx_dict I.kIn ⟨o,h1,h2.1⟩ e (fun z=>nomatch z) h
  | @ins a C dx fs ea cl ha hn htk hm =>
    cases (show u=Value.ref a from rx)
    obtain ⟨mA,O,_⟩:=ins_get I.hok ea
    obtain ⟨od,J,_⟩:=O.look
    exact PySem.W.kia_one (PySem.W.kitx_own (cl.get _) cl.hd ha hn htk hm) I.kIn J e (fun z=>nomatch z) h
end
end L2
namespace L2
open PySem PySem.Spec PyProof.Rows
structure Room (k:Nat) (A:Around):Prop where
  hd:A.handled=none
  dp:A.depth+3 * k+5 < recursionLimit
  un:A.units+16 * k+200 < cLine
theorem Room.mono {j k:Nat} {A:Around} (r:Room k A) (h:j≤k):Room j A:=⟨r.hd,by have:=r.dp;omega,by have:=r.un;omega⟩
theorem Room.deeper {k:Nat} {A:Around} (r:Room (k+1) A) (env:Env):Room k (A.deeper env) :=
  ⟨r.hd,by have:=r.dp;show A.depth+1+3 * k+5 < _;omega,by have:=r.un;show A.units+3+16 * k+200 < _;omega⟩
theorem Room.in1 {k:Nat} {A:Around} (r:Room (k+1) A):Room k A.in1 :=
  ⟨r.hd,by have:=r.dp;show A.depth+3 * k+5 < _;omega,by have:=r.un;show A.units+1+16 * k+200 < _;omega⟩
theorem make_depth {A:Around} {C:Addr} {us:List Value} {kw:List (Str×Value)}:(A.under (.builtin "type.__call__" ⟨.ref C :: us,kw⟩)).depth=A.depth+1:=by
  first | rfl | simp [Around.under,Code.weight,Code.isCreation,Code.isGuard,Code.isCaller,Code.frames,Code.isFrame,guardIds]
theorem make_units {A:Around} {C:Addr} {us:List Value} {kw:List (Str×Value)}:(A.under (.builtin "type.__call__" ⟨.ref C :: us,kw⟩)).units=A.units+1:=by
  first | rfl | simp [Around.under,Code.cUnits,Code.frames,Code.isFrame]
theorem Room.make {k:Nat} {A:Around} (r:Room (k+1) A) (C:Addr) (us:List Value) (kw:List (Str×Value)):Room k (A.under (.builtin "type.__call__" ⟨.ref C :: us,kw⟩)) :=
  ⟨r.hd,by have:=r.dp;rw [make_depth];omega,by have:=r.un;rw [make_units];omega⟩
theorem Room.depth {k:Nat} {A:Around} (r:Room k A):A.depth < recursionLimit:=by have:=r.dp;omega
theorem Room.units {k:Nat} {A:Around} (r:Room k A):A.units+64 < cLine:=by have:=r.un;omega
noncomputable def tNil:TA:=fun _ H Q=>Q [] H
noncomputable def tCons (ta:TE) (tr:TA):TA:=fun σ H Q=>ta σ H fun x H1=>tr σ H1 fun xs H2=>Q (x :: xs) H2
section
variable {X:Cx} {e:Expr} {es:List Expr} {te:TE} {t:TA} {pos:Pos}
theorem pa_nil:PA X [] tNil:=fun _ _ _ _ H Q I h=>Calls.spliced_nil ⟨[],H,I,.nil,h⟩
theorem pa_cons (ha:PE X e te) (hr:PA X es t) (hs:starEach (e :: es) X.env=(false,eval e X.env) :: starEach es X.env:=by rfl):PA X (e :: es) (tCons te t):=by
  intro pos pins s σ H Q I h
  rw [hs]
  show wpAny _ _ (spliced ((false,eval e X.env) :: backTo pos (starEach es X.env))) _ _ s
  refine Calls.spliced_cons (thn (ha pins s σ H _ I h) fun u s1 ⟨x,H1,I1,r1,q1⟩=>?_)
  exact thn (hr pos pins s1 σ H1 _ I1 q1) fun us s2 ⟨xs,H2,I2,r2,q2⟩=>⟨x :: xs,H2,I2,.cons r1 r2,q2⟩
noncomputable def tTup (t:TA):TE:=fun σ H Q=>t σ H fun xs H1=>xs.length≤sizeLine∧∀ p,H1 p=none→Q (.ref p) (upd H1 p (.tup xs))
noncomputable def tLst (t:TA):TE:=fun σ H Q=>t σ H fun xs H1=>xs.length≤sizeLine∧∀ p,H1 p=none→Q (.ref p) (upd H1 p (.lst xs))
theorem pe_tup {x1} (h:PA X es t):PE X (.Tuple es x1 pos) (tTup t):=by
  intro pins s σ H Q I hq
  refine wpAny_Tuple_spliced (thn (h pos pins s σ H _ I hq) fun us s1 ⟨xs,H1,I1,r,z,q⟩=>⟨by rw [← r.length];exact z,?_⟩)
  have hf:H1 s1.heap.objs.size=none:=I1.hok.fresh (Nat.le_refl _)
  refine ⟨.ref s1.heap.objs.size,upd H1 s1.heap.objs.size (.tup xs),I1.laid (t':=s1.toks) (fun b u e=>Heap.get?_push_of_some _ e) (Nat.le_refl _) ?_,rfl,q _ hf⟩
  exact ⟨z,us,r,⟨_,Heap.get?_push_size _ rfl,rfl,_,rfl⟩⟩
theorem pe_lst (h:PA X es t):PE X (.List es pos) (tLst t):=by
  intro pins s σ H Q I hq
  refine wpAny_List_spliced (thn (h pos pins s σ H _ I hq) fun us s1 ⟨xs,H1,I1,r,z,q⟩=>⟨by rw [← r.length];exact z,?_⟩)
  have hf:H1 s1.heap.objs.size=none:=I1.hok.fresh (Nat.le_refl _)
  refine ⟨.ref s1.heap.objs.size,upd H1 s1.heap.objs.size (.lst xs),I1.laid (t':=s1.toks) (fun b u e=>Heap.get?_push_of_some _ e) (Nat.le_refl _) ?_,rfl,q _ hf⟩
  exact ⟨z,us,0,r,Heap.get?_push_size _ rfl⟩
end
noncomputable abbrev Sp:=List V→Hp→VK→XK→Prop
noncomputable abbrev CXT:=List Env→Hp→Shared→XK→Value→Shared→Prop
structure Env0 (P:Program) (w:World) (K:PySem.W.Frag) (mg:Str→Option Value) (base:Heap) (A:Around) (outer:List Env) (s:Shared) (H:Hp):Prop where
  frames:A.frames=some outer
  mod:Mod K mg base
  bs:∀ b o,base.get? b=some o→s.heap.get? b=some o∧H b=none
  bsz:base.objs.size≤s.heap.objs.size
  funs:s.heap.FunFrames base outer
  frf:∀ b∈frs outer,H b=none
  hok:HOk P w H s.heap
  bare:AllBare s.gens
noncomputable def CE (outer:List Env) (P:Program) (w:World) (H:Hp) (s:Shared) (Q:VK) (u:Value) (s':Shared):Prop :=
  ∃ v H',s'.os=s.os∧AllBare s'.gens∧Un (frs outer) [] H H' s.heap s'.heap∧HOk P w H' s'.heap∧RelV v u∧Q v H'
noncomputable def CR (CX:CXT) (outer:List Env) (P:Program) (w:World) (H:Hp) (s:Shared) (Q:VK) (E:XK) (r:Result) (s':Shared):Prop :=
  match r with
  | .ok (.ret u)=>CE outer P w H s Q u s'
  | .ok _=>False
  | .error e=>CX outer H s E e s'
structure FnOk (P:Program) (w:World) (K:PySem.W.Frag) (mg:Str→Option Value) (base:Heap) (CX:CXT) (k:Nat) (f:Addr) (fd:FuncData) (ps:List Str) (sp:Sp):Prop where
  len:∀ vs H Q E,sp vs H Q E→vs.length=ps.length
  run:∀ (A:Around) (outer:List Env) (s:Shared) (H:Hp) (args:Args) (us:List Value) (vs:List V) (Q:VK) (E:XK),Room k A→Env0 P w K mg base A outer s H→BindsTo s fd args (ps.zip us)→Vals vs us→sp vs H Q E →
    codeAny (model P w) A (.call (.ref f) args) (CR CX outer P w H s Q E) s
theorem FnOk.mono {P:Program} {w:World} {K:PySem.W.Frag} {mg:Str→Option Value} {base:Heap} {CX:CXT} {j k:Nat} {f:Addr} {fd:FuncData} {ps:List Str} {sp:Sp} (F:FnOk P w K mg base CX j f fd ps sp) (h:j≤k) :
    FnOk P w K mg base CX k f fd ps sp:=⟨F.len,fun A outer s H args us vs Q E hr=>F.run A outer s H args us vs Q E (hr.mono h)⟩
theorem FnOk.imp {P:Program} {w:World} {K:PySem.W.Frag} {mg:Str→Option Value} {base:Heap} {CX:CXT} {k:Nat} {f:Addr} {fd:FuncData} {ps:List Str} {sp sp':Sp} (F:FnOk P w K mg base CX k f fd ps sp)
    (h:∀ vs H Q E,sp' vs H Q E→sp vs H Q E):FnOk P w K mg base CX k f fd ps sp' :=
  ⟨fun vs H Q E q=>F.len vs H Q E (h _ _ _ _ q),fun A outer s H args us vs Q E hr he hb hv hs=>F.run A outer s H args us vs Q E hr he hb hv (h _ _ _ _ hs)⟩
theorem Env0.make {P:Program} {w:World} {K:PySem.W.Frag} {mg:Str→Option Value} {base:Heap} {A:Around} {outer:List Env} {s:Shared} {H:Hp} (e:Env0 P w K mg base A outer s H) (C:Addr) (us:List Value) (kw:List (Str×Value)) :
    Env0 P w K mg base (A.under (.builtin "type.__call__" ⟨.ref C :: us,kw⟩)) outer s H:=⟨by first | exact e.frames | (simpa [Around.under,Code.envs,Code.isFrame,pushEnvs] using e.frames),e.mod,e.bs,e.bsz,e.funs,e.frf,e.hok,e.bare⟩
theorem Env0.in1 {P:Program} {w:World} {K:PySem.W.Frag} {mg:Str→Option Value} {base:Heap} {A:Around} {outer:List Env} {s:Shared} {H:Hp} (e:Env0 P w K mg base A outer s H) :
    Env0 P w K mg base A.in1 outer s H:=⟨e.frames,e.mod,e.bs,e.bsz,e.funs,e.frf,e.hok,e.bare⟩
section
variable {X:Cx} {pins:List (Addr×Obj)} {σ:St} {H:Hp} {s s':Shared}
theorem Inv.env0 (I:Inv X pins σ H s):Env0 X.prog X.w X.K X.mg X.base X.A X.stack s H :=
  ⟨I.ok.frames,I.ok.mod,I.bs,Nat.le_trans I.ok.bsz I.sz,I.stack,I.stkFree,I.hok,I.bare⟩
theorem Inv.after {Q:VK} {u:Value} (I:Inv X pins σ H s) (h:CE X.stack X.prog X.w H s Q u s'):EP X pins σ Q u s':=by
  obtain ⟨v,H',os,bare,un,hok,r,q⟩:=h
  obtain ⟨hh,g,d,t,os'⟩:=s'
  obtain rfl:os'=s.os:=os
  exact ⟨v,H',I.call (h':=hh) (g':=g) (d':=d) (t':=t) (ch:=[]) un hok bare (fun b z=>absurd z (by simp)),r,q⟩
end
noncomputable def tCall (sp:Sp) (dvs:List V) (E:XK) (t:TA):TE:=fun σ H Q=>t σ H fun vs H1=>sp (vs ++ dvs) H1 Q E
noncomputable def tMeth (C:Addr) (m:Str) (sp:Sp) (dvs:List V) (E:XK) (ta:TE) (t:TA):TE:=fun σ H Q=>ta σ H fun x H1=>exR x fun a=>∃ dx fs,H1 a=some (.ins C dx fs)∧fs.lookup m=none ∧
  t σ H1 fun vs H2=>sp (x :: (vs ++ dvs)) H2 Q E
noncomputable def tMake (C:Addr) (sp:Sp) (dvs:List V) (E:XK) (t:TA):TE:=fun σ H Q=>t σ H fun vs H1=>∀ x dx,H1 x=none→H1 dx=none→dx≠x →
  sp (.ref x :: (vs ++ dvs)) (upd (upd H1 dx (.own x)) x (.ins C dx [])) (fun v H2=>v=.non∧Q (.ref x) H2) E
noncomputable def Binds (K:PySem.W.Frag) (fd:FuncData) (ps:List Str) (ds:List Value):Prop :=
  ∀ (s:Shared) (us:List Value),K.In s.heap→(us ++ ds).length=ps.length→BindsTo s fd ⟨us,[]⟩ (ps.zip (us ++ ds))
theorem Binds.all {K:PySem.W.Frag} {fd:FuncData} {ps:List Str} (h:∀ us:List Value,us.length=ps.length→bindArgs fd ⟨us,[]⟩=pure (ps.zip us)):Binds K fd ps []:=fun s us _ hl=>by
  rw [List.append_nil] at hl ⊢
  exact .of_eq (h us hl)
noncomputable def Passes (CX:CXT) (X:Cx) (E:XK):Prop:=∀ (pins:List (Addr×Obj)) (σ:St) (H:Hp) (s:Shared) (e:Value) (s':Shared),Inv X pins σ H s→CX X.stack H s E e s'→X.xe e s'
section
variable {X:Cx} {CX:CXT} {k:Nat} {f C:Addr} {fd:FuncData} {ps:List Str} {sp:Sp} {dvs:List V} {ds:List Value} {E:XK} {x m:Str} {p pos apos:Pos} {e o:Expr} {es:List Expr} {ta:TE} {t:TA}
theorem run_fn {pins:List (Addr×Obj)} {σ:St} {H:Hp} {s:Shared} {Q:VK} {us:List Value} {vs:List V} (F:FnOk X.prog X.w X.K X.mg X.base CX k f fd ps sp) (hr:Room k X.A) (hb:Binds X.K fd ps ds) (hd:Vals dvs ds) (hx:Passes CX X E)
    (I:Inv X pins σ H s) (r:Vals vs us) (h:sp (vs ++ dvs) H Q E):wpAny (model X.prog X.w) X.A (call (.ref f) us) (EP X pins σ Q) X.xe s:=by
  have r2:Vals (vs ++ dvs) (us ++ ds):=r.append hd
  have hl:(us ++ ds).length=ps.length:=by rw [← r2.length];exact F.len _ _ _ _ h
  refine wpAny_call (codeAny_mono (F.run X.A X.stack s H ⟨us,[]⟩ (us ++ ds) (vs ++ dvs) Q E hr I.env0 (hb s us I.kIn hl) r2 h) fun r s' hq=>?_)
  cases r with
  | error e=>exact hx pins σ H s e s' I hq
  | ok fl =>
    cases fl with
    | ret u=>exact I.after hq
    | next=>exact False.elim hq
    | brk=>exact False.elim hq
    | cont=>exact False.elim hq
theorem pe_call (F:FnOk X.prog X.w X.K X.mg X.base CX k f fd ps sp) (hr:Room k X.A) (hg:Gl X x) (hm:X.mg x=some (.ref f)) (hk:PySem.W.keepIn X.K (.ref f)=true) (hb:Binds X.K fd ps ds) (hd:Vals dvs ds) (hx:Passes CX X E)
    (ha:PA X (e :: es) t) (hdb:(x == ("__debug__" : Str))=false:=by decide) (he:starEach (e :: es) X.env=(false,eval e X.env) :: starEach es X.env:=by rfl) (hpl:(backTo pos (starEach es X.env)).any (·.1)=false:=by rfl) :
    PE X (.Call (.Name x p) (e :: es) [] pos) (tCall sp dvs E t):=by
  intro pins s σ H Q I h
  refine wpAny_Call_Name_kw (ld_glob I hg hm ?_ hdb)
  refine PySem.W.callWith_K (h₀:=X.base) I.ok.mod.kin hk (thn (ha pos pins s σ H _ I h) fun us s1 ⟨vs,H1,I1,r,q⟩=>⟨I1.kIn,?_⟩) he hpl
  exact run_fn F hr hb hd hx I1 r q
theorem pe_meth {pl:Sem Bool} (he:PE X o ta) (c:Cls X.K C) (hm:Meth X.K C m f) (F:FnOk X.prog X.w X.K X.mg X.base CX k f fd ps sp) (hr:Room k X.A) (hb:Binds X.K fd ps ds) (hd:Vals dvs ds) (hx:Passes CX X E) (ha:PA X (e :: es) t)
    (hst:starEach (e :: es) X.env=(false,eval e X.env) :: starEach es X.env:=by rfl) (hpl:(backTo pos (starEach es X.env)).any (·.1)=false:=by rfl)
    (ht:eval (.Call (.Attribute o m apos) (e :: es) [] pos) X.env=(do
      let ov ← eval o X.env
      standAt apos.atName
      let (f,first) ← holding [ov] (getMethod ov m pl)
      callWith pos f first (backTo pos (starEach (e :: es) X.env)) (backToKw pos (keywordEach [] X.env))):=by rfl) :
    PE X (.Call (.Attribute o m apos) (e :: es) [] pos) (tMeth C m sp dvs E ta t):=by
  intro pins s σ H Q I h
  refine PySem.W.methodCall_KW (pl:=pl) (thn (he pins s σ H _ I h) fun u s1 ⟨x,H1,I1,rx,q0⟩=>?_) ht
  obtain ⟨a,ex,dx,fs,ea,l,q⟩:=Eq.mp exR_ex q0
  subst ex
  obtain rfl:u=Value.ref a:=rx
  refine getmeth_ok I1 ea c hm l ?_
  refine PySem.W.callWith_K (first:=[.ref a]) (h₀:=X.base) I.ok.mod.kin hm.kp (thn (ha pos pins s1 σ H1 _ I1 q) fun us s2 ⟨vs,H2,I2,r,q2⟩=>⟨I2.kIn,?_⟩) hst hpl
  exact run_fn (us:=.ref a :: us) (vs:=.ref a :: vs) F hr hb hd hx I2 (.cons rfl r) q2
theorem pe_meth0 {pl:Sem Bool} (he:PE X o ta) (c:Cls X.K C) (hm:Meth X.K C m f) (F:FnOk X.prog X.w X.K X.mg X.base CX k f fd ps sp) (hr:Room k X.A) (hb:Binds X.K fd ps ds) (hd:Vals dvs ds) (hx:Passes CX X E)
    (ht:eval (.Call (.Attribute o m apos) [] [] pos) X.env=(do
      let ov ← eval o X.env
      standAt apos.atName
      let (f,first) ← holding [ov] (getMethod ov m pl)
      callWith pos f first (backTo pos (starEach [] X.env)) (backToKw pos (keywordEach [] X.env))):=by rfl) :
    PE X (.Call (.Attribute o m apos) [] [] pos) (tMeth C m sp dvs E ta tNil):=by
  intro pins s σ H Q I h
  refine PySem.W.methodCall_KW (pl:=pl) (thn (he pins s σ H _ I h) fun u s1 ⟨x,H1,I1,rx,q0⟩=>?_) ht
  obtain ⟨a,ex,dx,fs,ea,l,q⟩:=Eq.mp exR_ex q0
  subst ex
  obtain rfl:u=Value.ref a:=rx
  refine getmeth_ok I1 ea c hm l ?_
  exact PySem.W.callWith_K0 (first:=[.ref a]) I1.kIn hm.kp (run_fn (us:=[.ref a]) (vs:=[.ref a]) F hr hb hd hx I1 (.cons rfl .nil) q)
structure Mk (K:PySem.W.Frag) (C f:Addr):Prop where
  makes:PySem.W.makesIn K C=true
  init:PySem.W.findIn K (.ref C) "__init__" = some (some (.ref f))
  fn:PySem.W.isFn K (.ref f)=true
  kp:PySem.W.keepIn K (.ref C)=true
theorem run_make {pins:List (Addr×Obj)} {σ:St} {H:Hp} {s:Shared} {Q:VK} {us:List Value} {vs:List V} (M:Mk X.K C f) (F:FnOk X.prog X.w X.K X.mg X.base CX k f fd ps sp) (hr:Room (k+1) X.A) (hb:Binds X.K fd ps ds) (hd:Vals dvs ds)
    (hx:Passes CX X E) (I:Inv X pins σ H s) (r:Vals vs us)
    (h:∀ x dx,H x=none→H dx=none→dx≠x→sp (.ref x :: (vs ++ dvs)) (upd (upd H dx (.own x)) x (.ins C dx [])) (fun v H2=>v=.non∧Q (.ref x) H2) E) :
    wpAny (model X.prog X.w) X.A (call (.ref C) us) (EP X pins σ Q) X.xe s:=by
  have hq:=h (s.heap.objs.size+1) s.heap.objs.size (I.hok.fresh (Nat.le_succ _)) (I.hok.fresh (Nat.le_refl _)) (Nat.ne_of_lt (Nat.lt_succ_self _))
  have I2:=Inv.made (C:=C) I
  have r2:Vals (V.ref (s.heap.objs.size+1) :: (vs ++ dvs)) (Value.ref (s.heap.objs.size+1) :: (us ++ ds)):=.cons rfl (r.append hd)
  have hl:(Value.ref (s.heap.objs.size+1) :: us ++ ds).length=ps.length:=by
    have e:=r2.length
    rw [F.len _ _ _ _ hq] at e
    exact e.symm
  refine wpAny_call (make_map (f:=f) I.kIn M.makes M.init (beq_iff_eq.mp M.fn) (codeAny_mono (F.run _ X.stack _ _ ⟨Value.ref (s.heap.objs.size+1) :: us,[]⟩ (Value.ref (s.heap.objs.size+1) :: (us ++ ds)) _ _ E (hr.make C us [])
    (I2.env0.make C us []) (hb _ (Value.ref (s.heap.objs.size+1) :: us) I2.kIn hl) r2 hq) fun r s' hq'=>?_))
  cases r with
  | error e=>exact hx pins σ _ _ e s' I2 hq'
  | ok fl =>
    cases fl with
    | ret u =>
      obtain ⟨v,H',I3,rv,ev,q3⟩:=I2.after hq'
      subst ev
      exact ⟨rv,⟨V.ref (s.heap.objs.size+1),H',I3,rfl,q3⟩⟩
    | next=>exact False.elim hq'
    | brk=>exact False.elim hq'
    | cont=>exact False.elim hq'
theorem pe_make (M:Mk X.K C f) (F:FnOk X.prog X.w X.K X.mg X.base CX k f fd ps sp) (hr:Room (k+1) X.A) (hg:Gl X x) (hm:X.mg x=some (.ref C)) (hb:Binds X.K fd ps ds) (hd:Vals dvs ds) (hx:Passes CX X E)
    (ha:PA X (e :: es) t) (hdb:(x == ("__debug__" : Str))=false:=by decide) (he:starEach (e :: es) X.env=(false,eval e X.env) :: starEach es X.env:=by rfl) (hpl:(backTo pos (starEach es X.env)).any (·.1)=false:=by rfl) :
    PE X (.Call (.Name x p) (e :: es) [] pos) (tMake C sp dvs E t):=by
  intro pins s σ H Q I h
  refine wpAny_Call_Name_kw (ld_glob I hg hm ?_ hdb)
  refine PySem.W.callWith_K (h₀:=X.base) I.ok.mod.kin M.kp (thn (ha pos pins s σ H _ I h) fun us s1 ⟨vs,H1,I1,r,q⟩=>⟨I1.kIn,?_⟩) he hpl
  exact run_make M F hr hb hd hx I1 r q
end
section
variable {X:Cx} {CX:CXT} {k:Nat} {f C:Addr} {fd:FuncData} {ps ks:List Str} {sp:Sp} {E:XK} {x m:Str} {p pos apos kpos:Pos} {e o:Expr} {es:List Expr} {kws:List Keyword} {te ta:TE} {t tk:TA} {nm:Option Str}
variable {g:List Value→List Value→List Value} {gV:List V→List V→List V}
end
structure FnScope (N P:List Str) (sc:Scope):Prop where
  kind:sc.kind=.function
  co:sc.isCoroutine=false
  gen:sc.isGenerator=false
  nd:N.Nodup
  pre:N.take P.length=P
  par:∀ x∈P,sc.names.lookup x=some .local∨sc.names.lookup x=some .cell
  nofree:∀ y∈sc.names,y.2≠.free
theorem bindL_out {kindOf:Str→Option NameKind} {x:Str}:∀ {binds:List (Str×Value)} {m:Str→Option Value},(∀ v,(x,v)∉binds)→bindL kindOf binds m x=m x
  | [],_,_=>rfl
  | (n,v) :: r,m,h=>by
    unfold bindL
    rw [bindL_out fun w hw=>h w (List.mem_cons_of_mem _ hw)]
    split
    · have:x≠n:=by rintro rfl;exact h v List.mem_cons_self
      simp [this]
    · rfl
theorem bindC_out {kindOf:Str→Option NameKind} {x:Str}:∀ {binds:List (Str×Value)} {m:Str→Option Value},(∀ v,(x,v)∉binds)→bindC kindOf binds m x=m x
  | [],_,_=>rfl
  | (n,v) :: r,m,h=>by
    unfold bindC
    rw [bindC_out fun w hw=>h w (List.mem_cons_of_mem _ hw)]
    split
    · rfl
    · have:x≠n:=by rintro rfl;exact h v List.mem_cons_self
      simp [this]
theorem bindL_get {kindOf:Str→Option NameKind} {x:Str} {v:Value}:∀ {P:List Str} {vs:List Value} {i:Nat} {m:Str→Option Value},P.Nodup→P[i]?=some x→vs[i]?=some v→kindOf x=some .local →
    bindL kindOf (P.zip vs) m x=some v
  | [],_,_,_,_,h,_,_=>by simp at h
  | _ :: _,[],_,_,_,_,h,_=>by simp at h
  | p :: P,w :: vs,0,m,nd,h1,h2,hk=>by
    simp at h1 h2;subst h1;subst h2
    show bindL kindOf ((p,w) :: P.zip vs) m p=_
    unfold bindL
    rw [bindL_out fun v hv=>(List.nodup_cons.mp nd).1 (List.of_mem_zip hv).1,if_pos hk]
    simp
  | p :: P,w :: vs,i+1,m,nd,h1,h2,hk=>by
    show bindL kindOf ((p,w) :: P.zip vs) m x=_
    unfold bindL
    exact bindL_get (i:=i) (List.nodup_cons.mp nd).2 (by simpa using h1) (by simpa using h2) hk
theorem bindC_get {kindOf:Str→Option NameKind} {x:Str} {v:Value}:∀ {P:List Str} {vs:List Value} {i:Nat} {m:Str→Option Value},P.Nodup→P[i]?=some x→vs[i]?=some v→kindOf x≠some .local →
    bindC kindOf (P.zip vs) m x=some v
  | [],_,_,_,_,h,_,_=>by simp at h
  | _ :: _,[],_,_,_,_,h,_=>by simp at h
  | p :: P,w :: vs,0,m,nd,h1,h2,hk=>by
    simp at h1 h2;subst h1;subst h2
    show bindC kindOf ((p,w) :: P.zip vs) m p=_
    unfold bindC
    rw [bindC_out fun v hv=>(List.nodup_cons.mp nd).1 (List.of_mem_zip hv).1,if_neg hk]
    simp
  | p :: P,w :: vs,i+1,m,nd,h1,h2,hk=>by
    show bindC kindOf ((p,w) :: P.zip vs) m x=_
    unfold bindC
    exact bindC_get (i:=i) (List.nodup_cons.mp nd).2 (by simpa using h1) (by simpa using h2) hk
noncomputable def start (N:List Str) (vs:List V):St:=vs.map some ++ List.replicate (N.length - vs.length) none
noncomputable def cxOf (CX:CXT) (P:Program) (w:World) (K:PySem.W.Frag) (mg:Str→Option Value) (base:Heap) (N:List Str) (qual:Str) (scope:Scope) (f:Addr) (cd:Value) (A:Around) (outer:List Env) (s:Shared) (H:Hp) (E:XK):Cx where
  prog:=P
  w:=w
  K:=K
  mg:=mg
  base:=base
  A:=A.deeper (envOfC qual scope s.heap.objs.size f cd)
  N:=N
  s₀:=s
  H₀:=H
  env:=envOfC qual scope s.heap.objs.size f cd
  outer:=outer
  stack:=envOfC qual scope s.heap.objs.size f cd :: outer
  ex:=[]
  calm:=true
  fn:=fun _=>true
  pn:=[]
  xe:=fun e s'=>wpAny (model P w) (A.deeper (envOfC qual scope s.heap.objs.size f cd)) (leaving (envOfC qual scope s.heap.objs.size f cd) e) (fun _ s''=>CX outer H s E e s'') (fun e' s''=>CX outer H s E e' s'') s'
theorem cell_has {sc:Scope} {n:Nat} {x:Str} (h:sc.names.lookup x=some .cell):∃ c,(cellsFrom n sc.names []).lookup x=some c:=by
  have q:=PySem.W.cellsFrom_some sc.names n [] (.inl h)
  exact Option.isSome_iff_exists.mp q
theorem inv_start {CX:CXT} {P:Program} {w:World} {K:PySem.W.Frag} {mg:Str→Option Value} {base:Heap} {N ps:List Str} {qual:Str} {scope:Scope} {f:Addr} {cd:Value} {A:Around} {outer:List Env} {s s1:Shared} {H:Hp} {E:XK} {us:List Value} {vs:List V}
    (S:FnScope N ps scope) (hd:A.handled=none) (e0:Env0 P w K mg base A outer s H) (hl:vs.length=ps.length) (r:Vals vs us)
    (x:InCallC s s.heap.objs.size (bindL (envOfC qual scope s.heap.objs.size f cd).kindOf (ps.zip us) fun _=>none) (cellsFrom (s.heap.objs.size+1) scope.names []) (bindC (envOfC qual scope s.heap.objs.size f cd).kindOf (ps.zip us) fun _=>none) s1) :
    Inv (cxOf CX P w K mg base N qual scope f cd A outer s H E) [] (start N vs) H s1:=by
  have hpl:ps.length≤N.length:=by have:=congrArg List.length S.pre;rw [List.length_take] at this;omega
  obtain ⟨h1,tk,rfl,hk⟩:=x.done
  have noA:∀ b:Addr,b∉(cxOf CX P w K mg base N qual scope f cd A outer s H E).ex:=fun b z=>absurd (show b∈([]:List Addr) from z) (by simp)
  refine ⟨⟨e0.mod,S.kind,rfl,rfl,Nat.le_refl _,fun y z c h1 h2=>?_,fun y hy=>?_,fun y c _ h=>?_,fun _=>hd,Around.frames_deeper e0.frames,.inr ⟨rfl,rfl⟩,fun b z=>absurd z (noA b),e0.bs,e0.bsz,fun b _ _=>noA b,fun b z=>absurd z (noA b),e0.funs,e0.frf⟩,
    rfl,e0.bare,Un.kept hk,⟨_,x.toInCall.ns,fun i y v h1 h2 h3=>?_⟩,fun y c h=>⟨_,x.cell y c h⟩,e0.hok.fresh (Nat.le_refl _),fun y c h=>?_,fun p hp=>absurd (show p∈([]:List (Addr×Obj)) from hp) (by simp),e0.hok.kept hk,?_⟩
  · exact name_of_addr x.apart (PySem.mem_of_lookup h1) (PySem.mem_of_lookup h2)
  · have hy:scope.names.lookup y=some .cell∨scope.names.lookup y=some .free:=hy
    rcases hy with hy | hy
    · exact cell_has hy
    · exact absurd rfl (S.nofree _ (PySem.mem_of_lookup hy))
  · exact Nat.le_of_lt (x.above y c (PySem.mem_of_lookup h))
  · have hi:i < vs.length:=by
      unfold start at h2
      by_cases hi:i < vs.length
      · exact hi
      · rw [List.getElem?_append_right (by simpa using hi)] at h2
        rw [List.getElem?_replicate] at h2
        split at h2 <;> cases h2
    have ha:vs[i]?=some v:=by
      unfold start at h2
      rw [List.getElem?_append_left (by simpa using hi),List.getElem?_map] at h2
      cases e:vs[i]? with
      | none=>rw [e] at h2;cases h2
      | some a=>rw [e] at h2;cases h2;rfl
    obtain ⟨u,hu,rv⟩:=r.get ha
    have hp:ps[i]?=some y:=by
      rw [← S.pre,List.getElem?_take_of_lt (by omega)];exact h1
    have ndP:ps.Nodup:=by rw [← S.pre];exact S.nd.sublist (List.take_sublist _ _)
    refine ⟨u,rv,?_⟩
    rcases S.par y (List.mem_of_getElem? hp) with k | k
    · exact .inl ⟨k,bindL_get ndP hp hu k⟩
    · obtain ⟨c,e⟩:=cell_has (n:=s.heap.objs.size+1) k
      refine .inr ⟨.inl k,c,e,?_⟩
      have q:=x.cell y c e
      rw [bindC_get ndP hp hu (by show scope.names.lookup y≠_;rw [k];decide)] at q
      exact q
  · exact e0.hok.fresh (Nat.le_of_lt (x.above y c (PySem.mem_of_lookup h)))
  · unfold start
    show _=N.length
    rw [List.length_append,List.length_map,List.length_replicate]
    omega
theorem fn_of {CX:CXT} {P:Program} {w:World} {K:PySem.W.Frag} {mg:Str→Option Value} {base:Heap} {k:Nat} {f:Addr} {name qual:Str} {params:Arguments} {body:List Stmt} {scope:Scope} {dV kV doc pm cdv ct oc:Value} {an od:Option Addr}
    {osl:Array (Option Value)} {N ps:List Str} {sp:Sp} (lk:K.lookup f=some ⟨oc,od,.func (PySem.W.fnOf name qual params body scope dV kV doc pm an cdv ct),osl⟩) (hcd:PySem.W.codeIn K cdv qual=true) (S:FnScope N ps scope)
    (len:∀ vs H Q E,sp vs H Q E→vs.length=ps.length)
    (hbody:∀ (A:Around) (outer:List Env) (s:Shared) (H:Hp) (vs:List V) (Q:VK) (E:XK),Room k (A.deeper (envOfC qual scope s.heap.objs.size f cdv))→sp vs H Q E →
      ∃ t,PSs (cxOf CX P w K mg base N qual scope f cdv A outer s H E) body t∧t { nx:=fun _ H'=>Q .non H',rt:=Q } (start N vs) H) :
    FnOk P w K mg base CX (k+1) f (PySem.W.fnOf name qual params body scope dV kV doc pm an cdv ct) ps sp:=by
  refine ⟨len,fun A outer s H args us vs Q E hr e0 hb r hsp=>?_⟩
  have hl:=len _ _ _ _ hsp
  have KX:K.In s.heap:=e0.mod.kin.keeps fun b o e=>(e0.bs b o e).1
  have lim:s.heap.NoLimit:=e0.mod.nolimit.keeps fun b o e=>(e0.bs b o e).1
  have hkind:∀ y∈ps.zip us,scope.names.lookup y.1=some .local∨(scope.names.lookup y.1=some .cell∧((cellsFrom (s.heap.objs.size+1) scope.names []).lookup y.1).isSome=true):=fun ⟨n,v⟩ hy=>by
    rcases S.par n (List.of_mem_zip hy).1 with q | q
    · exact .inl q
    · exact .inr ⟨q,PySem.W.cellsFrom_some _ _ _ (.inl q)⟩
  refine codeAny_call_function hr.depth (KX _ _ lk) rfl S.co S.gen rfl (PySem.W.codeRec_of KX hcd) (hb _ _ _ _ ?_)
  refine wpAny_newFunctionEnv_cells S.kind hkind fun env he s1 x=>?_
  subst he
  refine ⟨lim.keeps x.toInCall.keep,codeAny_func ?_⟩
  obtain ⟨t,ht,hq⟩:=hbody A outer s H vs Q E (hr.deeper _) hsp
  have I:Inv (cxOf CX P w K mg base N qual scope f cdv A outer s H E) [] (start N vs) H s1:=inv_start S hr.hd e0 hl r x
  refine wpAny_mono (ht [] s1 (start N vs) H _ I hq) (fun fl s' hs=>?_) fun e s' hs=>hs
  have fin:∀ {σ':St} {H':Hp} {v:V} {u:Value},Inv (cxOf CX P w K mg base N qual scope f cdv A outer s H E) [] σ' H' s'→RelV v u→Q v H'→CE outer P w H s Q u s' :=
    fun {σ' H' v u} J rv q=>⟨v,H',J.os,J.bare,J.base,J.hok,rv,q⟩
  cases fl with
  | ret u =>
    obtain ⟨v,σ',H',J,rv,q⟩:=hs
    exact fin J rv q
  | next =>
    obtain ⟨σ',H',J,q⟩:=hs
    exact fin (v:=V.non) (u:=Value.none) J rfl q
  | brk =>
    obtain ⟨_,_,_,q⟩:=hs
    exact False.elim q
  | cont =>
    obtain ⟨_,_,_,q⟩:=hs
    exact False.elim q
end L2
namespace L2
open PySem PySem.Spec PyProof.Rows
section
variable {X:Cx} {x:Str} {p pos:Pos} {e:Expr} {es:List Expr} {t:TA} {id T:String} {r:List V→Hp→VK→Prop}
noncomputable def tCB (r:List V→Hp→VK→Prop) (t:TA):TE:=fun σ H Q=>t σ H fun vs H1=>r vs H1 Q
theorem pe_callB (hc:CallR X (.builtin id) r) (hg:Gl X x) (hm:X.mg x=none) (hv:bootBuiltins x=some (.builtin id)) (ha:PA X (e :: es) t) (hn:x ≠ "__name__":=by decide) (hdb:(x == ("__debug__" : Str))=false:=by decide)
    (he:starEach (e :: es) X.env=(false,eval e X.env) :: starEach es X.env:=by rfl) (hpl:(backTo pos (starEach es X.env)).any (·.1)=false:=by rfl):PE X (.Call (.Name x p) (e :: es) [] pos) (tCB r t):=by
  intro pins s σ H Q I h
  refine wpAny_Call_Name_kw (ld_blt I hg hm hv ?_ hn hdb)
  exact PyProof.Rows.callWith_builtin1 (thn (ha pos pins s σ H _ I h) fun us s1 ⟨vs,H1,I1,r1,q1⟩=>hc pins s1 σ H1 vs us Q I1 r1 q1) he hpl
theorem pe_callTy (hc:CallR X (.type T) r) (hg:Gl X x) (hm:X.mg x=none) (hv:bootBuiltins x=some (.type T)) (ha:PA X (e :: es) t) (hn:x ≠ "__name__":=by decide) (hdb:(x == ("__debug__" : Str))=false:=by decide)
    (he:starEach (e :: es) X.env=(false,eval e X.env) :: starEach es X.env:=by rfl) (hpl:(backTo pos (starEach es X.env)).any (·.1)=false:=by rfl):PE X (.Call (.Name x p) (e :: es) [] pos) (tCB r t):=by
  intro pins s σ H Q I h
  refine wpAny_Call_Name_kw (ld_blt I hg hm hv ?_ hn hdb)
  exact PyProof.Rows.callWith_type1 (thn (ha pos pins s σ H _ I h) fun us s1 ⟨vs,H1,I1,r1,q1⟩=>hc pins s1 σ H1 vs us Q I1 r1 q1) he hpl
end
end L2
namespace HT
open PySem PyProof.Rows
section
open PySem.SeqAt
open PySem.AutoSeq1 (wpAny_loadPart')
open PySem.MeetsSeq PySem.MeetsSeq2 PySem.MeetsSeq3
end
section
variable {prog:Program} {w:World} {A:Around} {E:Value→Shared→Prop} {s:Shared}
theorem cat_tup {t b:Addr} {vs ws:List Value} {Q:Value→Shared→Prop} (ht:IsTup s.heap t vs.toArray) (hb:IsTup s.heap b ws.toArray) (hv:vs≠[])
    (h1:ws=[]→Q (.ref t) s) (h2:ws≠[]→Q (.ref s.heap.objs.size) { s with heap:=s.heap.push { cls:=.type "tuple",data:=.seq (vs ++ ws).toArray } })
    (hsz:vs.length+ws.length≤sizeLine):wpAny (model prog w) A (binaryOp .Add (.ref t) (.ref b)) Q E s:=by
  obtain ⟨⟨cls,dd,data,sl⟩,ho,hc,n,hd⟩:=id ht
  obtain ⟨⟨cls2,dd2,data2,sl2⟩,ho2,hc2,n2,hd2⟩:=id hb
  simp only at hc hd hc2 hd2
  subst hc hd hc2 hd2
  have e:vs.toArray ++ ws.toArray=(vs ++ ws).toArray:=by simp
  by_cases hw:ws=[]
  · exact concat_meets ⟨_,ho,rfl⟩ ⟨_,ho2,rfl⟩ noFill_tuple_add seq_tuple_add PySem.F.slot_tuple_add PySem.F.entry_tuple_add (PySem.F.args_tuple_add_2 _ _)
      (tuple_addW1 t b vs.toArray ws.toArray n n2 dd dd2 sl sl2 (by simpa using hv) (by simp [hw])) ⟨ho,ho2,h1 hw⟩
  · refine concat_meets ⟨_,ho,rfl⟩ ⟨_,ho2,rfl⟩ noFill_tuple_add seq_tuple_add PySem.F.slot_tuple_add PySem.F.entry_tuple_add (PySem.F.args_tuple_add_2 _ _)
      (tuple_addW2 t b vs.toArray ws.toArray n n2 dd dd2 sl sl2 (by simpa using hv) (by simpa using hw) (by rw [List.size_toArray,List.size_toArray];exact hsz)) ⟨ho,ho2,?_⟩
    rw [e]
    exact h2 hw
noncomputable def sIx (n d:Nat):Option Int→Nat
  | none=>d
  | some v=>if v < 0 then (v+(n:Int)).toNat else min v.toNat n
theorem sIx_none (n d:Nat):sIx n d none=d:=rfl
theorem sIx_nat (n d k:Nat):sIx n d (some (k:Int))=min k n:=by
  show (if (k:Int) < 0 then ((k:Int)+(n:Int)).toNat else min (k:Int).toNat n)=min k n
  rw [if_neg (by omega),Int.toNat_natCast]
theorem sIx_le (n d:Nat) (hd:d≤n) (o:Option Int):sIx n d o≤n:=by
  cases o with
  | none=>exact hd
  | some v =>
    show (if v < 0 then (v+(n:Int)).toNat else min v.toNat n)≤n
    by_cases hv:v < 0
    · rw [if_pos hv];omega
    · rw [if_neg hv];exact Nat.min_le_right _ _
theorem clip_eq (v:Int) (n d:Nat):(if v < 0 then max (v+(n:Int)) 0 else min v (n:Int))=((sIx n d (some v):Nat):Int):=by
  show (if v < 0 then max (v+(n:Int)) 0 else min v (n:Int))=(((if v < 0 then (v+(n:Int)).toNat else min v.toNat n):Nat):Int)
  by_cases hv:v < 0
  · simp only [if_pos hv];omega
  · simp only [if_neg hv];omega
theorem adjust_gen (lo hi:Option Int) (n:Nat):Builtin.Slice.sliceAdjust lo hi 1 (n:Int)=(((sIx n 0 lo:Nat):Int),((sIx n n hi:Nat):Int)):=by
  have h1:¬ ((1:Int) < 0):=by omega
  unfold Builtin.Slice.sliceAdjust
  simp only [h1,if_false]
  refine Prod.ext ?_ ?_
  · cases lo with
    | none=>rfl
    | some v=>exact clip_eq v n 0
  · cases hi with
    | none=>rfl
    | some v=>exact clip_eq v n n
theorem places_gen (i j:Nat):Builtin.Slice.slicePlaces (i:Int) (j:Int) 1=j - i:=by
  unfold Builtin.Slice.slicePlaces
  have h1:(1:Int) > 0:=by omega
  simp only [h1,if_true,Int.ediv_one]
  split <;> omega
theorem slicePart_ {v:Value} {o:Option Int} {Q:Option Int→Shared→Prop} (p:IsPart v o) (h:Q o s):wpAny (model prog w) A (Builtin.Slice.slicePartIndex v) Q E s:=by
  cases p with
  | none=>exact slicePart_none h
  | int i t=>exact slicePart_int h
theorem sliceApplied_gen {sl:Addr} {vl vu:Value} {lo hi:Option Int} {n:Nat} {Q:Int×Int×Nat→Shared→Prop} (hs:s.heap.IsSliceOf sl vl vu .none) (pl:IsPart vl lo) (pu:IsPart vu hi)
    (h:Q (((sIx n 0 lo:Nat):Int),1,sIx n n hi - sIx n 0 lo) s):wpAny (model prog w) A (Builtin.Slice.sliceApplied (.ref sl) (pure (n:Int))) Q E s:=by
  obtain ⟨os,hos,hcs,hds⟩:=id hs
  unfold Builtin.Slice.sliceApplied Builtin.Slice.sliceFields
  refine wpAny_bind (wpAny_bind (wpAny_field hos hds (x:=vl) rfl (wpAny_bind (wpAny_field hos hds (x:=vu) rfl (wpAny_bind (wpAny_field hos hds (x:=.none) rfl (wpAny_pure ?_)))))))
  refine wpAny_bind (slicePart_none ?_)
  show wpAny _ _ (if ((1:Int) == 0)=true then _ else _) _ _ s
  rw [if_neg (by decide)]
  refine wpAny_bind (slicePart_ pl (wpAny_bind (slicePart_ pu (wpAny_bind (wpAny_pure ?_)))))
  show wpAny _ _ (match Builtin.Slice.sliceAdjust lo hi 1 (n:Int) with | (lo,hi)=>pure (lo,(1:Int),Builtin.Slice.slicePlaces lo hi 1)) _ _ s
  rw [adjust_gen lo hi n]
  show wpAny _ _ (pure (((sIx n 0 lo:Nat):Int),(1:Int),Builtin.Slice.slicePlaces ((sIx n 0 lo:Nat):Int) ((sIx n n hi:Nat):Int) 1)) _ _ s
  rw [places_gen]
  exact wpAny_pure h
theorem pick_gen (xs:Array Value) (i k:Nat):((List.range k).filterMap fun (m:Nat)=>xs[((i:Int)+(m:Int) * 1).toNat]?).toArray=((xs.toList.drop i).take k).toArray:=by
  have e:(fun (m:Nat)=>xs[((i:Int)+(m:Int) * 1).toNat]?)=fun m=>xs[i+m]?:=by
    funext m
    have:((i:Int)+(m:Int) * 1).toNat=i+m:=by omega
    rw [this]
  rw [e]
  have:=pick_run xs i k
  rw [List.filterMap_map] at this
  have e2:((fun x=>xs[x]?) ∘ fun x=>i+x)=fun m=>xs[i+m]?:=rfl
  rw [e2] at this
  rw [this]
theorem getItem_tuple_cut {t sl:Addr} {items:Array Value} {vl vu:Value} {lo hi:Option Int} {Q:Value→Shared→Prop} (ht:IsTup s.heap t items) (hs:s.heap.IsSliceOf sl vl vu .none) (pl:IsPart vl lo) (pu:IsPart vu hi)
    (hw:¬ (sIx items.size 0 lo=0∧sIx items.size items.size hi=items.size))
    (h:Q (.ref s.heap.objs.size) { s with heap:=s.heap.push { cls:=.type "tuple",data:=.seq ((items.toList.drop (sIx items.size 0 lo)).take (sIx items.size items.size hi - sIx items.size 0 lo)).toArray } })
    (hsz:items.size≤sizeLine):wpAny (model prog w) A (getItem (.ref t) (.ref sl)) Q E s:=by
  have htake:sizeOk (.seq ((items.toList.drop (sIx items.size 0 lo)).take (sIx items.size items.size hi - sIx items.size 0 lo)).toArray):=by
    show ((items.toList.drop (sIx items.size 0 lo)).take (sIx items.size items.size hi - sIx items.size 0 lo)).toArray.size≤sizeLine
    rw [List.size_toArray,List.length_take,List.length_drop,Array.length_toList]
    omega
  have hj:sIx items.size items.size hi≤items.size:=sIx_le _ _ (Nat.le_refl _) hi
  obtain ⟨os,hos,hcs,hds⟩:=id hs
  have hTs:s.TypeIs (.ref sl) "slice":=⟨os,hos,hcs⟩
  unfold getItem
  try with_reducible refine wpAny_holding ?_
  first | refine wpAny_bind (wpAny_pure ?_) | skip
  refine wpAny_bind (wpAny_sequenceKey ht.typeIs (by decide) ?_)
  refine wpAny_bind (wpAny_callSpecial?_slot (name:=Str.ofString "__getitem__") ht.typeIs PyProof.Rows.slot_tuple_getitem
    (wpAny_call_entry PyProof.Rows.slot_tuple_getitem ht.typeIs entry_tuple_getitem ?_ (args_tuple_getitem _ _)))
  show wpAny _ _ (Builtin.Tuple.tupleItemsOf (.ref t) >>= _) _ _ s
  refine wpAny_bind (tupleItemsOf_ ht ?_)
  refine wpAny_bind (wpAny_typeOf hTs ?_)
  rw [if_pos (by decide)]
  refine wpAny_bind (sliceApplied_gen hs pl pu ?_)
  have hno:¬ ((((sIx items.size 0 lo:Nat):Int) == 0 && (1:Int) == 1 && (sIx items.size items.size hi - sIx items.size 0 lo) == items.size)=true):=by
    intro q
    rw [Bool.and_eq_true,Bool.and_eq_true] at q
    have q1:((sIx items.size 0 lo:Nat):Int)=0:=eq_of_beq q.1.1
    have q2:sIx items.size items.size hi - sIx items.size 0 lo=items.size:=eq_of_beq q.2
    exact hw ⟨by omega,by omega⟩
  show wpAny _ _ (if (((sIx items.size 0 lo:Nat):Int) == 0 && (1:Int) == 1 && (sIx items.size items.size hi - sIx items.size 0 lo) == items.size)=true then _ else _) _ _ s
  rw [if_neg hno,pick_gen]
  first
    | exact wpAny_bind (m:=Builtin.Tuple.tupleExact _) (wpAny_newObj_type (wpAny_pure ⟨_,rfl,wpAny_pure h⟩) htake)
    | exact wpAny_bind (m:=Builtin.Tuple.tupleExact _) (wpAny_newObj_type (wpAny_bind (wpAny_pure (wpAny_pure ⟨_,rfl,wpAny_pure h⟩))) htake)
    | exact wpAny_bind (wpAny_bind (m:=Builtin.Tuple.tupleExact _) (wpAny_newObj_type (wpAny_pure (wpAny_pure ⟨_,rfl,wpAny_pure h⟩)) htake))
    | exact wpAny_bind (wpAny_bind (m:=Builtin.Tuple.tupleExact _) (wpAny_newObj_type (wpAny_pure ⟨_,rfl,wpAny_pure h⟩) htake))
end
end HT
namespace L2
open PySem PySem.Spec PyProof.Rows
noncomputable abbrev TO:=St→Hp→(Option Int→Hp→Prop)→Prop
noncomputable def PO (X:Cx) (e:Option Expr) (t:TO):Prop :=
  ∀ (pins:List (Addr×Obj)) (s:Shared) (σ:St) (H:Hp) (Q:Option Int→Hp→Prop),Inv X pins σ H s→t σ H Q →
    wpAny (model X.prog X.w) X.A (evalPart e X.env) (fun u s'=>∃ o H',Inv X pins σ H' s'∧IsPart u o∧Q o H') X.xe s
noncomputable def tNoPart:TO:=fun _ H Q=>Q none H
noncomputable def tPart (t:TE):TO:=fun σ H Q=>t σ H fun x H1=>∃ i,x=.int i∧Q (some i) H1
section
variable {X:Cx} {e:Expr} {te:TE} {lo hi:Option Expr} {tl th:TO} {pos p2:Pos}
theorem po_none:PO X none tNoPart:=by
  intro pins s σ H Q I h
  rw [evalPart_none]
  exact wpAny_pure ⟨none,H,I,.none,h⟩
theorem po_some (h:PE X e te):PO X (some e) (tPart te):=by
  intro pins s σ H Q I hw
  rw [evalPart_some]
  refine thn (h pins s σ H _ I hw) fun u s1 ⟨x,H1,I1,r1,q1⟩=>?_
  obtain ⟨i,rfl,q⟩:=q1
  obtain ⟨t,rfl⟩:=r1
  exact ⟨some i,H1,I1,.int i t,q⟩
noncomputable def SlR (X:Cx) (r:V→Option Int→Option Int→Hp→VK→Prop):Prop :=
  ∀ (pins:List (Addr×Obj)) (s:Shared) (σ:St) (H:Hp) (x:V) (v vl vu:Value) (lo hi:Option Int) (sl:Addr) (Q:VK),Inv X pins σ H s→RelV x v→s.heap.IsSliceOf sl vl vu .none→IsPart vl lo→IsPart vu hi→r x lo hi H Q →
    ∃ T id,typeLookup (.type T) "__getitem__" = pure (some (.builtin id))∧s.TypeIs v T∧wpAny (model X.prog X.w) X.A (getItem v (.ref sl)) (EP X pins σ Q) X.xe s
theorem SlR.or {r r':V→Option Int→Option Int→Hp→VK→Prop} (h:SlR X r) (h':SlR X r'):SlR X (fun x lo hi H Q=>r x lo hi H Q∨r' x lo hi H Q):=by
  intro pins s σ H x v vl vu lo hi sl Q I rx hs pl pu q
  rcases q with q | q
  · exact h pins s σ H x v vl vu lo hi sl Q I rx hs pl pu q
  · exact h' pins s σ H x v vl vu lo hi sl Q I rx hs pl pu q
noncomputable def tSl (r:V→Option Int→Option Int→Hp→VK→Prop) (te:TE) (tl th:TO):TE:=fun σ H Q=>te σ H fun x H1=>tl σ H1 fun l H2=>th σ H2 fun u H3=>r x l u H3 Q
theorem pe_slice {r:V→Option Int→Option Int→Hp→VK→Prop} (hr:SlR X r) (he:PE X e te) (hl:PO X lo tl) (hu:PO X hi th):PE X (.Subscript e (.Slice lo hi none p2) pos) (tSl r te tl th):=by
  intro pins s σ H Q I h
  refine Subscript_ (thn (he pins s σ H _ I h) fun v s1 ⟨x,H1,I1,r1,q1⟩=>?_)
  refine wpAny_Slice (thn (hl pins s1 σ H1 _ I1 q1) fun vl s2 ⟨l,H2,I2,pl,q2⟩=>thn (hu pins s2 σ H2 _ I2 q2) fun vu s3 ⟨u,H3,I3,pu,q3⟩=>?_)
  rw [evalPart_none]
  refine wpAny_pure ?_
  have I4:Inv X pins σ H3 { s3 with heap:=s3.heap.push { cls:=.type "slice",data:=.fields #[vl,vu,.none] } }:=I3.kept (t':=s3.toks) fun b ob q=>Heap.get?_push_of_some _ q
  obtain ⟨T,id,hT,ht,hg⟩:=hr pins { s3 with heap:=s3.heap.push { cls:=.type "slice",data:=.fields #[vl,vu,.none] } } σ H3 x v vl vu l u s3.heap.objs.size Q I4 r1 (Heap.IsSliceOf.new ..) pl pu q3
  show wpAny (model X.prog X.w) X.A (subscriptTail e (.Slice lo hi none p2) v (.ref s3.heap.objs.size)) (EP X pins σ Q) X.xe { s3 with heap:=s3.heap.push { cls:=.type "slice",data:=.fields #[vl,vu,.none] } }
  exact tail_any (ops:=[.ref s3.heap.objs.size,v]) ht hT hg (by with_unfolding_all rfl)
noncomputable def cutV (xs:List V) (lo hi:Option Int):List V:=(xs.drop (HT.sIx xs.length 0 lo)).take (HT.sIx xs.length xs.length hi - HT.sIx xs.length 0 lo)
theorem cutV_length (xs:List V) (lo hi:Option Int):(cutV xs lo hi).length≤xs.length:=by
  unfold cutV
  rw [List.length_take,List.length_drop]
  omega
noncomputable def rSlT (K:PySem.W.Frag):V→Option Int→Option Int→Hp→VK→Prop:=fun x lo hi H Q=>∃ a xs,x=.ref a∧SqT K H a xs ∧
  ¬ (HT.sIx xs.length 0 lo=0∧HT.sIx xs.length xs.length hi=xs.length)∧∀ p,H p=none→Q (.ref p) (upd H p (.tup (cutV xs lo hi)))
theorem sl_tup:SlR X (rSlT X.K):=by
  intro pins s σ H x v vl vu lo hi sl Q I rx hs pl pu h
  obtain ⟨a,xs,rfl,hx,hw,q⟩:=h
  cases rx
  obtain ⟨its,r,ht,hz⟩:=I.tuple hx
  have hlen:its.toArray.size=xs.length:=by rw [List.size_toArray];exact r.length.symm
  refine ⟨"tuple",_,PyProof.Rows.slot_tuple_getitem.lookup,ht.typeIs,?_⟩
  refine HT.getItem_tuple_cut ht hs pl pu (by rw [hlen];exact hw) ?_ (by rw [hlen];exact hz)
  rw [hlen]
  refine ⟨.ref s.heap.objs.size,_,I.laid (t':=s.toks) (o:=.tup (cutV xs lo hi)) (fun b ob q=>Heap.get?_push_of_some _ q) (Nat.le_refl _) ?_,rfl,q _ (I.hok.fresh (Nat.le_refl _))⟩
  exact ⟨Nat.le_trans (cutV_length xs lo hi) hz,_,(r.drop (HT.sIx xs.length 0 lo)).take (HT.sIx xs.length xs.length hi - HT.sIx xs.length 0 lo),IsTup.new _ _⟩
noncomputable def rCatT (K:PySem.W.Frag):R2:=fun x y H Q=>∃ a b xs ys,x=.ref a∧y=.ref b∧SqT K H a xs∧SqT K H b ys∧xs≠[]∧xs.length+ys.length≤sizeLine ∧
  (ys=[]→Q (.ref a) H)∧(ys≠[]→∀ p,H p=none→Q (.ref p) (upd H p (.tup (xs ++ ys))))
theorem Vals.nil_iff {xs:List V} {us:List Value} (r:Vals xs us):us=[]↔xs=[]:=by
  cases r with
  | nil=>simp
  | cons _ _=>simp
theorem op_catT:OpR X (binaryOp .Add) (rCatT X.K):=by
  intro pins s σ H x y v u Q I rx ry h
  obtain ⟨a,b,xs,ys,rfl,rfl,ha,hb,hx,hz,q1,q2⟩:=h
  cases rx
  cases ry
  obtain ⟨its,r1,p1,_⟩:=I.tuple ha
  obtain ⟨its2,r2,p2,_⟩:=I.tuple hb
  refine HT.cat_tup p1 p2 (fun z=>hx (r1.nil_iff.mp z)) (fun z=>⟨.ref a,H,I,rfl,q1 (r2.nil_iff.mp z)⟩) (fun z=>?_) (by rw [← r1.length,← r2.length];exact hz)
  refine ⟨.ref s.heap.objs.size,_,I.laid (t':=s.toks) (o:=.tup (xs ++ ys)) (fun b ob q=>Heap.get?_push_of_some _ q) (Nat.le_refl _) ?_,rfl,q2 (fun w=>z (r2.nil_iff.mpr w)) _ (I.hok.fresh (Nat.le_refl _))⟩
  exact ⟨by rw [List.length_append];exact hz,_,r1.append r2,IsTup.new _ _⟩
end
end L2
namespace L2
open PySem PySem.Spec PyProof.Rows
noncomputable def ixN (n:Nat) (i:Int):Option Nat:=if 0≤i then (if i < n then some i.toNat else none) else if -(n:Int)≤i then some (i+n).toNat else none
noncomputable def atI {α:Type} (xs:List α) (i:Int):Option α:=(ixN xs.length i).bind fun j=>xs[j]?
theorem ixN_seq {n:Nat} {i:Int} {j:Nat} (h:ixN n i=some j):seqIndex? i n=some j∧j < n∧-(n:Int)≤i∧i < n:=by
  unfold ixN at h
  by_cases h0:0≤i
  · rw [if_pos h0] at h
    by_cases h1:i < n
    · rw [if_pos h1] at h
      have e:i.toNat=j:=Option.some.inj h
      exact ⟨by rw [seqIndex_of h0 h1,e],by omega,by omega,h1⟩
    · rw [if_neg h1] at h;cases h
  · rw [if_neg h0] at h
    by_cases h1:-(n:Int)≤i
    · rw [if_pos h1] at h
      have e:(i+n).toNat=j:=Option.some.inj h
      exact ⟨by rw [seqIndex_neg (by omega) h1,e],by omega,h1,by omega⟩
    · rw [if_neg h1] at h;cases h
theorem atI_get {α:Type} {xs:List α} {i:Int} {v:α} (h:atI xs i=some v):∃ j,seqIndex? i xs.length=some j∧xs[j]?=some v∧j < xs.length∧-(xs.length:Int)≤i∧i < xs.length:=by
  unfold atI at h
  cases e:ixN xs.length i with
  | none=>rw [e] at h;cases h
  | some j =>
    rw [e] at h
    obtain ⟨h1,h2,h3,h4⟩:=ixN_seq e
    exact ⟨j,h1,h,h2,h3,h4⟩
theorem atI_nat {α:Type} {xs:List α} {j:Nat} {v:α} (h:xs[j]?=some v):atI xs (j:Int)=some v:=by
  have hj:j < xs.length:=(List.getElem?_eq_some_iff.mp h).1
  have e:ixN xs.length (j:Int)=some j:=by
    unfold ixN
    rw [if_pos (by omega),if_pos (by omega)];simp
  unfold atI;rw [e];exact h
noncomputable def PlainIx (b:Expr):Prop:=∀ o i,subscripted b false o i=operate [o,i] (getItem o i)
noncomputable def IxR (X:Cx) (r:R2):Prop :=
  ∀ (value slice:Expr) (pins:List (Addr×Obj)) (s:Shared) (σ:St) (H:Hp) (x y:V) (v u:Value) (Q:VK),Inv X pins σ H s→RelV x v→RelV y u→r x y H Q →
    subscripted slice false v u=operate [v,u] (getItem v u)→wpAny (model X.prog X.w) X.A (subscriptTail value slice v u) (EP X pins σ Q) X.xe s
noncomputable def MtR (X:Cx) (id:String) (r:V→List V→Hp→VK→Prop):Prop :=
  ∀ (pins:List (Addr×Obj)) (s:Shared) (σ:St) (H:Hp) (x:V) (xs:List V) (v:Value) (us:List Value) (Q:VK),Inv X pins σ H s→RelV x v→Vals xs us→r x xs H Q →
    wpAny (model X.prog X.w) X.A (call (.builtin id) (v :: us)) (EP X pins σ Q) X.xe s
section
variable {X:Cx} {a b:Expr} {ta tb:TE} {pos:Pos}
theorem IxR.or {r r':R2} (h:IxR X r) (h':IxR X r'):IxR X (fun x y H Q=>r x y H Q∨r' x y H Q):=by
  intro value slice pins s σ H x y v u Q I rx ry q hs
  rcases q with q | q
  · exact h value slice pins s σ H x y v u Q I rx ry q hs
  · exact h' value slice pins s σ H x y v u Q I rx ry q hs
theorem MtR.or {id:String} {r r':V→List V→Hp→VK→Prop} (h:MtR X id r) (h':MtR X id r'):MtR X id (fun x xs H Q=>r x xs H Q∨r' x xs H Q):=by
  intro pins s σ H x xs v us Q I rx rs q
  rcases q with q | q
  · exact h pins s σ H x xs v us Q I rx rs q
  · exact h' pins s σ H x xs v us Q I rx rs q
theorem pe_ix {r:R2} (hr:IxR X r) (ha:PE X a ta) (hb:PE X b tb) (hs:PlainIx b):PE X (.Subscript a b pos) (tOp r ta tb):=by
  intro pins s σ H Q I h
  exact Subscript_ (binT ha hb I h fun v u s2 x y H2 I2 rx ry q=>hr a b pins s2 σ H2 x y v u Q I2 rx ry q (hs _ _))
noncomputable def rIxL (K:PySem.W.Frag):R2:=fun x y H Q=>exR x fun p=>exI y fun i=>∃ xs,SqL K H p xs∧∃ v,atI xs i=some v∧Q v H
noncomputable def rIxT (K:PySem.W.Frag):R2:=fun x y H Q=>exR x fun p=>exI y fun i=>∃ xs,SqT K H p xs∧∃ v,atI xs i=some v∧Q v H
theorem ix_list:IxR X (rIxL X.K):=by
  intro value slice pins s σ H x y v u Q I rx ry h hs
  obtain ⟨p,rfl,h1⟩:=Eq.mp exR_ex h
  obtain ⟨i,rfl,xs,hq,z,he,q⟩:=Eq.mp exI_ex h1
  cases rx
  obtain ⟨t,rfl⟩:=ry
  obtain ⟨its,r,pl,hz⟩:=I.list hq
  obtain ⟨j,h1,h2,h3,h4,h5⟩:=atI_get he
  obtain ⟨w,ew,rw'⟩:=r.get h2
  have hl:=r.length
  have hn:=line63
  have fin:EP X pins σ Q w s:=⟨z,H,I,rw',q⟩
  by_cases h0:0≤i
  · have hj:i.toNat=j:=by
      rw [seqIndex_of h0 h5] at h1
      exact Option.some.inj h1
    exact item_listR pl.isList h0 (by omega) (by rw [hj];simpa using ew) fin hs
  · have hj:(i+(its.toArray.size:Int)).toNat=j:=by
      rw [seqIndex_neg (by omega) h4] at h1
      rw [List.size_toArray,← hl]
      exact Option.some.inj h1
    exact subscriptTail_builtinR (x:=w) pl.isList.typeIs slot_list_getitem.lookup
      (wpAny_getItem_list_neg (Q:=fun r s'=>r=w∧EP X pins σ Q r s') pl.isList (by omega) (by rw [List.size_toArray] <;> omega) (by omega) (by rw [hj];simpa using ew) ⟨rfl,fin⟩) hs
theorem ix_tup:IxR X (rIxT X.K):=by
  intro value slice pins s σ H x y v u Q I rx ry h hs
  obtain ⟨p,rfl,h1⟩:=Eq.mp exR_ex h
  obtain ⟨i,rfl,xs,hq,z,he,q⟩:=Eq.mp exI_ex h1
  cases rx
  obtain ⟨t,rfl⟩:=ry
  obtain ⟨its,r,pl,hz⟩:=I.tuple hq
  obtain ⟨j,h1,h2,h3,h4,h5⟩:=atI_get he
  obtain ⟨w,ew,rw'⟩:=r.get h2
  have hl:=r.length
  have hn:=line63
  have fin:EP X pins σ Q w s:=⟨z,H,I,rw',q⟩
  exact subscriptTail_builtinR (x:=w) pl.typeIs slot_tuple_getitem.lookup
    (getItem_tuple (j:=j) (Q:=fun r s'=>r=w∧EP X pins σ Q r s') pl (by omega) (by omega) (by rw [List.size_toArray,← hl];exact h1) (by simpa using ew) ⟨rfl,fin⟩) hs
theorem mapSeq_set (its:List Value) (n j:Nat) (u:Value):Obj.mapSeq (·.setIfInBounds j u) { cls:=.type "list",data:=.seq its.toArray n }={ cls:=.type "list",data:=.seq (its.set j u).toArray n }:=by
  simp [Obj.mapSeq]
theorem Inv.lst {pins:List (Addr×Obj)} {σ:St} {H:Hp} {s:Shared} {p:Addr} {xs:List V} (I:Inv X pins σ H s) (h:H p=some (.lst xs)) :
    ∃ (its:List Value) (n:Nat),Vals xs its∧s.heap.get? p=some { cls:=.type "list",data:=.seq its.toArray n }∧xs.length≤sizeLine:=by
  obtain ⟨z,its,n,r,e⟩:=I.hok p _ h
  exact ⟨its,n,r,e,z⟩
theorem Inv.lstUpd {pins:List (Addr×Obj)} {σ:St} {H:Hp} {s:Shared} {p:Addr} {xs ys:List V} {its its':List Value} {n n':Nat} {f:Obj→Obj} (I:Inv X pins σ H s) (h:H p=some (.lst xs))
    (ho:s.heap.get? p=some { cls:=.type "list",data:=.seq its.toArray n }) (hf:f { cls:=.type "list",data:=.seq its.toArray n }={ cls:=.type "list",data:=.seq its'.toArray n' }) (r:Vals ys its') (hz:ys.length≤sizeLine) (t:Nat) :
    Inv X pins σ (upd H p (.lst ys)) { s with heap:=s.heap.update p f,toks:=t }:=by
  have e:(s.heap.update p f).get? p=some { cls:=.type "list",data:=.seq its'.toArray n' }:=by
    rw [Heap.get?_update_self f ho (by rw [hf] <;> rfl),hf]
  refine I.write (x:=p) (e:=p) (by rw [h];trivial) (.inl rfl) (fun b u hb q=>(Heap.get?_update_other _ _ (Ne.symm hb)).trans q) ⟨_,e⟩ ?_
  exact ⟨hz,its',n',r,e⟩
noncomputable def rSetL:V→V→V→Hp→(Hp→Prop)→Prop:=fun o i v H Q=>∃ p xs k j,o=.ref p∧i=.int k∧H p=some (.lst xs)∧ixN xs.length k=some j∧Q (upd H p (.lst (xs.set j v)))
theorem set_list:PSet X rSetL:=by
  intro pins s σ H o i v ov iv u Q I ro ri rv h
  obtain ⟨p,xs,k,j,rfl,rfl,hp,hj,q⟩:=h
  cases ro
  obtain ⟨t,rfl⟩:=ri
  obtain ⟨its,n,r,ho,hz⟩:=I.lst hp
  obtain ⟨h1,h2,h3,h4⟩:=ixN_seq hj
  have hl:=r.length
  have hn:=line63
  have I':Inv X pins σ (upd H p (.lst (xs.set j v))) { s with heap:=s.heap.update p (Obj.mapSeq (·.setIfInBounds j u)) } :=
    I.lstUpd hp ho (mapSeq_set its n j u) (r.set rv j) (by rw [List.length_set];exact hz) s.toks
  by_cases h0:0≤k
  · have hk:k.toNat=j:=by
      rw [seqIndex_of h0 h4] at h1
      exact Option.some.inj h1
    exact PySem.W.ki_setAt ho h0 (by omega) (by rw [List.size_toArray,← hl];exact h4) (by rw [hk];exact ⟨_,I',q⟩)
  · have hk:(k+(its.toArray.size:Int)).toNat=j:=by
      rw [seqIndex_neg (by omega) h3] at h1
      rw [List.size_toArray,← hl]
      exact Option.some.inj h1
    exact PySem.W.ki_setBack ho (by omega) (by rw [List.size_toArray,← hl];exact h3) (by omega) (by rw [hk];exact ⟨_,I',q⟩)
theorem slice_bounds (lo hi:Option Int) (n:Nat):(sliceBounds lo hi none n).1=((HT.sIx n 0 lo:Nat):Int)∧(sliceBounds lo hi none n).2.1=((HT.sIx n n hi:Nat):Int)∧(sliceBounds lo hi none n).2.2=1:=by
  refine ⟨?_,?_,rfl⟩
  · cases lo with
    | none=>simp [sliceBounds,HT.sIx]
    | some i =>
      simp only [sliceBounds,HT.sIx,Option.getD_none,show (1:Int) > 0 by decide,if_true]
      by_cases h:i < 0
      · simp only [h,if_true] <;> omega
      · simp only [h,if_false] <;> omega
  · cases hi with
    | none=>simp [sliceBounds,HT.sIx]
    | some i =>
      simp only [sliceBounds,HT.sIx,Option.getD_none,show (1:Int) > 0 by decide,if_true]
      by_cases h:i < 0
      · simp only [h,if_true] <;> omega
      · simp only [h,if_false] <;> omega
theorem slicePick_cut (its:List Value) (lo hi:Option Int):slicePick its.toArray lo hi none=((its.drop (HT.sIx its.length 0 lo)).take (HT.sIx its.length its.length hi - HT.sIx its.length 0 lo)).toArray:=by
  obtain ⟨h1,h2,h3⟩:=slice_bounds lo hi its.toArray.size
  unfold slicePick
  rw [h1,h2,h3]
  simp only [sliceRange_one,pick_run,List.size_toArray] <;> rfl
noncomputable def rSlL (K:PySem.W.Frag):V→Option Int→Option Int→Hp→VK→Prop:=fun x lo hi H Q=>∃ a xs,x=.ref a∧SqL K H a xs∧∀ p,H p=none→Q (.ref p) (upd H p (.lst (cutV xs lo hi)))
theorem sl_list:SlR X (rSlL X.K):=by
  intro pins s σ H x v vl vu lo hi sl Q I rx hs pl pu h
  obtain ⟨a,xs,rfl,hx,q⟩:=h
  cases rx
  obtain ⟨its,r,ht,hz⟩:=I.list hx
  have hlen:=r.length
  refine ⟨"list",_,slot_list_getitem.lookup,ht.isList.typeIs,?_⟩
  refine wpAny_getItem_list_slice ht.isList hs pl pu .none (by simp) ?_ (by rw [List.size_toArray] <;> omega)
  rw [slicePick_cut,← hlen]
  refine ⟨.ref s.heap.objs.size,_,I.laid (t':=s.toks) (o:=.lst (cutV xs lo hi)) (fun b ob q=>Heap.get?_push_of_some _ q) (Nat.le_refl _) ?_,rfl,q _ (I.hok.fresh (Nat.le_refl _))⟩
  exact ⟨Nat.le_trans (cutV_length xs lo hi) hz,_,0,(r.drop (HT.sIx xs.length 0 lo)).take (HT.sIx xs.length xs.length hi - HT.sIx xs.length 0 lo),Heap.get?_push_size _ rfl⟩
theorem call_len_seq:CallR X (.builtin "len") (fun xs H Q=>∃ p ys,xs=[.ref p]∧(SqL X.K H p ys∨SqT X.K H p ys)∧Q (.int ys.length) H):=by
  intro pins s σ H xs us Q I r h
  obtain ⟨p,ys,rfl,hq,q⟩:=h
  obtain ⟨u,rfl,rx⟩:=vals1 r
  cases rx
  have hn:=line63
  rcases hq with hq | hq
  · obtain ⟨its,r',pl,hz⟩:=I.list hq
    have hlen:=r'.length
    exact Calls.call_len_list pl.isList (by simp only [List.size_toArray] <;> omega) ⟨.int ys.length,H,I.tok _,⟨s.toks+1,by rw [List.size_toArray,hlen]⟩,q⟩
  · obtain ⟨its,r',pl,hz⟩:=I.tuple hq
    have hlen:=r'.length
    exact len_tuple pl (by simp only [List.size_toArray] <;> omega) ⟨.int ys.length,H,I.tok _,⟨s.toks+1,by rw [List.size_toArray,hlen]⟩,q⟩
theorem CallR.or {f:Value} {r r':List V→Hp→VK→Prop} (h:CallR X f r) (h':CallR X f r'):CallR X f (fun xs H Q=>r xs H Q∨r' xs H Q):=by
  intro pins s σ H xs us Q I rs q
  rcases q with q | q
  · exact h pins s σ H xs us Q I rs q
  · exact h' pins s σ H xs us Q I rs q
theorem call_list_of:CallR X (.type "list") (fun xs H Q=>∃ p ys,xs=[.ref p]∧(SqL X.K H p ys∨SqT X.K H p ys)∧∀ l,H l=none→Q (.ref l) (upd H l (.lst ys))):=by
  intro pins s σ H xs us Q I r h
  obtain ⟨p,ys,rfl,hq,q⟩:=h
  obtain ⟨u,rfl,rx⟩:=vals1 r
  cases rx
  have fin:∀ (its:List Value),Vals ys its→ys.length≤sizeLine→∀ (h':Heap) (c':Nat),(∀ b o',s.heap.get? b=some o'→h'.get? b=some o') →
      h'.get? s.heap.objs.size=some { cls:=.type "list",dict:=none,data:=.seq its.toArray c',slots:=#[] }→EP X pins σ Q (.ref s.heap.objs.size) { s with heap:=h' }:=fun its r' hz h' c' kp e =>
    ⟨.ref s.heap.objs.size,_,I.laid (t':=s.toks) kp (Nat.le_refl _) (show ObjOk X.prog X.w _ h' _ (.lst ys) from ⟨hz,its,c',r',e⟩),rfl,q _ (I.hok.fresh (Nat.le_refl _))⟩
  rcases hq with hq | hq
  · obtain ⟨its,r',pl,hz⟩:=I.list hq
    have hlen:=r'.length
    obtain ⟨o,ho,hc,n,hd⟩:=pl.isList
    exact call_list_seq p (.inl rfl) ho hc hd (fun h' c' kp e=>fin its r' hz h' c' kp e) (by simp only [List.size_toArray] <;> omega)
  · obtain ⟨its,r',pl,hz⟩:=I.tuple hq
    have hlen:=r'.length
    obtain ⟨o,ho,hc,n,hd⟩:=pl
    exact call_list_seq p (.inr rfl) ho hc hd (fun h' c' kp e=>fin its r' hz h' c' kp e) (by simp only [List.size_toArray] <;> omega)
noncomputable def tyV (K:PySem.W.Frag) (T:String) (x:V) (H:Hp):Prop:=match x with
  | .str _=>T="str"
  | .int _=>T="int"
  | .ref p=>(T="list" ∧ ∃ xs,SqL K H p xs)∨(T="tuple" ∧ ∃ o,K.lookup p=some o∧o.cls=.type "tuple" ∧ o.dict=none) ∨
      (T="dict" ∧ ((∃ kvs,H p=some (.dK kvs))∨∃ kvs,H p=some (.dT kvs)))∨(T="set" ∧ ∃ S n,H p=some (.set S n))
  | _=>False
theorem tyV_is {pins:List (Addr×Obj)} {σ:St} {H:Hp} {s:Shared} {T:String} {x:V} {v:Value} (I:Inv X pins σ H s) (r:RelV x v) (ty:tyV X.K T x H) :
    s.TypeIs v T∧∀ a,v=.ref a→∃ ob,s.heap.get? a=some ob∧ob.dict=none:=by
  cases x with
  | str z =>
    obtain ⟨t,rfl⟩:=r
    cases (show T="str" from ty)
    exact ⟨typeIs_str s z t,fun _ e=>nomatch e⟩
  | int i =>
    obtain ⟨t,rfl⟩:=r
    cases (show T="int" from ty)
    exact ⟨typeIs_int s i t,fun _ e=>nomatch e⟩
  | ref p =>
    cases r
    rcases ty with ⟨rfl,xs,hq⟩ | ⟨rfl,o,hk,hc,hd⟩ | ⟨rfl,hk⟩ | ⟨rfl,S,n,hk⟩
    · obtain ⟨its,_,pl,_⟩:=I.list hq
      refine ⟨pl.isList.typeIs,fun a e=>?_⟩
      cases e
      obtain ⟨o,n,e,c,hd,_⟩:=pl
      exact ⟨o,e,hd⟩
    · refine ⟨⟨o,I.kIn p o hk,hc⟩,fun a e=>?_⟩
      cases e
      exact ⟨o,I.kIn _ o hk,hd⟩
    · have z:∃ o,s.heap.get? p=some o∧o.ExactDict:=by
        rcases hk with ⟨kvs,hk⟩ | ⟨kvs,hk⟩
        · obtain ⟨_,_,_,_,o,_,_,e,ex,_⟩:=I.hok p _ hk
          exact ⟨o,e,ex⟩
        · obtain ⟨_,_,_,_,o,_,_,e,ex,_⟩:=I.hok p _ hk
          exact ⟨o,e,ex⟩
      obtain ⟨o,e,ex⟩:=z
      refine ⟨⟨o,e,ex.1⟩,fun a e2=>?_⟩
      cases e2
      exact ⟨o,e,ex.2.1⟩
    · obtain ⟨o,_,_,_,e,ex,_⟩:=I.hok p _ hk
      refine ⟨⟨o,e,ex.1⟩,fun a e2=>?_⟩
      cases e2
      exact ⟨o,e,ex.2.1⟩
  | _=>exact False.elim ty
noncomputable def tBM (K:PySem.W.Frag) (T:String) (r:V→List V→Hp→VK→Prop) (to:TE) (t:TA):TE:=fun σ H Q=>to σ H fun x H1=>tyV K T x H1∧t σ H1 fun xs H2=>r x xs H2 Q
variable {o e:Expr} {es:List Expr} {to:TE} {t:TA} {name:Str} {apos cpos:Pos} {T id:String} {r:V→List V→Hp→VK→Prop}
theorem pe_bm (pa:PlainAttrs T) (slot:Slot T name id) (hty:typeOf (.builtin id)=pure (.type "method_descriptor")) (hm:MtR X id r) (ho:PE X o to) (ha:PA X (e :: es) t)
    (hbase:attributeBase o name X.env (eval o X.env)=eval o X.env:=by rfl)
    (hfew:((backTo cpos (starEach (e :: es) X.env)).all (fun x=>!x.1) && (backToKw cpos (keywordEach [] X.env)).all (fun x=>x.1.isSome)
      && decide ((e :: es).length+([]:List Keyword).length+(if ([]:List Keyword).isEmpty then 0 else 1) < 30))=true:=by rfl)
    (hline:(apos.endLine == cpos.line)=true:=by rfl) (hs:starEach (e :: es) X.env=(false,eval e X.env) :: starEach es X.env:=by rfl) (hplain:(backTo cpos (starEach es X.env)).any (·.1)=false:=by rfl) :
    PE X (.Call (.Attribute o name apos) (e :: es) [] cpos) (tBM X.K T r to t):=by
  intro pins s σ H Q I h
  refine wpAny_Call_method_late hbase hfew hline rfl (thn (ho pins s σ H _ I h) fun v s1 ⟨x,H1,I1,r1,ty,q1⟩=>?_)
  obtain ⟨h1,h2⟩:=tyV_is I1 r1 ty
  refine ⟨T,id,pa,slot,hty,h1,h2,?_⟩
  have hA:=ha cpos pins s1 σ H1 _ I1 q1
  rw [hs] at hA ⊢
  refine Calls.callWith_builtin (by show (false || (backTo cpos (starEach es X.env)).any (·.1))=false;rw [hplain] <;> rfl) (Calls.evalArgs_plain ?_)
  exact thn hA fun us s2 ⟨vs,H2,I2,r2,q2⟩=>hm pins s2 σ H2 x vs v us Q I2 r1 r2 q2
end
end L2
namespace L2
open PySem PySem.Spec PyProof.Rows
noncomputable def MtM (X:Cx) (id:String) (r:V→List V→Hp→VK→Prop):Prop :=
  ∀ (pins:List (Addr×Obj)) (s:Shared) (σ:St) (H:Hp) (x:V) (xs:List V) (v:Value) (us:List Value) (Q:VK),Inv X pins σ H s→RelV x v→Vals xs us→r x xs H Q →
    wpAny (model X.prog X.w) X.A (call (.builtin id) (v :: us)) (EP X pins σ Q) X.xe s
theorem Vals.one:∀ {x:V} {us:List Value},Vals [x] us→∃ u,us=[u]∧RelV x u
  | _,_,.cons r .nil=>⟨_,rfl,r⟩
theorem Vals.two:∀ {x y:V} {us:List Value},Vals [x,y] us→∃ u v,us=[u,v]∧RelV x u∧RelV y v
  | _,_,_,.cons r (.cons q .nil)=>⟨_,_,rfl,r,q⟩
theorem Vals.zero:∀ {us:List Value},Vals [] us→us=[]
  | _,.nil=>rfl
theorem Vals.eraseIdx:∀ {xs:List V} {us:List Value} (i:Nat),Vals xs us→Vals (xs.eraseIdx i) (us.eraseIdx i)
  | _,_,_,.nil=>.nil
  | _,_,0,.cons _ t=>t
  | _,_,i+1,.cons r t=>.cons r (Vals.eraseIdx i t)
theorem Vals.reverse {xs:List V} {us:List Value} (h:Vals xs us):Vals xs.reverse us.reverse:=by
  induction h with
  | nil=>exact .nil
  | cons r t ih=>rw [List.reverse_cons,List.reverse_cons];exact Vals.append ih (.cons r .nil)
section
variable {X:Cx} {pins:List (Addr×Obj)} {σ:St} {H:Hp} {s:Shared} {l b:Addr} {xs ys zs:List V}
theorem Inv.lset {its its':List Value} {n:Nat} {f:Array Value→Array Value} {t':Nat} (I:Inv X pins σ H s) (hH:H l=some (.lst xs))
    (e:s.heap.get? l=some { cls:=.type "list",data:=.seq its.toArray n }) (hf:f its.toArray=its'.toArray) (hv:Vals ys its') (hz:ys.length≤sizeLine) :
    Inv X pins σ (upd H l (.lst ys)) { s with heap:=s.heap.update l (Obj.mapSeq f),toks:=t' }:=by
  have q:=PySem.IsL.update e f
  rw [hf] at q
  refine I.write (x:=l) (e:=l) (by rw [hH];exact trivial) (.inl rfl) (fun b' u hb hu=>(Heap.get?_update_other s.heap (Obj.mapSeq f) (Ne.symm hb)).trans hu) ⟨_,q⟩ ?_
  exact ⟨hz,its',_,hv,q⟩
theorem Inv.lnew {its:List Value} {t':Nat} (I:Inv X pins σ H s) (hv:Vals ys its) (hz:ys.length≤sizeLine) :
    Inv X pins σ (upd H s.heap.objs.size (.lst ys)) { s with heap:=s.heap.push { cls:=.type "list",data:=.seq its.toArray },toks:=t' } :=
  I.laid (fun _ _ q=>Heap.get?_push_of_some _ q) (Nat.le_refl _) ⟨hz,its,0,hv,Heap.get?_push_size _ rfl⟩
theorem Inv.fresh (I:Inv X pins σ H s):H s.heap.objs.size=none:=I.hok.fresh (Nat.le_refl _)
theorem Inv.lstM (I:Inv X pins σ H s) (hH:H l=some (.lst xs)):xs.length≤sizeLine∧∃ (its:List Value) (n:Nat),Vals xs its∧xs.length=its.length∧s.heap.get? l=some { cls:=.type "list",data:=.seq its.toArray n }:=by
  obtain ⟨z,its,n,r,e⟩:=I.hok l _ hH
  exact ⟨z,its,n,r,r.length,e⟩
theorem notLongL {n:Nat} (h:n≤sizeLine):Builtin.List.listTooLong n=false:=by
  unfold Builtin.List.listTooLong
  exact decide_eq_false (by omega)
end
section
variable {X:Cx}
noncomputable def rAppend:V→List V→Hp→VK→Prop:=fun x vs H Q=>∃ l xs y,x=.ref l∧vs=[y]∧H l=some (.lst xs)∧xs.length < sizeLine∧Q .non (upd H l (.lst (xs ++ [y])))
theorem mt_append:MtM X "list.append" rAppend:=by
  intro pins s σ H x vs v us Q I rx rv h
  obtain ⟨l,xs,y,rfl,rfl,hH,hz,q⟩:=h
  cases rx
  obtain ⟨u,rfl,ru⟩:=rv.one
  obtain ⟨z,its,n,r,hl,e⟩:=I.lstM hH
  refine call_meets F.slot_list_append ⟨_,e,rfl⟩ F.entry_list_append (F.args_list_append_2 _ _) (PySem.list_append l its.toArray n u (by rw [List.size_toArray];omega)) ⟨e,?_⟩
  refine ⟨.non,_,I.lset (its':=its ++ [u]) hH e (by simp) (r.append (.cons ru .nil)) ?_,rfl,q⟩
  rw [List.length_append,List.length_singleton]
  omega
noncomputable def rExtend:V→List V→Hp→VK→Prop:=fun x vs H Q=>∃ l b xs zs,x=.ref l∧vs=[.ref b]∧H l=some (.lst xs)∧H b=some (.lst zs)∧xs.length+zs.length≤sizeLine∧Q .non (upd H l (.lst (xs ++ zs)))
theorem mt_extend:MtM X "list.extend" rExtend:=by
  intro pins s σ H x vs v us Q I rx rv h
  obtain ⟨l,b,xs,zs,rfl,rfl,hH,hB,hz,q⟩:=h
  cases rx
  obtain ⟨u,rfl,ru⟩:=rv.one
  cases ru
  obtain ⟨z,its,n,r,hl,e⟩:=I.lstM hH
  obtain ⟨z2,its2,n2,r2,hl2,e2⟩:=I.lstM hB
  have hsz:its.toArray.size+its2.toArray.size≤sizeLine:=by rw [List.size_toArray,List.size_toArray];omega
  have hlong:¬ (!its.toArray.isEmpty && Builtin.List.listTooLong (its.toArray.size+its2.toArray.size))=true:=by
    rw [notLongL hsz,Bool.and_false]
    exact Bool.false_ne_true
  refine call_meets F.slot_list_extend ⟨_,e,rfl⟩ F.entry_list_extend (F.args_list_extend_2 _ _)
    (AutoSeq1.list_extend_list_list_0 l its.toArray n b its2.toArray n2 hlong (by rw [List.size_toArray];omega) (by omega)) ⟨e,e2,?_⟩
  refine ⟨.non,_,I.lset (its':=its ++ its2) hH e (by simp) (r.append r2) ?_,rfl,q⟩
  rw [List.length_append]
  omega
noncomputable def rCat:R2:=fun x y H Q=>∃ l b xs zs,x=.ref l∧y=.ref b∧H l=some (.lst xs)∧H b=some (.lst zs)∧xs.length+zs.length≤sizeLine∧∀ p,H p=none→Q (.ref p) (upd H p (.lst (xs ++ zs)))
theorem op_cat:OpR X (binaryOp .Add) rCat:=by
  intro pins s σ H x y v u Q I rx ry h
  obtain ⟨l,b,xs,zs,rfl,rfl,hH,hB,hz,q⟩:=h
  cases rx
  cases ry
  obtain ⟨z,its,n,r,hl,e⟩:=I.lstM hH
  obtain ⟨z2,its2,n2,r2,hl2,e2⟩:=I.lstM hB
  refine PySem.P.add_list e e2 ?_ (by rw [List.size_toArray,List.size_toArray];omega)
  have ea:its.toArray ++ its2.toArray=(its ++ its2).toArray:=by simp
  rw [ea]
  exact ⟨.ref _,_,I.lnew (t':=s.toks) (r.append r2) (by rw [List.length_append];omega),rfl,q _ I.fresh⟩
end
section
variable {prog:Program} {w:World} {A:Around} {E:Value→Shared→Prop} {s:Shared}
end
section
variable {X:Cx}
end
end L2
namespace Att
open PySem PySem.W PySem.Calls PyProof.Rows
theorem ints_of_wellAll {P:Params} {h:Heap}:∀ (ns:List Int) (vs:List Value),WellAll P h vs (ns.map WData.int)→IntsAre vs ns:=by
  intro ns
  induction ns with
  | nil =>
    intro vs w
    rw [List.map_nil] at w
    cases w
    exact .nil
  | cons n ns ih =>
    intro vs w
    rw [List.map_cons] at w
    cases w with
    | cons a b =>
      cases a
      exact .cons _ _ (ih _ b)
theorem script_of {l:OpenLaw} {n:Nat} (hn:l.most=some n) {P:Params} {h:Heap} {args:List WData} {vals:List Value}
    (hpre:l.row.toRowW.claim.pre args=true) (hwl:WellAll P h vals args) :
    ∃ a vs ns,vals=[Value.ref a]∧args=[WData.list (ns.map WData.int)]∧h.get? a=some { cls:=.type "list",data:=.seq vs.toArray }∧IntsAre vs ns∧ns.length≤n:=by
  have hsh:WShape.hasAll [] args [.list .int]=true:=(pre_splitW hpre).1
  have hc:l.pre.holds [] { args:=args }=true:=(pre_splitW hpre).2
  obtain ⟨d,r,rfl,h1,h2⟩:=hasAllW_cons hsh
  obtain rfl:=hasAllW_nil h2
  obtain ⟨xs,rfl,h3⟩:=hasW_list h1
  obtain ⟨ns,rfl⟩:=items_int h3
  have hlen:ns.length≤n:=by
    unfold OpenLaw.pre at hc
    have h4:(WTm.not (.lt (.lit (.int (n:Int))) (.len (.arg 0)))).holds [] { args:=[.list (ns.map .int)] }=true:=by
      have h4:=(holds_andW hc).1
      rw [hn] at h4
      exact h4
    have h5:=condW_of h4 (w_not (w_lt w_lit (w_len_list (w_arg rfl))))
    rw [List.length_map] at h5
    refine Nat.le_of_not_lt fun q=>?_
    have q':(n:Int) < ((ns.length:Nat):Int):=by omega
    first
      | (rw [decide_eq_true q'] at h5;exact absurd h5 (by decide))
      | (simp at h5;omega)
  cases hwl with
  | cons w1 w2 =>
    cases w2
    cases w1 with
    | list ho hall=>exact ⟨_,_,ns,rfl,rfl,ho,ints_of_wellAll ns _ hall,hlen⟩
theorem post_true (l:OpenLaw) (args:List WData):l.row.toRowW.claim.post args (.bool true) args=true :=
  postW_of (r:=l.row.toRowW) (X:=(true == true))
    (show WShape.has [] (.bool true) .bool=true by first | rfl | decide | simp [WShape.has,WShape.arms,WShape.armsAll])
    (show (WTm.eq .res (.lit (.bool true))).value [] { args:=args,res:=some (.bool true),after:=args }=some (.bool (true == true)) from w_eq_bool (w_res rfl) w_lit) rfl
theorem attach_call {l:OpenLaw} {n:Nat} {q:Program} {loose:List Str} {XP:(Str→Option Value)→Heap→Prop} {YP:World→Heap→Prop} {d:DefRec}
    (hn:l.most=some n) (hdf:d.params.defaults=[])
    (call:∀ (w:World) (s₀ s₁:Shared) (mg mb:Str→Option Value) (fa:Addr) (o:Obj) (pm cd doc:Value) (a:Addr) (vs:List Value) (ns:List Int),
      Ground q loose [] XP w s₀ mg mb s₁.heap→YP w s₁.heap →
      s₁.heap.get? fa=some o→o.data=.func (docDef d.name d.params d.body d.scope pm cd doc)→s₁.heap.CodeRec cd d.name→mg d.name=some (.ref fa) →
      s₁.heap.get? a=some { cls:=.type "list",data:=.seq vs.toArray }→IntsAre vs ns→ns.length≤n→s₁.gens=#[] →
      codeAny (model l.prog w) callerA (.call (.ref fa) ⟨[.ref a],[]⟩) (fun r s'=>r=.ok (.ret (.bool true))∧OldK s₁.heap s'.heap∧s'.os=s₁.os∧AllBare s'.gens) s₁) :
    WalkO q loose XP YP l.row.toRowW d [] (fun f vs=>PySem.call f vs):=by
  intro w s₀ s₁ mg mb G Y fa o pm cd doc dV kV ho hd hcd hD hmg hg args vals as hpre hlay hrd hwl hlo
  obtain rfl:dV=.none:=Dflts.none hD hdf
  obtain rfl:kV=.none:=Dflts.noKw hD
  obtain ⟨a,vs,ns,rfl,rfl,hobj,hints,hlen⟩:=script_of hn hpre hwl
  refine enter_call (codeAny_mono (call w s₀ s₁ mg mb fa o pm cd doc a vs ns G Y ho (fd_plain hd) hcd hmg hobj hints hlen hg) fun r s' hq=>?_)
  obtain ⟨rfl,h2,h3,h4⟩:=hq
  exact ⟨.inl ⟨.bool true,.bool true,[],rfl,fun _=>rfl,.bool true,post_true l _,fun _=>⟨List.Pairwise.nil,fun _ hm=>(nomatch hm)⟩⟩,h2,h3,h4⟩
section
variable {prog:Program} {w:World} {A:Around} {E:Value→Shared→Prop} {s:Shared} {K:Frag}
end
end Att
namespace L2
open PySem PySem.Spec PyProof.Rows
theorem vals_ints:∀ {vs:List Value} {ns:List Int},IntsAre vs ns→Vals (ns.map V.int) vs
  | _,_,.nil=>.nil
  | _,_,.cons n t h=>.cons ⟨t,rfl⟩ (vals_ints h)
noncomputable def Only (H:Hp):Prop:=∀ b,H b=none∨∃ o xs,H b=some (.frz o (.lst xs))
theorem law_call {P:Program} {w:World} {K:PySem.W.Frag} {mg mb:Str→Option Value} {CX:CXT} {k:Nat} {fa a:Addr} {fd:FuncData} {x:Str} {sp:Sp} {s₁:Shared} {vs:List Value} {ns:List Int}
    (KX:K.In s₁.heap) (hns:s₁.heap.Ns mainGlobals mg) (hb:s₁.heap.Ns builtinsNs mb) (hbb:∀ x:Str,x ≠ "__name__" → mb x=bootBuiltins x) (hlim:s₁.heap.NoLimit) (hg:s₁.gens=#[])
    (ha:s₁.heap.get? a=some { cls:=.type "list",data:=.seq vs.toArray }) (hi:IntsAre vs ns) (hl:ns.length≤sizeLine) (hr:Room k callerA)
    (F:∀ base:Heap,K.In base→base.Ns mainGlobals mg→FnOk P w K mg base CX k fa fd [x] sp) (hbind:∀ (s:Shared) (u:Value),BindsTo s fd ⟨[u],[]⟩ [(x,u)])
    (hsp:∀ H:Hp,Only H→SqL K H a (ns.map V.int)→sp [.ref a] H (fun v _=>v=.bl true) fun _ _ _=>False)
    (hCX:∀ H e s',CX [] H s₁ (fun _ _ _=>False) e s'→False) :
    codeAny (model P w) callerA (.call (.ref fa) ⟨[.ref a],[]⟩) (fun r s'=>r=.ok (.ret (.bool true))∧OldK s₁.heap s'.heap∧s'.os=s₁.os∧AllBare s'.gens) s₁:=by
  have rv:=vals_ints hi
  have lenV:=hi.length
  -- from an abstract heap in which nothing but the script may be tracked
  have core:∀ H:Hp,Only H→SqL K H a (ns.map V.int)→HOk P w H s₁.heap→(∀ b,H b≠none→b=a)→(H a≠none→K.lookup a=none) →
      codeAny (model P w) callerA (.call (.ref fa) ⟨[.ref a],[]⟩) (fun r s'=>r=.ok (.ret (.bool true))∧OldK s₁.heap s'.heap∧s'.os=s₁.os∧AllBare s'.gens) s₁:=by
    intro H hO hS hok hA hK
    have base_of:∀ {b:Addr} {o:Obj},s₁.heap.get? b=some o→H b=none→(hidT s₁.heap H).get? b=some o:=fun e n=>hidT_get e n
    have noA:∀ {b:Addr} {o:Obj} {es:Array DictEntry} {ep:Nat},s₁.heap.get? b=some o→o.data=.dict es ep→H b=none:=fun {b o es ep} e d=>by
      cases q:H b with
      | none=>rfl
      | some u =>
        have e':b=a:=hA b (by rw [q];simp)
        subst e'
        rw [ha] at e;cases e
        have d':Data.seq vs.toArray _=Data.dict es ep:=d
        cases d'
    have nsK:∀ {b:Addr} {m:Str→Option Value},s₁.heap.Ns b m→(hidT s₁.heap H).Ns b m:=fun {b m} ⟨o,es,ep,e,d,r⟩=>⟨o,es,ep,base_of e (noA e d),d,r⟩
    have hKb:K.In (hidT s₁.heap H):=fun b o e=>base_of (KX b o e) (by
      cases q:H b with
      | none=>rfl
      | some u =>
        have e':b=a:=hA b (by rw [q];simp)
        subst e'
        rw [hK (by rw [q];simp)] at e;cases e)
    have hM:Mod K mg (hidT s₁.heap H):=⟨hKb,nsK hns,⟨mb,nsK hb,hbb⟩,let ⟨mc,h1,h2⟩:=hlim;⟨mc,nsK h1,h2⟩⟩
    have e0:Env0 P w K mg (hidT s₁.heap H) callerA [] s₁ H:=⟨rfl,hM,fun b o e=>of_hidT e,Nat.le_of_eq (hidT_size _ _),trivial,fun b hb=>absurd (show b∈([]:List Addr) from hb) (by simp),hok,.of_eq hg⟩
    refine codeAny_mono ((F _ hKb (nsK hns)).run callerA [] s₁ H ⟨[.ref a],[]⟩ [.ref a] [.ref a] _ _ hr e0 (hbind s₁ (.ref a)) (.cons rfl .nil) (hsp H hO hS)) fun r s' h=>?_
    cases r with
    | error e=>exact (hCX H e s' h).elim
    | ok fl =>
      cases fl with
      | next=>exact False.elim h
      | brk=>exact False.elim h
      | cont=>exact False.elim h
      | ret u =>
        obtain ⟨v,H',os,bare,un,hok',r',q⟩:=h
        have q':v=.bl true:=q
        subst q'
        obtain rfl:u=Value.bool true:=r'
        refine ⟨rfl,OldK.of_keep fun b o e=>?_,os,bare⟩
        cases q:H b with
        | none=>exact un.keep b o e q (by intro z;exact absurd (show b∈([]:List Addr) from z) (by simp)) (by simp)
        | some u =>
          rcases hO b with z | ⟨ob,xs,z⟩
          · rw [q] at z;cases z
          · have z2:=un.frzs b ob _ z
            obtain ⟨e1,_⟩:=hok b _ z
            obtain ⟨e2,_⟩:=hok' b _ z2
            rw [e] at e1;cases e1
            exact e2
  cases hk:K.lookup a with
  | some o =>
    -- the script is one of the module's own objects
    have e:=KX a o hk
    rw [ha] at e
    cases e
    refine core (fun _=>none) (fun _=>.inl rfl) (.inr ⟨_,vs.toArray,_,hk,rfl,rfl,rfl,by rw [List.size_toArray,lenV];exact hl,by simpa using rv⟩) (fun b u z=>by have z':(none:Option HO)=some u:=z;cases z') (fun b z=>absurd rfl z) fun z=>absurd rfl z
  | none =>
    refine core (fun b=>if b=a then some (.frz { cls:=.type "list",data:=.seq vs.toArray } (.lst (ns.map V.int))) else none) (fun b=>?_) (.inl (.inr ⟨{ cls:=.type "list",data:=.seq vs.toArray },if_pos rfl⟩)) (fun b u z=>?_) (fun b z=>?_) fun _=>hk
    · by_cases hb:b=a
      · exact .inr ⟨_,_,if_pos hb⟩
      · exact .inl (if_neg hb)
    · by_cases hb:b=a
      · have z':=(if_pos hb).symm.trans z
        cases z'
        subst hb
        exact ⟨ha,by rw [List.length_map];exact hl,vs,_,rv,ha⟩
      · have z':=(if_neg hb).symm.trans z
        cases z'
    · by_cases hb:b=a
      · exact hb
      · exact absurd (if_neg hb) z
end L2
namespace L2
open PySem PySem.Spec PyProof.Rows
theorem walk_of {l:PySem.W.OpenLaw} {n k:Nat} {q:Program} {loose:List Str} {XP:(Str→Option Value)→Heap→Prop} {YP:World→Heap→Prop} {d:DefRec} {K:Params→PySem.W.Frag} {CX:World→CXT} {sp:World→Sp} {x:Str}
    (hn:l.most=some n) (hn2:n≤sizeLine) (hdf:d.params.defaults=[]) (hr:Room k callerA)
    (hY:∀ (w:World) (h:Heap),YP w h→(K w.params).In h)
    (F:∀ (w:World) (mg:Str→Option Value) (fa:Addr) (h:Heap),(K w.params).In h→h.Ns mainGlobals mg→mg d.name=some (.ref fa) →
      ∃ fd:FuncData,(∀ (s:Shared) (u:Value),BindsTo s fd ⟨[u],[]⟩ [(x,u)]) ∧
        ∀ base:Heap,(K w.params).In base→base.Ns mainGlobals mg→FnOk l.prog w (K w.params) mg base (CX w) k fa fd [x] (sp w))
    (hsp:∀ (w:World) (H:Hp) (a:Addr) (ns:List Int),ns.length≤n→Only H→SqL (K w.params) H a (ns.map V.int)→sp w [.ref a] H (fun v _=>v=.bl true) fun _ _ _=>False)
    (hCX:∀ (w:World) (H:Hp) (s:Shared) (e:Value) (s':Shared),CX w [] H s (fun _ _ _=>False) e s'→False) :
    PySem.W.WalkO q loose XP YP l.row.toRowW d [] (fun f vs=>PySem.call f vs):=by
  refine Att.attach_call hn hdf fun w s₀ s₁ mg mb fa o pm cd doc a vs ns G Y ho hd hcd hmg hobj hints hlen hg=>?_
  have KX:=hY w _ Y
  obtain ⟨fd,hb,hF⟩:=F w mg fa _ KX G.T.g hmg
  exact law_call KX G.T.g G.T.b G.T.builtins G.T.nolimit hg hobj hints (Nat.le_trans hlen hn2) hr hF hb (fun H hO hS=>hsp w H a ns hlen hO hS) fun H e s'=>hCX w H s₁ e s'
end L2
namespace L2
open PySem PySem.Spec PyProof.Rows
noncomputable def inClass (s:Stmt) (j:Nat):Stmt:=match s with
  | .ClassDef _ _ _ body _ _ _ _ _ _ _=>body.getD j (.Pass ⟨0,0,0,0⟩)
  | _=>.Pass ⟨0,0,0,0⟩
noncomputable def defArgs (s:Stmt):Arguments:=match s with
  | .FunctionDef _ a _ _ _ _ _ _ _ _=>a
  | _=>{ posonlyargs:=[],args:=[],vararg:=none,kwonlyargs:=[],kw_defaults:=[],kwarg:=none,defaults:=[] }
noncomputable def defBody (s:Stmt):List Stmt:=match s with
  | .FunctionDef _ _ b _ _ _ _ _ _ _=>b
  | _=>[]
noncomputable def defScope (s:Stmt):Scope:=match s with
  | .FunctionDef _ _ _ _ _ _ sc _ _ _=>sc
  | _=>{ kind:=.function,names:=[],isGenerator:=false,isCoroutine:=false }
noncomputable abbrev CX0:CXT:=fun _ _ _ _ _ _=>False
noncomputable abbrev E0:XK:=fun _ _ _=>False
theorem pass0 {X:Cx}:Passes CX0 X E0:=fun _ _ _ _ _ _ _ h=>h.elim
structure Fun (K:PySem.W.Frag) (x qual:Str) (st:Stmt) (f:Addr) (fd:FuncData):Prop where
  ex:∃ (oc:Value) (od:Option Addr) (kV doc pm:Value) (an:Option Addr) (cdv ct:Value) (osl:Array (Option Value)),
    fd=PySem.W.fnOf x qual (defArgs st) (defBody st) (defScope st) .none kV doc pm an cdv ct∧K.lookup f=some ⟨oc,od,.func fd,osl⟩∧PySem.W.codeIn K cdv qual=true
  kp:PySem.W.keepIn K (.ref f)=true
section
variable {P:Program} {w:World} {K:PySem.W.Frag} {mg:Str→Option Value} {base:Heap}
theorem Fun.ok {x qual:Str} {st:Stmt} {f:Addr} {fd:FuncData} {N ps:List Str} {k:Nat} {sp:Sp} (F:Fun K x qual st f fd) (S:FnScope N ps (defScope st)) (len:∀ vs H Q E,sp vs H Q E→vs.length=ps.length)
    (hbody:∀ (cdv:Value) (A:Around) (outer:List Env) (s:Shared) (H:Hp) (vs:List V) (Q:VK) (E:XK),Room k (A.deeper (envOfC qual (defScope st) s.heap.objs.size f cdv))→sp vs H Q E →
      ∃ t,PSs (cxOf CX0 P w K mg base N qual (defScope st) f cdv A outer s H E).nox (defBody st) t∧t { nx:=fun _ H'=>Q .non H',rt:=Q } (start N vs) H):FnOk P w K mg base CX0 (k+1) f fd ps sp:=by
  obtain ⟨oc,od,kV,doc,pm,an,cdv,ct,osl,rfl,lk,hcd⟩:=F.ex
  refine fn_of lk hcd S len fun A outer s H vs Q E hr hsp=>?_
  obtain ⟨t,h,q⟩:=hbody cdv A outer s H vs Q E hr hsp
  exact ⟨t,h.nox,q⟩
theorem Fun.binds {x qual:Str} {st:Stmt} {f:Addr} {fd:FuncData} {ps:List Str} (F:Fun K x qual st f fd)
    (h:∀ (kV doc pm:Value) (an:Option Addr) (cdv ct:Value) (us:List Value),us.length=ps.length→bindArgs (PySem.W.fnOf x qual (defArgs st) (defBody st) (defScope st) .none kV doc pm an cdv ct) ⟨us,[]⟩=pure (ps.zip us)):Binds K fd ps []:=by
  obtain ⟨oc,od,kV,doc,pm,an,cdv,ct,osl,rfl,lk,hcd⟩:=F.ex
  exact .all (h kV doc pm an cdv ct)
theorem fun_mk {x qual:Str} {st:Stmt} {f:Addr} {oc:Value} {od an:Option Addr} {osl:Array (Option Value)} {kV doc pm cdv ct:Value} (l:K.lookup f=some ⟨oc,od,.func (PySem.W.fnOf x qual (defArgs st) (defBody st) (defScope st) .none kV doc pm an cdv ct),osl⟩)
    (c:PySem.W.codeIn K cdv qual=true) (k:PySem.W.keepIn K (.ref f)=true):Fun K x qual st f (PySem.W.fnOf x qual (defArgs st) (defBody st) (defScope st) .none kV doc pm an cdv ct):=⟨⟨oc,od,kV,doc,pm,an,cdv,ct,osl,rfl,l,c⟩,k⟩
end
theorem hu_of {A:Around} {k:Nat} (hr:Room k A):A.units+1 < cLine:=Nat.lt_of_le_of_lt (Nat.add_le_add_left (by decide:1≤64) _) hr.units
section
variable {X:Cx}
theorem pv (i:Nat) {x:Str} {pos:Pos} (hN:X.N[i]?=some x:=by rfl) (hv:Vis X.env.scope x:=by first | exact Or.inl rfl | exact Or.inr (Or.inl rfl) | exact Or.inr (Or.inr rfl)) (hd:(x == ("__debug__" : Str))=false:=by decide)
    (hcd:(x == ("__classdict__" : Str))=false:=by decide):PE X (.Name x pos) (tVar i):=pe_var hN hv hd hcd
end
theorem iteF {A B:Prop} (h:B):if false=true then A else B:=by
  rw [if_neg Bool.false_ne_true]
  exact h
theorem iteT {A B:Prop} (h:A):if true=true then A else B:=by
  rw [if_pos rfl]
  exact h
theorem ite2 {c A B:Prop} [Decidable c] (h1:c→A) (h2:¬ c→B):if c then A else B:=by
  by_cases h:c
  · rw [if_pos h]
    exact h1 h
  · rw [if_neg h]
    exact h2 h
theorem iteNS {c A B:Prop} [Decidable c] (hc:c) (h:B):if (!decide c)=true then A else B:=by
  rw [decide_eq_true hc]
  exact iteF h
noncomputable def Same (H H':Hp):Prop:=∀ b o,H b=some o→H' b=some o
theorem Same.refl (H:Hp):Same H H:=fun _ _ h=>h
theorem Same.trans {H H1 H2:Hp} (a:Same H H1) (b:Same H1 H2):Same H H2:=fun c o h=>b c o (a c o h)
theorem Same.free {H H':Hp} (e:Same H H') {l:Addr} (h:H' l=Option.none):H l=Option.none:=by
  cases q:H l with
  | none=>rfl
  | some o =>
    rw [e l o q] at h
    cases h
theorem Same.seq {K:PySem.W.Frag} {H H':Hp} {a:Addr} {xs:List V} (e:Same H H') (h:SqL K H a xs):SqL K H' a xs:=by
  rcases h with (h | ⟨o,h⟩) | h
  · exact .inl (.inl (e _ _ h))
  · exact .inl (.inr ⟨o,e _ _ h⟩)
  · exact .inr h
end L2
set_option Elab.async false
set_option linter.all false
set_option maxRecDepth 100000
set_option maxHeartbeats 4000000
namespace L2
open PySem PySem.Spec PyProof.Rows
section
variable {κ:Type} [DecidableEq κ]
noncomputable def valV (kvs:List (κ×V)) (k:κ):Option V:=(kvs.find? fun kv=>decide (kv.1=k)).map (·.2)
noncomputable def putK (kvs:List (κ×V)) (k:κ) (v:V):List (κ×V) :=
  if (kvs.any fun kv=>decide (kv.1=k))=true then kvs.map (fun kv=>if kv.1=k then (kv.1,v) else kv) else kvs ++ [(k,v)]
noncomputable def dropK (kvs:List (κ×V)) (k:κ):List (κ×V):=kvs.filter fun kv=>decide (kv.1≠k)
theorem valV_pos {p:κ×V} {r:List (κ×V)} {k:κ} (e:p.1=k):valV (p :: r) k=some p.2:=by simp [valV,List.find?_cons,e]
theorem valV_neg {p:κ×V} {r:List (κ×V)} {k:κ} (e:¬ p.1=k):valV (p :: r) k=valV r k:=by simp [valV,List.find?_cons,e]
theorem valV_any (k:κ):∀ kvs:List (κ×V),(kvs.any fun kv=>decide (kv.1=k))=(valV kvs k).isSome
  | []=>rfl
  | p :: r=>by
    rw [List.any_cons]
    by_cases e:p.1=k
    · simp only [valV_pos e,decide_eq_true e,Bool.true_or,Option.isSome_some]
    · rw [valV_neg e,decide_eq_false e,Bool.false_or];exact valV_any k r
theorem valV_map (k j:κ) (y:V):∀ kvs:List (κ×V),valV (kvs.map fun kv=>if kv.1=k then (kv.1,y) else kv) j=(valV kvs j).map fun x=>if j=k then y else x
  | []=>rfl
  | p :: r=>by
    have ih:=valV_map k j y r
    rw [List.map_cons]
    by_cases h:p.1=k
    · rw [if_pos h]
      by_cases e:p.1=j
      · rw [valV_pos (p:=(p.1,y)) e,valV_pos e,Option.map_some,if_pos (e.symm.trans h)]
      · rw [valV_neg (p:=(p.1,y)) e,valV_neg e,ih]
    · rw [if_neg h]
      by_cases e:p.1=j
      · rw [valV_pos (p:=p) e,valV_pos e,Option.map_some,if_neg (fun z=>h (e.trans z))]
      · rw [valV_neg (p:=p) e,valV_neg e,ih]
theorem valV_snoc (k j:κ) (y:V):∀ kvs:List (κ×V),valV kvs k=none→valV (kvs ++ [(k,y)]) j=if j=k then some y else valV kvs j
  | [],_=>by
    by_cases e:k=j
    · rw [if_pos e.symm];exact valV_pos (p:=(k,y)) e
    · rw [if_neg (fun z=>e z.symm)];exact valV_neg (p:=(k,y)) e
  | p :: r,hn=>by
    rw [List.cons_append]
    have hk:¬ p.1=k:=fun z=>by rw [valV_pos z] at hn;cases hn
    rw [valV_neg hk] at hn
    have ih:=valV_snoc k j y r hn
    by_cases e:p.1=j
    · rw [valV_pos e,valV_pos e,if_neg (fun z=>hk (e.trans z))]
    · rw [valV_neg e,valV_neg e,ih]
theorem valV_put (kvs:List (κ×V)) (k j:κ) (y:V):valV (putK kvs k y) j=if j=k then some y else valV kvs j:=by
  unfold putK
  by_cases a:(kvs.any fun kv=>decide (kv.1=k))=true
  · rw [if_pos a,valV_map]
    rw [valV_any] at a
    by_cases e:j=k
    · obtain ⟨x,hx⟩:=Option.isSome_iff_exists.mp a
      rw [if_pos e,e,hx,Option.map_some,if_pos rfl]
    · rw [if_neg e]
      cases valV kvs j with
      | none=>rfl
      | some x=>rw [Option.map_some,if_neg e]
  · rw [if_neg a]
    refine valV_snoc k j y kvs ?_
    rw [valV_any] at a
    cases q:valV kvs k with
    | none=>rfl
    | some x=>rw [q] at a;exact (a rfl).elim
theorem length_putK (kvs:List (κ×V)) (k:κ) (v:V):(putK kvs k v).length≤kvs.length+1:=by
  unfold putK
  split
  · rw [List.length_map];omega
  · rw [List.length_append,List.length_cons,List.length_nil];omega
theorem putK_new {kvs:List (κ×V)} {k:κ} (v:V) (h:valV kvs k=none):putK kvs k v=kvs ++ [(k,v)]:=by
  unfold putK
  rw [valV_any,h]
  exact if_neg (by decide)
theorem RelO.isSome_eq {o:Option V} {u:Option Value} (r:RelO o u):o.isSome=u.isSome:=by
  cases o with
  | none=>cases u with
    | none=>rfl
    | some _=>exact (show False from r).elim
  | some _=>cases u with
    | none=>exact (show False from r).elim
    | some _=>rfl
theorem RelO.getD {o:Option V} {u:Option Value} {d:V} {d':Value} (r:RelO o u) (rd:RelV d d'):RelV (o.getD d) (u.getD d'):=by
  cases o with
  | none=>cases u with
    | none=>exact rd
    | some _=>exact (show False from r).elim
  | some _=>cases u with
    | none=>exact (show False from r).elim
    | some _=>exact r
theorem KV.val {kvs:List (κ×V)} {vs:List (κ×Value)} (r:KV kvs vs) (k:κ):RelO (valV kvs k) (valueAt vs k):=by
  unfold KV at r
  induction r with
  | nil=>exact True.intro
  | @cons p q ps qs h t ih =>
    obtain ⟨h1,h2⟩:=h
    by_cases e:p.1=k
    · have e':q.1=k:=h1.symm.trans e
      have b:valueAt (q :: qs) k=some q.2:=by simp [valueAt,List.find?_cons,e']
      rw [valV_pos e,b];exact h2
    · have e':¬ q.1=k:=fun z=>e (h1.trans z)
      have b:valueAt (q :: qs) k=valueAt qs k:=by simp [valueAt,List.find?_cons,e']
      rw [valV_neg e,b];exact ih
theorem KV.any {kvs:List (κ×V)} {vs:List (κ×Value)} (r:KV kvs vs) (k:κ):(kvs.any fun kv=>decide (kv.1=k))=vs.any fun kv=>decide (kv.1=k):=by
  unfold KV at r
  induction r with
  | nil=>rfl
  | cons h t ih=>rw [List.any_cons,List.any_cons,ih,h.1]
theorem KV.repl {kvs:List (κ×V)} {vs:List (κ×Value)} (r:KV kvs vs) (k:κ) {y:V} {u:Value} (ry:RelV y u) :
    KV (kvs.map fun kv=>if kv.1=k then (kv.1,y) else kv) (vs.map fun kv=>if kv.1=k then (kv.1,u) else kv):=by
  unfold KV at r ⊢
  induction r with
  | nil=>exact .nil
  | @cons p q ps qs h t ih =>
    rw [List.map_cons,List.map_cons]
    refine .cons ?_ ih
    obtain ⟨h1,h2⟩:=h
    by_cases e:p.1=k
    · rw [if_pos e,if_pos (h1.symm.trans e)];exact ⟨h1,ry⟩
    · rw [if_neg e,if_neg (fun z=>e (h1.trans z))];exact ⟨h1,h2⟩
theorem KV.put {kvs:List (κ×V)} {vs:List (κ×Value)} (r:KV kvs vs) (k:κ) {y:V} {u:Value} (ry:RelV y u):KV (putK kvs k y) (stored vs k u):=by
  unfold putK stored
  rw [r.any k]
  by_cases e:(vs.any fun kv=>decide (kv.1=k))=true
  · rw [if_pos e,if_pos e];exact r.repl k ry
  · rw [if_neg e,if_neg e];exact Paired.snoc r ⟨rfl,ry⟩
theorem KV.drop {kvs:List (κ×V)} {vs:List (κ×Value)} (r:KV kvs vs) (k:κ):KV (dropK kvs k) (without vs k):=by
  unfold KV at r ⊢
  unfold dropK without
  induction r with
  | nil=>exact .nil
  | @cons p q ps qs h t ih =>
    obtain ⟨h1,h2⟩:=h
    rw [List.filter_cons,List.filter_cons]
    by_cases e:p.1=k
    · have a:¬ decide (p.1≠k)=true:=by simp [e]
      have b:¬ decide (q.1≠k)=true:=by simp [h1.symm.trans e]
      rw [if_neg a,if_neg b];exact ih
    · have e':¬ q.1=k:=fun z=>e (h1.trans z)
      have a:decide (p.1≠k)=true:=by simp [e]
      have b:decide (q.1≠k)=true:=by simp [e']
      rw [if_pos a,if_pos b];exact .cons ⟨h1,h2⟩ ih
theorem KV.keys {kvs:List (κ×V)} {vs:List (κ×Value)} (r:KV kvs vs):kvs.map (·.1)=vs.map (·.1):=by
  unfold KV at r
  induction r with
  | nil=>rfl
  | cons h t ih=>rw [List.map_cons,List.map_cons,ih,h.1]
theorem KV.length {kvs:List (κ×V)} {vs:List (κ×Value)} (r:KV kvs vs):kvs.length=vs.length:=Paired.length r
end
theorem kV_is {P:Program} {w:World} {k:Key} {u:Value} (r:RelV (kV k) u):(mixKind P w).is k u=true:=by
  cases k with
  | inl i=>obtain ⟨t,e⟩:=(show ∃ t,u=Value.int i t from r);subst e;exact mixKind_int P w i t
  | inr x=>obtain ⟨t,e⟩:=(show ∃ t,u=Value.str x t from r);subst e;exact mixKind_str P w x t
theorem items_are {P:Program} {w:World}:∀ {ks:List Key} {us:List Value},Vals (ks.map kV) us→ItemsAre (mixKind P w) ks us
  | [],_,r=>by rw [List.map_nil] at r;cases r;exact .nil
  | k :: ks,_,r=>by
    rw [List.map_cons] at r
    cases r with
    | cons h t=>exact .cons (kV_is h) (items_are t)
noncomputable abbrev KT (H:Hp):List (List Key×V)→List (List Key×Addr×Value)→Prop:=Paired fun p q=>p.1=q.1∧H q.2.1=some (.tup (p.1.map kV))∧RelV p.2 q.2.2
theorem KT.val {H:Hp} {kvs:List (List Key×V)} {xs:List (List Key×Addr×Value)} (r:KT H kvs xs) (k:List Key):RelO (valV kvs k) ((atKey xs k).map (·.2)):=by
  induction r with
  | nil=>exact True.intro
  | @cons p q ps qs h t ih =>
    obtain ⟨h1,_,h2⟩:=h
    by_cases e:p.1=k
    · have e':q.1=k:=h1.symm.trans e
      have b:atKey (q :: qs) k=some q.2:=by simp [atKey,List.find?_cons,e']
      rw [valV_pos e,b];exact h2
    · have e':¬ q.1=k:=fun z=>e (h1.trans z)
      have b:atKey (q :: qs) k=atKey qs k:=by simp [atKey,List.find?_cons,e']
      rw [valV_neg e,b];exact ih
theorem KT.repl {H:Hp} {kvs:List (List Key×V)} {xs:List (List Key×Addr×Value)} (r:KT H kvs xs) (k:List Key) {y:V} {u:Value} (ry:RelV y u) :
    KT H (kvs.map fun kv=>if kv.1=k then (kv.1,y) else kv) (xs.map (putAt k u)):=by
  induction r with
  | nil=>exact .nil
  | @cons p q ps qs h t ih =>
    rw [List.map_cons,List.map_cons]
    refine .cons ?_ ih
    obtain ⟨h1,h2,h3⟩:=h
    unfold putAt
    by_cases e:p.1=k
    · rw [if_pos e,if_pos (h1.symm.trans e)];exact ⟨h1,h2,ry⟩
    · rw [if_neg e,if_neg (fun z=>e (h1.trans z))];exact ⟨h1,h2,h3⟩
theorem KT.put {H:Hp} {kvs:List (List Key×V)} {xs:List (List Key×Addr×Value)} (r:KT H kvs xs) (k:List Key) {b:Addr} {y:V} {u:Value} (hb:H b=some (.tup (k.map kV))) (ry:RelV y u) :
    KT H (putK kvs k y) (storedH xs k b u):=by
  have e:(kvs.any fun kv=>decide (kv.1=k))=(atKey xs k).isSome:=by
    rw [valV_any,(r.val k).isSome_eq,Option.isSome_map]
  unfold putK storedH
  rw [e]
  by_cases q:(atKey xs k).isSome=true
  · rw [if_pos q,if_pos q];exact r.repl k ry
  · rw [if_neg q,if_neg q];exact Paired.snoc r ⟨rfl,hb,ry⟩
theorem KT.keeps {H H':Hp} {kvs:List (List Key×V)} {xs:List (List Key×Addr×Value)} (r:KT H kvs xs) (ht:∀ b ys,H b=some (.tup ys)→H' b=some (.tup ys)):KT H' kvs xs :=
  Paired.mapP r fun _ _ z=>⟨z.1,ht _ _ z.2.1,z.2.2⟩
section
variable {P:Program} {w:World} {H:Hp} {h:Heap} {a:Addr}
theorem rd_of {u:HO} (ok:HOk P w H h) (e:Rd H a u):ObjOk P w H h a u:=e.ok ok
theorem dk_rd {kvs:List (Key×V)} (ok:HOk P w H h) (e:Rd H a (.dK kvs)):kvs.length≤sizeLine∧(a == sysModules)=false∧∃ vs,KV kvs vs∧h.DictOf (mixKind P w) a vs :=
  show ObjOk P w H h a (.dK kvs) from rd_of ok e
theorem dk_of {kvs:List (Key×V)} (ok:HOk P w H h) (e:H a=some (.dK kvs)):kvs.length≤sizeLine∧(a == sysModules)=false∧∃ vs,KV kvs vs∧h.DictOf (mixKind P w) a vs:=dk_rd ok (.inl e)
theorem key_of {ks:List Key} (ok:HOk P w H h) (e:H a=some (.tup (ks.map kV))):(tupleKind (mixKind P w)).is h ks a:=by
  obtain ⟨_,its,r,o,h1,h2,n,h3⟩:=(show ObjOk P w H h a (.tup (ks.map kV)) from ok a _ e)
  exact ⟨o,its.toArray,n,h1,h2,h3,by simpa using items_are r⟩
theorem dt_rd {kvs:List (List Key×V)} (ok:HOk P w H h) (e:Rd H a (.dT kvs)):kvs.length≤sizeLine∧(a == sysModules)=false ∧
    ∃ xs,KT H kvs xs∧h.DictOfH (tupleKind (mixKind P w)) a xs:=by
  obtain ⟨z,y,xs,r,o,es,ep,h1,h2,h3,h4,h5⟩:=(show ObjOk P w H h a (.dT kvs) from rd_of ok e)
  refine ⟨z,y,xs,r,o,es,ep,h1,h2,h3,h4,fun x hx=>?_,h5⟩
  have all:∀ {l:List (List Key×V)} {m:List (List Key×Addr×Value)},KT H l m→∀ x∈m,(tupleKind (mixKind P w)).is h x.1 x.2.1:=by
    intro l m q
    induction q with
    | nil=>intro x hx;exact nomatch hx
    | @cons p q ps qs hq t ih =>
      intro x hx
      rcases List.mem_cons.mp hx with e | hx
      · subst e
        exact key_of ok (by rw [← hq.1];exact hq.2.1)
      · exact ih x hx
  exact all r x hx
theorem dt_of {kvs:List (List Key×V)} (ok:HOk P w H h) (e:H a=some (.dT kvs)):kvs.length≤sizeLine∧(a == sysModules)=false ∧
    ∃ xs,KT H kvs xs∧h.DictOfH (tupleKind (mixKind P w)) a xs:=dt_rd ok (.inl e)
end
noncomputable def DGet (H:Hp) (a:Addr) (y:V) (r:Option V):Prop :=
  (∃ kvs k,Rd H a (.dK kvs)∧y=kV k∧r=valV kvs k)∨∃ kvs k b,Rd H a (.dT kvs)∧y=.ref b∧H b=some (.tup (k.map kV))∧r=valV kvs k
noncomputable def DPut (H:Hp) (a:Addr) (y v:V) (H':Hp):Prop :=
  (∃ kvs k,H a=some (.dK kvs)∧y=kV k∧kvs.length < sizeLine∧H'=upd H a (.dK (putK kvs k v))) ∨
  ∃ kvs k b,H a=some (.dT kvs)∧y=.ref b∧H b=some (.tup (k.map kV))∧kvs.length < sizeLine∧H'=upd H a (.dT (putK kvs k v))
theorem DGet.k {H:Hp} {a:Addr} {kvs:List (Key×V)} {k:Key} (e:H a=some (.dK kvs)):DGet H a (kV k) (valV kvs k):=.inl ⟨kvs,k,.inl e,rfl,rfl⟩
theorem DGet.t {H:Hp} {a b:Addr} {kvs:List (List Key×V)} {k:List Key} (e:H a=some (.dT kvs)) (eb:H b=some (.tup (k.map kV))):DGet H a (.ref b) (valV kvs k):=.inr ⟨kvs,k,b,.inl e,rfl,eb,rfl⟩
theorem DPut.k {H:Hp} {a:Addr} {kvs:List (Key×V)} {k:Key} {v:V} (e:H a=some (.dK kvs)) (hl:kvs.length < sizeLine):DPut H a (kV k) v (upd H a (.dK (putK kvs k v))):=.inl ⟨kvs,k,e,rfl,hl,rfl⟩
theorem DPut.t {H:Hp} {a b:Addr} {kvs:List (List Key×V)} {k:List Key} {v:V} (e:H a=some (.dT kvs)) (eb:H b=some (.tup (k.map kV))) (hl:kvs.length < sizeLine) :
    DPut H a (.ref b) v (upd H a (.dT (putK kvs k v))):=.inr ⟨kvs,k,b,e,rfl,eb,hl,rfl⟩
section
variable {X:Cx} {pins:List (Addr×Obj)} {σ:St} {H:Hp} {s:Shared} {a:Addr} {y v:V} {u r:Value} {o:Option V} {A:Around} {E:Value→Shared→Prop}
theorem Inv.big (I:Inv X pins σ H s):sysModules < s.heap.objs.size:=by
  have h:mainGlobals < s.heap.objs.size:=(I.mod.glob.keeps I.bk).lt
  exact Nat.lt_trans (by decide) h
theorem d_getItem {Q:Value→Shared→Prop} (hu:A.units+1 < cLine) (I:Inv X pins σ H s) (g:DGet H a y (some v)) (ry:RelV y u) (h:∀ w' s',Inv X pins σ H s'→RelV v w'→Q w' s') :
    wpAny (model X.prog X.w) A (getItem (.ref a) u) Q E s:=by
  rcases g with ⟨kvs,k,e,ey,l⟩ | ⟨kvs,k,b,e,ey,eb,l⟩
  · subst ey
    obtain ⟨z,hd,vs,rel,dd⟩:=dk_rd I.hok e
    obtain ⟨w',hw,rw'⟩:=RelO.some_of (v:=v) (o:=valueAt vs k) (by rw [l];exact rel.val k)
    exact wpAny_getItem_of (kV_is ry) dd.mapOf hw (h w' _ (I.tok _) rw')
  · subst ey
    cases (show u=Value.ref b from ry)
    obtain ⟨z,hd,xs,rel,dd⟩:=dt_rd I.hok e
    obtain ⟨w',hw,rw'⟩:=RelO.some_of (v:=v) (o:=(atKey xs k).map (·.2)) (by rw [l];exact rel.val k)
    obtain ⟨p,hp,hp2⟩:=Option.map_eq_some_iff.mp hw
    refine wpAny_getItem_heap (tupleKind_room_in1 hu) (key_of I.hok eb) dd hp ?_
    rw [hp2]
    exact h w' _ (I.tok _) rw'
theorem d_notIn {Q:Value→Shared→Prop} (hu:A.units+1 < cLine) (I:Inv X pins σ H s) (g:DGet H a y o) (ry:RelV y u) (h:∀ s',Inv X pins σ H s'→Q (.bool (!o.isSome)) s') :
    wpAny (model X.prog X.w) A (compareOp .NotIn u (.ref a)) Q E s:=by
  rcases g with ⟨kvs,k,e,ey,l⟩ | ⟨kvs,k,b,e,ey,eb,l⟩
  · subst ey
    obtain ⟨z,hd,vs,rel,dd⟩:=dk_rd I.hok e
    refine wpAny_notIn_of (kV_is ry) hd dd.mapOf ?_
    rw [← (rel.val k).isSome_eq,← l]
    exact h _ (I.tok _)
  · subst ey
    cases (show u=Value.ref b from ry)
    obtain ⟨z,hd,xs,rel,dd⟩:=dt_rd I.hok e
    refine wpAny_notIn_heap (tupleKind_room_in1 hu) (key_of I.hok eb) hd dd ?_
    have q:=(rel.val k).isSome_eq
    rw [Option.isSome_map] at q
    rw [← q,← l]
    exact h _ (I.tok _)
theorem d_write {h':Heap} {t':Nat} {ob:HO} (I:Inv X pins σ H s) (mu:Mut (H a)) (hs:Heap.SameBut a s.heap h') (he:∃ q,h'.get? a=some q) (new:ObjOk X.prog X.w (upd H a ob) h' a ob) :
    Inv X pins σ (upd H a ob) { s with heap:=h',toks:=t' } :=
  I.write (x:=a) (e:=a) mu (.inl rfl) (fun b q hb z=>(hs.2 b hb).trans z) he new
theorem dk_new {P:Program} {w:World} {H':Hp} {h':Heap} {kvs:List (Key×V)} {vs:List (Key×Value)} (z:kvs.length≤sizeLine) (hd:(a == sysModules)=false) (rel:KV kvs vs) (dd:h'.DictOf (mixKind P w) a vs) :
    ObjOk P w H' h' a (.dK kvs):=⟨z,hd,vs,rel,dd⟩
theorem d_setItem {H':Hp} {Q:Unit→Shared→Prop} (hu:A.units+1 < cLine) (I:Inv X pins σ H s) (g:DPut H a y v H') (ry:RelV y u) (rv:RelV v r) (h:∀ s',Inv X pins σ H' s'→Q () s') :
    wpAny (model X.prog X.w) A (setItem (.ref a) u r) Q E s:=by
  rcases g with ⟨kvs,k,e,ey,l,eH⟩ | ⟨kvs,k,b,e,ey,eb,l,eH⟩
  · subst ey eH
    obtain ⟨z,hd,vs,rel,dd⟩:=dk_of I.hok e
    have hz:vs.length≤sizeLine:=by rw [← rel.length];exact z
    have hl:(putK kvs k v).length≤sizeLine:=by have:=length_putK kvs k v;omega
    refine wpAny_setItem_pairs (hsz:=hz) (kV_is ry) dd fun h' dd' hs=>h _ ?_
    have he:∃ q,h'.get? a=some q:=let ⟨q,_,_,hq,_⟩:=dd';⟨q,hq⟩
    exact d_write I (by rw [e];exact True.intro) hs he (dk_new hl hd (rel.put k rv) dd')
  · subst ey eH
    cases (show u=Value.ref b from ry)
    obtain ⟨z,hd,xs,rel,dd⟩:=dt_of I.hok e
    have hz:xs.length≤sizeLine:=by rw [← Paired.length rel];exact z
    have hl:(putK kvs k v).length≤sizeLine:=by have:=length_putK kvs k v;omega
    refine wpAny_setItem_heap (hsz:=hz) (tupleKind_room_in1 hu) (key_of I.hok eb) dd fun h' dd' hs=>h _ ?_
    obtain ⟨q,es,ep,hq,h2,h3,h4,_,h5⟩:=dd'
    refine d_write I (by rw [e];exact True.intro) hs ⟨q,hq⟩ ⟨hl,hd,_,(rel.put k eb rv).keeps fun c ys ec=>?_,q,es,ep,hq,h2,h3,h4,h5⟩
    rw [upd_ne (ne_of ec e (fun z=>nomatch z))]
    exact ec
end
section
variable {X:Cx} {pins:List (Addr×Obj)} {σ:St} {H:Hp} {s:Shared} {a:Addr} {kvs:List (Key×V)} {k:Key} {u:Value} {A:Around} {E:Value→Shared→Prop}
end
noncomputable def NoSl (i:Expr):Prop:=∀ ov iv,subscripted i false ov iv=operate [ov,iv] (getItem ov iv)
theorem subD_of {prog:Program} {w:World} {A:Around} {E:Value→Shared→Prop} {s:Shared} {env:Env} {value slice:Expr} {pos:Pos} {T id:String} {Q:Value→Shared→Prop}
    (hl:typeLookup (.type T) "__getitem__" = pure (some (.builtin id))) (hs:NoSl slice)
    (h:wpAny (model prog w) A (eval value env) (fun o s₁=>wpAny (model prog w) A (eval slice env) (fun i s₂=>s₂.TypeIs o T∧wpAny (model prog w) A (getItem o i) Q E s₂) E s₁) E s) :
    wpAny (model prog w) A (eval (.Subscript value slice pos) env) Q E s:=by
  refine Subscript_ (wpAny_mono h (fun o s₁ h₁=>wpAny_mono h₁ (fun i s₂ h₂=>?_) fun _ _ x=>x) fun _ _ x=>x)
  obtain ⟨hT,h₂⟩:=h₂
  unfold subscriptTail
  refine wpAny_bind ?_
  rw [getitemInPython_of_ne hT.not_modules]
  refine wpAny_bind (wpAny_specialOf hT hl ?_)
  have fin:wpAny (model prog w) A (subscripted slice false o i) (fun r s₃=>wpAny (model prog w) A (letTemporaryGo value o r >>= fun _=>pure r) Q E s₃) E s₂:=by
    rw [hs o i]
    exact wpAny_operating (wpAny_mono h₂ (fun r s₃ h₃=>wpAny_bind (wpAny_letTemporaryGo (wpAny_pure h₃))) fun _ _ x=>x)
  first
    | exact wpAny_pure (wpAny_bind fin)
    | exact wpAny_bind (wpAny_pure (wpAny_bind fin))
    | exact wpAny_bind fin
theorem dict_typeIs {X:Cx} {pins:List (Addr×Obj)} {σ:St} {H:Hp} {s:Shared} {a:Addr} {y:V} {o:Option V} (I:Inv X pins σ H s) (g:DGet H a y o):s.TypeIs (.ref a) "dict":=by
  rcases g with ⟨kvs,k,e,_,_⟩ | ⟨kvs,k,b,e,_,_,_⟩
  · obtain ⟨_,_,vs,_,dd⟩:=dk_rd I.hok e
    exact dd.typeIs
  · obtain ⟨_,_,xs,_,dd⟩:=dt_rd I.hok e
    exact dd.typeIs
noncomputable def tDGet (td ty:TE):TE:=fun σ H Q=>td σ H fun x H1=>ty σ H1 fun y H2=>∃ a v,x=.ref a∧DGet H2 a y (some v)∧Q v H2
noncomputable def tDNotIn (ty td:TE):TE:=fun σ H Q=>ty σ H fun y H1=>td σ H1 fun x H2=>∃ a o,x=.ref a∧DGet H2 a y o∧Q (.bl (!o.isSome)) H2
noncomputable def sDPut (td ty tv:TE):TS:=fun D σ H=>tv σ H fun v H1=>td σ H1 fun x H2=>ty σ H2 fun y H3=>∃ a H4,x=.ref a∧DPut H3 a y v H4∧D.nx σ H4
section
variable {X:Cx} {o i e value:Expr} {pos pos' tpos:Pos} {td ty tv:TE}
theorem pe_dget (hu:X.A.units+1 < cLine) (ho:PE X o td) (hi:PE X i ty) (hs:NoSl i):PE X (.Subscript o i pos) (tDGet td ty):=by
  intro pins s σ H Q I h
  refine subD_of PySem.F.slot_dict_getitem.lookup hs (thn (ho pins s σ H _ I h) fun u s1 ⟨x,H1,I1,rx,q1⟩=>thn (hi pins s1 σ H1 _ I1 q1) fun iv s2 ⟨y,H2,I2,ry,a,v,ex,g,q2⟩=>?_)
  subst ex
  obtain rfl:u=Value.ref a:=rx
  exact ⟨dict_typeIs I2 g,d_getItem hu I2 g ry fun w' s3 I3 rw'=>⟨v,H2,I3,rw',q2⟩⟩
theorem pc_dnotin (hu:X.A.units+1 < cLine) (hi:PE X i ty) (ho:PE X o td):PC X .NotIn i o (tDNotIn ty td):=by
  intro pins s σ H Q I h
  refine thn (hi pins s σ H _ I h) fun iv s1 ⟨y,H1,I1,ry,q1⟩=>thn (ho pins s1 σ H1 _ I1 q1) fun u s2 ⟨x,H2,I2,rx,a,ov,ex,g,q2⟩=>?_
  subst ex
  obtain rfl:u=Value.ref a:=rx
  exact d_notIn hu I2 g ry fun s3 I3=>⟨.bl (!ov.isSome),H2,I3,rfl,q2⟩
theorem ps_dput (hu:X.A.units+1 < cLine) (ho:PE X o td) (hi:PE X i ty) (hv:PE X value tv) (hs:swapsWith value (some (.Subscript o i pos')) pos.line X.env=pure false) :
    PS X (.Assign [.Subscript o i pos'] value pos) (sDPut td ty tv):=by
  intro pins s σ H D I h
  refine wpAny_Assign_Subscript (thn (hv pins s σ H _ I h) fun r s1 ⟨v,H1,I1,rv,q1⟩=>thn (ho pins s1 σ H1 _ I1 q1) fun u s2 ⟨x,H2,I2,rx,q2⟩=>thn (hi pins s2 σ H2 _ I2 q2) fun iv s3 ⟨y,H3,I3,ry,a,H4,ex,g,q3⟩=>?_) hs
  subst ex
  obtain rfl:u=Value.ref a:=rx
  exact d_setItem hu I3 g ry rv fun s4 I4=>⟨σ,H4,I4,q3⟩
end
theorem dt_empty {P:Program} {w:World} {H:Hp} (h:Heap) (hb:sysModules < h.objs.size):ObjOk P w H (h.push { cls:=.type "dict",data:=.dict #[] }) h.objs.size (.dT []) :=
  ⟨Nat.zero_le _,beq_eq_false_iff_ne.mpr (Ne.symm (Nat.ne_of_lt hb)),[],.nil,_,#[],0,Heap.get?_push_size _ rfl,⟨rfl,rfl,rfl⟩,rfl,rfl,List.nodup_nil⟩
noncomputable def tDNewT:TE:=fun _ H Q=>∀ p,H p=none→Q (.ref p) (upd H p (.dT []))
section
variable {X:Cx} {pos:Pos}
theorem pe_dnewT:PE X (.Dict [] [] pos) tDNewT:=fun pins s σ H Q I h =>
  wpAny_Dict_empty ⟨.ref s.heap.objs.size,_,I.laid (a:=s.heap.objs.size) (o:=.dT []) (t':=s.toks) (fun _ _ q=>Heap.get?_push_of_some _ q) (Nat.le_refl _) (dt_empty s.heap I.big),rfl,h _ (I.hok.fresh (Nat.le_refl _))⟩
end
noncomputable def mergeK (kvs more:List (Key×V)):List (Key×V):=more.foldl (fun acc kv=>putK acc kv.1 kv.2) kvs
theorem KV.merge:∀ {more:List (Key×V)} {rs:List (Key×Value)} {kvs:List (Key×V)} {vs:List (Key×Value)},KV more rs→KV kvs vs→KV (mergeK kvs more) (merged vs rs):=by
  intro more rs kvs vs r
  unfold KV at r
  induction r generalizing kvs vs with
  | nil=>intro q;exact q
  | @cons p q ps qs h t ih =>
    intro r0
    have e:KV (putK kvs p.1 p.2) (stored vs q.1 q.2):=by
      have:=r0.put p.1 h.2
      rw [← h.1];exact this
    exact ih e
structure M1 (X:Cx) (o:Expr) (m:Str) (apos:Pos) (e:Expr) (cpos:Pos):Prop where
  base:attributeBase o m X.env (eval o X.env)=eval o X.env
  few:((backTo cpos (starEach [e] X.env)).all (fun x=>!x.1) && (backToKw cpos (keywordEach [] X.env)).all (fun x=>x.1.isSome)
    && decide (([e]:List Expr).length+([]:List Keyword).length+(if ([]:List Keyword).isEmpty then 0 else 1) < 30))=true
  line:(apos.endLine == cpos.line)=true
  trees:backTo cpos (starEach [e] X.env)=[(false,eval e X.env)]
noncomputable def IsD (H:Hp) (a:Addr):Prop:=(∃ kvs,Rd H a (.dK kvs))∨∃ kvs,Rd H a (.dT kvs)
theorem isD_at {X:Cx} {pins:List (Addr×Obj)} {σ:St} {H:Hp} {s:Shared} {a:Addr} (I:Inv X pins σ H s) (d:IsD H a) :
    s.TypeIs (.ref a) "dict" ∧ (∀ b,Value.ref a=.ref b→∃ ob,s.heap.get? b=some ob∧ob.dict=none)∧(a == sysModules)=false:=by
  rcases d with ⟨kvs,e⟩ | ⟨kvs,e⟩
  · obtain ⟨_,hd,vs,_,dd⟩:=dk_rd I.hok e
    refine ⟨dd.typeIs,fun b q=>?_,hd⟩
    cases q
    obtain ⟨ob,_,_,h1,h2,_⟩:=dd
    exact ⟨ob,h1,h2.2.1⟩
  · obtain ⟨_,hd,xs,_,dd⟩:=dt_rd I.hok e
    refine ⟨dd.typeIs,fun b q=>?_,hd⟩
    cases q
    obtain ⟨ob,_,_,h1,h2,_⟩:=dd
    exact ⟨ob,h1,h2.2.1⟩
section
variable {X:Cx} {pins:List (Addr×Obj)} {σ:St} {H:Hp} {s:Shared} {a:Addr} {y d:V} {u r:Value} {o:Option V} {A:Around} {E:Value→Shared→Prop}
end
section
variable {X:Cx} {o e f:Expr} {apos cpos:Pos} {td ty tx:TE}
end
section
variable {X:Cx} {pins:List (Addr×Obj)} {σ:St} {H:Hp} {s:Shared} {a:Addr} {kvs:List (Key×V)} {A:Around} {E:Value→Shared→Prop}
end
section
variable {X:Cx} {pins:List (Addr×Obj)} {σ:St} {H:Hp} {s:Shared} {a:Addr} {y:V} {u:Value} {A:Around} {E:Value→Shared→Prop}
end
end L2
namespace L2
open PySem
noncomputable def BB (n:Nat) (i:Int):Prop:=i.natAbs < 2 ^ n
noncomputable def CMulB (i j:Int):Prop:=∃ m n,m+n≤100000000∧((BB m i∧BB n j)∨BB 64 i∨BB 64 j)
noncomputable def CDivB (_ j:Int):Prop:=j≠0∧BB 9000 j
noncomputable def rAddI:R2:=rI0 fun i j=>.int (i+j)
noncomputable def rSubI:R2:=rI0 fun i j=>.int (i - j)
noncomputable def rMulI:R2:=rI CMulB fun i j=>.int (i * j)
noncomputable def rDivI:R2:=rI CDivB fun i j=>.int (i.fdiv j)
noncomputable def rDivC:R2:=rI CDiv fun i j=>.int (i / j)
noncomputable def rModI:R2:=rI (fun _ j=>0 < j) fun i j=>.int (i % j)
noncomputable def rPowI:R2:=rI CPow fun i j=>.int (i ^ j.toNat)
noncomputable def rNegI:V→Hp→VK→Prop:=rU fun i=>.int (-i)
noncomputable def rLtI:R2:=rI0 fun i j=>.bl (decide (i < j))
noncomputable def rLeI:R2:=rI0 fun i j=>.bl (decide (i≤j))
noncomputable def rGtI:R2:=rI0 fun i j=>.bl (decide (j < i))
noncomputable def rGeI:R2:=rI0 fun i j=>.bl (decide (j≤i))
noncomputable def cAbs:List V→Hp→VK→Prop:=fun xs H Q=>∃ i,xs=[.int i]∧Q (.int (if i < 0 then -i else i)) H
noncomputable def cLen (K:PySem.W.Frag):List V→Hp→VK→Prop:=fun xs H Q=>∃ p ys,xs=[.ref p]∧(SqL K H p ys∨SqT K H p ys)∧Q (.int ys.length) H
noncomputable def isB (x:V) (H:Hp) (T:String) (b:Bool):Prop:=match x with
  | .int _=>(T="int" ∧ b=true)∨(T="bool" ∧ b=false)
  | .bl _=>T="bool" ∧ b=true
  | .ref p=>T="tuple" ∧ b=true∧∃ xs,H p=some (.tup xs)
  | _=>False
noncomputable def cIsB:List V→Hp→VK→Prop:=fun xs H Q=>∃ x T b,xs=[x,.ty T]∧isB x H T b∧Q (.bl b) H
theorem BB.mono {m n:Nat} {i:Int} (h:BB m i) (hm:m≤n):BB n i:=Nat.lt_of_lt_of_le h (Nat.pow_le_pow_right (by decide) hm)
theorem CMulB.l {i j:Int} (h:BB 64 i):CMulB i j:=⟨0,0,by decide,.inr (.inl h)⟩
theorem CMulB.r {i j:Int} (h:BB 64 j):CMulB i j:=⟨0,0,by decide,.inr (.inr h)⟩
theorem Same.tup {K:PySem.W.Frag} {H H':Hp} {a:Addr} {xs:List V} (e:Same H H') (h:SqT K H a xs):SqT K H' a xs:=by
  rcases h with (h | ⟨o,h⟩) | h
  · exact .inl (.inl (e _ _ h))
  · exact .inl (.inr ⟨o,e _ _ h⟩)
  · exact .inr h
theorem tVar_el {i:Nat} {σ:St} {H:Hp} {Q:VK} (h:tVar i σ H Q):∃ v,σ[i]?=some (some v)∧Q v H:=by
  first
  | exact h
  | (unfold tVar at h
     split at h
     · exact ⟨_,‹_›,h⟩
     · exact h.elim)
theorem tVar_in {i:Nat} {σ:St} {H:Hp} {Q:VK} {v:V} (e:σ[i]?=some (some v)) (q:Q v H):tVar i σ H Q:=by
  first
  | exact ⟨v,e,q⟩
  | (unfold tVar
     rw [e]
     exact q)
theorem Same.upd {H:Hp} {p:Addr} {o:HO} (h:H p=none):Same H (upd H p o):=fun b u e=>by
  rw [upd_ne (ne_of_none e h)];exact e
theorem BB.of_le {n:Nat} {i j:Int} (h:BB n j) (hl:i.natAbs≤j.natAbs):BB n i:=Nat.lt_of_le_of_lt hl h
theorem BB.mul {m n:Nat} {i j:Int} (hi:BB m i) (hj:BB n j):BB (m+n) (i * j):=by
  unfold BB at *
  rw [Int.natAbs_mul,Nat.pow_add]
  exact Nat.mul_lt_mul_of_lt_of_lt hi hj
theorem BB.add {n:Nat} {i j:Int} (hi:BB n i) (hj:BB n j):BB (n+1) (i+j):=by
  unfold BB at *
  rw [Nat.pow_succ]
  omega
theorem BB.sub {n:Nat} {i j:Int} (hi:BB n i) (hj:BB n j):BB (n+1) (i - j):=by
  unfold BB at *
  rw [Nat.pow_succ]
  omega
theorem BB.gcd {n:Nat} {i j:Int} (hj:BB n j) (h0:j≠0):BB n (Int.gcd i j:Nat):=by
  refine hj.of_le ?_
  rw [Int.natAbs_natCast]
  exact Int.gcd_le_natAbs_right _ h0
theorem BB.neg {n:Nat} {i:Int} (h:BB n i):BB n (-i):=by unfold BB at *;rwa [Int.natAbs_neg]
theorem CMulB.b {m n:Nat} {i j:Int} (hi:BB m i) (hj:BB n j) (h:m+n≤100000000:=by decide):CMulB i j:=⟨m,n,h,.inl ⟨hi,hj⟩⟩
noncomputable def caught (σ:St) (caps:List Nat):St:=caps.map fun j=>(σ[j]?).join
noncomputable def CompRd (J:It) (σ:St) (caps:List Nat) (te:TE) (H1:Hp) (fin:List V→Hp→Prop):Prop :=
  ∃ (n:Nat) (W:Nat→List V→Hp→Prop),n≤sizeLine∧W 0 [] H1∧∀ i ys H2,i≤n→ys.length=i→W i ys H2 →
    (J.stop i H2∧fin ys H2)∨(i < n∧J.go i H2∧∀ x H3,J.yld i H2 x H3→te (some x :: caught σ caps) H3 fun y H4=>W (i+1) (ys ++ [y]) H4)
noncomputable def tComp (wi:TI) (caps:List Nat) (te:TE):TE:=fun σ H Q=>wi σ H fun J H1=>CompRd J σ caps te H1 fun ys H2=>∀ p,H2 p=none→Q (.ref p) (upd H2 p (.lst ys))
noncomputable def Ite (K:PySem.W.Frag) (a:Addr):It :=
  ⟨fun i H=>∃ xs x,SqL K H a xs∧xs[i]?=some x,fun i H v H'=>∃ p x,v=.ref p∧H p=none∧H'=upd H p (.tup [.int i,x])∧∀ xs,SqL K H a xs→xs[i]?=some x,fun i H=>∃ xs,SqL K H a xs∧xs.length≤i⟩
noncomputable def iEnum (K:PySem.W.Frag) (tl:TE):TI:=fun σ H R=>tl σ H fun x H1=>∃ a,x=.ref a∧(∃ xs,SqL K H1 a xs)∧R (Ite K a) H1
theorem for_enum {K:PySem.W.Frag} {a:Addr} {xs:List V} {g:TG} {tb:TS} {D:Ends} {σ:St} {H:Hp} (Pv:Nat→St→Hp→Prop) (h0:Pv 0 σ H) (hl:∀ i σ H,i≤xs.length→Pv i σ H→SqL K H a xs)
    (hs:∀ i x p σ H,xs[i]?=some x→Pv i σ H→H p=none→g (.ref p) σ (upd H p (.tup [.int i,x])) fun σ2 H2=>tb { D with nx:=Pv (i+1),ct:=Pv (i+1),bk:=D.nx } σ2 H2) (hd:∀ σ H,Pv xs.length σ H→D.nx σ H) :
    ∃ W:Nat→Nat→St→Hp→Prop,(∃ m,W 0 m σ H)∧∀ i m σ H,W i m σ H →
      ((Ite K a).stop i H∧D.nx σ H)∨((Ite K a).go i H∧∃ N:St→Hp→Prop,(∀ σ' H',N σ' H'→∃ m',m' < m∧W (i+1) m' σ' H')∧∀ x H',(Ite K a).yld i H x H'→g x σ H' fun σ2 H2=>tb { D with nx:=N,ct:=N,bk:=D.nx } σ2 H2):=by
  refine ⟨fun i m σ H=>m=xs.length - i∧i≤xs.length∧Pv i σ H,⟨xs.length,by simp,Nat.zero_le _,h0⟩,?_⟩
  rintro i m σ H ⟨rfl,hi,p⟩
  have q:=hl i σ H hi p
  by_cases hlt:i < xs.length
  · refine .inr ⟨⟨xs,xs[i],q,by simp [hlt]⟩,Pv (i+1),fun σ' H' p'=>⟨xs.length - (i+1),by omega,rfl,hlt,p'⟩,fun x H' y=>?_⟩
    obtain ⟨pp,z,e1,e2,e3,y⟩:=y
    subst e1 e3
    exact hs i z pp σ _ (y xs q) p e2
  · have e:i=xs.length:=by omega
    subst e
    exact .inl ⟨⟨xs,q,Nat.le_refl _⟩,hd σ H p⟩
theorem comp_list {K:PySem.W.Frag} {a:Addr} {xs:List V} {σ:St} {caps:List Nat} {te:TE} {H1:Hp} {fin:List V→Hp→Prop} (W:Nat→List V→Hp→Prop) (hz:xs.length≤sizeLine) (h0:W 0 [] H1) (hl:∀ i ys H,i≤xs.length→W i ys H→SqL K H a xs)
    (hs:∀ i x ys H,xs[i]?=some x→ys.length=i→W i ys H→te (some x :: caught σ caps) H fun y H4=>W (i+1) (ys ++ [y]) H4) (hd:∀ ys H,ys.length=xs.length→W xs.length ys H→fin ys H):CompRd (Itl K a) σ caps te H1 fin:=by
  refine ⟨xs.length,W,hz,h0,fun i ys H2 hi hy hw=>?_⟩
  have q:=hl i ys H2 hi hw
  by_cases hlt:i < xs.length
  · refine .inr ⟨hlt,⟨xs,xs[i],q,by simp [hlt]⟩,fun x H3 y=>?_⟩
    obtain ⟨e,y⟩:=y
    subst e
    exact hs i x ys _ (y xs q) hy hw
  · have e:i=xs.length:=by omega
    subst e
    exact .inl ⟨⟨xs,q,Nat.le_refl _⟩,hd ys H2 hy hw⟩
theorem comp_range {lo:Int} {n:Nat} {σ:St} {caps:List Nat} {te:TE} {H1:Hp} {fin:List V→Hp→Prop} (W:Nat→List V→Hp→Prop) (hz:n≤sizeLine) (h0:W 0 [] H1)
    (hs:∀ i ys H,i < n→ys.length=i→W i ys H→te (some (.int (lo+i)) :: caught σ caps) H fun y H4=>W (i+1) (ys ++ [y]) H4) (hd:∀ ys H,ys.length=n→W n ys H→fin ys H):CompRd (Itr lo n) σ caps te H1 fin:=by
  refine ⟨n,W,hz,h0,fun i ys H2 hi hy hw=>?_⟩
  by_cases hlt:i < n
  · refine .inr ⟨hlt,hlt,fun x H3 y=>?_⟩
    obtain ⟨e1,e2⟩:=y
    subst e1 e2
    exact hs i ys _ hlt hy hw
  · have e:i=n:=by omega
    subst e
    exact .inl ⟨Nat.le_refl _,hd ys H2 hy hw⟩
noncomputable def cSum (K:PySem.W.Frag):List V→Hp→VK→Prop:=fun xs H Q=>∃ p ns,xs=[.ref p]∧SqL K H p (List.map V.int ns)∧Q (.int ns.sum) H
noncomputable def cMax:List V→Hp→VK→Prop:=fun xs H Q=>∃ i j,xs=[.int i,.int j]∧Q (.int (if j > i then j else i)) H
noncomputable def cMin:List V→Hp→VK→Prop:=fun xs H Q=>∃ i j,xs=[.int i,.int j]∧Q (.int (if j < i then j else i)) H
noncomputable def cList (K:PySem.W.Frag):List V→Hp→VK→Prop:=fun xs H Q=>∃ p ys,xs=[.ref p]∧(SqL K H p ys∨SqT K H p ys)∧∀ l,H l=none→Q (.ref l) (upd H l (.lst ys))
noncomputable def rEqT (K:PySem.W.Frag):R2:=fun x y H Q=>∃ a b ns ms,x=.ref a∧y=.ref b∧SqT K H a (List.map V.int ns)∧SqT K H b (List.map V.int ms)∧Q (.bl (decide (ns=ms))) H
theorem Same.put {H H':Hp} {p:Addr} {o:HO} (s:Same H H') (h:H p=none):Same H (L2.upd H' p o):=fun b u e=>by
  rw [upd_ne (ne_of_none e h)];exact s b u e
theorem SqT.off {K:PySem.W.Frag} {H:Hp} {p r:Addr} {xs ys zs:List V} (h:SqT K H p xs) (hr:H r=some (.lst ys)):SqT K (upd H r (.lst zs)) p xs:=by
  rcases h with (h | ⟨o,h⟩) | h
  · exact .inl (.inl (by rw [upd_ne (ne_of h hr (by intro z;cases z))];exact h))
  · exact .inl (.inr ⟨o,by rw [upd_ne (ne_of h hr (by intro z;cases z))];exact h⟩)
  · exact .inr h
end L2
namespace L2
open PySem PySem.Spec PyProof.Rows
theorem bt_int:bootBuiltins "int" = some (.type "int"):=by decide +kernel
theorem bt_bool:bootBuiltins "bool" = some (.type "bool"):=by decide +kernel
theorem bt_tuple:bootBuiltins "tuple" = some (.type "tuple"):=by decide +kernel
theorem bt_list:bootBuiltins "list" = some (.type "list"):=by decide +kernel
theorem bt_dict:bootBuiltins "dict" = some (.type "dict"):=by decide +kernel
theorem bt_abs:bootBuiltins "abs" = some (.builtin "abs"):=by decide +kernel
theorem bt_len:bootBuiltins "len" = some (.builtin "len"):=by decide +kernel
theorem bt_isinstance:bootBuiltins "isinstance" = some (.builtin "isinstance"):=by decide +kernel
theorem bt_max:bootBuiltins "max" = some (.builtin "max"):=by decide +kernel
theorem bt_min:bootBuiltins "min" = some (.builtin "min"):=by decide +kernel
theorem bt_sum:bootBuiltins "sum" = some (.builtin "sum"):=by decide +kernel
theorem intBits_leB {n:Nat} {k:Int} (h:BB n k):Builtin.Int.intBits k≤n:=by
  unfold Builtin.Int.intBits
  split
  · exact Nat.zero_le _
  · rename_i h0
    have hp:k.natAbs≠0:=by simpa using h0
    have h2:=(Nat.log2_lt hp).mpr h
    omega
theorem CMulB.ok {i j:Int} (h:CMulB i j):IntMulOk i j:=by
  obtain ⟨m,n,hz,⟨h1,h2⟩ | h1 | h1⟩:=h
  · exact IntMulOk.of_le (intBits_leB h1) (intBits_leB h2) (by omega)
  · exact .of_left (intBits_leB h1)
  · exact .of_right (intBits_leB h1)
theorem noPyB {i j:Int} (h:BB 9000 j):Builtin.divisionGoesByPylong i j=false:=by
  refine PyProof.noPylong_of_log2 ?_
  by_cases h0:j.natAbs=0
  · rw [h0];decide +kernel
  · exact (Nat.log2_lt h0).mpr h
section
variable {X:Cx}
theorem op_mulB:OpR X (binaryOp .Mult) rMulI:=opI fun _ _ _ _ _ _ _ hc q=>mul_int q hc.ok
theorem op_fdivB:OpR X (binaryOp .FloorDiv) rDivI:=opI fun _ _ _ _ _ _ _ hc q=>floordiv_int hc.1 q (.inl (noPyB hc.2))
theorem kit_ii (K:PySem.W.Frag):PySem.W.kitOne K (.type "int") (.type "int")=some true:=by rfl
theorem kit_ib (K:PySem.W.Frag):PySem.W.kitOne K (.type "int") (.type "bool")=some false:=by rfl
theorem kit_bb (K:PySem.W.Frag):PySem.W.kitOne K (.type "bool") (.type "bool")=some true:=by rfl
theorem kit_tt (K:PySem.W.Frag):PySem.W.kitOne K (.type "tuple") (.type "tuple")=some true:=by rfl
theorem call_isB:CallR X (.builtin "isinstance") cIsB:=by
  intro pins s σ H xs us Q I r h
  obtain ⟨x,T,b,rfl,hb,q⟩:=h
  obtain ⟨u,c,rfl,ru,rc⟩:=vals2 r
  obtain rfl:c=Value.type T:=rc
  have fin:∀ tk,EP X pins σ Q (.bool b) { s with toks:=tk }:=fun tk=>⟨.bl b,H,I.tok _,rfl,q⟩
  cases x with
  | int i =>
    rcases hb with ⟨rfl,rfl⟩ | ⟨rfl,rfl⟩
    · exact isinst_ok I ru (.int i) (kit_ii _) fin
    · exact isinst_ok I ru (.int i) (kit_ib _) fin
  | bl i =>
    obtain ⟨rfl,rfl⟩:=hb
    exact isinst_ok I ru (.bl i) (kit_bb _) fin
  | ref p =>
    obtain ⟨rfl,rfl,xs,hp⟩:=hb
    exact isinst_ok I ru (.tup hp) (kit_tt _) fin
  | _=>exact (show False from hb).elim
end
end L2
namespace L2
open PySem PySem.Spec PyProof.Rows
noncomputable def closOf (env:Env):List (Str×NameKind)→List (Str×Addr)→List (Str×Addr)
  | [],cs=>cs
  | (n,k) :: r,cs=>closOf env r (if (k == NameKind.free)=true then (n,(env.cells.lookup n).getD 0) :: cs else cs)
theorem closureFor_eq {scope:Scope} {env:Env} (h:∀ p∈scope.names,p.2=.free→∃ c,env.cells.lookup p.1=some c):closureFor scope env=pure (closOf env scope.names []):=by
  have go:∀ (f:Str×NameKind→List (Str×Addr)→Sem (ForInStep (List (Str×Addr)))),(∀ n k cs,f (n,k) cs=if (k == NameKind.free)=true then (cellOf env n >>= fun a=>pure (ForInStep.yield ((n,a) :: cs))) else pure (ForInStep.yield cs)) →
      ∀ (l:List (Str×NameKind)) (cs:List (Str×Addr)),(∀ p∈l,p.2=.free→∃ c,env.cells.lookup p.1=some c)→(forIn l cs f:Sem _)=pure (closOf env l cs):=by
    intro f hf l
    induction l with
    | nil=>intro cs _;rfl
    | cons p r ih =>
      intro cs hl
      obtain ⟨n,k⟩:=p
      have hr:∀ p∈r,p.2=.free→∃ c,env.cells.lookup p.1=some c:=fun p hp=>hl p (List.mem_cons_of_mem _ hp)
      rw [List.forIn_cons,hf]
      by_cases hk:(k == NameKind.free)=true
      · obtain ⟨c,hc⟩:=hl (n,k) List.mem_cons_self (by simpa using hk)
        have hc':env.cells.lookup n=some c:=hc
        have e:cellOf env n=pure c:=by unfold cellOf;rw [hc']
        rw [if_pos hk,e,pure_bind,pure_bind]
        dsimp only
        rw [ih _ hr]
        have e2:closOf env ((n,k) :: r) cs=closOf env r ((n,c) :: cs):=by
          show closOf env r (if (k == NameKind.free)=true then (n,(env.cells.lookup n).getD 0) :: cs else cs)=_
          rw [if_pos hk,hc'];rfl
        rw [e2]
      · rw [if_neg hk,pure_bind]
        dsimp only
        rw [ih _ hr]
        have e2:closOf env ((n,k) :: r) cs=closOf env r cs:=by
          show closOf env r (if (k == NameKind.free)=true then (n,(env.cells.lookup n).getD 0) :: cs else cs)=_
          rw [if_neg hk]
        rw [e2]
  unfold closureFor
  show (forIn scope.names [] _ >>= fun s=>pure s)=_
  rw [go _ (fun n k cs=>by rfl) scope.names [] h,pure_bind]
theorem closOf_all {env:Env}:∀ {l:List (Str×NameKind)} {cs:List (Str×Addr)},(∀ p∈l,p.2=.free→∃ c,env.cells.lookup p.1=some c)→(∀ p∈cs,env.cells.lookup p.1=some p.2)→∀ p∈closOf env l cs,env.cells.lookup p.1=some p.2
  | [],_,_,h,p,hp=>h p hp
  | (n,k) :: r,cs,hl,h,p,hp=>by
    refine closOf_all (l:=r) (fun q hq=>hl q (List.mem_cons_of_mem _ hq)) (fun q hq=>?_) p hp
    by_cases hk:(k == NameKind.free)=true
    · rw [if_pos hk] at hq
      rcases List.mem_cons.mp hq with rfl | hq
      · obtain ⟨c,hc⟩:=hl (n,k) List.mem_cons_self (by simpa using hk)
        have hc':env.cells.lookup n=some c:=hc
        show env.cells.lookup n=some ((env.cells.lookup n).getD 0)
        rw [hc'];rfl
      · exact h q hq
    · rw [if_neg hk] at hq
      exact h q hq
theorem closOf_mono {env:Env} {y:Str}:∀ {l:List (Str×NameKind)} {cs:List (Str×Addr)},y∈cs.map (·.1)→y∈(closOf env l cs).map (·.1)
  | [],_,h=>h
  | (n,k) :: r,cs,h=>by
    refine closOf_mono (l:=r) ?_
    by_cases hk:(k == NameKind.free)=true
    · rw [if_pos hk];exact List.mem_cons_of_mem _ h
    · rw [if_neg hk];exact h
theorem closOf_has {env:Env} {y:Str}:∀ {l:List (Str×NameKind)} {cs:List (Str×Addr)},(y,NameKind.free)∈l→y∈(closOf env l cs).map (·.1)
  | [],_,h=>nomatch h
  | (n,k) :: r,cs,h=>by
    rcases List.mem_cons.mp h with e | h
    · cases e
      refine closOf_mono (l:=r) ?_
      rw [if_pos (by rfl)]
      exact List.mem_cons_self
    · exact closOf_has (l:=r) h
theorem lookup_of_key {α:Type} {y:Str}:∀ {l:List (Str×α)},y∈l.map (·.1)→∃ c,l.lookup y=some c
  | [],h=>nomatch h
  | (n,c) :: r,h=>by
    cases hx:y == n with
    | true=>exact ⟨c,by simp only [List.lookup_cons,hx]⟩
    | false =>
      have h':y∈r.map (·.1):=by
        rcases List.mem_cons.mp h with e | h
        · have e':y=n:=e
          rw [e'] at hx;simp at hx
        · exact h
      obtain ⟨c',e⟩:=lookup_of_key h'
      exact ⟨c',by simp only [List.lookup_cons,hx];exact e⟩
theorem relabel_cell {env:Env} (hk:env.scope.kind=.function):∀ {names:List (Str×NameKind)} {y:Str},names.lookup y=some .free→env.kindOf y=some .cell →
    (names.map fun (n,k)=>if (k == NameKind.free && env.scope.kind == .function && env.kindOf n == some .cell) then (n,NameKind.cell) else (n,k)).lookup y=some .cell
  | [],_,h,_=>by simp at h
  | (n,k) :: r,y,h,hc=>by
    have ih:=@relabel_cell env hk r y
    show List.lookup y ((if (k == NameKind.free && env.scope.kind == .function && env.kindOf n == some .cell)=true then (n,NameKind.cell) else (n,k)) :: _)=_
    cases hx:y == n with
    | true =>
      simp only [List.lookup_cons,hx] at h
      cases h
      have e:y=n:=by simpa using hx
      subst e
      have ht:(NameKind.free == NameKind.free && env.scope.kind == .function && env.kindOf y == some .cell)=true:=by rw [hk,hc];rfl
      rw [if_pos ht];simp only [List.lookup_cons,hx]
    | false =>
      simp only [List.lookup_cons,hx] at h
      by_cases hc':(k == NameKind.free && env.scope.kind == .function && env.kindOf n == some .cell)=true
      · rw [if_pos hc'];simp only [List.lookup_cons,hx];exact ih h hc
      · rw [if_neg hc'];simp only [List.lookup_cons,hx];exact ih h hc
theorem relabel_of {env:Env}:∀ {names:List (Str×NameKind)} {y:Str},(∀ p∈names,p.2≠.cell) →
    (∃ k,(names.map fun (n,k)=>if (k == NameKind.free && env.scope.kind == .function && env.kindOf n == some .cell) then (n,NameKind.cell) else (n,k)).lookup y=some k∧(k=.cell∨k=.free))→(y,NameKind.free)∈names
  | [],_,_,⟨_,h,_⟩=>by simp at h
  | (n,k) :: r,y,hn,⟨kk,h,hkk⟩=>by
    have h:List.lookup y ((if (k == NameKind.free && env.scope.kind == .function && env.kindOf n == some .cell)=true then (n,NameKind.cell) else (n,k)) :: r.map fun (n,k)=>if (k == NameKind.free && env.scope.kind == .function && env.kindOf n == some .cell) then (n,NameKind.cell) else (n,k))=some kk:=h
    have ih:=@relabel_of env r y fun p hp=>hn p (List.mem_cons_of_mem _ hp)
    cases hx:y == n with
    | true =>
      have e:y=n:=by simpa using hx
      subst e
      by_cases hc':(k == NameKind.free && env.scope.kind == .function && env.kindOf y == some .cell)=true
      · have hf:k=.free:=by
          rw [Bool.and_eq_true,Bool.and_eq_true] at hc'
          simpa using hc'.1.1
        rw [hf];exact List.mem_cons_self
      · rw [if_neg hc'] at h
        simp only [List.lookup_cons,hx] at h
        have e2:k=kk:=Option.some.inj h
        subst e2
        rcases hkk with z | z
        · exact absurd z (hn (y,k) List.mem_cons_self)
        · rw [z];exact List.mem_cons_self
    | false =>
      have h2:(r.map fun (n,k)=>if (k == NameKind.free && env.scope.kind == .function && env.kindOf n == some .cell) then (n,NameKind.cell) else (n,k)).lookup y=some kk:=by
        by_cases hc':(k == NameKind.free && env.scope.kind == .function && env.kindOf n == some .cell)=true
        · rw [if_pos hc'] at h;simp only [List.lookup_cons,hx] at h;exact h
        · rw [if_neg hc'] at h;simp only [List.lookup_cons,hx] at h;exact h
      exact List.mem_cons_of_mem _ (ih ⟨kk,h2,hkk⟩)
structure CompSt (FS scope:Scope) (N:List Str) (x:Str) (ys:List Str) (caps:List Nat):Prop where
  ncell:∀ y∈scope.names,y.2≠.cell
  kind:scope.kind=.function
  names:∀ y∈scope.names,y.2=.local→scope.names.lookup y.1=some .local
  loc:scope.names.lookup x=some .local
  fr:∀ p∈scope.names,p.2=.free→FS.names.lookup p.1=some .cell
  fk:FS.kind=.function
  cap:∀ p∈ys.zip caps,N[p.2]?=some p.1∧scope.names.lookup p.1=some .free
  len:ys.length=caps.length
  nd:(x :: ys).Nodup
noncomputable abbrev clsOf (X:Cx) (scope:Scope):List (Str×Addr):=closOf X.env scope.names []
noncomputable def cxComp (X:Cx) (scope:Scope) (NY:List Str) (s:Shared) (H:Hp) (ex:List Addr) (pn:List (Addr×Obj)):Cx :=
  { X with N:=NY,s₀:=s,H₀:=H,env:=compEnvC scope (clsOf X scope) s.heap.objs.size X.env,outer:=X.stack,stack:=X.stack,ex:=ex,fn:=fun _=>false,pn:=pn,xe:=fun _ _=>False }
section
variable {X:Cx} {pins:List (Addr×Obj)} {σ:St} {H:Hp} {s:Shared}
theorem Inv.adopt {D:Addr} {o:HO} (I:Inv X pins σ H s) (hn:H D=none) (hs:X.s₀.heap.objs.size≤D) (hL:D≠X.env.locals) (hc:∀ x c,X.env.cells.lookup x=some c→c≠D) (hp:∀ p∈X.pn ++ pins,p.1≠D)
    (new:ObjOk X.prog X.w (upd H D o) s.heap D o):Inv X pins σ (upd H D o) s:=by
  have u:Un X.fs X.ex H (upd H D o) s.heap s.heap→True:=fun _=>trivial
  refine ⟨I.ok,I.os,I.bare,⟨I.base.keep,I.base.slot,fun b ob e n hx=>?_,I.base.there,fun b xs e=>?_,fun b ob xs e=>?_,fun b ps e=>?_⟩,I.loc,I.cell,?_,fun x c e=>?_,fun p h=>?_,fun b ob e=>?_,I.len⟩
  · rw [upd_ne (Nat.ne_of_lt (Nat.lt_of_lt_of_le (Heap.lt_size e) hs))];exact I.base.free b ob e n hx
  · have q:=I.base.tups b xs e
    rw [upd_ne (ne_of_none q hn)];exact q
  · have q:=I.base.frzs b ob xs e
    rw [upd_ne (ne_of_none q hn)];exact q
  · obtain ⟨more,q⟩:=I.base.tbls b ps e
    exact ⟨more,by rw [upd_ne (ne_of_none q hn)];exact q⟩
  · rw [upd_ne (Ne.symm hL)];exact I.free
  · rw [upd_ne (hc x c e)];exact I.freeC x c e
  · obtain ⟨a1,a2,a3⟩:=I.pin p h
    exact ⟨a1,by rw [upd_ne (hp p h)];exact a2,a3⟩
  · by_cases hb:b=D
    · subst hb;rw [upd_same] at e;cases e;exact new
    · rw [upd_ne hb] at e
      exact (I.hok b ob e).stay (fun c v _ q=>q) (fun c q=>by rw [upd_ne (ne_of_none q hn)];exact q) fun c xs q=>by rw [upd_ne (ne_of_none q hn)];exact q
end
section
variable {X:Cx} {scope:Scope} {x:Str} {ys:List Str} {caps:List Nat}
end
section
variable {X:Cx} {scope:Scope} {x:Str} {ys:List Str} {caps:List Nat} {elt iter:Expr} {te:TE} {px pos:Pos}
theorem nxE {α:Type} {t:Sem α} {Q Q':α→Shared→Prop} {M:Model} {A:Around} {F E:Value→Shared→Prop} {s:Shared} (hF:F=fun _ _=>False) (h:wpAny M A t Q F s) (hQ:∀ a s,Q a s→Q' a s):wpAny M A t Q' E s :=
  wpAny_mono h hQ fun e s' z=>by
    rw [hF] at z
    exact z.elim
noncomputable abbrev lstO (its:List Value) (n:Nat):Obj:={ cls:=.type "list",data:=.seq its.toArray n }
end
end L2
namespace L2
open PySem PySem.Spec PyProof.Rows
theorem bt_enumerate:bootBuiltins "enumerate" = some (.type "enumerate"):=by decide +kernel
section
variable {X:Cx} {pins:List (Addr×Obj)} {σ:St} {H:Hp} {s:Shared} {h':Heap}
theorem Inv.turnedL {t':Nat} {ch:List Addr} (I:Inv X pins σ H s) (k:∀ b o,b∉ch→s.heap.get? b=some o→h'.get? b=some o) (hf:∀ b∈ch,FpOk X pins H b):Inv X pins σ H { s with heap:=h',toks:=t' }:=by
  have nit:∀ b u,H b=some u→b∉ch:=fun b u e z=>by rw [(hf b z).1] at e;cases e
  refine I.step (g':=s.gens) (d':=s.drawn) (ch:=ch) (fun b hb=>?_) (fun b o _ _ hc e _=>k b o hc e) (fun b o _ _ hc e _=>⟨o.slots,k b o hc e⟩) (fun _ _ _ _ n=>n)
    (fun b o hc e=>⟨o,k b o hc e⟩) (fun _ _ e=>e) (fun _ _ _ e=>e) (fun b ps e=>⟨#[],by rw [e];simp⟩) (fun m hm=>?_) (fun b u e=>?_) I.bare
  · obtain ⟨a1,a2,a3,a4,a5,a6⟩:=hf b hb
    exact ⟨a4,a2,a5,a6⟩
  · obtain ⟨o,es,ep,ho,r⟩:=hm
    exact ⟨o,es,ep,k _ o (fun z=>(hf _ z).2.1 rfl) ho,r⟩
  · refine (I.hok b u e).stay (fun c v hc q=>k c v ?_ q) (fun _ q=>q) fun _ _ q=>q
    rcases hc with z | z
    · rw [z];exact nit b u e
    · exact nit c _ z
end
theorem turn_enum {P:Program} {w:World} {K:PySem.W.Frag} {elts:List Expr} {k:Nat} {tp:Pos} (a e it:Addr) (hne:e≠it) :
    Turn P w K (.Tuple elts k tp) (Ite K a) [e,it] e (fun i h=>(∃ old,IsEnum h e it i old)∧h.IsListIter it a i) where
  mem:=by simp
  obj:=fun i h st b hb=>by
    obtain ⟨⟨old,he⟩,hit⟩:=st
    have z:b=e∨b=it:=by simpa using hb
    rcases z with rfl | rfl
    · exact ⟨_,he,fun v z=>by
        have z':Data.fields _=Data.cell v:=z
        cases z'⟩
    · obtain ⟨o,e,c,d⟩:=hit
      exact ⟨o,e,fun v z=>by rw [d] at z;cases z⟩
  keep:=fun i h h' st k=>by
    obtain ⟨⟨old,he⟩,hit⟩:=st
    exact ⟨⟨old,k e (by simp) _ he⟩,hit.at fun o q=>k it (by simp) o q⟩
  item:=by
    intro X hP hw hK hc i pins s σ H E I hf st hg
    subst hP hw hK
    obtain ⟨xs,x,hq,hx⟩:=hg
    obtain ⟨its,rv,p,hz⟩:=I.list hq
    obtain ⟨u,hu,ru⟩:=rv.get hx
    obtain ⟨⟨old,he⟩,hit⟩:=st
    refine wpAny_pyNext_enum_item he hit p.isList (x:=u) (by simpa using hu) hne fun h1 out hit1 tup sz kp=>⟨_,rfl,?_⟩
    refine wpAny_letOwnedTupleGo_enum (s:={ s with heap:=h1,toks:=s.toks+1 }) out fun h2 en sb=>?_
    have hel:e < s.heap.objs.size:=Heap.lt_size he
    have hTe:s.heap.objs.size≠e:=Nat.ne_of_gt hel
    have sb':Heap.SameBut e h1 h2:=sb
    have I1:Inv X pins σ H { s with heap:=h2,toks:=s.toks+1 }:=I.turnedL (ch:=[e,it]) (fun b o hb q=>by
      have hb':b≠e∧b≠it:=by simpa using hb
      exact (sb'.2 b hb'.1).trans (kp b o hb'.1 hb'.2 q)) hf
    have hTn:H s.heap.objs.size=none:=I.hok.fresh (Nat.le_refl _)
    have tup2:h2.get? s.heap.objs.size=some { cls:=.type "tuple",data:=.seq #[.int i s.toks,u] }:=(sb'.2 _ hTe).trans tup
    have I2:Inv X pins σ (upd H s.heap.objs.size (.tup [.int i,x])) { s with heap:=h2,toks:=s.toks+1 }:=I1.adopt hTn I.sz (Nat.ne_of_gt I.lt) (fun y c q=>by
      obtain ⟨v,z⟩:=I.cell y c q
      exact Nat.ne_of_lt z.lt) (fun q hq=>Nat.ne_of_lt (Heap.lt_size (I.pin q hq).1)) ⟨by show 2≤sizeLine;decide,[.int i s.toks,u],.cons ⟨_,rfl⟩ (.cons ru .nil),⟨_,tup2,rfl,_,rfl⟩⟩
    refine ⟨.ref s.heap.objs.size,_,I2,rfl,⟨_,x,rfl,hTn,rfl,fun ys hy=>by rw [I.list_inj hy hq];exact hx⟩,⟨⟨_,by have:=en;exact_mod_cast this⟩,?_⟩,fun b hb=>?_⟩
    · obtain ⟨o,q,r⟩:=hit1
      exact ⟨o,(sb'.2 it (Ne.symm hne)).trans q,r⟩
    · have hb0:=(hf b hb).1
      have z:b=e∨b=it:=by simpa using hb
      have hlt:b < s.heap.objs.size:=by
        rcases z with rfl | rfl
        · exact hel
        · obtain ⟨o,q,_⟩:=hit
          exact Heap.lt_size q
      rw [upd_ne (Nat.ne_of_lt hlt)]
      exact hb0
  done:=by
    intro X hP hw hK hc i pins s σ H E I hf st hg
    subst hP hw hK
    obtain ⟨xs,hq,hx⟩:=hg
    obtain ⟨its,rv,p,hz⟩:=I.list hq
    obtain ⟨⟨old,he⟩,hit⟩:=st
    obtain ⟨f0,f1,f2,f3,f4,f5⟩:=hf it (by simp)
    have hl:=rv.length
    exact wpAny_pyNext_enum_end (I.ok.hd hc) he hit p.isList (by simp;omega) fun h' eb=>⟨rfl,I.turned (t':=s.toks) (fun b o hb e=>eb b o hb e) f0 f1 f3 f4 f5⟩
  self:=fun _ _ _ _ _ st h=>by
    obtain ⟨⟨old,he⟩,hit⟩:=st
    exact wpAny_pyIter_enum he h
section
variable {X:Cx}
theorem pi_enum {elts:List Expr} {k:Nat} {tp:Pos} {a:Expr} {tl:TE} {p pos:Pos} (hg:Gl X "enumerate") (hm:X.mg "enumerate" = none) (hl:PE X a tl) (hs:starEach [a] X.env=[(false,eval a X.env)]:=by rfl):PI X (.Tuple elts k tp) (.Call (.Name "enumerate" p) [a] [] pos) (iEnum X.K tl):=by
  intro pins s σ H R I h
  have hA:PA X [a] (tCons tl tNil):=pa_cons hl pa_nil (by rw [hs];rfl)
  refine Call_ (ld_blt I hg hm bt_enumerate (PyProof.Rows.callWith_type1 (thn (hA pos pins s σ H (fun vs H1=>∃ x,vs=[x]∧∃ a,x=.ref a∧(∃ xs,SqL X.K H1 a xs)∧R (Ite X.K a) H1) I ?_) fun us s1 ⟨vs,H1,I1,r1,q1⟩=>?_) hs rfl))
  · show tl σ H fun x H1=>∃ y,[x]=[y]∧_
    have e:(fun (x:V) (H1:Hp)=>∃ y,[x]=[y]∧∃ a,y=V.ref a∧(∃ xs,SqL X.K H1 a xs)∧R (Ite X.K a) H1)=fun x H1=>∃ a,x=V.ref a∧(∃ xs,SqL X.K H1 a xs)∧R (Ite X.K a) H1:=by
      funext x H1
      exact propext ⟨fun ⟨y,e,r⟩=>by cases e;exact r,fun r=>⟨x,rfl,r⟩⟩
    have h':tl σ H fun x H1=>∃ a,x=V.ref a∧(∃ xs,SqL X.K H1 a xs)∧R (Ite X.K a) H1:=h
    rw [← e] at h'
    exact h'
  · obtain ⟨x,e1,b,e2,⟨xs,hq⟩,q⟩:=q1
    subst e1 e2
    obtain ⟨u,rfl,ru⟩:=vals1 r1
    cases ru
    obtain ⟨its,rv,pl,hz⟩:=I1.list hq
    refine call_enumerate_list pl.isList fun h1 he hit hsz hk=>?_
    refine wpAny_pyIter_enum he ?_
    have I2:Inv X pins σ H1 { s1 with heap:=h1 }:=I1.kept (t':=s1.toks) hk
    refine ⟨s1.heap.objs.size+1,[s1.heap.objs.size+1,s1.heap.objs.size],_,Ite X.K b,H1,rfl,I2,turn_enum b _ _ (Nat.succ_ne_self _),⟨⟨_,he⟩,hit⟩,fun c hc=>?_,q⟩
    have z:c=s1.heap.objs.size+1∨c=s1.heap.objs.size:=by simpa using hc
    have hle:s1.heap.objs.size≤c:=by rcases z with rfl | rfl <;> omega
    exact I1.fpOk hle (I1.hok.fresh hle)
theorem preSum_take (ns:List Int):∀ n,n≤ns.length→preSum (fun i=>ns.getD i 0) n=(ns.take n).sum
  | 0,_=>by simp [preSum]
  | n+1,h=>by
    show preSum _ n+ns.getD n 0=_
    have hn:n < ns.length:=by omega
    rw [preSum_take ns n (by omega),List.take_succ,List.sum_append,List.getD_eq_getElem?_getD,List.getElem?_eq_getElem hn]
    simp
theorem call_sumL (hc:X.calm=true):CallR X (.builtin "sum") (cSum X.K):=by
  intro pins s σ H xs us Q I r h
  obtain ⟨p,ns,rfl,hq,q⟩:=h
  obtain ⟨u,rfl,ru⟩:=vals1 r
  cases ru
  obtain ⟨its,rv,pl,hz⟩:=I.list hq
  have hl:=rv.length
  rw [List.length_map] at hl
  have hpl:p < s.heap.objs.size:=by obtain ⟨o,e,_⟩:=pl.isList;exact Heap.lt_size e
  refine call_sum_walkG (wpAny_pyIter_list pl.isList ⟨s.heap.objs.size,_,_,_,_,_,fun i=>ns.getD i 0,rfl,Walks.list (A:=X.A.in1) (I.ok.hd hc) s.heap.objs.size p (Nat.ne_of_lt hpl) its.toArray,⟨⟨_,Heap.get?_push_size _ rfl,rfl,rfl⟩,pl.isList.push _⟩,fun b hb=>?_,fun i v hv=>?_,fun h' tk t' hk=>?_⟩)
  · show b < (s.heap.push _).objs.size
    rw [Heap.size_push]
    have z:b=s.heap.objs.size∨b=p:=by simpa using hb
    rcases z with rfl | rfl
    · exact Nat.lt_succ_self _
    · exact Nat.lt_succ_of_lt hpl
  · have hv':its[i]?=some v:=by simpa using hv
    obtain ⟨x,ex,rx⟩:∃ x,(List.map V.int ns)[i]?=some x∧RelV x v:=by
      have hi:i < its.length:=(List.getElem?_eq_some_iff.mp hv').1
      have hi2:i < (List.map V.int ns).length:=by rw [List.length_map];omega
      obtain ⟨u,eu,ru⟩:=rv.get (i:=i) (x:=(List.map V.int ns)[i]) (List.getElem?_eq_getElem hi2)
      rw [hv'] at eu;cases eu
      exact ⟨_,List.getElem?_eq_getElem hi2,ru⟩
    rw [List.getElem?_map] at ex
    cases e:ns[i]? with
    | none=>rw [e] at ex;cases ex
    | some z =>
      rw [e] at ex
      have:V.int z=x:=Option.some.inj ex
      subst this
      obtain ⟨t,rfl⟩:=rx
      exact ⟨t,by show Value.int z t=Value.int (ns.getD i 0) t;rw [List.getD_eq_getElem?_getD,e];rfl⟩
  · have e:preSum (fun i=>ns.getD i 0) its.toArray.size=ns.sum:=by
      rw [List.size_toArray,← hl,preSum_take ns _ (Nat.le_refl _),List.take_length]
    rw [e]
    refine ⟨.int ns.sum,H,I.kept fun b o q=>?_,⟨_,rfl⟩,q⟩
    exact hk b o (by
      intro z
      have z':b=s.heap.objs.size:=by simpa using z
      exact absurd (Heap.lt_size q) (by rw [z'];exact Nat.lt_irrefl _)) (Heap.get?_push_of_some _ q)
theorem eqAt_ints {A:Around} {s:Shared} {i j:Int} {u v:Value} (r1:RelV (.int i) u) (r2:RelV (.int j) v):SeqAt.EqAt A s u v (i == j):=by
  obtain ⟨t,rfl⟩:=r1
  obtain ⟨t',rfl⟩:=r2
  exact fun prog w E Q hq=>wpAny_eqBool_int hq
theorem all_eq_ints:∀ (ns ms:List Int),((List.range (min ns.length ms.length)).all (fun j=>ns.getD j 0 == ms.getD j 0) && ns.length == ms.length)=decide (ns=ms):=by
  intro ns ms
  rw [Bool.eq_iff_iff,decide_eq_true_eq,Bool.and_eq_true,List.all_eq_true,beq_iff_eq]
  constructor
  · rintro ⟨h1,h2⟩
    refine List.ext_getElem h2 fun i hi hj=>?_
    have:=h1 i (List.mem_range.mpr (by omega))
    rw [List.getD_eq_getElem?_getD,List.getD_eq_getElem?_getD,List.getElem?_eq_getElem hi,List.getElem?_eq_getElem hj] at this
    simpa using this
  · rintro rfl
    exact ⟨fun j _=>by simp,rfl⟩
theorem op_eqT (hu:X.A.units+1 < cLine):OpR X (compareOp .Eq) (rEqT X.K):=by
  intro pins s σ H x y v u Q I rx ry h
  obtain ⟨a,b,ns,ms,rfl,rfl,ha,hb,q⟩:=h
  cases rx
  cases ry
  obtain ⟨its,r1,p1,_⟩:=I.tuple ha
  obtain ⟨its2,r2,p2,_⟩:=I.tuple hb
  have l1:=r1.length
  have l2:=r2.length
  rw [List.length_map] at l1 l2
  refine SeqAt.eq_tupleAt (e:=fun j=>ns.getD j 0 == ms.getD j 0) p1 p2 (by omega) (fun j h1 h2=>?_) ?_
  · have h1':j < ns.length:=by rw [l1];simpa using h1
    have h2':j < ms.length:=by rw [l2];simpa using h2
    obtain ⟨u1,e1,q1⟩:=r1.get (i:=j) (x:=.int ns[j]) (by rw [List.getElem?_map,List.getElem?_eq_getElem h1'];rfl)
    obtain ⟨u2,e2,q2⟩:=r2.get (i:=j) (x:=.int ms[j]) (by rw [List.getElem?_map,List.getElem?_eq_getElem h2'];rfl)
    have g1:its.toArray[j]=u1:=by
      have:=List.getElem?_eq_some_iff.mp e1
      obtain ⟨_,e⟩:=this
      simpa using e
    have g2:its2.toArray[j]=u2:=by
      have:=List.getElem?_eq_some_iff.mp e2
      obtain ⟨_,e⟩:=this
      simpa using e
    rw [g1,g2]
    have:=eqAt_ints (A:=X.A.in1) (s:=s) q1 q2
    simpa [List.getD_eq_getElem?_getD,List.getElem?_eq_getElem h1',List.getElem?_eq_getElem h2'] using this
  · have e:((List.range (min its.toArray.size its2.toArray.size)).all (fun j=>ns.getD j 0 == ms.getD j 0) && its.toArray.size == its2.toArray.size)=decide (ns=ms):=by
      rw [List.size_toArray,List.size_toArray,← l1,← l2]
      exact all_eq_ints ns ms
    rw [e]
    exact ⟨.bl (decide (ns=ms)),H,I,rfl,q⟩
end
end L2
namespace L2
open PySem PySem.Spec PyProof.Rows
theorem ObjOk.got {P:Program} {w:World} {H:Hp} {h:Heap} {a:Addr} {o:HO} (x:ObjOk P w H h a o):∃ ob,h.get? a=some ob:=by
  cases o with
  | lst xs=>obtain ⟨_,_,_,_,e⟩:=x;exact ⟨_,e⟩
  | tup xs=>obtain ⟨_,_,_,ob,e,_⟩:=x;exact ⟨ob,e⟩
  | dK kvs=>obtain ⟨_,_,_,_,ob,_,_,e,_⟩:=x;exact ⟨ob,e⟩
  | dT kvs=>obtain ⟨_,_,_,_,ob,_,_,e,_⟩:=x;exact ⟨ob,e⟩
  | set S n=>obtain ⟨ob,_,_,_,e,_⟩:=x;exact ⟨ob,e⟩
  | ins C dx fs=>obtain ⟨_,_,_,e,_⟩:=x;exact ⟨_,e⟩
  | own y=>obtain ⟨ob,e⟩:=x;exact ⟨ob,e⟩
  | xd fs=>obtain ⟨_,⟨ob,_,_,e,_⟩,_⟩:=x;exact ⟨ob,e⟩
  | rng lo hi=>obtain ⟨_,_,_,e⟩:=x;exact ⟨_,e⟩
  | frz ob u=>obtain ⟨e,_⟩:=x;exact ⟨ob,e⟩
  | tbl ps=>exact ⟨_,show h.get? a=some _ from x⟩
  | met f y=>exact ⟨_,show h.get? a=some _ from x⟩
  | ext φ=>obtain ⟨_,⟨ob,e⟩,_⟩:=x;exact ⟨ob,e⟩
theorem HOk.byB {P:Program} {w:World} {H:Hp} {h h' B:Heap} (x:HOk P w H h) (c:∀ b o,H b=some o→∃ ob,h.get? b=some ob∧B.get? b=some ob) (st:B.StaysIn h'):HOk P w H h':=fun a o e =>
  (x a o e).stay (fun b u hb q=>by
    have key:∀ o',H b=some o'→h'.get? b=some u:=fun o' eo=>by
      obtain ⟨ob,e1,e2⟩:=c b o' eo
      rw [q] at e1
      rw [Option.some.inj e1]
      exact st b ob e2
    rcases hb with z | z
    · exact key o (z ▸ e)
    · exact key _ z) (fun _ q=>q) fun _ _ q=>q
theorem Un.byB {fs:List Addr} {H H':Hp} {h h1 h2 B:Heap} (U:Un fs [] H H' h h1) (c2:∀ b ob,h.get? b=some ob→H b=none→b∉fs→B.get? b=some ob) (c3:∀ b ob,h.get? b=some ob→b∉fs→∃ ob',B.get? b=some ob')
    (st:B.StaysIn h2) (up:h1.UpToSlots h2) (hf:∀ b∈fs,∃ o,h1.get? b=some o∧∀ vs,o.data≠.fields vs):Un fs [] H H' h h2 where
  keep:=fun b o e n hb _=>st b o (c2 b o e n hb)
  slot:=fun b o e n hb hx=>by
    obtain ⟨sl,q⟩:=U.slot b o e n hb hx
    obtain ⟨o',q',d⟩:=hf b hb
    rw [q] at q'
    have q2:=Option.some.inj q'
    subst q2
    obtain ⟨sl',z⟩:=up b _ q d
    exact ⟨sl',z⟩
  free:=U.free
  there:=fun b o e hx=>by
    by_cases hb:b∈fs
    · obtain ⟨o',q',d⟩:=hf b hb
      obtain ⟨sl,z⟩:=up b o' q' d
      exact ⟨_,z⟩
    · obtain ⟨o',z⟩:=c3 b o e hb
      exact ⟨o',st b o' z⟩
  tups:=U.tups
  frzs:=U.frzs
  tbls:=U.tbls
structure Fly (P:Program) (w:World) (outer:List Env) (H:Hp) (s:Shared) (cls:Value) (a:Addr) (H':Hp) (B:Heap) (s':Shared):Prop where
  os:s'.os=s.os
  bare:AllBare s'.gens
  un:Un (frs outer) [] H H' s.heap s'.heap
  hok:HOk P w H' s'.heap
  fr:H' a=none
  nw:s.heap.get? a=none
  fl:∃ a0,Heap.FlyingW B outer a cls a0 s'.heap
  c1:∀ b o,H' b=some o→∃ ob,s'.heap.get? b=some ob∧B.get? b=some ob
  c2:∀ b ob,s.heap.get? b=some ob→H b=none→b∉frs outer→B.get? b=some ob
  c3:∀ b ob,s.heap.get? b=some ob→b∉frs outer→∃ ob',B.get? b=some ob'
noncomputable def CXF (P:Program) (w:World):CXT:=fun outer H s E e s'=>∃ a cls H' B,e=.ref a∧Fly P w outer H s cls a H' B s'∧E cls none H'
theorem passN {X:Cx} {P:Program} {w:World}:Passes (CXF P w) X E0:=fun _ _ _ _ _ _ _ ⟨_,_,_,_,_,_,q⟩=>q.elim
section
variable {X:Cx} {pins:List (Addr×Obj)} {σ:St} {H H':Hp} {s s':Shared} {cls:Value} {a:Addr} {B:Heap}
theorem Inv.newer (I:Inv X pins σ H s) (hex:X.ex=[]) {b:Addr} (h:s.heap.get? b=none):X.s₀.heap.get? b=none:=by
  cases q:X.s₀.heap.get? b with
  | none=>rfl
  | some o =>
    obtain ⟨o',z⟩:=I.base.there b o q (by rw [hex];simp)
    rw [h] at z;cases z
theorem Inv.offStack (I:Inv X pins σ H s) {b:Addr} {ob:Obj} (e:X.s₀.heap.get? b=some ob) (hb:b∉X.fs):b∉frs X.stack:=fun z=>by
  rcases List.mem_cons.mp (I.stkSub b z) with z | z
  · exact absurd (Nat.lt_of_lt_of_le (Heap.lt_size e) I.ok.above) (by rw [z];exact Nat.lt_irrefl _)
  · exact hb z
theorem Fly.inv (I:Inv X pins σ H s) (F:Fly X.prog X.w X.stack H s cls a H' B s') {h2:Heap} (st:B.StaysIn h2) (up:s'.heap.UpToSlots h2):Inv X pins σ H' { s' with heap:=h2 }:=by
  obtain ⟨a0,fl⟩:=F.fl
  refine I.call' (s':={ s' with heap:=h2 }) (ch:=[]) F.os (F.un.byB F.c2 F.c3 st up fun b hb=>?_) (F.hok.byB F.c1 st) F.bare (fun b z=>absurd z (by simp))
  obtain ⟨_,o,ho,hd⟩:=fl.2.2.1.mem hb
  exact ⟨o,ho,hd⟩
theorem Fly.on {E:Value→Shared→Prop} {M:Model} (I:Inv X pins σ H s) (hex:X.ex=[]) (hst:X.stack=X.env :: X.outer) (hfr:X.env.frame=some X.env.locals) (F:Fly X.prog X.w X.stack H s cls a H' B s') :
    wpAny M X.A (leaving X.env (.ref a)) (fun _ s2=>Fly X.prog X.w X.outer X.H₀ X.s₀ cls a H' B s2) E s':=by
  obtain ⟨a0,fl⟩:=F.fl
  have fl':=fl
  rw [hst] at fl'
  have hA:X.A.frames=some (X.env :: X.outer):=by rw [I.ok.frames,hst]
  refine wpAny_leaves_onW hA hfr fl' fun h2 fl2 up=>?_
  have J:Inv X pins σ H' { s' with heap:=h2 }:=F.inv I fl2.1 up
  have b0:Un X.fs [] X.H₀ H' X.s₀.heap h2:=by have:=J.base;rw [hex] at this;exact this
  refine ⟨J.os,J.bare,b0,J.hok,F.fr,I.newer hex F.nw,⟨a0,fl2⟩,fun b o e=>?_,fun b ob e n hb=>?_,fun b ob e hb=>?_⟩
  · obtain ⟨ob,_,e2⟩:=F.c1 b o e
    exact ⟨ob,fl2.1 b ob e2,e2⟩
  · exact F.c2 b ob (I.base.keep b ob e n hb (by rw [hex];simp)) (I.base.free b ob e n (by rw [hex];simp)) (I.offStack e hb)
  · obtain ⟨o',e'⟩:=I.base.there b ob e (by rw [hex];simp)
    exact F.c3 b o' e' (I.offStack e hb)
theorem Fly.first {E:Value→Shared→Prop} {M:Model} {us:List Value} {h1:Heap} (I:Inv X pins σ H s) (hex:X.ex=[]) (hst:X.stack=X.env :: X.outer) (hfr:X.env.frame=some X.env.locals) (hm:Heap.MadeExcOf s.heap h1 a cls us) :
    wpAny M X.A (leaving X.env (.ref a)) (fun _ s2=>∃ B,Fly X.prog X.w X.outer X.H₀ X.s₀ cls a H B s2) E { s with heap:=h1 }:=by
  have hA:X.A.frames=some (X.env :: X.outer):=by rw [I.ok.frames,hst]
  have stk:=I.stack
  have hin:∀ env∈X.stack,∀ b,env.frame=some b→b∈frs X.stack:=fun env he b hb=>List.mem_filterMap.mpr ⟨env,he,hb⟩
  have hl:=PySem.W.funFrames_hide stk hin
  rw [hst] at hl
  refine wpAny_leaves_madeW (base:=PySem.W.hideAll s.heap (frs (X.env :: X.outer))) (h:=s.heap) hA hfr (fun b o q=>PySem.W.of_hideAll _ q) hl hm fun h2 t fl tup bt up=>?_
  have off:∀ b,b∉frs X.stack→b∉frs (X.env :: X.outer):=fun b hb=>by rw [← hst];exact hb
  have c1:∀ b o,H b=some o→∃ ob,s.heap.get? b=some ob∧(PySem.W.hideAll s.heap (frs (X.env :: X.outer))).get? b=some ob:=fun b o e=>by
    obtain ⟨ob,e1⟩:=(I.hok b o e).got
    refine ⟨ob,e1,PySem.W.hideAll_get _ e1 (off b fun z=>?_)⟩
    have:=I.stkFree b z
    rw [e] at this;cases this
  have c2:∀ b ob,X.s₀.heap.get? b=some ob→X.H₀ b=none→b∉X.fs→(PySem.W.hideAll s.heap (frs (X.env :: X.outer))).get? b=some ob:=fun b ob e n hb =>
    PySem.W.hideAll_get _ (I.base.keep b ob e n hb (by rw [hex];simp)) (off b (I.offStack e hb))
  have c3:∀ b ob,X.s₀.heap.get? b=some ob→b∉X.fs→∃ ob',(PySem.W.hideAll s.heap (frs (X.env :: X.outer))).get? b=some ob':=fun b ob e hb=>by
    obtain ⟨o',e'⟩:=I.base.there b ob e (by rw [hex];simp)
    exact ⟨o',PySem.W.hideAll_get _ e' (off b (I.offStack e hb))⟩
  have b0:Un X.fs [] X.H₀ H X.s₀.heap s.heap:=by have:=I.base;rw [hex] at this;exact this
  have up2:s.heap.UpToSlots h2:=(Heap.UpToSlots.of_keeps hm.keeps).trans up
  have un:Un X.fs [] X.H₀ H X.s₀.heap h2:=b0.byB c2 c3 fl.1 up2 fun b hb=>by
    obtain ⟨_,o,ho,hd⟩:=I.funs.mem hb
    exact ⟨o,ho,hd⟩
  refine ⟨_,I.os,I.bare,un,I.hok.byB c1 fl.1,?_,I.newer hex hm.new,⟨_,fl⟩,fun b o e=>?_,c2,c3⟩
  · cases q:H a with
    | none=>rfl
    | some o =>
      obtain ⟨ob,e1⟩:=(I.hok a o q).got
      rw [hm.new] at e1;cases e1
  · obtain ⟨ob,_,e2⟩:=c1 b o e
    exact ⟨ob,fl.1 b ob e2,e2⟩
end
section
variable {P:Program} {w:World} {K:PySem.W.Frag} {mg:Str→Option Value} {base:Heap} {N ps:List Str} {qual:Str} {scope:Scope} {f:Addr} {cd:Value} {A:Around} {outer:List Env} {s:Shared} {H:Hp} {E:XK}
theorem passF:Passes (CXF P w) (cxOf (CXF P w) P w K mg base N qual scope f cd A outer s H E) E:=fun pins σ H1 s1 e s' I ⟨a,cls,H',B,he,F,q⟩=>by
  subst he
  exact wpAny_mono (Fly.on (E:=fun e' s2=>CXF P w outer H s E e' s2) (M:=model P w) I rfl rfl rfl F) (fun _ s2 F2=>⟨a,cls,H',B,rfl,F2,q⟩) fun _ _ z=>z
theorem exc_obj {h:Heap} {C:Addr} {bmB:List Value} {newId:String} (X:K.In h) (q:PySem.W.excIn K C bmB newId=true):∃ bm N' nm qn bs hdct sn sub ab col dd k0 k1 k2 k3 k5 mN,
    h.get? C=some (excClassObj nm qn C N' bs bm hdct sn sub ab col dd k0 k1 k2 k3 k5 newId)∧h.Ns N' mN∧mN "__init__" = none∧OwnTail h bmB bm:=by
  unfold PySem.W.excIn at q
  split at q
  · rename_i dd cd sl ho
    split at q
    · rename_i C' bm k0 k1 k2 k3 n k5 hm hs
      rw [Bool.and_eq_true,Bool.and_eq_true,Bool.and_eq_true,Bool.and_eq_true,Bool.and_eq_true,beq_iff_eq,beq_iff_eq,beq_iff_eq,Bool.not_eq_true'] at q
      obtain ⟨⟨⟨⟨⟨e1,e2⟩,hdel⟩,ht⟩,hk⟩,hi⟩:=q
      subst e1 e2
      obtain ⟨nm,bs,mro,ns,qn,hd,sn,sub,ab,col,del⟩:=cd
      dsimp only at hm hdel hk hi
      subst hm hdel
      have es:sl=#[k0,k1,k2,k3,some (.builtin n),k5]:=by
        cases sl with | mk l=>simp only at hs;rw [hs]
      subst es
      exact ⟨bm,ns,nm,qn,bs,hd,sn,sub,ab,col,dd,k0,k1,k2,k3,k5,_,X _ _ ho,.of_isNs (PySem.W.isNs_of_in X hk),PySem.W.nsMap_none_of_in X hk hi,PySem.W.tail_of_in X ht⟩
    · cases q
  · cases q
noncomputable def tRaise (E:XK) (c:Value) (ta:TA):TS:=fun _ σ H=>ta σ H fun vs H1=>vs.length≤sizeLine∧E c none H1
theorem ps_raise {x:Str} {C:Addr} {bm0 bmN:List Value} {Bb Bn newId nid initId inN:String} {np cpos pos:Pos} {e₀:Expr} {rest:List Expr} {ta:TA}
    (Fn:ExcBaseFacts Bn newId inN bmN) (hBn:bm0.contains (.type Bn)=true) (FB:ExcBaseFacts Bb nid initId bm0)
    (hg:Gl (cxOf (CXF P w) P w K mg base N qual scope f cd A outer s H E) x) (hm:mg x=some (.ref C)) (hx:PySem.W.excIn K C bm0 newId=true)
    (ha:PA (cxOf (CXF P w) P w K mg base N qual scope f cd A outer s H E) (e₀ :: rest) ta)
    (he:starEach (e₀ :: rest) (cxOf (CXF P w) P w K mg base N qual scope f cd A outer s H E).env=(false,eval e₀ (cxOf (CXF P w) P w K mg base N qual scope f cd A outer s H E).env) :: starEach rest (cxOf (CXF P w) P w K mg base N qual scope f cd A outer s H E).env:=by rfl)
    (hpl:(backTo cpos (starEach rest (cxOf (CXF P w) P w K mg base N qual scope f cd A outer s H E).env)).any (·.1)=false:=by rfl) (hdb:(x == ("__debug__" : Str))=false:=by decide) :
    PS (cxOf (CXF P w) P w K mg base N qual scope f cd A outer s H E) (.Raise (some (.Call (.Name x np) (e₀ :: rest) [] cpos)) none pos) (tRaise E (.ref C) ta):=by
  intro pins s1 σ H1 D I h
  obtain ⟨bm,N',nm,qn,bs,hdct,sn,sub,ab,col,dd,k0,k1,k2,k3,k5,mN,hC,hN,hni,T⟩:=exc_obj (h:=base) I.mod.kin hx
  refine wpAny_Raise_call_subU (C:=C) (nm:=nm) (q:=qn) (N:=N') (bs:=bs) (bm:=bm) (bmB:=bm0) (hdct:=hdct) (sn:=sn) (sub:=sub) (ab:=ab) (col:=col) (dd:=dd) (k0:=k0) (k1:=k1) (k2:=k2) (k3:=k3) (k5:=k5)
    Fn hBn FB (mN:=mN) (T.hasType FB.hasBase) (I.ok.hd rfl) ?_ hni (ld_glob I hg hm ⟨rfl,?_⟩ hdb)
  · rw [he]
    show (false || (backTo cpos (starEach rest _)).any (·.1))=false
    rw [hpl];rfl
  · have hA:=ha cpos pins s1 σ H1 _ I h
    rw [he] at hA ⊢
    refine Calls.evalArgs_plain (thn hA fun us s2 ⟨vs,H2,I2,r,hz,q⟩=>⟨rfl,?_,I2.bk _ _ hC,hN.keeps I2.bk,T.keeps I2.bk,fun h1 e hmade=>?_⟩)
    · show us.length≤sizeLine
      rw [← r.length];exact hz
    · exact wpAny_mono (Fly.first (E:=fun e' s2=>CXF P w outer H s E e' s2) (M:=model P w) I2 rfl rfl rfl hmade) (fun _ s3 ⟨B,F⟩=>⟨e,_,H2,B,rfl,F,q⟩) fun _ _ z=>z
theorem Fun.okX {x:Str} {st:Stmt} {fd:FuncData} {k:Nat} {sp:Sp} (F:Fun K x qual st f fd) (S:FnScope N ps (defScope st)) (len:∀ vs H Q E,sp vs H Q E→vs.length=ps.length)
    (hbody:∀ (cdv:Value) (A:Around) (outer:List Env) (s:Shared) (H:Hp) (vs:List V) (Q:VK) (E:XK),Room k (A.deeper (envOfC qual (defScope st) s.heap.objs.size f cdv))→sp vs H Q E →
      ∃ t,PSs (cxOf (CXF P w) P w K mg base N qual (defScope st) f cdv A outer s H E) (defBody st) t∧t { nx:=fun _ H'=>Q .non H',rt:=Q } (start N vs) H):FnOk P w K mg base (CXF P w) (k+1) f fd ps sp:=by
  obtain ⟨oc,od,kV,doc,pm,an,cdv,ct,osl,rfl,lk,hcd⟩:=F.ex
  exact fn_of lk hcd S len fun A outer s H vs Q E hr hsp=>hbody cdv A outer s H vs Q E hr hsp
end
noncomputable def excO (a:Addr) (c:Value):HO:=.ext fun h=>∃ o,h.get? a=some o∧o.cls=c∧∃ vs,o.data=.fields vs
noncomputable abbrev Cx.inx (X:Cx) (a:Addr):Cx:={ X with A:=X.A.mark (some (.ref a)),calm:=false }
section
variable {X:Cx} {pins:List (Addr×Obj)} {σ:St} {H H':Hp} {s s':Shared} {cls:Value} {a:Addr} {B:Heap}
theorem Inv.inx (I:Inv X pins σ H s) (a:Addr):Inv (X.inx a) pins σ H s :=
  ⟨⟨I.ok.mod,I.ok.kind,I.ok.glob,I.ok.blt,I.ok.above,I.ok.inj,I.ok.has,I.ok.cab,(fun z=>nomatch z),I.ok.frames,I.ok.stk,I.ok.exf,I.ok.bs,I.ok.bsz,I.ok.noex,I.ok.exfs,I.ok.funs,I.ok.frf⟩,I.os,I.bare,I.base,I.loc,I.cell,I.free,I.freeC,I.pin,I.hok,I.len⟩
theorem Inv.back (J:Inv ((X.inx a).nox) pins σ H s) (ok:X.Ok):Inv X pins σ H s:=⟨ok,J.os,J.bare,J.base,J.loc,J.cell,J.free,J.freeC,J.pin,J.hok,J.len⟩
theorem Inv.adoptE {D:Addr} {o:HO} (I:Inv X pins σ H s) (hn:H D=none) (hs:X.s₀.heap.get? D=none) (hL:D≠X.env.locals) (hc:∀ x c,X.env.cells.lookup x=some c→c≠D) (hp:∀ p∈X.pn ++ pins,p.1≠D)
    (new:ObjOk X.prog X.w (upd H D o) s.heap D o):Inv X pins σ (upd H D o) s:=by
  have old:∀ b u,H b=some u→upd H D o b=some u:=fun b u q=>by rw [upd_ne (ne_of_none q hn)];exact q
  refine ⟨I.ok,I.os,I.bare,⟨I.base.keep,I.base.slot,fun b ob e n hx=>?_,I.base.there,fun b xs e=>old _ _ (I.base.tups b xs e),fun b ob xs e=>old _ _ (I.base.frzs b ob xs e),fun b ps e=>?_⟩,I.loc,I.cell,?_,fun x c e=>?_,fun p h=>?_,fun b ob e=>?_,I.len⟩
  · have hb:b≠D:=fun z=>by rw [z,hs] at e;cases e
    rw [upd_ne hb];exact I.base.free b ob e n hx
  · obtain ⟨more,q⟩:=I.base.tbls b ps e
    exact ⟨more,old _ _ q⟩
  · rw [upd_ne (Ne.symm hL)];exact I.free
  · rw [upd_ne (hc x c e)];exact I.freeC x c e
  · obtain ⟨a1,a2,a3⟩:=I.pin p h
    exact ⟨a1,by rw [upd_ne (hp p h)];exact a2,a3⟩
  · by_cases hb:b=D
    · subst hb;rw [upd_same] at e;cases e;exact new
    · rw [upd_ne hb] at e
      exact (I.hok b ob e).stay (fun c v _ q=>q) (fun c q=>old _ _ q) fun c xs q=>old _ _ q
theorem gone_ok {M:Model} {A:Around} {E:Value→Shared→Prop} {i:Nat} {x:Str} {pos:Pos} {Q:Unit→Shared→Prop} (I:Inv X pins σ H s) (hN:X.N.Nodup) (hi:X.N[i]?=some x) (hk:X.env.scope.names.lookup x=some .local)
    (h:∀ s',Inv X pins (σ.set i none) H s'→Q () s'):wpAny M A (do bindName X.env x .none;unbindBehindTheSuite X.env x pos) Q E s:=by
  obtain ⟨m,hn,hl⟩:=id I.loc
  have hp:(X.env.scope.kind == .class || (X.env.scope.kind == .module && X.env.locals != X.env.globals))=false:=by rw [I.ok.kind];rfl
  refine wpAny_nameGoes_keeps hk hn hp fun h' v hn' hs=>h _ ?_
  obtain ⟨oL,_,_,hoL,_⟩:=id hn
  have older:∀ b o,X.s₀.heap.get? b=some o→b≠X.env.locals:=fun b o e=>Nat.ne_of_lt (Nat.lt_of_lt_of_le (Heap.lt_size e) I.ok.above)
  refine ⟨I.ok,I.os,I.bare,⟨fun b o e n hb hx=>(hs.2 b (older b o e)).trans (I.base.keep b o e n hb hx),fun b o e n hb hx=>?_,I.base.free,fun b o e hx=>?_,I.base.tups,I.base.frzs,I.base.tbls⟩,⟨_,hn',fun j y v' e1 e2 e3=>?_⟩,fun y c e=>?_,I.free,I.freeC,fun p hp=>?_,fun b ob e=>?_,by simpa using I.len⟩
  · obtain ⟨sl,e1⟩:=I.base.slot b o e n hb hx
    exact ⟨sl,(hs.2 b (older b o e)).trans e1⟩
  · obtain ⟨o',e1⟩:=I.base.there b o e hx
    exact ⟨o',(hs.2 b (older b o e)).trans e1⟩
  · by_cases hj:j=i
    · subst hj
      rw [List.getElem?_set] at e2
      split at e2
      · split at e2 <;> cases e2
      · exact absurd rfl ‹_›
    · rw [List.getElem?_set_ne (Ne.symm hj)] at e2
      obtain ⟨u',r',q⟩:=hl j y v' e1 e2 e3
      refine ⟨u',r',?_⟩
      rcases q with ⟨k,e⟩ | ⟨k,c,e,z⟩
      · have ne:y≠x:=fun e=>hj (nodup_ix hN e1 (e ▸ hi))
        exact .inl ⟨k,by simp [ne,e]⟩
      · exact .inr ⟨k,c,e,z.sameBut hs (I.cne y c e)⟩
  · obtain ⟨w',z⟩:=I.cell y c e
    exact ⟨w',z.sameBut hs (I.cne y c e)⟩
  · obtain ⟨e,n,ne,nf,d⟩:=I.pin p hp
    exact ⟨(hs.2 p.1 ne).trans e,n,ne,nf,d⟩
  · refine (I.hok b ob e).stay (fun c w' hc q=>(hs.2 c ?_).trans q) (fun _ q=>q) fun _ _ q=>q
    intro z
    subst z
    rcases hc with z | z
    · rw [← z,I.free] at e;cases e
    · rw [I.free] at z;cases z
end
noncomputable def PEx (X:Cx) (e:Expr) (te:XK→TE):Prop :=
  ∀ (pins:List (Addr×Obj)) (s:Shared) (σ:St) (H:Hp) (Q:VK) (E:XK) (xe:Value→Shared→Prop),Inv X pins σ H s→te E σ H Q →
    (∀ H1 s1 e1 s',Inv X pins σ H1 s1→CXF X.prog X.w X.stack H1 s1 E e1 s'→xe e1 s')→wpAny (model X.prog X.w) X.A (eval e X.env) (EP X pins σ Q) xe s
section
variable {X:Cx} {k:Nat} {f C:Addr} {fd:FuncData} {ps:List Str} {sp:Sp} {dvs:List V} {ds:List Value} {x m:Str} {p pos apos:Pos} {e o:Expr} {es:List Expr} {ta:TE} {t:TA}
theorem run_fnX {pins:List (Addr×Obj)} {σ:St} {H:Hp} {s:Shared} {Q:VK} {E:XK} {xe:Value→Shared→Prop} {us:List Value} {vs:List V} (F:FnOk X.prog X.w X.K X.mg X.base (CXF X.prog X.w) k f fd ps sp) (hr:Room k X.A) (hb:Binds X.K fd ps [])
    (I:Inv X pins σ H s) (r:Vals vs us) (h:sp vs H Q E) (hx:∀ e1 s',CXF X.prog X.w X.stack H s E e1 s'→xe e1 s'):wpAny (model X.prog X.w) X.A (call (.ref f) us) (EP X pins σ Q) xe s:=by
  have hl:(us ++ []).length=ps.length:=by rw [List.append_nil,← r.length];exact F.len _ _ _ _ h
  have bt:=hb s us I.kIn hl
  rw [List.append_nil] at bt
  refine wpAny_call (codeAny_mono (F.run X.A X.stack s H ⟨us,[]⟩ us vs Q E hr I.env0 bt r h) fun res s' hq=>?_)
  cases res with
  | error e=>exact hx e s' hq
  | ok fl =>
    cases fl with
    | ret u=>exact I.after hq
    | next=>exact False.elim hq
    | brk=>exact False.elim hq
    | cont=>exact False.elim hq
theorem pex_call (F:FnOk X.prog X.w X.K X.mg X.base (CXF X.prog X.w) k f fd ps sp) (hr:Room k X.A) (hg:Gl X x) (hm:X.mg x=some (.ref f)) (hk:PySem.W.keepIn X.K (.ref f)=true) (hb:Binds X.K fd ps [])
    (ha:PA X.nox (e :: es) t) (hdb:(x == ("__debug__" : Str))=false:=by decide) (he:starEach (e :: es) X.env=(false,eval e X.env) :: starEach es X.env:=by rfl) (hpl:(backTo pos (starEach es X.env)).any (·.1)=false:=by rfl) :
    PEx X (.Call (.Name x p) (e :: es) [] pos) (fun E=>tCall sp [] E t):=by
  intro pins s σ H Q E xe I h hx
  refine wpAny_Call_Name_kw (ld_glob I hg hm ?_ hdb)
  refine PySem.W.callWith_K (h₀:=X.base) I.ok.mod.kin hk (wpAny_mono (ha pos pins s σ H _ (I.wish _) h) (fun us s1 ⟨vs,H1,I1,r,q⟩=>⟨I1.kIn,?_⟩) fun _ _ z=>z.elim) he hpl
  have q':sp (vs ++ []) H1 Q E:=q
  rw [List.append_nil] at q'
  exact run_fnX F hr hb I1.unwish r q' fun e1 s' z=>hx H1 s1 e1 s' I1.unwish z
end
noncomputable def tTry (te:XK→TE) (c0:Value) (j:Nat) (ts:TS):TS:=fun D σ H=>te (fun cls _ H2=>cls=c0∧∀ a,H2 a=none→ts { nx:=fun σ' H'=>D.nx (σ'.set j none) H',rt:=fun _ _=>False } (σ.set j (some (.ref a))) (upd H2 a (excO a c0))) σ H fun _ H2=>D.nx σ H2
theorem ps_try {X:Cx} {te:XK→TE} {ts:TS} {c c0:Value} {cx n:Str} {j:Nat} {e:Expr} {s0:Stmt} {suite:List Stmt} {p1 np hp tp:Pos} (he:PEx X e te) (hs:∀ a,PSs ((X.inx a).nox) (s0 :: suite) ts)
    (hst:X.stack=X.env :: X.outer) (hfr:X.env.frame=some X.env.locals) (hex:X.ex=[]) (hg:Gl X cx) (hm:X.mg cx=some c) (hmt:PySem.W.exmOne X.K c0 c=some true) (hN:X.N.Nodup) (hj:X.N[j]?=some n) (hn:X.env.scope.names.lookup n=some .local)
    (hdb:(cx == ("__debug__" : Str))=false:=by decide) (hsw:swapsWith e none p1.line X.env=pure false:=by rfl) :
    PS X (.Try [.Expr e p1] [.ExceptHandler (some (.Name cx np)) (some n) (s0 :: suite) hp] [] [] tp) (tTry te c0 j ts):=by
  intro pins s σ H D I h
  refine wpAny_Try_except (wpAny_execs_cons (wpAny_Expr_any (wpAny_mono (he pins s σ H _ _ _ I h fun H1 s1 e1 s' I1 z=>?_) (fun v s1 ⟨y,H1,I1,r1,q1⟩=>wpAny_execs_nil (wpAny_execs_nil ⟨σ,H1,I1,q1⟩)) fun _ _ z=>z) I.quiet hsw))
  obtain ⟨a,cls,H',B,e0,F,ec,q⟩:=z
  subst e0 ec
  obtain ⟨a0,fl⟩:=F.fl
  have fl':=fl
  rw [hst] at fl'
  have hA:X.A.frames=some (X.env :: X.outer):=by rw [I.ok.frames,hst]
  refine wpAny_looks_onW hA hfr fl' fun h4 held up4=>wpAny_landsW held fun h5 fl5 up5=>?_
  have I5:Inv X pins σ H' { s' with heap:=h5 }:=F.inv I1 fl5.1 (up4.trans up5)
  obtain ⟨ob,hob,hobc⟩:=fl5.there
  have LT:PySem.W.Looks (model X.prog X.w) h5 (typeOf (.ref a)) cls:=hobc ▸ (PySem.W.Looks.ld hob).andThen .now
  refine wpAny_handleBy_cons (codeAny_handlers_test (ld_glob (X:=X.inx a) (I5.inx a) hg hm ((PySem.W.exm_one I5.kIn LT hmt).here (codeAny_handlers_suite_as ?_)) hdb)) (by intro z;cases z)
  refine lands_againW fl5 fun h6 fl6 up6=>?_
  have I6:Inv X pins σ H' { s' with heap:=h6 }:=F.inv I1 fl6.1 ((up4.trans up5).trans up6)
  obtain ⟨oe,vs,hoe,hoc,hod,_⟩:=fl6.first
  have nL:a≠X.env.locals:=fun z=>by
    obtain ⟨_,⟨oL,_,_,e1,_⟩,_⟩:=I1.loc
    rw [← z,F.nw] at e1;cases e1
  have nC:∀ y c,X.env.cells.lookup y=some c→c≠a:=fun y c e1 z=>by
    obtain ⟨_,oc,e2,_⟩:=I1.cell y c e1
    rw [z,F.nw] at e2;cases e2
  have nP:∀ p∈X.pn ++ pins,p.1≠a:=fun p hp z=>by
    have e1:=(I1.pin p hp).1
    rw [z,F.nw] at e1;cases e1
  have I7:Inv X pins σ (upd H' a (excO a cls)) { s' with heap:=h6 }:=I6.adoptE F.fr (I1.newer hex F.nw) nL nC nP ⟨⟨oe,hoe,hoc,vs,hod⟩,⟨oe,hoe⟩,fun g1 g2 ⟨o,e1,r⟩ kp=>⟨o,kp o e1,r⟩⟩
  refine store_ok I7 hN hj (.inl hn) (v:=.ref a) (u:=.ref a) rfl (fun s8 I8=>?_) (.inr hn)
  refine wpAny_mono (hs a pins s8 _ _ _ (I8.inx a |>.wish _) (q a F.fr)) (fun fl9 s9 z=>?_) fun _ _ z=>z.elim
  cases fl9 with
  | next =>
    obtain ⟨σ',H9,I9,q9⟩:=z
    exact gone_ok (I9.back I.ok) hN hj hn fun s10 I10=>⟨_,_,I10,q9⟩
  | ret v=>obtain ⟨_,_,_,_,_,z⟩:=z;exact z.elim
  | brk=>obtain ⟨_,_,_,z⟩:=z;exact z.elim
  | cont=>obtain ⟨_,_,_,z⟩:=z;exact z.elim
end L2
namespace L2
open PySem PySem.Spec PyProof.Rows
noncomputable def gadr (K:PySem.W.Frag) (x:Str):Addr:=match PySem.W.nsIn K mainGlobals x with
  | some (some (.ref C))=>C
  | _=>0
theorem gadr_of {K:PySem.W.Frag} {x:Str} {C:Addr} (h:PySem.W.nsIn K mainGlobals x=some (some (.ref C))):gadr K x=C:=by unfold gadr;rw [h]
noncomputable def ExcAt (a C:Addr) (h:Heap):Prop:=∃ o,h.get? a=some o∧o.cls=.ref C∧∃ vs,o.data=.fields vs
noncomputable def KX (K:PySem.W.Frag) (C:Addr):Prop:=∀ a,PySem.W.KitX K (.ref a) (.ref C) (ExcAt a C)
noncomputable def isE (K:PySem.W.Frag) (C:Addr) (H:Hp) (y:V) (b:Bool):Prop :=
  (∃ D,y=.ref D∧PySem.W.kitOne K (.ref C) (.ref D)=some b)∨(∃ T,y=.ty T∧PySem.W.kitOne K (.ref C) (.type T)=some b)∨(∃ p Ds,y=.ref p∧H p=some (.tup (List.map V.ref Ds))∧PySem.W.kitAny K (.ref C) (List.map Value.ref Ds)=some b)
noncomputable def cIsE (K:PySem.W.Frag):List V→Hp→VK→Prop:=fun xs H Q=>∃ a C y b,xs=[.ref a,y]∧H a=some (excO a (.ref C))∧KX K C∧isE K C H y b∧Q (.bl b) H
structure XT (K:PySem.W.Frag) (R:Str) (others:List Str):Prop where
  any:PySem.W.kitAny K (.ref (gadr K R)) (others.map fun x=>.ref (gadr K x))=some false
  val:PySem.W.kitOne K (.ref (gadr K R)) (.type "ValueError")=some true
  kx:KX K (gadr K R)
theorem XT.own {K:PySem.W.Frag} {R:Str} {others:List Str} (_:XT K R others):PySem.W.kitOne K (.ref (gadr K R)) (.ref (gadr K R))=some true:=by
  unfold PySem.W.kitOne;rw [if_pos (by simp)]
section
variable {X:Cx}
theorem ExcAt.of {pins:List (Addr×Obj)} {σ:St} {H:Hp} {s:Shared} {a C:Addr} (I:Inv X pins σ H s) (h:H a=some (excO a (.ref C))):ExcAt a C s.heap:=(I.hok a _ h).1
theorem tup_of {pins:List (Addr×Obj)} {σ:St} {H:Hp} {s:Shared} {p:Addr} {Ds:List Addr} (I:Inv X pins σ H s) (h:H p=some (.tup (List.map V.ref Ds))):∃ o n,s.heap.get? p=some o∧o.cls=.type "tuple" ∧ o.data=.seq (List.map Value.ref Ds).toArray n:=by
  obtain ⟨_,its,r,o,e,c,n,d⟩:=I.hok p _ h
  have key:∀ (Ds:List Addr) (its:List Value),Vals (List.map V.ref Ds) its→its=List.map Value.ref Ds:=by
    intro Ds
    induction Ds with
    | nil=>intro its r;cases r;rfl
    | cons D r' ih =>
      intro its r
      cases r with
      | cons q t =>
        have q':_=Value.ref D:=q
        rw [q',ih _ t];rfl
  have:=key Ds its r
  subst this
  exact ⟨o,n,e,c,d⟩
theorem call_isE:CallR X (.builtin "isinstance") (cIsE X.K):=by
  intro pins s σ H xs us Q I r h
  obtain ⟨a,C,y,b,rfl,hH,kx,hb,q⟩:=h
  obtain ⟨u,c,rfl,ru,rc⟩:=vals2 r
  obtain rfl:u=Value.ref a:=ru
  have at_:=ExcAt.of I hH
  have fin:∀ tk,EP X pins σ Q (.bool b) { s with toks:=tk }:=fun tk=>⟨.bl b,H,I.tok _,rfl,q⟩
  rcases hb with ⟨D,rfl,e⟩ | ⟨T,rfl,e⟩ | ⟨p,Ds,rfl,hp,e⟩
  · obtain rfl:c=Value.ref D:=rc
    exact PySem.W.kia_one (kx a) I.kIn at_ e (fun z=>nomatch z) fin
  · obtain rfl:c=Value.type T:=rc
    exact PySem.W.kia_one (kx a) I.kIn at_ e (fun z=>nomatch z) fin
  · obtain rfl:c=Value.ref p:=rc
    obtain ⟨⟨oc,od,dt,sl⟩,n,e1,e2,e3⟩:=tup_of I hp
    dsimp only at e2 e3
    subst e2 e3
    exact PySem.W.kia_tup (kx a) I.kIn at_ e1 e (fun z=>nomatch z) fin
end
theorem sub_of {K:PySem.W.Frag} {M:Model} {h:Heap} {a C:Addr} {T:Value} {b:Bool} (X:K.In h) (at_:ExcAt a C h) (e:PySem.W.mroIn K C T=some b):PySem.W.Looks M h (isInstance (.ref a) T) b:=by
  obtain ⟨o,e1,e2,_⟩:=at_
  have L0:PySem.W.Looks M h (typeOf (.ref a)) (.ref C):=e2 ▸ (PySem.W.Looks.ld e1).andThen .now
  exact L0.andThen (PySem.W.looks_mroIn X e)
section
open PySem.W Builtin Builtin.ObjectAttr Builtin.Getset_descriptor
theorem exc_classget {prog:Program} {w:World} {A:Around} {s:Shared} {K:Frag} {x C:Addr} {R:Result→Shared→Prop} {tp:Value} (X:K.In s.heap) (at_:ExcAt x C s.heap) (hm:mroIn K C (.type "object")=some true) (h:R (.ok (.ret (.ref C))) s) :
    codeAny (model prog w) A (.call (.builtin "getset_descriptor.__get__") ⟨[.builtin "object.__class__",.ref x,tp],[]⟩) R s:=by
  obtain ⟨o,e1,e2,vs,e3⟩:=at_
  obtain ⟨hh,g,dr,t,os⟩:=s
  have L0:Looks (model prog w) hh (typeOf (.ref x)) (.ref C):=e2 ▸ (Looks.ld e1).andThen .now
  have L1:=looks_mroIn (M:=model prog w) X hm
  refine codeAny_call_builtin KF.slot_gs.plain KF.entry_gs (KF.slot_gs.check _ _ _ _ _ _ _ _ KF.type_class (KF.args_gs _ _ _) ?_)
  unfold Builtin.«getset_descriptor.__get__» descrGet;rw [dga_obj]
  refine wpAny_bind (wpAny_pure ?_)
  unfold descrGetter descrCheckInstance descrNameAndClass isInstance;simp only [KF.owner_class]
  repeat lk
  refine ⟨Code.quiet_builtin _ (by decide +kernel),codeAny_builtin KF.entry_class ?_⟩;unfold Builtin.«object.__class__» shownTypeOf
  repeat lk
  exact h
theorem exc_class {prog:Program} {w:World} {A:Around} {E:Value→Shared→Prop} {s:Shared} {K:Frag} {x C:Addr} {Q:Option Value→Shared→Prop}
    (hga:findIn K (.ref C) "__getattribute__" = some (some (.builtin "BaseException.__getattribute__"))) (hgh:findIn K (.ref C) "__getattr__" = some none) (hcl:findIn K (.ref C) "__class__" = some (some (.builtin "object.__class__")))
    (hn:specialIn K (.builtin "object.__class__") "__get__" = some (some (.builtin "getset_descriptor.__get__"))) (htk:takesIn K (.builtin "object.__class__")=some true) (hm:mroIn K C (.type "object")=some true) (hb:mroIn K C (.type "BaseException")=some true)
    (X:K.In s.heap) (at_:ExcAt x C s.heap) (h:Q (some (.ref C)) { s with toks:=s.toks+1 }):wpAny (model prog w) A (getAttr? (.ref x) "__class__") Q E s:=by
  obtain ⟨o,e1,e2,vs,e3⟩:=id at_
  obtain ⟨hh,g,dr,t,os⟩:=s
  have L0:Looks (model prog w) hh (typeOf (.ref x)) (.ref C):=e2 ▸ (Looks.ld e1).andThen .now
  have L1:=looks_findIn (M:=model prog w) X hga
  have L2:=looks_findIn (M:=model prog w) X hgh
  have L3:=looks_findIn (M:=model prog w) X hcl
  have L4:=looks_specialIn (M:=model prog w) X hn
  have L5:=looks_takesIn (M:=model prog w) X htk
  have L6:Looks (model prog w) hh (isInstance (.ref x) (.type "BaseException")) true:=sub_of X at_ hb
  have LD:Looks (model prog w) hh (dataDescriptor? (some (.builtin "object.__class__")) (some (.builtin "getset_descriptor.__get__"))) (some (.builtin "getset_descriptor.__get__",.builtin "object.__class__")):=L5.andThen .now
  have LF:Looks (model prog w) hh (find (.ref x) (.ref C) "__class__") (.bind (.builtin "getset_descriptor.__get__") (.builtin "object.__class__")):=L3.andThen (L4.andThen (LD.andThen (Looks.tag .now)))
  have bnd:=PySem.F.attr_ValueError.ga.bind (.ref x)
  have hne:(Value.builtin "BaseException.__getattribute__" == Value.builtin "object.__getattribute__")=false:=by decide +kernel
  have hk:builtinKind "BaseException.__getattribute__" = some .slot:=by decide +kernel
  have hsp:splitId "BaseException.__getattribute__" = some ("BaseException", "__getattribute__"):=by decide +kernel
  unfold getAttr? getAttrBy? getAttrBy
  refine wpAny_bind (wpAny_mkText (wpAny_bind (wpAny_attempt (wpAny_holding (wpAny_bind (L0.at (wpAny_bind (L1.at ?_))))))))
  dsimp only
  rw [hne,Bool.and_false,if_neg Bool.false_ne_true]
  unfold getAttrByItsOwn hookBefore
  rw [if_pos (show onTheHeap (Value.ref C)=true from rfl)]
  refine wpAny_bind (L2.at (wpAny_bind (wpAny_attempt (wpAny_holding ?_))))
  unfold callGetattribute boundAndCalled
  rw [Bool.false_and,if_neg Bool.false_ne_true,bnd]
  refine wpAny_bind (wpAny_pure (wpAny_call (codeAny_call_builtin PySem.F.attr_ValueError.ga.plain PySem.F.entry_bexc_ga ?_)))
  have ha:=PySem.F.args_bexc_ga (.ref x) (.str "__class__" t)
  show wpAny _ _ (checkBuiltinCall _ ⟨[.ref x,.str "__class__" t],[]⟩) _ _ _
  simp only [checkBuiltinCall,hk,hsp]
  refine wpAny_bind (L6.at ?_)
  repeat (first | lk | wp_step)
  show wpAny _ _ (run (.call (.builtin "getset_descriptor.__get__") ⟨[.builtin "object.__class__",.ref x,.ref C],[]⟩) none) _ _ _
  refine wpAny_run (exc_classget X at_ hm ?_)
  repeat (first | lk | wp_step)
  exact h
end
theorem kitx_exc {K:PySem.W.Frag} {a C:Addr} (hga:PySem.W.findIn K (.ref C) "__getattribute__" = some (some (.builtin "BaseException.__getattribute__"))) (hgh:PySem.W.findIn K (.ref C) "__getattr__" = some none) (hcl:PySem.W.findIn K (.ref C) "__class__" = some (some (.builtin "object.__class__")))
    (hn:PySem.W.specialIn K (.builtin "object.__class__") "__get__" = some (some (.builtin "getset_descriptor.__get__"))) (htk:PySem.W.takesIn K (.builtin "object.__class__")=some true) (hm:PySem.W.mroIn K C (.type "object")=some true) (hb:PySem.W.mroIn K C (.type "BaseException")=some true) :
    PySem.W.KitX K (.ref a) (.ref C) (ExcAt a C):=by
  obtain ⟨cd,hc,_⟩:=Option.bind_eq_some_iff.mp hm
  have key:∃ c d sl,K.lookup C=some ⟨c,d,.cls cd,sl⟩:=by
    unfold PySem.W.clsIn at hc
    split at hc
    · rename_i c' d' cd' sl' ho
      have:=Option.some.inj hc
      subst this
      exact ⟨_,_,_,ho⟩
    · cases hc
  obtain ⟨c,d,sl,ho⟩:=key
  refine ⟨fun M h X p=>?_,fun M h X p=>?_,fun h tp dd its n sl' X e=>?_,fun X p q=>exc_class hga hgh hcl hn htk hm hb X p q⟩
  · obtain ⟨o,e1,e2,_⟩:=p
    exact e2 ▸ (PySem.W.Looks.ld e1).andThen .now
  · intro A' Q' E' s' k q
    unfold isType loadHead
    exact wpAny_bind (wpAny_loadPart (k _ _ (X _ _ ho)) (wpAny_pure q))
  · refine Bool.eq_false_iff.mpr fun q=>?_
    have z:C=tp:=Value.ref.inj (beq_iff_eq.mp q)
    subst z
    cases (X _ _ ho).symm.trans e
end L2
namespace L2
theorem bt_ValueError:PySem.bootBuiltins "ValueError" = some (.type "ValueError"):=by decide +kernel
end L2
namespace L2
open PySem PySem.Spec PyProof.Rows
noncomputable def REq (K:PySem.W.Frag) (H:Hp) (D:V→V→Bool→Prop) (x y:V) (b:Bool):Prop:=∃ a c xs ys,x=.ref a∧y=.ref c ∧
  ((SqL K H a xs∧SqL K H c ys∧((xs.length≠ys.length∧b=false)∨(xs.length=ys.length∧∃ e:Nat→Bool,(∀ (j:Nat) x' y',xs[j]?=some x'→ys[j]?=some y'→D x' y' (e j))∧b=(List.range xs.length).all e))) ∨
   (SqT K H a xs∧SqT K H c ys∧∃ e:Nat→Bool,(∀ (j:Nat) x' y',xs[j]?=some x'→ys[j]?=some y'→D x' y' (e j))∧b=((List.range (min xs.length ys.length)).all e && xs.length == ys.length)))
noncomputable def DEq (K:PySem.W.Frag) (H:Hp):Nat→V→V→Bool→Prop
  | 0,x,y,b=>(x=y∧(∃ a,x=.ref a)∧b=true)∨∃ i j,x=.int i∧y=.int j∧b=(i == j)
  | n+1,x,y,b=>((x=y∧(∃ a,x=.ref a)∧b=true)∨∃ i j,x=.int i∧y=.int j∧b=(i == j))∨(x≠y∧REq K H (DEq K H n) x y b)
noncomputable def rEqD (K:PySem.W.Frag) (n:Nat):R2:=fun x y H Q=>∃ b,REq K H (DEq K H n) x y b∧Q (.bl b) H
noncomputable def rNeD (K:PySem.W.Frag) (n:Nat):R2:=fun x y H Q=>∃ b,REq K H (DEq K H n) x y b∧Q (.bl (!b)) H
theorem Vals.ix {xs:List V} {us:List Value} (r:Vals xs us) {j:Nat} (h:j < us.toArray.size):∃ x,xs[j]?=some x∧RelV x us.toArray[j]:=by
  have hl:=r.length
  have h1:j < us.length:=by simpa using h
  have h2:j < xs.length:=by omega
  obtain ⟨u,e,q⟩:=r.get (i:=j) (x:=xs[j]) (List.getElem?_eq_getElem h2)
  refine ⟨xs[j],List.getElem?_eq_getElem h2,?_⟩
  have e2:us.toArray[j]=u:=by
    obtain ⟨_,z⟩:=List.getElem?_eq_some_iff.mp e
    simpa using z
  rw [e2];exact q
section
variable {X:Cx} {pins:List (Addr×Obj)} {σ:St} {H:Hp} {s:Shared}
theorem rc_of {A:Around} {D:V→V→Bool→Prop} (I:Inv X pins σ H s) (hu:A.units < cLine) (hD:∀ x y u v b,RelV x u→RelV y v→D x y b→SeqAt.EqAt A.in1 s u v b) {x y:V} {u v:Value} {b:Bool} (rx:RelV x u) (ry:RelV y v) (h:REq X.K H D x y b):SeqAt.RcAt A s u v b:=by
  obtain ⟨a,c,xs,ys,rfl,rfl,h⟩:=h
  cases rx
  cases ry
  rcases h with ⟨ha,hc,h⟩ | ⟨ha,hc,e,he,rfl⟩
  · obtain ⟨i1,r1,p1,_⟩:=I.list ha
    obtain ⟨i2,r2,p2,_⟩:=I.list hc
    have l1:=r1.length
    have l2:=r2.length
    rcases h with ⟨hn,rfl⟩ | ⟨hl,e,he,rfl⟩
    · exact SeqAt.RcAt.lists_lengths p1.isList p2.isList (by rw [List.size_toArray,List.size_toArray];simp;omega) hu
    · have q:=SeqAt.RcAt.lists (e:=e) p1.isList p2.isList (by rw [List.size_toArray,List.size_toArray];omega) hu fun j h1 h2=>by
        obtain ⟨x',ex,rx'⟩:=r1.ix h1
        obtain ⟨y',ey,ry'⟩:=r2.ix h2
        exact hD _ _ _ _ _ rx' ry' (he j x' y' ex ey)
      rw [List.size_toArray,← l1] at q
      exact q
  · obtain ⟨i1,r1,p1,_⟩:=I.tuple ha
    obtain ⟨i2,r2,p2,_⟩:=I.tuple hc
    have l1:=r1.length
    have l2:=r2.length
    have q:=SeqAt.RcAt.tuples (e:=e) p1 p2 hu fun j h1 h2=>by
      obtain ⟨x',ex,rx'⟩:=r1.ix h1
      obtain ⟨y',ey,ry'⟩:=r2.ix h2
      exact hD _ _ _ _ _ rx' ry' (he j x' y' ex ey)
    rw [List.size_toArray,List.size_toArray,← l1,← l2] at q
    exact q
theorem eq_leaf {A:Around} {x y:V} {u v:Value} {b:Bool} (rx:RelV x u) (ry:RelV y v) (h:(x=y∧(∃ a,x=.ref a)∧b=true)∨∃ i j,x=.int i∧y=.int j∧b=(i == j)):SeqAt.EqAt A s u v b:=by
  rcases h with ⟨rfl,⟨a,rfl⟩,rfl⟩ | ⟨i,j,rfl,rfl,rfl⟩
  · cases rx
    cases ry
    exact SeqAt.EqAt.same _
  · exact eqAt_ints rx ry
theorem eq_of_deq (I:Inv X pins σ H s):∀ (n:Nat) (A:Around),A.units+n < cLine→∀ x y u v b,RelV x u→RelV y v→DEq X.K H n x y b→SeqAt.EqAt A s u v b
  | 0,_,_,_,_,_,_,_,rx,ry,h=>eq_leaf rx ry h
  | n+1,A,hu,x,y,u,v,b,rx,ry,h=>by
    rcases h with h | ⟨hne,h⟩
    · exact eq_leaf rx ry h
    · have q:=rc_of I (A:=A) (by omega) (fun x y u v b rx ry d=>eq_of_deq I n A.in1 (by show A.units+1+n < cLine;omega) x y u v b rx ry d) rx ry h
      obtain ⟨a,c,xs,ys,rfl,rfl,_⟩:=h
      cases rx
      cases ry
      exact SeqAt.EqAt.of_refs (fun z=>hne (by rw [z])) q
end
section
variable {X:Cx}
theorem op_eqD (n:Nat) (hu:X.A.units+(n+1) < cLine):OpR X (compareOp .Eq) (rEqD X.K n):=by
  intro pins s σ H x y v u Q I rx ry h
  obtain ⟨b,h,q⟩:=h
  exact rc_of I (A:=X.A) (by omega) (eq_of_deq I n X.A.in1 (by show X.A.units+1+n < cLine;omega)) rx ry h _ _ _ _ ⟨.bl b,H,I,rfl,q⟩
theorem op_neD (n:Nat) (hu:X.A.units+(n+1) < cLine):OpR X (compareOp .NotEq) (rNeD X.K n):=by
  intro pins s σ H x y v u Q I rx ry h
  obtain ⟨b,⟨a,c,xs,ys,rfl,rfl,h⟩,q⟩:=h
  cases rx
  cases ry
  have hD:=eq_of_deq I n X.A.in1 (by show X.A.units+1+n < cLine;omega)
  have hu':X.A.units < cLine:=by omega
  have fin:EP X pins σ Q (.bool (!b)) s:=⟨.bl (!b),H,I,rfl,q⟩
  rcases h with ⟨ha,hc,h⟩ | ⟨ha,hc,e,he,rfl⟩
  · obtain ⟨i1,r1,p1,_⟩:=I.list ha
    obtain ⟨i2,r2,p2,_⟩:=I.list hc
    have l1:=r1.length
    have l2:=r2.length
    rcases h with ⟨hn,rfl⟩ | ⟨hl,e,he,rfl⟩
    · exact SeqAt.RcNeAt.lists_lengths p1.isList p2.isList (by rw [List.size_toArray,List.size_toArray];simp;omega) hu' _ _ _ _ fin
    · have z:=SeqAt.RcNeAt.lists (A:=X.A) (e:=e) p1.isList p2.isList (by rw [List.size_toArray,List.size_toArray];omega) hu' fun j h1 h2=>by
        obtain ⟨x',ex,rx'⟩:=r1.ix h1
        obtain ⟨y',ey,ry'⟩:=r2.ix h2
        exact hD _ _ _ _ _ rx' ry' (he j x' y' ex ey)
      rw [List.size_toArray,← l1] at z
      exact z _ _ _ _ fin
  · obtain ⟨i1,r1,p1,_⟩:=I.tuple ha
    obtain ⟨i2,r2,p2,_⟩:=I.tuple hc
    have l1:=r1.length
    have l2:=r2.length
    have z:=SeqAt.RcNeAt.tuples (A:=X.A) (e:=e) p1 p2 hu' fun j h1 h2=>by
      obtain ⟨x',ex,rx'⟩:=r1.ix h1
      obtain ⟨y',ey,ry'⟩:=r2.ix h2
      exact hD _ _ _ _ _ rx' ry' (he j x' y' ex ey)
    rw [List.size_toArray,List.size_toArray,← l1,← l2] at z
    exact z _ _ _ _ fin
end
theorem REq.ints {K:PySem.W.Frag} {H:Hp} {n:Nat} {a c:Addr} {ns ms:List Int} (h1:SqL K H a (List.map V.int ns)) (h2:SqL K H c (List.map V.int ms)):REq K H (DEq K H n) (.ref a) (.ref c) (decide (ns=ms)):=by
  refine ⟨a,c,_,_,rfl,rfl,.inl ⟨h1,h2,?_⟩⟩
  by_cases hl:ns.length=ms.length
  · refine .inr ⟨by simp [hl],fun j=>ns.getD j 0 == ms.getD j 0,fun j x y ex ey=>?_,?_⟩
    · rw [List.getElem?_map] at ex ey
      cases e1:ns[j]? with
      | none=>rw [e1] at ex;cases ex
      | some i1 =>
        cases e2:ms[j]? with
        | none=>rw [e2] at ey;cases ey
        | some i2 =>
          rw [e1] at ex
          rw [e2] at ey
          have x1:=Option.some.inj ex
          have y1:=Option.some.inj ey
          have leaf:(x=y∧(∃ a,x=V.ref a)∧(ns.getD j 0 == ms.getD j 0)=true)∨∃ i k,x=V.int i∧y=V.int k∧(ns.getD j 0 == ms.getD j 0)=(i == k):=.inr ⟨i1,i2,x1.symm,y1.symm,by rw [List.getD_eq_getElem?_getD,List.getD_eq_getElem?_getD,e1,e2];rfl⟩
          cases n with
          | zero=>exact leaf
          | succ n=>exact .inl leaf
    · have:=all_eq_ints ns ms
      rw [List.length_map,← this,hl,Nat.min_self]
      simp
  · exact .inl ⟨by simpa using hl,decide_eq_false fun z=>hl (by rw [z])⟩
noncomputable def rCatA:R2:=fun x y H Q=>∃ a b xs ys,x=.ref a∧y=.ref b∧H a=some (.tup xs)∧H b=some (.tup ys)∧xs.length+ys.length≤sizeLine∧∀ p H',Same H H'→H' p=some (.tup (xs ++ ys))→Q (.ref p) H'
noncomputable def rSlA:V→Option Int→Option Int→Hp→VK→Prop:=fun x lo hi H Q=>∃ a xs,x=.ref a∧H a=some (.tup xs)∧∀ p H',Same H H'→H' p=some (.tup (cutV xs lo hi))→Q (.ref p) H'
section
variable {X:Cx}
theorem op_catA:OpR X (binaryOp .Add) rCatA:=by
  intro pins s σ H x y v u Q I rx ry h
  obtain ⟨a,b,xs,ys,rfl,rfl,ha,hb,hz,q⟩:=h
  by_cases hx:xs=[]
  · subst hx
    cases rx
    cases ry
    obtain ⟨i1,r1,p1,_⟩:=I.tuple (SqT.of ha)
    obtain ⟨i2,r2,p2,_⟩:=I.tuple (SqT.of hb)
    have e1:i1=[]:=by cases r1;rfl
    subst e1
    obtain ⟨⟨cls,dd,data,sl⟩,ho,hc,n,hd⟩:=id p1
    obtain ⟨⟨cls2,dd2,data2,sl2⟩,ho2,hc2,n2,hd2⟩:=id p2
    simp only at hc hd hc2 hd2
    subst hc hd hc2 hd2
    exact concat_meets ⟨_,ho,rfl⟩ ⟨_,ho2,rfl⟩ noFill_tuple_add seq_tuple_add PySem.F.slot_tuple_add PySem.F.entry_tuple_add (PySem.F.args_tuple_add_2 _ _) (tuple_addW0 a b _ _ n n2 dd dd2 sl sl2 (by simp)) ⟨ho,ho2,⟨.ref b,H,I,rfl,q b H (Same.refl H) hb⟩⟩
  · refine op_catT pins s σ H _ _ v u Q I rx ry ⟨a,b,xs,ys,rfl,rfl,SqT.of ha,SqT.of hb,hx,hz,fun e=>?_,fun _ p hp=>q p _ (Same.upd hp) upd_same⟩
    subst e
    exact q a H (Same.refl H) (by rw [List.append_nil];exact ha)
end
end L2
namespace L2
open PySem PySem.Spec PyProof.Rows
section
variable {prog:Program} {w:World} {A:Around} {E:Value→Shared→Prop} {s:Shared}
open HT in
theorem slice_whole {t sl:Addr} {items:Array Value} {vl vu:Value} {lo hi:Option Int} {Q:Value→Shared→Prop} (ht:IsTup s.heap t items) (hs:s.heap.IsSliceOf sl vl vu .none) (pl:IsPart vl lo) (pu:IsPart vu hi)
    (hw:sIx items.size 0 lo=0∧sIx items.size items.size hi=items.size) (h:Q (.ref t) s):wpAny (model prog w) A (getItem (.ref t) (.ref sl)) Q E s:=by
  obtain ⟨os,hos,hcs,hds⟩:=id hs
  have hTs:s.TypeIs (.ref sl) "slice":=⟨os,hos,hcs⟩
  unfold getItem
  try with_reducible refine wpAny_holding ?_
  first | refine wpAny_bind (wpAny_pure ?_) | skip
  refine wpAny_bind (wpAny_sequenceKey ht.typeIs (by decide) ?_)
  refine wpAny_bind (wpAny_callSpecial?_slot (name:=Str.ofString "__getitem__") ht.typeIs PyProof.Rows.slot_tuple_getitem
    (wpAny_call_entry PyProof.Rows.slot_tuple_getitem ht.typeIs entry_tuple_getitem ?_ (args_tuple_getitem _ _)))
  show wpAny _ _ (Builtin.Tuple.tupleItemsOf (.ref t) >>= _) _ _ s
  refine wpAny_bind (tupleItemsOf_ ht ?_)
  refine wpAny_bind (wpAny_typeOf hTs ?_)
  rw [if_pos (by decide)]
  refine wpAny_bind (sliceApplied_gen hs pl pu ?_)
  have yes:((((sIx items.size 0 lo:Nat):Int) == 0 && (1:Int) == 1 && (sIx items.size items.size hi - sIx items.size 0 lo) == items.size)=true):=by
    rw [hw.1,hw.2];simp
  show wpAny _ _ (if (((sIx items.size 0 lo:Nat):Int) == 0 && (1:Int) == 1 && (sIx items.size items.size hi - sIx items.size 0 lo) == items.size)=true then _ else _) _ _ s
  rw [if_pos yes]
  unfold Builtin.Tuple.tupleIsExact
  refine wpAny_bind (wpAny_bind (wpAny_typeOf ht.typeIs (wpAny_pure ?_)))
  rw [if_pos (by decide)]
  first
    | exact wpAny_bind (wpAny_rule (wpAny_pure ⟨_,rfl,wpAny_pure h⟩))
    | exact wpAny_bind (wpAny_rule (wpAny_bind (wpAny_pure (wpAny_pure ⟨_,rfl,wpAny_pure h⟩))))
    | exact wpAny_bind (wpAny_rule (wpAny_pure h))
end
section
variable {X:Cx}
theorem cutV_whole {xs:List V} {lo hi:Option Int} (h:HT.sIx xs.length 0 lo=0∧HT.sIx xs.length xs.length hi=xs.length):cutV xs lo hi=xs:=by
  unfold cutV
  rw [h.1,h.2,List.drop_zero,Nat.sub_zero,List.take_length]
theorem sl_tupA:SlR X rSlA:=by
  intro pins s σ H x v vl vu lo hi sl Q I rx hs pl pu h
  obtain ⟨a,xs,rfl,hx,q⟩:=h
  by_cases hw:HT.sIx xs.length 0 lo=0∧HT.sIx xs.length xs.length hi=xs.length
  · cases rx
    obtain ⟨its,r,ht,hz⟩:=I.tuple (SqT.of hx)
    have hlen:its.toArray.size=xs.length:=by rw [List.size_toArray];exact r.length.symm
    refine ⟨"tuple",_,PyProof.Rows.slot_tuple_getitem.lookup,ht.typeIs,?_⟩
    exact slice_whole ht hs pl pu (by rw [hlen];exact hw) ⟨.ref a,H,I,rfl,q a H (Same.refl H) (by rw [cutV_whole hw];exact hx)⟩
  · exact sl_tup pins s σ H _ v vl vu lo hi sl Q I rx hs pl pu ⟨a,xs,rfl,SqT.of hx,hw,fun p hp=>q p _ (Same.upd hp) upd_same⟩
end
section
variable {X:Cx}
end
end L2
namespace L2
open PySem PySem.Spec PyProof.Rows
section
variable {X:Cx} {scope:Scope} {x:Str} {ys:List Str} {caps:List Nat}
theorem CompSt.cells {pins:List (Addr×Obj)} {σ:St} {H:Hp} {s:Shared} (S:CompSt X.env.scope scope X.N x ys caps) (I:Inv X pins σ H s):∀ p∈scope.names,p.2=.free→∃ c,X.env.cells.lookup p.1=some c:=fun p hp hf =>
  I.ok.has p.1 (.inl (S.fr p hp hf))
theorem CompSt.sub {pins:List (Addr×Obj)} {σ:St} {H:Hp} {s:Shared} (S:CompSt X.env.scope scope X.N x ys caps) (I:Inv X pins σ H s) {y:Str} {c:Addr} (e:(clsOf X scope).lookup y=some c):X.env.cells.lookup y=some c :=
  closOf_all (S.cells I) (fun p hp=>absurd hp (by simp)) (y,c) (PySem.mem_of_lookup e)
theorem Inv.enter {pins:List (Addr×Obj)} {σ:St} {H:Hp} {s:Shared} {h₁:Heap} {ex:List Addr} {tk:Nat} {pl:List (Addr×Obj)} (S:CompSt X.env.scope scope X.N x ys caps) (hcalm:X.calm=true) (I:Inv X pins σ H s)
    (hn:h₁.Ns s.heap.objs.size (fun _=>none)) (keep:∀ b o,s.heap.get? b=some o→h₁.get? b=some o)
    (hex:∀ b∈ex,b < s.heap.objs.size∧b∉frs X.stack∧(∀ y c,X.env.cells.lookup y=some c→c≠b)∧X.base.get? b=none)
    (hpl:∀ p∈pl,s.heap.get? p.1=some p.2∧H p.1=none∧p.1∉frs X.stack∧∀ v,p.2.data≠.cell v) :
    Inv (cxComp X scope (x :: ys) s H ex (X.pn ++ pins)) pl (none :: caught σ caps) H { s with heap:=h₁,toks:=tk }:=by
  have hL:s.heap.objs.size≠X.env.locals:=Nat.ne_of_gt I.lt
  have hCn:∀ b o,s.heap.get? b=some o→b≠s.heap.objs.size:=fun b o e=>Nat.ne_of_lt (Heap.lt_size e)
  have cellLt:∀ y c,X.env.cells.lookup y=some c→c < s.heap.objs.size:=fun y c e=>by
    obtain ⟨v,z⟩:=I.cell y c e
    exact z.lt
  have cellUp:∀ {c:Addr} {v:Option Value},s.heap.IsCell c v→h₁.IsCell c v:=fun {c v} ⟨o,ho,hd⟩=>⟨o,keep c o ho,hd⟩
  refine ⟨⟨I.ok.mod,S.kind,I.ok.glob,I.ok.blt,Nat.le_refl _,fun y z c h1 h2=>I.ok.inj y z c (S.sub I h1) (S.sub I h2),fun y hy=>?_,fun y c hf _=>?_,fun _=>I.ok.hd hcalm,I.ok.frames,.inl rfl,fun b hb=>?_,I.bs,Nat.le_trans I.ok.bsz I.sz,fun b o e hb=>?_,fun b hb=>(hex b hb).2.1,I.stack,I.stkFree⟩,
    rfl,I.bare,Un.kept keep,⟨_,hn,fun i y v e1 e2 e3=>?_⟩,fun y c e=>?_,I.hok.fresh (Nat.le_refl _),fun y c e=>I.freeC y c (S.sub I e),fun p hp=>?_,I.hok.kept keep,?_⟩
  · have hy':(y,NameKind.free)∈scope.names:=relabel_of (env:=X.env) S.ncell (by
      rcases hy with hy | hy
      · exact ⟨_,hy,.inl rfl⟩
      · exact ⟨_,hy,.inr rfl⟩)
    exact lookup_of_key (closOf_has hy')
  · exact absurd (show false=true from hf) Bool.false_ne_true
  · exact ⟨Nat.ne_of_lt (hex b hb).1,fun y c e=>(hex b hb).2.2.1 y c (S.sub I e)⟩
  · have z:=(hex b hb).2.2.2
    have e':X.base.get? b=some o:=e
    rw [z] at e';cases e'
  · cases i with
    | zero=>cases e2
    | succ i =>
      have e1':(x :: ys)[i+1]?=some y:=e1
      have e1:ys[i]?=some y:=by simpa using e1'
      have e2:(caught σ caps)[i]?=some (some v):=by simpa using e2
      obtain ⟨j,hj,hv⟩:∃ j,caps[i]?=some j∧σ[j]?=some (some v):=by
        unfold caught at e2
        rw [List.getElem?_map] at e2
        cases q:caps[i]? with
        | none=>rw [q] at e2;cases e2
        | some j =>
          rw [q] at e2
          have e3:(σ[j]?).join=some v:=Option.some.inj e2
          cases q2:σ[j]? with
          | none=>rw [q2] at e3;cases e3
          | some w'=>rw [q2] at e3;exact ⟨j,rfl,by rw [show w'=some v from e3] at q2;exact q2⟩
      have hz:(y,j)∈ys.zip caps:=List.mem_of_getElem? (i:=i) (by rw [List.getElem?_zip_eq_some];exact ⟨e1,hj⟩)
      obtain ⟨hN,hf⟩:=S.cap (y,j) hz
      have hcellX:X.env.kindOf y=some .cell:=S.fr (y,.free) (PySem.mem_of_lookup hf) rfl
      obtain ⟨m,hm,hl⟩:=I.loc
      obtain ⟨u,r,l⟩:=hl j y v hN hv (.inr (.inl hcellX))
      refine ⟨u,r,?_⟩
      rcases l with ⟨hk,_⟩ | ⟨_,c,hc,hcell⟩
      · rw [hcellX] at hk;cases hk
      · obtain ⟨c',hc'⟩:=lookup_of_key (closOf_has (env:=X.env) (cs:=[]) (PySem.mem_of_lookup hf))
        have:=S.sub I hc'
        rw [hc] at this
        cases this
        exact .inr ⟨.inl (relabel_cell S.fk hf hcellX),c,hc',cellUp hcell⟩
  · obtain ⟨v,z⟩:=I.cell y c (S.sub I e)
    exact ⟨v,cellUp z⟩
  · rcases List.mem_append.mp hp with hp | hp
    · obtain ⟨a1,a2,a3,a4,a5⟩:=I.pin p hp
      exact ⟨keep _ _ a1,a2,hCn _ _ a1,fun z=>(List.mem_cons.mp (I.stkSub p.1 z)).elim a3 a4,a5⟩
    · obtain ⟨a1,a2,a4,a5⟩:=hpl p hp
      exact ⟨keep _ _ a1,a2,hCn _ _ a1,a4,a5⟩
  · show (none :: caught σ caps).length=(x :: ys).length
    rw [List.length_cons,List.length_cons,caught,List.length_map,S.len]
end
end L2
namespace L2
open PySem PySem.Spec PyProof.Rows
noncomputable def CompRdI (J:It) (σ:St) (caps:List Nat) (tt:TT) (te:TE) (H1:Hp) (fin:List V→Hp→Prop):Prop :=
  ∃ (n:Nat) (W:Nat→List V→Hp→Prop),n≤sizeLine∧W 0 [] H1∧∀ i ys H2,i≤n→ys.length≤i→W i ys H2 →
    (J.stop i H2∧fin ys H2)∨(i < n∧J.go i H2∧∀ x H3,J.yld i H2 x H3→tt (some x :: caught σ caps) H3 fun b H4=>if b=true then te (some x :: caught σ caps) H4 fun y H5=>W (i+1) (ys ++ [y]) H5 else W (i+1) ys H4)
noncomputable def tCompI (wi:TI) (caps:List Nat) (tt:TT) (te:TE):TE:=fun σ H Q=>wi σ H fun J H1=>CompRdI J σ caps tt te H1 fun ys H2=>∀ p,H2 p=none→Q (.ref p) (upd H2 p (.lst ys))
section
variable {X:Cx} {scope:Scope} {x:Str} {ys:List Str} {caps:List Nat} {elt iter tst:Expr} {te:TE} {tt:TT} {px pos:Pos}
theorem compI_run {pins:List (Addr×Obj)} {σ:St} {H2:Hp} {s2:Shared} {J:It} {fp:List Addr} {it:Addr} {tn:Nat→Heap→Prop} {E:Value→Shared→Prop} {fin:List V→Hp→Prop} {RR:Value→Addr→Result→Shared→Prop}
    (hcalm:X.calm=true) (S:CompSt X.env.scope scope X.N x ys caps) (hT:∀ s H ex pn,PT (cxComp X scope (x :: ys) s H ex pn) tst tt) (he:∀ s H ex pn,PE (cxComp X scope (x :: ys) s H ex pn) elt te)
    (I2:Inv X pins σ H2 s2) (T:Turn X.prog X.w X.K (.Name x px) J fp it tn) (st2:tn 0 s2.heap) (f2:∀ b∈fp,FpOk X pins H2 b) (rd:CompRdI J σ caps tt te H2 fin)
    (hRR:∀ (C:Addr) (ysV:List V) (its:List Value) (n:Nat) (H8:Hp) (s8:Shared) (m:Str→Option Value),C=s2.heap.objs.size+1→Inv X pins σ H8 s8→H8 s2.heap.objs.size=none→H8 C=none→Vals ysV its→ysV.length≤sizeLine →
      s8.heap.get? s2.heap.objs.size=some (lstO its n)→s8.heap.Ns C m→fin ysV H8→RR (.ref s2.heap.objs.size) C (.ok .next) s8) :
    wpAny (model X.prog X.w) X.A (newList []) (fun acc s₃=>wpAny (model X.prog X.w) X.A (newFunctionEnv scope X.env.globals (clsOf X scope) [] X.env.qual none .none (some X.env)) (fun cenv s₄ =>
      codeAny (model X.prog X.w) X.A (.compStart (.ListComp elt [⟨.Name x px,iter,[tst],0⟩] scope pos) 0 (.ref it) acc { cenv with scope:=relabel scope X.env }) (RR acc cenv.locals) s₄) E s₃) E s2:=by
  obtain ⟨n0,W,hn0,w0,turn⟩:=rd
  refine wpAny_newObj_type (wpAny_newFunctionEnv S.ncell (by intro y hy;simp at hy) (fun h₁ hns hsb=>?_) S.kind)
  dsimp only at hns hsb ⊢
  generalize hg3:s2.heap.push { cls:=.type "list",dict:=none,data:=.seq ([]:List Value).toArray }=g3 at hns hsb ⊢
  have hC:g3.objs.size=s2.heap.objs.size+1:=by rw [← hg3,Heap.size_push]
  have up3:∀ b o,s2.heap.get? b=some o→g3.get? b=some o:=fun b o e=>hg3 ▸ Heap.get?_push_of_some _ e
  have I3:Inv X pins σ H2 { s2 with heap:=g3 }:=I2.kept (t':=s2.toks) up3
  have keep:∀ b o,g3.get? b=some o→h₁.get? b=some o:=fun b o e=>hsb.extBut b o (Nat.ne_of_lt (Heap.lt_size e)) (Heap.get?_push_of_some _ e)
  have objD:g3.get? s2.heap.objs.size=some (lstO [] 0):=hg3 ▸ Heap.get?_push_size _ rfl
  have hDL:s2.heap.objs.size≠X.env.locals:=Nat.ne_of_gt I2.lt
  have hDfs:s2.heap.objs.size∉X.fs:=I2.nofs (Nat.le_refl _)
  have hDst:s2.heap.objs.size∉frs X.stack:=fun z=>(List.mem_cons.mp (I2.stkSub _ z)).elim hDL hDfs
  have hDc:∀ y c,X.env.cells.lookup y=some c→c≠s2.heap.objs.size:=fun y c e=>by
    obtain ⟨v,z⟩:=I2.cell y c e
    exact Nat.ne_of_lt z.lt
  have hDp:∀ p∈X.pn ++ pins,p.1≠s2.heap.objs.size:=fun p hp=>Nat.ne_of_lt (Heap.lt_size (I2.pin p hp).1)
  have hfl:∀ b∈fp,b < s2.heap.objs.size:=fun b hb=>by
    obtain ⟨o,e,_⟩:=T.obj _ _ st2 b hb
    exact Heap.lt_size e
  have hbz:X.base.objs.size≤X.s₀.heap.objs.size:=I2.ok.bsz
  have hch:∀ b∈s2.heap.objs.size :: fp,(b∈X.ex∨X.s₀.heap.objs.size≤b)∧b≠X.env.locals∧(∀ y c,X.env.cells.lookup y=some c→c≠b)∧∀ p∈X.pn ++ pins,p.1≠b:=fun b hb=>by
    rcases List.mem_cons.mp hb with rfl | hb
    · exact ⟨.inr I2.sz,hDL,hDc,hDp⟩
    · obtain ⟨a1,a2,a3,a4,a5,a6⟩:=f2 b hb
      exact ⟨a4,a2,a5,a6⟩
  have hex:∀ b∈s2.heap.objs.size :: fp,b < g3.objs.size∧b∉frs X.stack∧(∀ y c,X.env.cells.lookup y=some c→c≠b)∧X.base.get? b=none:=fun b hb=>by
    have hst:b∉frs X.stack:=by
      rcases List.mem_cons.mp hb with rfl | hb
      · exact hDst
      · obtain ⟨a1,a2,a3,a4,a5,a6⟩:=f2 b hb
        exact fun z=>(List.mem_cons.mp (I2.stkSub _ z)).elim a2 a3
    have hlt:b < g3.objs.size:=by
      rw [hC]
      rcases List.mem_cons.mp hb with rfl | hb
      · exact Nat.lt_succ_self _
      · exact Nat.lt_succ_of_lt (hfl b hb)
    refine ⟨hlt,hst,(hch b hb).2.2.1,?_⟩
    cases q:X.base.get? b with
    | none=>rfl
    | some o =>
      rcases (hch b hb).1 with z | z
      · exact absurd z (I2.ok.noex b o q)
      · exact absurd (Nat.lt_of_lt_of_le (Heap.lt_size q) (Nat.le_trans hbz z)) (Nat.lt_irrefl _)
  have hD2:H2 s2.heap.objs.size=none:=I2.hok.fresh (Nat.le_refl _)
  have I4:Inv (cxComp X scope (x :: ys) { s2 with heap:=g3 } H2 (s2.heap.objs.size :: fp) (X.pn ++ pins)) [(s2.heap.objs.size,lstO [] 0)] (none :: caught σ caps) H2 { s2 with heap:=h₁,toks:=s2.toks+([]:List (Str×Value)).length } :=
    Inv.enter S hcalm I3 hns keep hex fun p hp=>by
      have e:p=(s2.heap.objs.size,lstO [] 0):=by simpa using hp
      subst e
      exact ⟨objD,hD2,hDst,fun v z=>nomatch z⟩
  have st4:tn 0 h₁:=T.keep _ _ _ st2 fun b hb o e=>keep b o (up3 b o e)
  generalize hY:cxComp X scope (x :: ys) { s2 with heap:=g3 } H2 (s2.heap.objs.size :: fp) (X.pn ++ pins)=Y at I4
  have yP:Y.prog=X.prog:=by rw [← hY];rfl
  have yW:Y.w=X.w:=by rw [← hY];rfl
  have yK:Y.K=X.K:=by rw [← hY];rfl
  have yA:Y.A=X.A:=by rw [← hY];rfl
  have yC:Y.calm=true:=by rw [← hY];exact hcalm
  have yX:Y.xe=fun _ _=>False:=by rw [← hY];rfl
  have yN:Y.N=x :: ys:=by rw [← hY];rfl
  have yE:Y.env=compEnvC scope (clsOf X scope) g3.objs.size X.env:=by rw [← hY];rfl
  have yex:Y.ex=s2.heap.objs.size :: fp:=by rw [← hY];rfl
  have ypn:Y.pn=X.pn ++ pins:=by rw [← hY];rfl
  have yfs:Y.fs=frs X.stack:=by rw [← hY];rfl
  have ybase:∀ {pl σ' H' s'},Inv Y pl σ' H' s'→Un (frs X.stack) (s2.heap.objs.size :: fp) H2 H' g3 s'.heap∧s'.os=s2.os:=by
    intro pl σ' H' s' I
    rw [← hY] at I
    exact ⟨I.base,I.os⟩
  have yhe:PE Y elt te:=by rw [← hY];exact he _ _ _ _
  have yht:PT Y tst tt:=by rw [← hY];exact hT _ _ _ _
  have ycl:∀ y c,Y.env.cells.lookup y=some c→X.env.cells.lookup y=some c:=fun y c e=>by
    rw [yE] at e
    exact S.sub I2 e
  have yfp:∀ {H':Hp} {o:Obj},(∀ b∈fp,H' b=none)→∀ b∈fp,FpOk Y [(s2.heap.objs.size,o)] H' b:=fun {H' o} hn b hb=>by
    obtain ⟨a1,a2,a3,a4,a5,a6⟩:=f2 b hb
    refine ⟨hn b hb,?_,?_,?_,fun y c e=>a5 y c (ycl y c e),fun p hp=>?_⟩
    · rw [yE];exact Nat.ne_of_lt (hex b (List.mem_cons_of_mem _ hb)).1
    · rw [yfs];exact (hex b (List.mem_cons_of_mem _ hb)).2.1
    · rw [yex];exact .inl (List.mem_cons_of_mem _ hb)
    · rw [ypn] at hp
      rcases List.mem_append.mp hp with hp | hp
      · exact a6 p hp
      · have e:p=(s2.heap.objs.size,o):=by simpa using hp
        subst e
        exact Nat.ne_of_gt (hfl b hb)
  have loop:∀ s₃:Shared,s₃={ s2 with heap:=h₁,toks:=s2.toks+([]:List (Str×Value)).length } →
      codeAny (model X.prog X.w) X.A (.compLoop (.ListComp elt [⟨.Name x px,iter,[tst],0⟩] scope pos) 0 (.ref it) (.ref s2.heap.objs.size) (compEnvC scope (clsOf X scope) g3.objs.size X.env)) (RR (.ref s2.heap.objs.size) g3.objs.size) s₃:=by
    rintro s₃ rfl
    refine codeAny_loop rfl (fun k s'=>∃ i ysV its cnt H' o,k=n0+1 - i∧Inv Y [(s2.heap.objs.size,lstO its cnt)] (o :: caught σ caps) H' s'∧tn i s'.heap∧(∀ b∈fp,H' b=none)∧Vals ysV its∧ysV.length≤i∧i≤n0∧W i ysV H') ?_ (n0+1)
      ⟨0,[],[],0,H2,none,rfl,I4,st4,fun b hb=>(f2 b hb).1,.nil,Nat.le_refl _,Nat.zero_le _,w0⟩
    rintro k s' ⟨i,ysV,its,cnt,H',o,rfl,I',tni,frn,vv,hlen,hin,hw⟩
    show wpAny _ _ ((compTurn (.ListComp elt [⟨.Name x px,iter,[tst],0⟩] scope pos) 0 (.ref it) (.ref s2.heap.objs.size) (compEnvC scope (clsOf X scope) g3.objs.size X.env)).onRaise (fun x=>do noteFrame x (compEnvC scope (clsOf X scope) g3.objs.size X.env);theTreesLotGoes x)) _ _ s'
    refine wpAny_noted ?_
    rw [compTurn_list]
    have fpok:=yfp (o:=lstO its cnt) frn
    rcases turn i ysV H' hin hlen hw with ⟨stop,hfin⟩ | ⟨hlt,go,step⟩
    · refine wpAny_bind (wpAny_standAt (wpAny_bind (thn (Q:=fun r s1=>r=none∧Inv Y [(s2.heap.objs.size,lstO its cnt)] (o :: caught σ caps) H' s1) ?_ fun r s1 ⟨hr,I1⟩=>?_)))
      · have:=T.done Y yP yW yK yC i _ s' _ H' (notedBy (model X.prog X.w) X.A (compEnvC scope (clsOf X scope) g3.objs.size X.env) fun e s'=>RR (.ref s2.heap.objs.size) g3.objs.size (.error e) s') I' fpok tni stop
        rw [yA] at this
        exact this
      · subst hr
        refine wpAny_pure ?_
        obtain ⟨ub,uo⟩:=ybase I1
        obtain ⟨m,hm,_⟩:=I1.loc
        obtain ⟨p1,p2,_⟩:=I1.pin (s2.heap.objs.size,lstO its cnt) (List.mem_append_right _ List.mem_cons_self)
        have hok:HOk X.prog X.w H' s1.heap:=by have:=I1.hok;rw [yP,yW] at this;exact this
        have hCf:=I1.free
        rw [yE] at hm hCf
        refine hRR g3.objs.size ysV its cnt H' s1 m hC (I3.call' uo ub hok I1.bare hch) p2 hCf vv (by omega) p1 hm hfin
    · refine wpAny_bind (wpAny_standAt (wpAny_bind (thn (Q:=fun r s1=>∃ u,r=some u∧wpAny (model X.prog X.w) X.A (letOwnedTupleGo (.Name x px) (.ref it) u) (fun _ s5=>∃ x H5,Inv Y [(s2.heap.objs.size,lstO its cnt)] (o :: caught σ caps) H5 s5∧RelV x u∧J.yld i H' x H5∧tn (i+1) s5.heap∧∀ b∈fp,H5 b=none)
          (notedBy (model X.prog X.w) X.A (compEnvC scope (clsOf X scope) g3.objs.size X.env) fun e s'=>RR (.ref s2.heap.objs.size) g3.objs.size (.error e) s') s1) ?_ fun r s1 ⟨u,hr,h4⟩=>?_)))
      · have:=T.item Y yP yW yK yC i _ s' _ H' (notedBy (model X.prog X.w) X.A (compEnvC scope (clsOf X scope) g3.objs.size X.env) fun e s'=>RR (.ref s2.heap.objs.size) g3.objs.size (.error e) s') I' fpok tni go
        rw [yA] at this
        exact this
      · subst hr
        refine wpAny_bind (thn h4 fun _ s5 ⟨xv,H5,I5,r5,y5,st5,fr5⟩=>?_)
        have I5':=I5.pinned (yfp fr5) (T.obj _ _ st5)
        have hloc:Y.env.scope.names.lookup x=some .local:=by rw [yE];exact lookup_relabel_local S.loc
        have sto:=fun (Q:Unit→Shared→Prop) (k:∀ s6,Inv Y _ ((o :: caught σ caps).set 0 (some xv)) H5 s6→Q () s6)=>store_ok (M:=model X.prog X.w) (A:=X.A) (E:=notedBy (model X.prog X.w) X.A (compEnvC scope (clsOf X scope) g3.objs.size X.env) fun e s'=>RR (.ref s2.heap.objs.size) g3.objs.size (.error e) s') (i:=0) (x:=x) I5' (by rw [yN];exact S.nd) (by rw [yN];rfl) (.inl hloc) r5 k (.inr hloc)
        rw [yE] at sto
        refine wpAny_bind (wpAny_assign_Name (sto _ fun s6 I6=>?_))
        have tv:=yht _ s6 _ H5 _ I6 (step xv H5 y5)
        rw [yP,yW,yA,yE] at tv
        refine wpAny_bind (wpAny_tests_one (nxE yX tv fun ok s6' ⟨H6,I6',w6⟩=>?_))
        have hil:=vv.length
        cases ok with
        | false =>
          rw [if_neg Bool.false_ne_true] at w6
          rw [if_neg Bool.false_ne_true]
          obtain ⟨zD,hD7,hDl7,hDf7,_⟩:=I6'.pin (s2.heap.objs.size,lstO its cnt) (List.mem_append_right _ (List.mem_append_left _ List.mem_cons_self))
          have I9:Inv Y [(s2.heap.objs.size,lstO its cnt)] (some xv :: caught σ caps) H6 s6':=I6'.pins_of fun p hp=>by
            have e:p=(s2.heap.objs.size,lstO its cnt):=by simpa using hp
            subst e
            exact ⟨zD,hD7,hDl7,hDf7,(fun v z=>nomatch z)⟩
          refine wpAny_pure ⟨rfl,n0+1 - (i+1),by omega,i+1,ysV,its,cnt,H6,some xv,rfl,I9,?_,?_,vv,by omega,hlt,w6⟩
          · refine T.keep _ _ _ st5 fun b hb ob e=>?_
            exact (I6'.pin (b,ob) (List.mem_append_right _ (List.mem_append_right _ (mem_pinsAt hb e)))).1
          · intro b hb
            obtain ⟨ob,e,_⟩:=T.obj _ _ st5 b hb
            exact (I6'.pin (b,ob) (List.mem_append_right _ (List.mem_append_right _ (mem_pinsAt hb e)))).2.1
        | true =>
          rw [if_pos rfl] at w6
          rw [if_pos rfl]
          have ev:=yhe _ s6' _ H6 _ I6' w6
          rw [yP,yW,yA,yE] at ev
          refine wpAny_bind (wpAny_bind (nxE yX ev fun yv s7 ⟨y,H7,I7,r7,w7⟩=>?_))
          obtain ⟨zD,hD7,hDl7,hDf7,_⟩:=I7.pin (s2.heap.objs.size,lstO its cnt) (List.mem_append_right _ (List.mem_append_left _ List.mem_cons_self))
          refine wpAny_bind (append_at zD (fun h8 sb8 d8=>wpAny_pure (wpAny_pure ⟨rfl,?_⟩)) (by rw [List.size_toArray];omega))
          have I7':Inv Y [] (some xv :: caught σ caps) H7 s7:=I7.pins_of fun p hp=>nomatch hp
          have I8:Inv Y [] (some xv :: caught σ caps) H7 { s7 with heap:=h8 }:=I7'.turned (t':=s7.toks) (fun b ob hb e=>(sb8.2 b hb).trans e) hD7 hDl7 (.inl (by rw [yex];exact List.mem_cons_self)) (fun y c e=>hDc y c (ycl y c e)) (fun p hp=>by
            rw [ypn,List.append_nil] at hp
            exact hDp p hp)
          have I9:Inv Y [(s2.heap.objs.size,lstO (its ++ [yv]) (cnt+1))] (some xv :: caught σ caps) H7 { s7 with heap:=h8 }:=I8.pins_of fun p hp=>by
            have e:p=(s2.heap.objs.size,lstO (its ++ [yv]) (cnt+1)):=by simpa using hp
            subst e
            refine ⟨?_,hD7,hDl7,hDf7,fun v z=>nomatch z⟩
            show h8.get? s2.heap.objs.size=some { cls:=.type "list",data:=.seq (its ++ [yv]).toArray (cnt+1) }
            rw [d8,List.push_toArray]
          refine ⟨n0+1 - (i+1),by omega,i+1,ysV ++ [y],its ++ [yv],cnt+1,H7,some xv,rfl,I9,?_,?_,vv.append (.cons r7 .nil),by rw [List.length_append];show ysV.length+1≤i+1;omega,hlt,w7⟩
          · refine T.keep _ _ _ st5 fun b hb ob e=>(sb8.2 b (Nat.ne_of_lt (hfl b hb))).trans ?_
            exact (I7.pin (b,ob) (List.mem_append_right _ (List.mem_append_right _ (mem_pinsAt hb e)))).1
          · intro b hb
            obtain ⟨ob,e,_⟩:=T.obj _ _ st5 b hb
            exact (I7.pin (b,ob) (List.mem_append_right _ (List.mem_append_right _ (mem_pinsAt hb e)))).2.1
  exact codeAny_compStart_list (loop _ rfl) (T.self _ 0 _ _ _ st4 (loop _ rfl))
theorem pe_compI {wi:TI} {FS:Scope} {N:List Str} (S0:CompSt FS scope N x ys caps) (hFS:X.env.scope=FS) (hN0:X.N=N) (hcalm:X.calm=true) (hi:PI X (.Name x px) iter wi) (hT:∀ s H ex pn,PT (cxComp X scope (x :: ys) s H ex pn) tst tt) (he:∀ s H ex pn,PE (cxComp X scope (x :: ys) s H ex pn) elt te)
    (hs:∀ v,foldedSetIterable iter X.env v=pure v:=by intro _;rfl):PE X (.ListComp elt [⟨.Name x px,iter,[tst],0⟩] scope pos) (tCompI wi caps tt te):=by
  have S:CompSt X.env.scope scope X.N x ys caps:=by rw [hFS,hN0];exact S0
  intro pins s σ H Q I h
  rw [eval_ListComp]
  refine wpAny_comprehension_free (use:=none) rfl hs (closureFor_eq (S.cells I)) S.kind S.names (thn (hi pins s σ H _ I h) fun v s1 h1=>thn h1 fun itv s2 h2=>?_)
  obtain ⟨it,fp,tn,J,H2,rfl,I2,T,st2,f2,rd⟩:=h2
  refine compI_run (RR:=fun acc C=>compPost (model X.prog X.w) X.A X.xe none (EP X pins σ Q) acc C) hcalm S hT he I2 T st2 f2 rd ?_
  intro C ysV its n H8 s8 m hC I8 hD hC8 vv hz oD hn fin
  refine ⟨m,hn,fun h' sb=>?_⟩
  have sz:=I2.sz
  have lt:=I2.lt
  have ap:∀ b:Addr,b < s2.heap.objs.size→b≠C∧C≠b:=fun b hb=>by
    subst hC
    exact ⟨Nat.ne_of_lt (Nat.lt_succ_of_lt hb),Nat.ne_of_gt (Nat.lt_succ_of_lt hb)⟩
  have szC:X.s₀.heap.objs.size≤C:=by subst hC;exact Nat.le_succ_of_le sz
  have DC:s2.heap.objs.size≠C:=by subst hC;exact Nat.ne_of_lt (Nat.lt_succ_self _)
  have cl:∀ y c,X.env.cells.lookup y=some c→c < s2.heap.objs.size:=fun y c e=>by
    obtain ⟨w',z⟩:=I2.cell y c e
    exact z.lt
  have pl:∀ p∈X.pn ++ pins,p.1 < s2.heap.objs.size:=fun p hp=>Heap.lt_size (I2.pin p hp).1
  have I9:Inv X pins σ H8 { s8 with heap:=h' }:=I8.turned (t':=s8.toks) (fun b o hb e=>(sb.2 b hb).trans e) hC8 (ap _ lt).2 (.inr szC) (fun y c e=>(ap c (cl y c e)).1) (fun p hp=>(ap p.1 (pl p hp)).1)
  have oD':h'.get? s2.heap.objs.size=some (lstO its n):=(sb.2 _ DC).trans oD
  exact ⟨.ref s2.heap.objs.size,upd H8 s2.heap.objs.size (.lst ysV),I9.adopt hD sz (Nat.ne_of_gt lt) (fun y c e=>Nat.ne_of_lt (cl y c e)) (fun p hp=>Nat.ne_of_lt (pl p hp)) ⟨hz,its,n,vv,oD'⟩,rfl,fin _ hD⟩
end
end L2
namespace L2
open PySem PySem.Spec PyProof.Rows
noncomputable def cLenT:List V→Hp→VK→Prop:=fun xs H Q=>∃ p kvs,xs=[.ref p]∧H p=some (.dT kvs)∧Q (.int (kvs.length:Nat)) H
theorem len_any {prog:Program} {w:World} {d:Addr} (hd:(d == sysModules)=false):MeetsIn prog w (Builtin.«dict.__len__» ⟨[.ref d],[]⟩) (fun _ R s=>∃ o es ep,s.heap.get? d=some o∧o.data=.dict es ep∧R (.ok (.ret (.int (es.size:Nat) s.toks))) { s with toks:=s.toks+1 }) :=
  .of_wp fun A R s ⟨o,es,ep,ho,hdat,h⟩=>by
    show wpAny _ _ (dictSize d >>= _) _ _ s;unfold dictSize
    refine wpAny_bind (wpAny_bind (wpAny_dictEntries ho hdat (wpAny_pure ?_)))
    show wpAny _ _ (Builtin.Dict.pendingCount d >>= _) _ _ s;refine wpAny_bind (wpAny_pendingCount_other hd ?_)
    refine wpAny_ret_mkInt ?_;rw [Nat.add_zero];exact h
section
variable {X:Cx}
theorem call_lenT:CallR X (.builtin "len") cLenT:=by
  intro pins s σ H xs us Q I r h
  obtain ⟨p,kvs,rfl,hp,q⟩:=h
  obtain ⟨u,rfl,ru⟩:=vals1 r
  cases ru
  obtain ⟨z,hd,ys,rel,o,es,ep,ho,hc,hdat,he,_⟩:=dt_of I.hok hp
  have hT:s.TypeIs (.ref p) "dict":=⟨o,ho,hc.1⟩
  have sz:es.size=kvs.length:=by rw [size_of_entries he];exact (Paired.length rel).symm
  have hz:(es.size:Int) < 2 ^ 63:=by rw [sz];rw [sizeLine_eq] at z;omega
  refine Calls.call_function_entry kind_len plain_len entry_len (args_len1 _) ?_
  unfold Builtin.«len»
  refine wpAny_bind (m:=oneArg "len" _) (wpAny_pure ?_)
  refine wpAny_bind (m:=callSpecial? (.ref p) (Str.ofString "__len__")) (wpAny_callSpecial?_slot (name:=Str.ofString "__len__") hT F.slot_dict_len (call_meetsIn F.slot_dict_len hT F.entry_dict_len (F.args_dict_len_1 _) (len_any hd) ⟨o,es,ep,ho,hdat,?_⟩))
  show wpAny _ _ _ _ _ { s with toks:=s.toks+1 }
  refine wpAny_bind (wpAny_holding (wpAny_pure (wpAny_bind (wpAny_letGo ?_))))
  show wpAny _ _ (if ((es.size:Nat):Int) < 0 then _ else _) _ _ _;rw [if_neg (by omega)]
  show wpAny _ _ (if ((es.size:Nat):Int) ≥ 2 ^ 63 then _ else _) _ _ _;rw [if_neg (by omega)]
  refine wpAny_bind (wpAny_mkInt (wpAny_pure ⟨_,rfl,?_⟩))
  exact ⟨.int (kvs.length:Nat),H,(I.tok _).tok _,⟨_,by rw [sz]⟩,q⟩
noncomputable def isB2 (x:V) (H:Hp) (T:String) (b:Bool):Prop:=isB x H T b∨(∃ p xs,x=.ref p∧H p=some (.lst xs)∧T="list" ∧ b=true)
noncomputable def cIsB2:List V→Hp→VK→Prop:=fun xs H Q=>∃ x T b,xs=[x,.ty T]∧isB2 x H T b∧Q (.bl b) H
theorem kit_ll (K:PySem.W.Frag):PySem.W.kitOne K (.type "list") (.type "list")=some true:=by rfl
theorem call_isB2:CallR X (.builtin "isinstance") cIsB2:=by
  intro pins s σ H xs us Q I r h
  obtain ⟨x,T,b,rfl,hb,q⟩:=h
  rcases hb with hb | ⟨p,ys,rfl,hp,rfl,rfl⟩
  · exact call_isB pins s σ H _ us Q I r ⟨x,T,b,rfl,hb,q⟩
  · obtain ⟨u,c,rfl,ru,rc⟩:=vals2 r
    obtain rfl:c=Value.type "list":=rc
    exact isinst_ok I ru (.lst hp) (kit_ll _) fun tk=>⟨.bl true,H,I.tok _,rfl,q⟩
end
section
variable {prog:Program} {w:World} {A:Around} {E:Value→Shared→Prop} {s:Shared}
variable {R:Result→Shared→Prop} {I:Addr} {fp wr:List Addr} {G:Array GenState→Array GenState→Prop} {n:Nat} {P:Nat→Value→Prop} {St:Nat→Shared→Prop}
end
section
variable {X:Cx}
end
end L2
namespace L2
open PySem PySem.Spec PyProof.Rows
structure TabK (K:PySem.W.Frag):Prop where
  cl:Cls K (gadr K "Table")
  nM:NoAttr K (gadr K "Table") "many"
  nC:NoAttr K (gadr K "Table") "cells"
theorem comp_rangeI {lo:Int} {n:Nat} {σ:St} {caps:List Nat} {tt:TT} {te:TE} {H1:Hp} {fin:List V→Hp→Prop} (W:Nat→List V→Hp→Prop) (hz:n≤sizeLine) (h0:W 0 [] H1)
    (hs:∀ i ys H,i < n→ys.length≤i→W i ys H→tt (some (.int (lo+i)) :: caught σ caps) H fun b H4=>if b=true then te (some (.int (lo+i)) :: caught σ caps) H4 fun y H5=>W (i+1) (ys ++ [y]) H5 else W (i+1) ys H4)
    (hd:∀ ys H,W n ys H→fin ys H):CompRdI (Itr lo n) σ caps tt te H1 fin:=by
  refine ⟨n,W,hz,h0,fun i ys H2 hi hy hw=>?_⟩
  by_cases hlt:i < n
  · refine .inr ⟨hlt,hlt,fun x H3 y=>?_⟩
    obtain ⟨e1,e2⟩:=y
    subst e1 e2
    exact hs i ys _ hlt hy hw
  · have e:i=n:=by omega
    subst e
    exact .inl ⟨Nat.le_refl _,hd ys H2 hw⟩
end L2
namespace L2
open PySem PySem.Spec PyProof.Rows
noncomputable def rngL (n:Nat):List Int:=(List.range n).map Int.ofNat
theorem rngL_get {n k:Nat} (h:k < n):(rngL n)[k]?=some (k:Int):=by
  unfold rngL;rw [List.getElem?_map,List.getElem?_range h];rfl
theorem rngL_length (n:Nat):(rngL n).length=n:=by unfold rngL;rw [List.length_map,List.length_range]
noncomputable def tLRng (ta:TE):TE:=fun σ H Q=>ta σ H fun x H1=>∃ n:Nat,x=.int n∧n≤10000∧∀ p,H1 p=none→Q (.ref p) (upd H1 p (.lst (List.map V.int (rngL n))))
theorem vals_of_get:∀ {xs:List V} {us:List Value},xs.length=us.length→(∀ (i:Nat) (x:V) (u:Value),xs[i]?=some x→us[i]?=some u→RelV x u)→Vals xs us
  | [],[],_,_=>.nil
  | [],_ :: _,h,_=>by simp at h
  | _ :: _,[],h,_=>by simp at h
  | x :: xs,u :: us,h,k=>.cons (k 0 x u rfl rfl) (vals_of_get (by simpa using h) fun i x u h1 h2=>k (i+1) x u (by simpa using h1) (by simpa using h2))
section
variable {X:Cx}
theorem pe_lrng {a:Expr} {tl:TE} {p1 p2 pos1 pos2:Pos} (hg1:Gl X "list") (hm1:X.mg "list" = none) (hg2:Gl X "range") (hm2:X.mg "range" = none) (hc:X.calm=true) (hl:PE X a tl)
    (hs1:starEach [.Call (.Name "range" p2) [a] [] pos2] X.env=[(false,eval (.Call (.Name "range" p2) [a] [] pos2) X.env)]:=by rfl) (hs2:starEach [a] X.env=[(false,eval a X.env)]:=by rfl) :
    PE X (.Call (.Name "list" p1) [.Call (.Name "range" p2) [a] [] pos2] [] pos1) (tLRng tl):=by
  intro pins s σ H Q I h
  have hA:PA X [a] (tCons tl tNil):=pa_cons hl pa_nil (by rw [hs2];rfl)
  refine Call_ (ld_blt I hg1 hm1 bt_list (PyProof.Rows.callWith_type1 (spliced_more ?_ (by rw [hs1];rfl)) hs1 rfl))
  refine Call_ (ld_blt I hg2 hm2 boot_range (PyProof.Rows.callWith_type1 (thn (hA pos2 pins s σ H (fun vs H1=>∃ x,vs=[x]∧∃ n:Nat,x=.int n∧n≤10000∧∀ p,H1 p=none→Q (.ref p) (upd H1 p (.lst (List.map V.int (rngL n))))) I ?_) fun us s1 ⟨vs,H1,I1,r1,q1⟩=>?_) hs2 rfl))
  · show tl σ H fun x H1=>∃ y,[x]=[y]∧_
    have e:(fun (x:V) (H1:Hp)=>∃ y,[x]=[y]∧∃ n:Nat,y=V.int n∧n≤10000∧∀ p,H1 p=none→Q (.ref p) (upd H1 p (.lst (List.map V.int (rngL n)))))=fun x H1=>∃ n:Nat,x=V.int n∧n≤10000∧∀ p,H1 p=none→Q (.ref p) (upd H1 p (.lst (List.map V.int (rngL n)))):=by
      funext x H1
      exact propext ⟨fun ⟨y,e,r⟩=>by cases e;exact r,fun r=>⟨x,rfl,r⟩⟩
    have h':tl σ H fun x H1=>∃ n:Nat,x=V.int n∧n≤10000∧∀ p,H1 p=none→Q (.ref p) (upd H1 p (.lst (List.map V.int (rngL n)))):=h
    rw [← e] at h'
    exact h'
  · obtain ⟨x,e1,n,e2,hn,q⟩:=q1
    subst e1 e2
    obtain ⟨u,rfl,ru⟩:=vals1 r1
    obtain ⟨t,rfl⟩:=ru
    refine call_range_1 (spliced_none ?_)
    have hz:Builtin.Range.rangeSize 0 (n:Int) 1=(n:Int):=by rw [rangeSize_one];split <;> omega
    refine call_list_range (I1.ok.hd hc) (IsRange.new ..) (small_one (by decide) (by decide) (by omega) (by omega)) hz (by omega) fun h2 tk acc c' hk hS hacc=>?_
    have kp:∀ c o,s1.heap.get? c=some o→h2.get? c=some o:=fun c o e=>hk c o (Heap.get?_push_of_some _ e)
    have gsz:(s1.heap.push { cls:=.type "range",data:=.fields #[.int 0 s1.toks,.int (n:Int) t,.int 1 (s1.toks+1)] }).objs.size=s1.heap.objs.size+1:=Heap.size_push ..
    have lt:s1.heap.objs.size≤(s1.heap.push { cls:=.type "range",data:=.fields #[.int 0 s1.toks,.int (n:Int) t,.int 1 (s1.toks+1)] }).objs.size:=by rw [gsz];exact Nat.le_succ _
    refine ⟨.ref _,_,I1.laid (t':=tk) (o:=.lst (List.map V.int (rngL n))) kp lt ⟨by rw [List.length_map,rngL_length,sizeLine_eq];omega,acc.toList,c',vals_of_get (by rw [List.length_map,rngL_length,Array.length_toList,hacc.1]) fun i x u h1 h3=>?_,by simpa using hS⟩,rfl,q _ (I1.hok.fresh lt)⟩
    have hi:i < n:=by
      have:=(List.getElem?_eq_some_iff.mp h1).1
      rwa [List.length_map,rngL_length] at this
    rw [List.getElem?_map,rngL_get hi] at h1
    cases h1
    obtain ⟨tk',e⟩:=hacc.2 i u (by simpa using h3)
    rw [e]
    exact ⟨tk',by simp⟩
end
end L2
namespace L2
open PySem PySem.Spec PyProof.Rows
section
variable {prog:Program} {w:World} {K:Type} [DecidableEq K] {knd:HeapKind prog w K} {A:Around} {E:Value→Shared→Prop} {s:Shared}
theorem samePairs_heap {id:String} {a b:Addr} {xs ys:List (K×Addr×Value)} {Q:Bool→Shared→Prop} (ha:(a == sysModules)=false) (hb:(b == sysModules)=false) (da:s.heap.DictOfH knd a xs) (db:s.heap.DictOfH knd b ys) (hu:knd.room A) (hl:xs.length=ys.length)
    (he:∀ (j:Nat) x,xs[j]?=some x→∃ (i:Nat) (p:Addr×Value),ys[i]?=some (x.1,p)∧SeqAt.EqAt A s x.2.2 p.2 true) (h:Q true s):wpAny (model prog w) A (Builtin.Dict.samePairs id a b) Q E s:=by
  obtain ⟨oa,ea,pa,h1,_,h2,h3,h4,h5⟩:=da
  obtain ⟨ob,eb,pb,g1,_,g2,g3,g4,g5⟩:=db
  have sa:=size_of_entries h3
  have sb:=size_of_entries g3
  unfold Builtin.Dict.samePairs Builtin.Dict.showsAll
  rw [ha,hb]
  simp only [Bool.false_eq_true,if_false]
  refine wpAny_bind (wpAny_pure ?_)
  refine wpAny_bind (wpAny_pure ?_)
  refine wpAny_bind (wpAny_dictEntries h1 h2 ?_)
  refine wpAny_bind (wpAny_dictEntries g1 g2 ?_)
  rw [if_neg (by rw [sa,sb,hl];simp)]
  refine wpAny_bind (wpAny_dictEpoch h1 h2 ?_)
  rw [Std.Legacy.Range.forIn_eq_forIn_range']
  refine wpAny_bind (wpAny_forIn_list _ (fun rest r s'=>s'=s∧r=(none,())∧∃ i,rest=List.range' i (ea.size - i)) _ ?_ ?_ _ _ ⟨rfl,rfl,0,?_⟩)
  · rintro i rest r s' ⟨rfl,rfl,i',hr⟩
    have hlt:i' < ea.size:=by
      rcases Nat.lt_or_ge i' ea.size with z | z
      · exact z
      · rw [Nat.sub_eq_zero_of_le z] at hr;cases hr
    obtain ⟨m,hm⟩:∃ m,ea.size - i'=m+1:=⟨ea.size - i' - 1,by omega⟩
    rw [hm,List.range'_succ] at hr
    injection hr with e1 e2
    subst e1
    obtain ⟨x,hx⟩:∃ x,xs[i]?=some x:=⟨xs[i]'(by rw [← sa];exact hlt),List.getElem?_eq_getElem _⟩
    obtain ⟨j0,p0,hj0,eq0⟩:=he i x hx
    refine wpAny_bind (wpAny_dictEntries h1 h2 ?_)
    rw [entry_at h3 i,hx]
    show wpAny _ _ (holding _ _ >>= _) _ _ _
    refine wpAny_bind (wpAny_holding (wpAny_bind ?_))
    refine wpAny_dictFind_heap hu (h4 x (List.mem_of_getElem? hx)) g1 g2 g3 g4 g5 ?_ ?_
    · intro hno
      exact absurd hj0 (hno j0 p0)
    · intro j p hj
      have ep:p=p0:=Option.some.inj ((atKey_of_get g5 hj).symm.trans (atKey_of_get g5 hj0))
      subst ep
      refine wpAny_bind (wpAny_dictEntries g1 g2 ?_)
      rw [entry_at g3 j,hj]
      show wpAny _ _ (holding _ _) _ _ _
      refine wpAny_holding (eq0 prog w _ _ ?_)
      simp only [Bool.not_true,Bool.false_eq_true,if_false]
      refine wpAny_bind (wpAny_dictEpoch h1 h2 ?_)
      rw [if_neg (by simp)]
      exact wpAny_pure ⟨rfl,rfl,i+1,by rw [e2];congr 1;omega⟩
  · rintro r s' ⟨rfl,rfl,_⟩
    exact wpAny_pure h
  · show List.range' 0 _ 1=_
    congr 1
    show (ea.size - 0+1 - 1) / 1=_
    omega
theorem dict_ne_same {a b:Addr} {xs ys:List (K×Addr×Value)} (ha:(a == sysModules)=false) (hb:(b == sysModules)=false):MeetsIn prog w (Builtin.«dict.__ne__» ⟨[.ref a,.ref b],[]⟩) (fun A R s=>s.heap.DictOfH knd a xs∧s.heap.DictOfH knd b ys∧knd.room A.in1∧xs.length=ys.length ∧
    (∀ (j:Nat) x,xs[j]?=some x→∃ (i:Nat) (p:Addr×Value),ys[i]?=some (x.1,p)∧SeqAt.EqAt A.in1 s x.2.2 p.2 true)∧R (.ok (.ret (.bool false))) s) :=
  .of_wp fun A R s ⟨da,db,hu,hl,he,h⟩=>by
    have tA:s.TypeIs (.ref a) "dict":=by obtain ⟨o,_,_,h1,h2,_⟩:=da;exact ⟨o,h1,h2.1⟩
    have tB:s.TypeIs (.ref b) "dict":=by obtain ⟨o,_,_,h1,h2,_⟩:=db;exact ⟨o,h1,h2.1⟩
    show wpAny _ _ (Builtin.Dict.dictSlotArgs "__ne__" ⟨[.ref a,.ref b],[]⟩ >>= _) _ _ s
    refine wpAny_bind ?_
    unfold Builtin.Dict.dictSlotArgs
    refine wpAny_bind (wpAny_notOrdered_dict tA ?_)
    show wpAny _ _ (pure (Value.ref a,Value.ref b)) _ _ s
    refine wpAny_pure ?_
    show wpAny _ _ (isInstance (.ref b) (.type "dict") >>= _) _ _ s
    refine wpAny_bind (wpAny_isInstance tB (b:=true) (by rw [isSubtype_type];kernel_rfl) ?_)
    show wpAny _ _ (Builtin.Dict.samePairs _ a b >>= _) _ _ s
    refine wpAny_bind (samePairs_heap ha hb da db hu hl he ?_)
    exact wpAny_pure ⟨_,rfl,h⟩
end
theorem KT.mem {H:Hp} {kvs:List (List Key×V)} {xs:List (List Key×Addr×Value)} (r:KT H kvs xs):∀ x∈xs,∃ p∈kvs,p.1=x.1∧RelV p.2 x.2.2:=by
  induction r with
  | nil=>intro x hx;exact nomatch hx
  | @cons p q ps qs hq t ih =>
    intro x hx
    rcases List.mem_cons.mp hx with e | hx
    · subst e;exact ⟨p,List.mem_cons_self ..,hq.1,hq.2.2⟩
    · obtain ⟨p',m,e⟩:=ih x hx
      exact ⟨p',List.mem_cons_of_mem _ m,e⟩
theorem at_of_key {K:Type} [DecidableEq K] {ys:List (K×Addr×Value)} {k:K} {p:Addr×Value} (hn:(ys.map (·.1)).Nodup) (h:atKey ys k=some p):∃ i:Nat,ys[i]?=some (k,p):=by
  by_cases e:∃ (j:Nat) (q:Addr×Value),ys[j]?=some (k,q)
  · obtain ⟨j,q,hj⟩:=e
    have:=atKey_of_get hn hj
    rw [h] at this
    exact ⟨j,by rw [Option.some.inj this];exact hj⟩
  · have:=atKey_none_of_get (xs:=ys) (k:=k) fun j q z=>e ⟨j,q,z⟩
    rw [h] at this
    cases this
noncomputable def rNeDi (K:PySem.W.Frag) (n:Nat):R2:=fun x y H Q=>∃ a b kvs kws,x=.ref a∧y=.ref b∧H a=some (.dT kvs)∧H b=some (.dT kws)∧kvs.length=kws.length∧(∀ p∈kvs,∃ v,valV kws p.1=some v∧DEq K H n p.2 v true)∧Q (.bl false) H
section
variable {X:Cx}
theorem op_neDi (n:Nat) (hu:X.A.units+64 < cLine) (hn:n≤60:=by decide):OpR X (compareOp .NotEq) (rNeDi X.K n):=by
  intro pins s σ H x y v u Q I rx ry h
  obtain ⟨a,b,kvs,kws,rfl,rfl,ha,hb,hl,he,q⟩:=h
  cases rx
  cases ry
  obtain ⟨_,na,xs,ra,da⟩:=dt_of I.hok ha
  obtain ⟨_,nb,ys,rb,db⟩:=dt_of I.hok hb
  have tA:s.TypeIs (.ref a) "dict":=by obtain ⟨o,_,_,h1,h2,_⟩:=id da;exact ⟨o,h1,h2.1⟩
  have tB:s.TypeIs (.ref b) "dict":=by obtain ⟨o,_,_,h1,h2,_⟩:=id db;exact ⟨o,h1,h2.1⟩
  have l1:=Paired.length ra
  have l2:=Paired.length rb
  have nd:(ys.map (·.1)).Nodup:=by obtain ⟨_,_,_,_,_,_,_,_,h⟩:=id db;exact h
  refine wpAny_richCompare_same_room (op:=.NotEq) tA tB F.slot_dict_ne (call_meetsIn F.slot_dict_ne tA F.entry_dict_ne (F.args_dict_ne_2 _ _) (dict_ne_same na nb) ⟨da,db,tupleKind_room_in1 (by omega),by omega,fun j x hx=>?_,?_⟩) (by omega)
  · obtain ⟨p,hp,ek,rv⟩:=ra.mem x (List.mem_of_getElem? hx)
    obtain ⟨v,hv,dq⟩:=he p hp
    obtain ⟨w',hw,rw'⟩:=RelO.some_of (v:=v) (o:=(atKey ys x.1).map (·.2)) (by rw [← hv,ek];exact rb.val x.1)
    obtain ⟨p',hp',e'⟩:=Option.map_eq_some_iff.mp hw
    obtain ⟨i,hi⟩:=at_of_key nd hp'
    refine ⟨i,p',hi,eq_of_deq I n X.A.in1 (by show X.A.units+1+n < cLine;omega) _ _ _ _ _ rv (by rw [e'];exact rw') dq⟩
  · exact ⟨(fun z=>nomatch z),⟨.bl false,H,I,rfl,q⟩⟩
end
end L2
namespace L2
open PySem PySem.Spec PyProof.Rows
section
variable {X:Cx}
end
end L2
namespace L2
open PySem PySem.Spec PyProof.Rows
section
variable {X:Cx} {pins:List (Addr×Obj)} {σ:List (Option V)} {H:Hp} {s:Shared}
end
section
variable {prog:Program} {w:World} {A:Around} {E:Value→Shared→Prop} {s:Shared}
end
theorem KT.at {H:Hp} {kvs:List (List Key×V)} {xs:List (List Key×Addr×Value)} (r:KT H kvs xs):∀ (i:Nat) p,kvs[i]?=some p→∃ q,xs[i]?=some q∧p.1=q.1∧H q.2.1=some (.tup (p.1.map kV))∧RelV p.2 q.2.2:=by
  induction r with
  | nil=>intro i p hp;simp at hp
  | @cons p q ps qs hq t ih =>
    intro i p' hp
    cases i with
    | zero=>simp at hp;subst hp;exact ⟨q,rfl,hq⟩
    | succ i=>exact ih i p' (by simpa using hp)
section
variable {X:Cx}
end
end L2
namespace L2
open PySem PySem.Spec PyProof.Rows
structure CompStG (FS scope:Scope) (N:List Str) (xs ys:List Str) (caps:List Nat):Prop where
  ncell:∀ y∈scope.names,y.2≠.cell
  kind:scope.kind=.function
  names:∀ y∈scope.names,y.2=.local→scope.names.lookup y.1=some .local
  fr:∀ p∈scope.names,p.2=.free→FS.names.lookup p.1=some .cell
  fk:FS.kind=.function
  cap:∀ p∈ys.zip caps,N[p.2]?=some p.1∧scope.names.lookup p.1=some .free
  len:ys.length=caps.length
noncomputable def CompRdG (J:It) (σ:St) (k:Nat) (caps:List Nat) (g:TG) (te:TE) (H1:Hp) (fin:List V→Hp→Prop):Prop :=
  ∃ (n:Nat) (W:Nat→List V→Hp→Prop),n≤sizeLine∧W 0 [] H1∧∀ i ys H2,i≤n→ys.length=i→W i ys H2 →
    (J.stop i H2∧fin ys H2)∨(i < n∧J.go i H2∧∀ x H3,J.yld i H2 x H3→∀ os:St,os.length=k→g x (os ++ caught σ caps) H3 fun σ2 H4=>(∃ os':St,os'.length=k∧σ2=os' ++ caught σ caps)∧te σ2 H4 fun y H5=>W (i+1) (ys ++ [y]) H5)
section
variable {X:Cx} {scope:Scope} {xs ys:List Str} {caps:List Nat}
theorem CompStG.cells {pins:List (Addr×Obj)} {σ:St} {H:Hp} {s:Shared} (S:CompStG X.env.scope scope X.N xs ys caps) (I:Inv X pins σ H s):∀ p∈scope.names,p.2=.free→∃ c,X.env.cells.lookup p.1=some c:=fun p hp hf =>
  I.ok.has p.1 (.inl (S.fr p hp hf))
theorem CompStG.sub {pins:List (Addr×Obj)} {σ:St} {H:Hp} {s:Shared} (S:CompStG X.env.scope scope X.N xs ys caps) (I:Inv X pins σ H s) {y:Str} {c:Addr} (e:(clsOf X scope).lookup y=some c):X.env.cells.lookup y=some c :=
  closOf_all (S.cells I) (fun p hp=>absurd hp (by simp)) (y,c) (PySem.mem_of_lookup e)
theorem Inv.enterG {pins:List (Addr×Obj)} {σ:St} {H:Hp} {s:Shared} {h₁:Heap} {ex:List Addr} {tk:Nat} {pl:List (Addr×Obj)} (S:CompStG X.env.scope scope X.N xs ys caps) (hcalm:X.calm=true) (I:Inv X pins σ H s)
    (hn:h₁.Ns s.heap.objs.size (fun _=>none)) (keep:∀ b o,s.heap.get? b=some o→h₁.get? b=some o)
    (hex:∀ b∈ex,b < s.heap.objs.size∧b∉frs X.stack∧(∀ y c,X.env.cells.lookup y=some c→c≠b)∧X.base.get? b=none)
    (hpl:∀ p∈pl,s.heap.get? p.1=some p.2∧H p.1=none∧p.1∉frs X.stack∧∀ v,p.2.data≠.cell v) :
    Inv (cxComp X scope (xs ++ ys) s H ex (X.pn ++ pins)) pl (xs.map (fun _=>none) ++ caught σ caps) H { s with heap:=h₁,toks:=tk }:=by
  have hL:s.heap.objs.size≠X.env.locals:=Nat.ne_of_gt I.lt
  have hCn:∀ b o,s.heap.get? b=some o→b≠s.heap.objs.size:=fun b o e=>Nat.ne_of_lt (Heap.lt_size e)
  have cellLt:∀ y c,X.env.cells.lookup y=some c→c < s.heap.objs.size:=fun y c e=>by
    obtain ⟨v,z⟩:=I.cell y c e
    exact z.lt
  have cellUp:∀ {c:Addr} {v:Option Value},s.heap.IsCell c v→h₁.IsCell c v:=fun {c v} ⟨o,ho,hd⟩=>⟨o,keep c o ho,hd⟩
  refine ⟨⟨I.ok.mod,S.kind,I.ok.glob,I.ok.blt,Nat.le_refl _,fun y z c h1 h2=>I.ok.inj y z c (S.sub I h1) (S.sub I h2),fun y hy=>?_,fun y c hf _=>?_,fun _=>I.ok.hd hcalm,I.ok.frames,.inl rfl,fun b hb=>?_,I.bs,Nat.le_trans I.ok.bsz I.sz,fun b o e hb=>?_,fun b hb=>(hex b hb).2.1,I.stack,I.stkFree⟩,
    rfl,I.bare,Un.kept keep,⟨_,hn,fun i y v e1 e2 e3=>?_⟩,fun y c e=>?_,I.hok.fresh (Nat.le_refl _),fun y c e=>I.freeC y c (S.sub I e),fun p hp=>?_,I.hok.kept keep,?_⟩
  · have hy':(y,NameKind.free)∈scope.names:=relabel_of (env:=X.env) S.ncell (by
      rcases hy with hy | hy
      · exact ⟨_,hy,.inl rfl⟩
      · exact ⟨_,hy,.inr rfl⟩)
    exact lookup_of_key (closOf_has hy')
  · exact absurd (show false=true from hf) Bool.false_ne_true
  · exact ⟨Nat.ne_of_lt (hex b hb).1,fun y c e=>(hex b hb).2.2.1 y c (S.sub I e)⟩
  · have z:=(hex b hb).2.2.2
    have e':X.base.get? b=some o:=e
    rw [z] at e';cases e'
  · have e1':(xs ++ ys)[i]?=some y:=e1
    obtain ⟨i,e1,e2⟩:∃ i',ys[i']?=some y∧(caught σ caps)[i']?=some (some v):=by
      by_cases hi:i < xs.length
      · rw [List.getElem?_append_left (by rw [List.length_map];exact hi),List.getElem?_map,List.getElem?_eq_getElem hi] at e2
        cases e2
      · rw [List.getElem?_append_right (by omega)] at e1'
        rw [List.getElem?_append_right (by rw [List.length_map];omega),List.length_map] at e2
        exact ⟨_,e1',e2⟩
    obtain ⟨j,hj,hv⟩:∃ j,caps[i]?=some j∧σ[j]?=some (some v):=by
      unfold caught at e2
      rw [List.getElem?_map] at e2
      cases q:caps[i]? with
      | none=>rw [q] at e2;cases e2
      | some j =>
        rw [q] at e2
        have e3:(σ[j]?).join=some v:=Option.some.inj e2
        cases q2:σ[j]? with
        | none=>rw [q2] at e3;cases e3
        | some w'=>rw [q2] at e3;exact ⟨j,rfl,by rw [show w'=some v from e3] at q2;exact q2⟩
    have hz:(y,j)∈ys.zip caps:=List.mem_of_getElem? (i:=i) (by rw [List.getElem?_zip_eq_some];exact ⟨e1,hj⟩)
    obtain ⟨hN,hf⟩:=S.cap (y,j) hz
    have hcellX:X.env.kindOf y=some .cell:=S.fr (y,.free) (PySem.mem_of_lookup hf) rfl
    obtain ⟨m,hm,hl⟩:=I.loc
    obtain ⟨u,r,l⟩:=hl j y v hN hv (.inr (.inl hcellX))
    refine ⟨u,r,?_⟩
    rcases l with ⟨hk,_⟩ | ⟨_,c,hc,hcell⟩
    · rw [hcellX] at hk;cases hk
    · obtain ⟨c',hc'⟩:=lookup_of_key (closOf_has (env:=X.env) (cs:=[]) (PySem.mem_of_lookup hf))
      have:=S.sub I hc'
      rw [hc] at this
      cases this
      exact .inr ⟨.inl (relabel_cell S.fk hf hcellX),c,hc',cellUp hcell⟩
  · obtain ⟨v,z⟩:=I.cell y c (S.sub I e)
    exact ⟨v,cellUp z⟩
  · rcases List.mem_append.mp hp with hp | hp
    · obtain ⟨a1,a2,a3,a4,a5⟩:=I.pin p hp
      exact ⟨keep _ _ a1,a2,hCn _ _ a1,fun z=>(List.mem_cons.mp (I.stkSub p.1 z)).elim a3 a4,a5⟩
    · obtain ⟨a1,a2,a4,a5⟩:=hpl p hp
      exact ⟨keep _ _ a1,a2,hCn _ _ a1,a4,a5⟩
  · show (xs.map (fun _=>none) ++ caught σ caps).length=(xs ++ ys).length
    rw [List.length_append,List.length_append,List.length_map,caught,List.length_map,S.len]
end
section
variable {X:Cx} {scope:Scope} {xs ys:List Str} {caps:List Nat} {elt iter tg:Expr} {te:TE} {g:TG} {pos:Pos}
theorem compG_run {pins:List (Addr×Obj)} {σ:St} {H2:Hp} {s2:Shared} {J:It} {fp:List Addr} {it:Addr} {tn:Nat→Heap→Prop} {E:Value→Shared→Prop} {fin:List V→Hp→Prop} {RR:Value→Addr→Result→Shared→Prop}
    (hcalm:X.calm=true) (S:CompStG X.env.scope scope X.N xs ys caps) (hg:∀ s H ex pn,PG (cxComp X scope (xs ++ ys) s H ex pn) tg g) (he:∀ s H ex pn,PE (cxComp X scope (xs ++ ys) s H ex pn) elt te)
    (I2:Inv X pins σ H2 s2) (T:Turn X.prog X.w X.K tg J fp it tn) (st2:tn 0 s2.heap) (f2:∀ b∈fp,FpOk X pins H2 b) (rd:CompRdG J σ xs.length caps g te H2 fin)
    (hRR:∀ (C:Addr) (ysV:List V) (its:List Value) (n:Nat) (H8:Hp) (s8:Shared) (m:Str→Option Value),C=s2.heap.objs.size+1→Inv X pins σ H8 s8→H8 s2.heap.objs.size=none→H8 C=none→Vals ysV its→ysV.length≤sizeLine →
      s8.heap.get? s2.heap.objs.size=some (lstO its n)→s8.heap.Ns C m→fin ysV H8→RR (.ref s2.heap.objs.size) C (.ok .next) s8) :
    wpAny (model X.prog X.w) X.A (newList []) (fun acc s₃=>wpAny (model X.prog X.w) X.A (newFunctionEnv scope X.env.globals (clsOf X scope) [] X.env.qual none .none (some X.env)) (fun cenv s₄ =>
      codeAny (model X.prog X.w) X.A (.compStart (.ListComp elt [⟨tg,iter,[],0⟩] scope pos) 0 (.ref it) acc { cenv with scope:=relabel scope X.env }) (RR acc cenv.locals) s₄) E s₃) E s2:=by
  obtain ⟨n0,W,hn0,w0,turn⟩:=rd
  refine wpAny_newObj_type (wpAny_newFunctionEnv S.ncell (by intro y hy;simp at hy) (fun h₁ hns hsb=>?_) S.kind)
  dsimp only at hns hsb ⊢
  generalize hg3:s2.heap.push { cls:=.type "list",dict:=none,data:=.seq ([]:List Value).toArray }=g3 at hns hsb ⊢
  have hC:g3.objs.size=s2.heap.objs.size+1:=by rw [← hg3,Heap.size_push]
  have up3:∀ b o,s2.heap.get? b=some o→g3.get? b=some o:=fun b o e=>hg3 ▸ Heap.get?_push_of_some _ e
  have I3:Inv X pins σ H2 { s2 with heap:=g3 }:=I2.kept (t':=s2.toks) up3
  have keep:∀ b o,g3.get? b=some o→h₁.get? b=some o:=fun b o e=>hsb.extBut b o (Nat.ne_of_lt (Heap.lt_size e)) (Heap.get?_push_of_some _ e)
  have objD:g3.get? s2.heap.objs.size=some (lstO [] 0):=hg3 ▸ Heap.get?_push_size _ rfl
  have hDL:s2.heap.objs.size≠X.env.locals:=Nat.ne_of_gt I2.lt
  have hDfs:s2.heap.objs.size∉X.fs:=I2.nofs (Nat.le_refl _)
  have hDst:s2.heap.objs.size∉frs X.stack:=fun z=>(List.mem_cons.mp (I2.stkSub _ z)).elim hDL hDfs
  have hDc:∀ y c,X.env.cells.lookup y=some c→c≠s2.heap.objs.size:=fun y c e=>by
    obtain ⟨v,z⟩:=I2.cell y c e
    exact Nat.ne_of_lt z.lt
  have hDp:∀ p∈X.pn ++ pins,p.1≠s2.heap.objs.size:=fun p hp=>Nat.ne_of_lt (Heap.lt_size (I2.pin p hp).1)
  have hfl:∀ b∈fp,b < s2.heap.objs.size:=fun b hb=>by
    obtain ⟨o,e,_⟩:=T.obj _ _ st2 b hb
    exact Heap.lt_size e
  have hbz:X.base.objs.size≤X.s₀.heap.objs.size:=I2.ok.bsz
  have hch:∀ b∈s2.heap.objs.size :: fp,(b∈X.ex∨X.s₀.heap.objs.size≤b)∧b≠X.env.locals∧(∀ y c,X.env.cells.lookup y=some c→c≠b)∧∀ p∈X.pn ++ pins,p.1≠b:=fun b hb=>by
    rcases List.mem_cons.mp hb with rfl | hb
    · exact ⟨.inr I2.sz,hDL,hDc,hDp⟩
    · obtain ⟨a1,a2,a3,a4,a5,a6⟩:=f2 b hb
      exact ⟨a4,a2,a5,a6⟩
  have hex:∀ b∈s2.heap.objs.size :: fp,b < g3.objs.size∧b∉frs X.stack∧(∀ y c,X.env.cells.lookup y=some c→c≠b)∧X.base.get? b=none:=fun b hb=>by
    have hst:b∉frs X.stack:=by
      rcases List.mem_cons.mp hb with rfl | hb
      · exact hDst
      · obtain ⟨a1,a2,a3,a4,a5,a6⟩:=f2 b hb
        exact fun z=>(List.mem_cons.mp (I2.stkSub _ z)).elim a2 a3
    have hlt:b < g3.objs.size:=by
      rw [hC]
      rcases List.mem_cons.mp hb with rfl | hb
      · exact Nat.lt_succ_self _
      · exact Nat.lt_succ_of_lt (hfl b hb)
    refine ⟨hlt,hst,(hch b hb).2.2.1,?_⟩
    cases q:X.base.get? b with
    | none=>rfl
    | some o =>
      rcases (hch b hb).1 with z | z
      · exact absurd z (I2.ok.noex b o q)
      · exact absurd (Nat.lt_of_lt_of_le (Heap.lt_size q) (Nat.le_trans hbz z)) (Nat.lt_irrefl _)
  have hD2:H2 s2.heap.objs.size=none:=I2.hok.fresh (Nat.le_refl _)
  have I4:Inv (cxComp X scope (xs ++ ys) { s2 with heap:=g3 } H2 (s2.heap.objs.size :: fp) (X.pn ++ pins)) [(s2.heap.objs.size,lstO [] 0)] (xs.map (fun _=>none) ++ caught σ caps) H2 { s2 with heap:=h₁,toks:=s2.toks+([]:List (Str×Value)).length } :=
    Inv.enterG S hcalm I3 hns keep hex fun p hp=>by
      have e:p=(s2.heap.objs.size,lstO [] 0):=by simpa using hp
      subst e
      exact ⟨objD,hD2,hDst,fun v z=>nomatch z⟩
  have st4:tn 0 h₁:=T.keep _ _ _ st2 fun b hb o e=>keep b o (up3 b o e)
  generalize hY:cxComp X scope (xs ++ ys) { s2 with heap:=g3 } H2 (s2.heap.objs.size :: fp) (X.pn ++ pins)=Y at I4
  have yP:Y.prog=X.prog:=by rw [← hY];rfl
  have yW:Y.w=X.w:=by rw [← hY];rfl
  have yK:Y.K=X.K:=by rw [← hY];rfl
  have yA:Y.A=X.A:=by rw [← hY];rfl
  have yC:Y.calm=true:=by rw [← hY];exact hcalm
  have yX:Y.xe=fun _ _=>False:=by rw [← hY];rfl
  have yN:Y.N=xs ++ ys:=by rw [← hY];rfl
  have yE:Y.env=compEnvC scope (clsOf X scope) g3.objs.size X.env:=by rw [← hY];rfl
  have yex:Y.ex=s2.heap.objs.size :: fp:=by rw [← hY];rfl
  have ypn:Y.pn=X.pn ++ pins:=by rw [← hY];rfl
  have yfs:Y.fs=frs X.stack:=by rw [← hY];rfl
  have ybase:∀ {pl σ' H' s'},Inv Y pl σ' H' s'→Un (frs X.stack) (s2.heap.objs.size :: fp) H2 H' g3 s'.heap∧s'.os=s2.os:=by
    intro pl σ' H' s' I
    rw [← hY] at I
    exact ⟨I.base,I.os⟩
  have yhg:PG Y tg g:=by rw [← hY];exact hg _ _ _ _
  have yhe:PE Y elt te:=by rw [← hY];exact he _ _ _ _
  have ycl:∀ y c,Y.env.cells.lookup y=some c→X.env.cells.lookup y=some c:=fun y c e=>by
    rw [yE] at e
    exact S.sub I2 e
  have yfp:∀ {H':Hp} {o:Obj},(∀ b∈fp,H' b=none)→∀ b∈fp,FpOk Y [(s2.heap.objs.size,o)] H' b:=fun {H' o} hn b hb=>by
    obtain ⟨a1,a2,a3,a4,a5,a6⟩:=f2 b hb
    refine ⟨hn b hb,?_,?_,?_,fun y c e=>a5 y c (ycl y c e),fun p hp=>?_⟩
    · rw [yE];exact Nat.ne_of_lt (hex b (List.mem_cons_of_mem _ hb)).1
    · rw [yfs];exact (hex b (List.mem_cons_of_mem _ hb)).2.1
    · rw [yex];exact .inl (List.mem_cons_of_mem _ hb)
    · rw [ypn] at hp
      rcases List.mem_append.mp hp with hp | hp
      · exact a6 p hp
      · have e:p=(s2.heap.objs.size,o):=by simpa using hp
        subst e
        exact Nat.ne_of_gt (hfl b hb)
  have loop:∀ s₃:Shared,s₃={ s2 with heap:=h₁,toks:=s2.toks+([]:List (Str×Value)).length } →
      codeAny (model X.prog X.w) X.A (.compLoop (.ListComp elt [⟨tg,iter,[],0⟩] scope pos) 0 (.ref it) (.ref s2.heap.objs.size) (compEnvC scope (clsOf X scope) g3.objs.size X.env)) (RR (.ref s2.heap.objs.size) g3.objs.size) s₃:=by
    rintro s₃ rfl
    refine codeAny_loop rfl (fun k s'=>∃ i ysV its cnt H' os,os.length=xs.length∧k=n0+1 - i∧Inv Y [(s2.heap.objs.size,lstO its cnt)] (os ++ caught σ caps) H' s'∧tn i s'.heap∧(∀ b∈fp,H' b=none)∧Vals ysV its∧ysV.length=i∧i≤n0∧W i ysV H') ?_ (n0+1)
      ⟨0,[],[],0,H2,xs.map (fun _=>none),by rw [List.length_map],rfl,I4,st4,fun b hb=>(f2 b hb).1,.nil,rfl,Nat.zero_le _,w0⟩
    rintro k s' ⟨i,ysV,its,cnt,H',os,hos,rfl,I',tni,frn,vv,hlen,hin,hw⟩
    show wpAny _ _ ((compTurn (.ListComp elt [⟨tg,iter,[],0⟩] scope pos) 0 (.ref it) (.ref s2.heap.objs.size) (compEnvC scope (clsOf X scope) g3.objs.size X.env)).onRaise (fun x=>do noteFrame x (compEnvC scope (clsOf X scope) g3.objs.size X.env);theTreesLotGoes x)) _ _ s'
    refine wpAny_noted ?_
    rw [compTurn_list1]
    have fpok:=yfp (o:=lstO its cnt) frn
    rcases turn i ysV H' hin hlen hw with ⟨stop,hfin⟩ | ⟨hlt,go,step⟩
    · refine wpAny_bind (wpAny_standAt (wpAny_bind (thn (Q:=fun r s1=>r=none∧Inv Y [(s2.heap.objs.size,lstO its cnt)] (os ++ caught σ caps) H' s1) ?_ fun r s1 ⟨hr,I1⟩=>?_)))
      · have:=T.done Y yP yW yK yC i _ s' _ H' (notedBy (model X.prog X.w) X.A (compEnvC scope (clsOf X scope) g3.objs.size X.env) fun e s'=>RR (.ref s2.heap.objs.size) g3.objs.size (.error e) s') I' fpok tni stop
        rw [yA] at this
        exact this
      · subst hr
        refine wpAny_pure ?_
        obtain ⟨ub,uo⟩:=ybase I1
        obtain ⟨m,hm,_⟩:=I1.loc
        obtain ⟨p1,p2,_⟩:=I1.pin (s2.heap.objs.size,lstO its cnt) (List.mem_append_right _ List.mem_cons_self)
        have hok:HOk X.prog X.w H' s1.heap:=by have:=I1.hok;rw [yP,yW] at this;exact this
        have hCf:=I1.free
        rw [yE] at hm hCf
        refine hRR g3.objs.size ysV its cnt H' s1 m hC (I3.call' uo ub hok I1.bare hch) p2 hCf vv (by omega) p1 hm hfin
    · refine wpAny_bind (wpAny_standAt (wpAny_bind (thn (Q:=fun r s1=>∃ u,r=some u∧wpAny (model X.prog X.w) X.A (letOwnedTupleGo tg (.ref it) u) (fun _ s5=>∃ x H5,Inv Y [(s2.heap.objs.size,lstO its cnt)] (os ++ caught σ caps) H5 s5∧RelV x u∧J.yld i H' x H5∧tn (i+1) s5.heap∧∀ b∈fp,H5 b=none)
          (notedBy (model X.prog X.w) X.A (compEnvC scope (clsOf X scope) g3.objs.size X.env) fun e s'=>RR (.ref s2.heap.objs.size) g3.objs.size (.error e) s') s1) ?_ fun r s1 ⟨u,hr,h4⟩=>?_)))
      · have:=T.item Y yP yW yK yC i _ s' _ H' (notedBy (model X.prog X.w) X.A (compEnvC scope (clsOf X scope) g3.objs.size X.env) fun e s'=>RR (.ref s2.heap.objs.size) g3.objs.size (.error e) s') I' fpok tni go
        rw [yA] at this
        exact this
      · subst hr
        refine wpAny_bind (thn h4 fun _ s5 ⟨xv,H5,I5,r5,y5,st5,fr5⟩=>?_)
        have I5':=I5.pinned (yfp fr5) (T.obj _ _ st5)
        have sto:=yhg _ s5 _ H5 xv u _ I5' r5 (step xv H5 y5 os hos)
        rw [yP,yW,yA,yE] at sto
        refine wpAny_bind (nxE yX sto fun _ s6 ⟨σ6,H6,I6,⟨os',hos',e6⟩,t6⟩=>?_)
        subst e6
        have ev:=yhe _ s6 _ H6 _ I6 t6
        rw [yP,yW,yA,yE] at ev
        refine wpAny_bind (wpAny_bind (nxE yX ev fun yv s7 ⟨y,H7,I7,r7,w7⟩=>?_))
        obtain ⟨zD,hD7,hDl7,hDf7,_⟩:=I7.pin (s2.heap.objs.size,lstO its cnt) (List.mem_append_right _ (List.mem_append_left _ List.mem_cons_self))
        have hil:=vv.length
        refine wpAny_bind (append_at zD (fun h8 sb8 d8=>wpAny_pure (wpAny_pure ⟨rfl,?_⟩)) (by rw [List.size_toArray];omega))
        have I7':Inv Y [] (os' ++ caught σ caps) H7 s7:=I7.pins_of fun p hp=>nomatch hp
        have I8:Inv Y [] (os' ++ caught σ caps) H7 { s7 with heap:=h8 }:=I7'.turned (t':=s7.toks) (fun b ob hb e=>(sb8.2 b hb).trans e) hD7 hDl7 (.inl (by rw [yex];exact List.mem_cons_self)) (fun y c e=>hDc y c (ycl y c e)) (fun p hp=>by
          rw [ypn,List.append_nil] at hp
          exact hDp p hp)
        have I9:Inv Y [(s2.heap.objs.size,lstO (its ++ [yv]) (cnt+1))] (os' ++ caught σ caps) H7 { s7 with heap:=h8 }:=I8.pins_of fun p hp=>by
          have e:p=(s2.heap.objs.size,lstO (its ++ [yv]) (cnt+1)):=by simpa using hp
          subst e
          refine ⟨?_,hD7,hDl7,hDf7,fun v z=>nomatch z⟩
          show h8.get? s2.heap.objs.size=some { cls:=.type "list",data:=.seq (its ++ [yv]).toArray (cnt+1) }
          rw [d8,List.push_toArray]
        refine ⟨n0+1 - (i+1),by omega,i+1,ysV ++ [y],its ++ [yv],cnt+1,H7,os',hos',rfl,I9,?_,?_,vv.append (.cons r7 .nil),by rw [List.length_append,hlen];rfl,hlt,w7⟩
        · refine T.keep _ _ _ st5 fun b hb ob e=>(sb8.2 b (Nat.ne_of_lt (hfl b hb))).trans ?_
          exact (I7.pin (b,ob) (List.mem_append_right _ (List.mem_append_right _ (mem_pinsAt hb e)))).1
        · intro b hb
          obtain ⟨ob,e,_⟩:=T.obj _ _ st5 b hb
          exact (I7.pin (b,ob) (List.mem_append_right _ (List.mem_append_right _ (mem_pinsAt hb e)))).2.1
  exact codeAny_compStart_list (loop _ rfl) (T.self _ 0 _ _ _ st4 (loop _ rfl))
theorem pe_compH {wi:TI} {RD:St→VK→It→Hp→Prop} (hRD:∀ σ Q J H1,RD σ Q J H1→CompRdG J σ xs.length caps g te H1 fun ys H2=>∀ p,H2 p=none→Q (.ref p) (upd H2 p (.lst ys))) {FS:Scope} {N:List Str} (S0:CompStG FS scope N xs ys caps) (hFS:X.env.scope=FS) (hN0:X.N=N) (hcalm:X.calm=true) (hi:PI X tg iter wi) (hg:∀ s H ex pn,PG (cxComp X scope (xs ++ ys) s H ex pn) tg g) (he:∀ s H ex pn,PE (cxComp X scope (xs ++ ys) s H ex pn) elt te)
    (hs:∀ v,foldedSetIterable iter X.env v=pure v:=by intro _;rfl):PE X (.ListComp elt [⟨tg,iter,[],0⟩] scope pos) (fun σ H Q=>wi σ H (RD σ Q)):=by
  have S:CompStG X.env.scope scope X.N xs ys caps:=by rw [hFS,hN0];exact S0
  intro pins s σ H Q I h
  rw [eval_ListComp]
  refine wpAny_comprehension_free (use:=none) rfl hs (closureFor_eq (S.cells I)) S.kind S.names (thn (hi pins s σ H _ I h) fun v s1 h1=>thn h1 fun itv s2 h2=>?_)
  obtain ⟨it,fp,tn,J,H2,rfl,I2,T,st2,f2,rd⟩:=h2
  refine compG_run (RR:=fun acc C=>compPost (model X.prog X.w) X.A X.xe none (EP X pins σ Q) acc C) hcalm S hg he I2 T st2 f2 (hRD _ _ _ _ rd) ?_
  intro C ysV its n H8 s8 m hC I8 hD hC8 vv hz oD hn fin
  refine ⟨m,hn,fun h' sb=>?_⟩
  have sz:=I2.sz
  have lt:=I2.lt
  have ap:∀ b:Addr,b < s2.heap.objs.size→b≠C∧C≠b:=fun b hb=>by
    subst hC
    exact ⟨Nat.ne_of_lt (Nat.lt_succ_of_lt hb),Nat.ne_of_gt (Nat.lt_succ_of_lt hb)⟩
  have szC:X.s₀.heap.objs.size≤C:=by subst hC;exact Nat.le_succ_of_le sz
  have DC:s2.heap.objs.size≠C:=by subst hC;exact Nat.ne_of_lt (Nat.lt_succ_self _)
  have cl:∀ y c,X.env.cells.lookup y=some c→c < s2.heap.objs.size:=fun y c e=>by
    obtain ⟨w',z⟩:=I2.cell y c e
    exact z.lt
  have pl:∀ p∈X.pn ++ pins,p.1 < s2.heap.objs.size:=fun p hp=>Heap.lt_size (I2.pin p hp).1
  have I9:Inv X pins σ H8 { s8 with heap:=h' }:=I8.turned (t':=s8.toks) (fun b o hb e=>(sb.2 b hb).trans e) hC8 (ap _ lt).2 (.inr szC) (fun y c e=>(ap c (cl y c e)).1) (fun p hp=>(ap p.1 (pl p hp)).1)
  have oD':h'.get? s2.heap.objs.size=some (lstO its n):=(sb.2 _ DC).trans oD
  exact ⟨.ref s2.heap.objs.size,upd H8 s2.heap.objs.size (.lst ysV),I9.adopt hD sz (Nat.ne_of_gt lt) (fun y c e=>Nat.ne_of_lt (cl y c e)) (fun p hp=>Nat.ne_of_lt (pl p hp)) ⟨hz,its,n,vv,oD'⟩,rfl,fin _ hD⟩
theorem ps_setCompH {wi:TI} {RD:St→VK→It→Hp→Prop} (hRD:∀ σ Q J H1,RD σ Q J H1→CompRdG J σ xs.length caps g te H1 fun ys H2=>∀ p,H2 p=none→Q (.ref p) (upd H2 p (.lst ys))) {FS:Scope} {N:List Str} {i:Nat} {y:Str} {py spos:Pos} (S0:CompStG FS scope N xs ys caps) (hFS:X.env.scope=FS) (hN0:X.N=N) (hcalm:X.calm=true) (hN:X.N.Nodup) (hy:X.N[i]?=some y) (hl:Loc X.env.scope y) (hi:PI X tg iter wi) (hg:∀ s H ex pn,PG (cxComp X scope (xs ++ ys) s H ex pn) tg g) (he:∀ s H ex pn,PE (cxComp X scope (xs ++ ys) s H ex pn) elt te)
    (hsw:swapsWith (.ListComp elt [⟨tg,iter,[],0⟩] scope pos) (some (.Name y py)) spos.line X.env=pure true:=by rfl)
    (hs:∀ v,foldedSetIterable iter X.env v=pure v:=by intro _;rfl) (hf:X.fn y=true∨X.env.scope.names.lookup y=some .local:=by first | exact .inl rfl | exact .inr rfl | assumption) :
    PS X (.Assign [.Name y py] (.ListComp elt [⟨tg,iter,[],0⟩] scope pos) spos) (tAsg (fun σ H Q=>wi σ H (RD σ Q)) (gName i)):=by
  have S:CompStG X.env.scope scope X.N xs ys caps:=by rw [hFS,hN0];exact S0
  intro pins s σ H D I h
  rw [exec_Assign_Name_used _ _ _ _ hsw]
  refine wpAny_bind (wpAny_standAt (wpAny_bind ?_))
  show wpAny _ X.A (do let _ ← comprehension (.ListComp elt [⟨tg,iter,[],0⟩] scope pos) scope X.env _ (newList []) false (eval iter X.env) (some (assign (.Name y py) X.env))) _ _ s
  refine wpAny_bind (wpAny_mono (wpAny_comprehension_free (use:=some (assign (.Name y py) X.env)) (Q:=fun _ s'=>SP X pins D .next s') rfl hs (closureFor_eq (S.cells I)) S.kind S.names
    (thn (hi pins s σ H _ I h) fun v s1 h1=>thn h1 fun itv s2 h2=>?_)) (fun _ s' hq=>wpAny_pure (wpAny_pure hq)) fun _ _ e=>e)
  obtain ⟨it,fp,tn,J,H2,rfl,I2,T,st2,f2,rd⟩:=h2
  refine compG_run (RR:=fun acc C=>compPost (model X.prog X.w) X.A X.xe (some (assign (.Name y py) X.env)) (fun _ s'=>SP X pins D .next s') acc C) hcalm S hg he I2 T st2 f2 (hRD _ _ _ _ rd) ?_
  intro C ysV its n H8 s8 m hC I8 hD hC8 vv hz oD hn fin
  have sz:=I2.sz
  have lt:=I2.lt
  have ap:∀ b:Addr,b < s2.heap.objs.size→b≠C∧C≠b:=fun b hb=>by
    subst hC
    exact ⟨Nat.ne_of_lt (Nat.lt_succ_of_lt hb),Nat.ne_of_gt (Nat.lt_succ_of_lt hb)⟩
  have szC:X.s₀.heap.objs.size≤C:=by subst hC;exact Nat.le_succ_of_le sz
  have DC:C≠s2.heap.objs.size:=by subst hC;exact Nat.ne_of_gt (Nat.lt_succ_self _)
  have cl:∀ y c,X.env.cells.lookup y=some c→c < s2.heap.objs.size:=fun y c e=>by
    obtain ⟨w',z⟩:=I2.cell y c e
    exact z.lt
  have pl:∀ p∈X.pn ++ pins,p.1 < s2.heap.objs.size:=fun p hp=>Heap.lt_size (I2.pin p hp).1
  have I9:Inv X pins σ (upd H8 s2.heap.objs.size (.lst ysV)) s8:=I8.adopt hD sz (Nat.ne_of_gt lt) (fun y c e=>Nat.ne_of_lt (cl y c e)) (fun p hp=>Nat.ne_of_lt (pl p hp)) ⟨hz,its,n,vv,oD⟩
  show wpAny (model X.prog X.w) X.A (assign (.Name y py) X.env (.ref s2.heap.objs.size)) _ _ s8
  refine wpAny_assign_Name (store_ok2 (v:=.ref s2.heap.objs.size) I9 hN hy hl rfl (fun s9 I10 ⟨a,sa,ha⟩=>?_) hf)
  have hCa:C≠a:=by
    rcases ha with rfl | e
    · exact (ap _ lt).2
    · exact (ap _ (cl _ _ e)).2
  refine ⟨m,hn.sameBut sa hCa,fun h' sb=>⟨_,_,I10.turned (t':=s9.toks) (fun b o hb e=>(sb.2 b hb).trans e) ?_ (ap _ lt).2 (.inr szC) (fun y c e=>(ap c (cl y c e)).1) (fun p hp=>(ap p.1 (pl p hp)).1),fin _ hD⟩⟩
  rw [upd_ne DC]
  exact hC8
theorem pgc_name {X:Cx} {scope:Scope} {NY:List Str} {s:Shared} {H:Hp} {ex:List Addr} {pn:List (Addr×Obj)} {i:Nat} {x:Str} {px:Pos} (hN:NY.Nodup) (hi:NY[i]?=some x) (hx:scope.names.lookup x=some .local):PG (cxComp X scope NY s H ex pn) (.Name x px) (gName i) :=
  pg_name (X:=cxComp X scope NY s H ex pn) hN hi (.inl (lookup_relabel_local hx)) (.inr (lookup_relabel_local hx))
theorem CompSt.toG {FS:Scope} {N:List Str} {x:Str} (S:CompSt FS scope N x ys caps):CompStG FS scope N [x] ys caps:=⟨S.ncell,S.kind,S.names,S.fr,S.fk,S.cap,S.len⟩
theorem CompRd.toG {J:It} {σ:St} {te:TE} {H1:Hp} {fin:List V→Hp→Prop}:CompRd J σ caps te H1 fin→CompRdG J σ 1 caps (gName 0) te H1 fin:=by
  rintro ⟨n,W,hn,h0,h⟩
  refine ⟨n,W,hn,h0,fun i ys H2 hi hy hw=>?_⟩
  rcases h i ys H2 hi hy hw with z | ⟨z1,z2,z3⟩
  · exact .inl z
  · refine .inr ⟨z1,z2,fun x H3 y os ho=>?_⟩
    match os,ho with
    | [o],_=>exact ⟨⟨[some x],rfl,rfl⟩,z3 x H3 y⟩
end
section
variable {X:Cx} {scope:Scope} {x:Str} {ys:List Str} {caps:List Nat} {elt iter:Expr} {te:TE} {px pos:Pos}
theorem pe_comp {wi:TI} {FS:Scope} {N:List Str} (S0:CompSt FS scope N x ys caps) (hFS:X.env.scope=FS) (hN0:X.N=N) (hcalm:X.calm=true) (hi:PI X (.Name x px) iter wi) (he:∀ s H ex pn,PE (cxComp X scope (x :: ys) s H ex pn) elt te)
    (hs:∀ v,foldedSetIterable iter X.env v=pure v:=by intro _;rfl):PE X (.ListComp elt [⟨.Name x px,iter,[],0⟩] scope pos) (tComp wi caps te):=pe_compH (xs:=[x]) (g:=gName 0) (fun _ _ _ _ h=>CompRd.toG h) S0.toG hFS hN0 hcalm hi (fun _ _ _ _=>pgc_name S0.nd rfl S0.loc) he hs
theorem ps_setComp {wi:TI} {FS:Scope} {N:List Str} {i:Nat} {y:Str} {py spos:Pos} (S0:CompSt FS scope N x ys caps) (hFS:X.env.scope=FS) (hN0:X.N=N) (hcalm:X.calm=true) (hN:X.N.Nodup) (hy:X.N[i]?=some y) (hl:Loc X.env.scope y) (hi:PI X (.Name x px) iter wi) (he:∀ s H ex pn,PE (cxComp X scope (x :: ys) s H ex pn) elt te)
    (hsw:swapsWith (.ListComp elt [⟨.Name x px,iter,[],0⟩] scope pos) (some (.Name y py)) spos.line X.env=pure true:=by rfl)
    (hs:∀ v,foldedSetIterable iter X.env v=pure v:=by intro _;rfl) (hf:X.fn y=true∨X.env.scope.names.lookup y=some .local:=by first | exact .inl rfl | exact .inr rfl | assumption) :
    PS X (.Assign [.Name y py] (.ListComp elt [⟨.Name x px,iter,[],0⟩] scope pos) spos) (tAsg (tComp wi caps te) (gName i)):=ps_setCompH (RD:=fun σ Q J H1=>CompRd J σ caps te H1 fun ys H2=>∀ p,H2 p=none→Q (.ref p) (upd H2 p (.lst ys))) (xs:=[x]) (g:=gName 0) (fun _ _ _ _ h=>CompRd.toG h) S0.toG hFS hN0 hcalm hN hy hl hi (fun _ _ _ _=>pgc_name S0.nd rfl S0.loc) he hsw hs hf
end
end L2
namespace L2
open PySem PySem.Spec PyProof.Rows
noncomputable def cMaxL (K:PySem.W.Frag):List V→Hp→VK→Prop:=fun xs H Q=>∃ p ns,xs=[.ref p]∧SqL K H p (List.map V.int ns)∧ns≠[]∧∀ M,M∈ns→(∀ a∈ns,a≤M)→Q (.int M) H
theorem Vals.ints:∀ {ns:List Int} {us:List Value},Vals (List.map V.int ns) us→∃ xs:List (Int×Tok),us=xs.map (fun p=>Value.int p.1 p.2)∧xs.map (·.1)=ns
  | [],_,h=>by cases h;exact ⟨[],rfl,rfl⟩
  | n :: ns,_,h=>by
    cases h with
    | cons r t =>
      obtain ⟨tk,rfl⟩:=r
      obtain ⟨xs,e1,e2⟩:=Vals.ints t
      exact ⟨(n,tk) :: xs,by rw [e1];rfl,by rw [List.map_cons,e2]⟩
theorem numAt_of {xs:List (Int×Tok)} {ns:List Int} (e:xs.map (·.1)=ns) (i:Nat) (h:i < ns.length):∃ n,ns[i]?=some n∧numAt xs.toArray i=n:=by
  have hx:i < xs.length:=by rw [← e,List.length_map] at h;exact h
  refine ⟨xs[i].1,by rw [← e,List.getElem?_map,List.getElem?_eq_getElem hx];rfl,?_⟩
  unfold numAt
  rw [List.getElem?_toArray,List.getElem?_eq_getElem hx]
  rfl
section
variable {X:Cx}
theorem call_maxL (hc:X.calm=true):CallR X (.builtin "max") (cMaxL X.K):=by
  intro pins s σ H xs us Q I r h
  obtain ⟨p,ns,rfl,hq,hne,q⟩:=h
  obtain ⟨u,rfl,ru⟩:=vals1 r
  cases ru
  obtain ⟨its,rv,pl,hz⟩:=I.list hq
  obtain ⟨ps,e1,e2⟩:=rv.ints
  have hl:ps.length=ns.length:=by rw [← e2,List.length_map]
  have hn0:0 < ns.length:=List.length_pos_iff.mpr hne
  have ei:its.toArray=intItems ps.toArray:=by rw [e1];unfold intItems;simp
  have pl':=pl.isList
  rw [ei] at pl'
  refine max_intList (I.ok.hd hc) pl' (by rw [List.size_toArray];omega) fun v h' tk hv hk=>?_
  obtain ⟨t,rfl⟩:=intItems_at hv
  obtain ⟨g1,g2⟩:=argBest_gt (numAt ps.toArray) (ps.toArray.size - 1)
  rw [List.size_toArray] at g1 g2 ⊢
  obtain ⟨M,m1,m2⟩:=numAt_of e2 (argBest (fun i j=>decide (numAt ps.toArray i > numAt ps.toArray j)) (ps.length - 1)) (by omega)
  rw [m2] at g2 ⊢
  refine ⟨.int M,H,I.kept hk,⟨_,rfl⟩,q M (List.mem_of_getElem? m1) fun a ha=>?_⟩
  obtain ⟨j,hj,ej⟩:=List.getElem_of_mem ha
  obtain ⟨n,n1,n2⟩:=numAt_of e2 j hj
  rw [List.getElem?_eq_getElem hj,ej] at n1
  cases n1
  rw [← n2]
  exact g2 j (by omega)
end
theorem comp_listI {K:PySem.W.Frag} {a:Addr} {xs:List V} {σ:St} {caps:List Nat} {tt:TT} {te:TE} {H1:Hp} {fin:List V→Hp→Prop} (W:Nat→List V→Hp→Prop) (hz:xs.length≤sizeLine) (h0:W 0 [] H1) (hl:∀ i ys H,i≤xs.length→W i ys H→SqL K H a xs)
    (hs:∀ i x ys H,xs[i]?=some x→ys.length≤i→W i ys H→tt (some x :: caught σ caps) H fun b H4=>if b=true then te (some x :: caught σ caps) H4 fun y H5=>W (i+1) (ys ++ [y]) H5 else W (i+1) ys H4) (hd:∀ ys H,W xs.length ys H→fin ys H):CompRdI (Itl K a) σ caps tt te H1 fin:=by
  refine ⟨xs.length,W,hz,h0,fun i ys H2 hi hy hw=>?_⟩
  have q:=hl i ys H2 hi hw
  by_cases hlt:i < xs.length
  · refine .inr ⟨hlt,⟨xs,xs[i],q,by simp [hlt]⟩,fun x H3 y=>?_⟩
    obtain ⟨e,y⟩:=y
    subst e
    exact hs i x ys _ (y xs q) hy hw
  · have e:i=xs.length:=by omega
    subst e
    exact .inl ⟨⟨xs,q,Nat.le_refl _⟩,hd ys H2 hw⟩
end L2
namespace L2
open PySem PySem.Spec PyProof.Rows
theorem map_erase {α β:Type} (f:α→β):∀ (l:List α) (j:Nat),(l.map f).eraseIdx j=(l.eraseIdx j).map f
  | [],_=>rfl
  | _ :: _,0=>rfl
  | x :: l,j+1=>by show f x :: (l.map f).eraseIdx j=f x :: (l.eraseIdx j).map f;rw [map_erase f l j]
section
variable {prog:Program} {w:World} {K:Type} [DecidableEq K] {knd:HeapKind prog w K} {A:Around} {E:Value→Shared→Prop} {s:Shared}
theorem takeOut_heap {d a:Addr} {xs:List (K×Addr×Value)} {k:K} {j:Nat} {p:Addr×Value} {Q:Option DictEntry→Shared→Prop} (hu:knd.room A) (hkey:knd.is s.heap k a) (hm:s.heap.DictOfH knd d xs) (hj:xs[j]?=some (k,p)) (hsz:xs.length≤sizeLine)
    (hQ:∀ h',h'.DictOfH knd d (xs.eraseIdx j)→Heap.SameBut d s.heap h'→Q (some (entryOfKey knd (k,p))) { s with heap:=h',toks:=s.toks+knd.draws k }):wpAny (model prog w) A (Builtin.Dict.takeOut d (.ref a)) Q E s:=by
  obtain ⟨o,es,ep,ho,hc,hd,he,his,hn⟩:=hm
  unfold Builtin.Dict.takeOut
  refine wpAny_holding (wpAny_bind (knd.pyHash hu hkey (wpAny_bind (wpAny_dictFind_heap (s:={ s with toks:=s.toks+knd.draws k }) hu hkey ho hd he his hn ?_ ?_))))
  · intro hno
    exact absurd hj (hno j p)
  · intro j' p' hj'
    have e1:p'=p:=Option.some.inj ((atKey_of_get hn hj').symm.trans (atKey_of_get hn hj))
    subst e1
    have e2:j'=j:=by
      have l1:=(List.getElem?_eq_some_iff.mp hj').1
      refine (List.getElem?_inj (l:=xs.map (·.1)) (by rw [List.length_map];exact l1) hn).mp ?_
      rw [List.getElem?_map,List.getElem?_map,hj,hj']
    subst e2
    refine wpAny_bind (wpAny_dictEntries (s:={ s with toks:=s.toks+knd.draws k }) ho hd ?_)
    rw [entry_at he j',hj']
    show wpAny _ _ (updateDictKeys d _ _ >>= _) _ _ _
    refine wpAny_bind (wpAny_updateDictKeys (hz:=by have e:=size_of_entries he;omega) (s:={ s with toks:=s.toks+knd.draws k }) ho hd (wpAny_pure (hQ _ ⟨_,_,ep+1,Heap.get?_update_self _ ho (Obj.isFreed_of_dict (Obj.data_mapDictKeys hd _)),hc.mapDictKeys _,Obj.data_mapDictKeys hd _,?_,?_,?_⟩ (Heap.SameBut.update ..))))
    · rw [Array.toList_eraseIdxIfInBounds,he,map_erase]
    · intro x hx
      exact knd.keeps (his x (List.mem_of_mem_eraseIdx hx)) ho hd (Heap.SameBut.update ..)
    · rw [← map_erase]
      exact (List.eraseIdx_sublist _ _).nodup hn
theorem pop_heap {d a:Addr} {xs:List (K×Addr×Value)} {k:K} {j:Nat} {p:Addr×Value}:MeetsIn prog w (Builtin.«dict.pop» ⟨[.ref d,.ref a],[]⟩) (fun A R s=>knd.room A.in1∧knd.is s.heap k a∧s.heap.DictOfH knd d xs∧xs[j]?=some (k,p)∧xs.length≤sizeLine ∧
    ∀ h',h'.DictOfH knd d (xs.eraseIdx j)→Heap.SameBut d s.heap h'→R (.ok (.ret p.2)) { s with heap:=h',toks:=s.toks+knd.draws k }) :=
  .of_wp fun A R s ⟨hu,hkey,hm,hj,hsz,h⟩=>by
    obtain ⟨o,es,ep,ho,hc,hd,he,his,hn⟩:=id hm
    have hT:s.TypeIs (.ref d) "dict":=⟨o,ho,hc.1⟩
    have l1:=(List.getElem?_eq_some_iff.mp hj).1
    unfold Builtin.«dict.pop»;refine wpAny_bind ?_;unfold Builtin.Dict.keyAndDefault;refine wpAny_bind (wpAny_notOrdered_dict hT ?_)
    show wpAny _ _ (pure (d,Value.ref a,none)) _ _ s
    refine wpAny_pure ?_
    dsimp only
    rw [if_neg (show ¬ ((keyPart (Value.ref a)).isSome=true) from Bool.false_ne_true)]
    refine wpAny_bind (wpAny_dictEntries ho hd (wpAny_bind (wpAny_pure ?_)))
    have hne:es.isEmpty=false:=by
      have e:=size_of_entries he
      simp [Array.isEmpty]
      intro z
      rw [z] at e
      simp at e
      omega
    rw [hne]
    show wpAny _ _ (Builtin.Dict.takeOut d (.ref a) >>= _) _ _ s
    refine wpAny_bind (takeOut_heap hu hkey hm hj hsz fun h' hm' hs'=>?_)
    simp only [Option.isNone_some,Bool.false_eq_true,if_false]
    exact wpAny_bind (wpAny_letGo (wpAny_pure ⟨p.2,rfl,h h' hm' hs'⟩))
end
noncomputable def tPopT (td ty:TE):TE:=fun σ H Q=>td σ H fun x H1=>∃ a,x=.ref a∧IsD H1 a∧ty σ H1 fun y H2=>∃ kvs k v j b,H2 a=some (.dT kvs)∧y=.ref b∧H2 b=some (.tup (k.map kV))∧kvs[j]?=some (k,v)∧Q v (upd H2 a (.dT (kvs.eraseIdx j)))
theorem Paired.erase {α β:Type} {R:α→β→Prop}:∀ {xs:List α} {ys:List β},Paired R xs ys→∀ j:Nat,Paired R (xs.eraseIdx j) (ys.eraseIdx j)
  | _,_,.nil,_=>.nil
  | _,_,.cons _ t,0=>t
  | _,_,.cons r t,j+1=>.cons r (Paired.erase t j)
section
variable {X:Cx} {o e:Expr} {apos cpos:Pos} {td ty:TE}
theorem pe_popT (hu:X.A.units+1 < cLine) (ho:PE X o td) (he:PE X e ty) (m:M1 X o "pop" apos e cpos):PE X (.Call (.Attribute o "pop" apos) [e] [] cpos) (tPopT td ty):=by
  intro pins s σ H Q I h
  refine wpAny_Call_method m.base m.few m.line PySem.F.plainAttrs_dict PySem.F.slot_dict_pop PySem.F.type_dict_pop (thn (ho pins s σ H _ I h) fun u s1 ⟨x,H1,I1,rx,a,ex,d,q1⟩=>?_)
  subst ex
  obtain rfl:u=Value.ref a:=rx
  obtain ⟨t1,t2,_⟩:=isD_at I1 d
  refine ⟨t1,t2,?_⟩
  rw [m.trees]
  refine Calls.callWith_builtin rfl (Calls.evalArgs_plain (Calls.spliced_cons (thn (he pins s1 σ H1 _ I1 q1) fun iv s2 ⟨y,H2,I2,ry,kvs,k,v,j,b,hd,ey,hb,hj,q2⟩=>Calls.spliced_nil ?_)))
  subst ey
  cases (show iv=Value.ref b from ry)
  obtain ⟨z,ns,xs,rel,dd⟩:=dt_of I2.hok hd
  obtain ⟨p,hp,e1,e2,e3⟩:=KT.at rel j _ hj
  have tD:s2.TypeIs (.ref a) "dict":=by obtain ⟨o,_,_,g1,g2,_⟩:=id dd;exact ⟨o,g1,g2.1⟩
  have hp':xs[j]?=some (k,p.2):=by rw [hp];exact congrArg some (Prod.ext e1.symm rfl)
  have hx:xs.length≤sizeLine:=by rw [← Paired.length rel];exact z
  refine call_meetsIn PySem.F.slot_dict_pop tD PySem.F.entry_dict_pop (PySem.F.args_dict_pop_2 _ _) (pop_heap (knd:=tupleKind (mixKind X.prog X.w)) (xs:=xs) (k:=k) (j:=j) (p:=p.2)) ⟨tupleKind_room_in1 hu,key_of I2.hok hb,dd,hp',hx,fun h' dd' sb=>?_⟩
  obtain ⟨o',es',ep',g1,g2,g3,g4,g5,g6⟩:=id dd'
  have kt:∀ c ys,H2 c=some (.tup ys)→upd H2 a (.dT (kvs.eraseIdx j)) c=some (.tup ys):=fun c ys q=>by rw [upd_ne (ne_of q hd (by intro z;cases z))];exact q
  refine ⟨v,_,d_write (ob:=.dT (kvs.eraseIdx j)) I2 (by rw [hd];exact True.intro) sb ⟨o',g1⟩ ⟨?_,ns,xs.eraseIdx j,?_,o',es',ep',g1,g2,g3,g4,g6⟩,e3,q2⟩
  · exact Nat.le_trans (List.length_eraseIdx_le _ _) z
  · exact Paired.mapP (Paired.erase rel j) fun p q r=>⟨r.1,kt _ _ r.2.1,r.2.2⟩
end
end L2
namespace L2
open PySem PySem.Spec PyProof.Rows
noncomputable def rIsN:R2:=fun x y H Q=>y=.non∧Q (.bl (decide (x=.non))) H
section
variable {X:Cx}
end
end L2
namespace L2
open PySem PySem.Spec PyProof.Rows
section
variable {X:Cx}
end
end L2
namespace L2
open PySem PySem.Spec PyProof.Rows
section
variable {prog:Program} {w:World} {A:Around} {E:Value→Shared→Prop} {s:Shared}
theorem vals_called {d:Addr} (hd:(d == sysModules)=false):MeetsIn prog w (Builtin.«dict.values» ⟨[.ref d],[]⟩) (fun _ R s=>s.TypeIs (.ref d) "dict" ∧ R (.ok (.ret (.ref s.heap.objs.size))) { s with heap:=s.heap.push { cls:=.type "dict_values",data:=.fields #[.ref d] } }) :=
  .of_wp fun A R s ⟨hT,h⟩=>by
    unfold Builtin.«dict.values»;refine wpAny_bind ?_;unfold Builtin.Dict.noArgs
    refine wpAny_bind (wpAny_notOrdered_dict hT ?_);show wpAny _ _ (pure d) _ _ s;refine wpAny_pure ?_
    show wpAny _ _ (Builtin.Dict.showsAll d >>= _) _ _ s;unfold Builtin.Dict.showsAll;rw [hd,if_neg (by simp)]
    refine wpAny_bind (wpAny_pure ?_);exact wpAny_bind (wpAny_newObj_type (wpAny_pure ⟨_,rfl,h⟩))
theorem vals_iter {v d:Addr} {od:Obj} {es:Array DictEntry} {ep:Nat} {Q:Value→Shared→Prop} (hv:s.heap.IsValuesView v d) (ho:s.heap.get? d=some od) (hdat:od.data=.dict es ep)
    (hQ:Q (.ref s.heap.objs.size) { s with heap:=s.heap.push { cls:=.type "dict_valueiterator",data:=.fields #[.ref d,.int 0 0,.int es.size 0,.int ep 0] } }):wpAny (model prog w) A (pyIter (.ref v)) Q E s:=by
  obtain ⟨ov,hov,hcv,hdv⟩:=id hv
  refine wpAny_pyIter_slot hv.typeIs F.slot_dict_values_iter (wpAny_call_entry F.slot_dict_values_iter hv.typeIs F.entry_dict_values_iter ?_ (F.args_dict_values_iter_1 _));unfold Builtin.«dict_values.__iter__»
  refine wpAny_bind (wpAny_pure ?_);refine wpAny_bind ?_;unfold Builtin.Dict_items.dictOf;refine wpAny_bind (wpAny_field hov hdv (x:=.ref d) rfl (wpAny_pure ?_));refine wpAny_bind ?_;unfold Builtin.Dict_items.newIterator
  refine wpAny_bind (wpAny_dictEntries ho hdat (wpAny_bind (wpAny_dictEpoch ho hdat ?_)))
  simp only [show Builtin.Dict_items.ownsTuple "dict_valueiterator" = false by decide,Bool.false_eq_true,if_false]
  refine wpAny_newObj_type (wpAny_pure ⟨_,rfl, "dict_valueiterator",_,⟨_,Heap.get?_push_size _ rfl,rfl⟩,F.slot_dict_valueiterator_next.lookup,?_⟩)
  simpa [rawInt] using hQ
theorem vals_next {it d:Addr} {i ep:Nat} {od:Obj} {es:Array DictEntry} {Q:Option Value→Shared→Prop} (hit:s.heap.IsValIter it d i es.size ep) (hod:s.heap.get? d=some od) (hdd:od.data=.dict es ep) (hlt:i < es.size)
    (hQ:∀ h',h'.IsValIter it d (i+1) es.size ep→Heap.SameBut it s.heap h'→Q (some es[i].val) { s with heap:=h' }):wpAny (model prog w) A (pyNext (.ref it)) Q E s:=by
  obtain ⟨o,ho,hc,hd⟩:=id hit
  unfold pyNext;refine wpAny_bind (wpAny_attempt (wpAny_callSpecial?_slot (name:=Str.ofString "__next__") hit.typeIs F.slot_dict_valueiterator_next (wpAny_call_entry F.slot_dict_valueiterator_next hit.typeIs F.entry_dict_valueiterator_next ?_ (F.args_dict_valueiterator_next_1 _))))
  refine wpAny_bind (wpAny_pure ?_);refine wpAny_bind ?_;refine wpAny_bind ?_
  refine wpAny_bind (wpAny_typeNameOfWhole_valiter hit.typeIs (wpAny_pure ?_));refine wpAny_bind (wpAny_fieldsOf ho hd ?_)
  simp only [show Builtin.Dict_items.ownsTuple "dict_valueiterator" = false by decide,Bool.false_eq_true,if_false]
  show wpAny _ _ (if (Value.ref d == Value.none)=true then _ else _) _ _ s;rw [if_neg (fun z=>by cases z)];refine wpAny_bind (wpAny_pure (wpAny_bind (wpAny_dictEntries hod hdd ?_)))
  rw [if_neg (by simp)];refine wpAny_bind (wpAny_pure (wpAny_bind (wpAny_dictEpoch hod hdd ?_)));rw [if_neg (by simp)];refine wpAny_pure ?_
  simp only [show ¬ ((i:Int) < 0) by omega,if_false,Int.toNat_natCast,Array.getElem?_eq_getElem hlt]
  refine wpAny_bind ?_;refine wpAny_bind (wpAny_typeNameOfWhole_valiter hit.typeIs (wpAny_pure (wpAny_bind (wpAny_isOneOf_valiter hit.typeIs ?_))))
  show wpAny _ _ (setField (.ref it) 1 (rawInt ((i:Int)+1)) >>= _) _ _ s;refine wpAny_bind (wpAny_setField ho hd (by simp) ?_)
  have hit':(s.heap.update it (Obj.mapFields (·.setIfInBounds 1 (rawInt ((i:Int)+1))))).IsValIter it d (i+1) es.size ep:=⟨_,Heap.get?_update_self _ ho (Obj.isFreed_of_fields (Obj.data_mapFields hd _)),(Obj.cls_mapFields ..).trans hc,by rw [Obj.data_mapFields hd];simp [rawInt]⟩
  refine wpAny_bind (wpAny_holding ?_)
  refine wpAny_bind (wpAny_isOneOf_valiter (s:={ s with heap:=s.heap.update it (Obj.mapFields (·.setIfInBounds 1 (rawInt ((i:Int)+1)))) }) hit'.typeIs (wpAny_bind (wpAny_isOneOf_valiter (s:={ s with heap:=s.heap.update it (Obj.mapFields (·.setIfInBounds 1 (rawInt ((i:Int)+1)))) }) hit'.typeIs ?_)))
  show wpAny _ _ (pure es[i].val) _ _ _;exact wpAny_pure (wpAny_pure ⟨_,rfl,wpAny_pure (hQ _ hit' (Heap.SameBut.update ..))⟩)
theorem vals_stop {it d:Addr} {i ep:Nat} {od:Obj} {es:Array DictEntry} {Q:Option Value→Shared→Prop} (hh:A.handled=none) (hit:s.heap.IsValIter it d i es.size ep) (hod:s.heap.get? d=some od) (hdd:od.data=.dict es ep) (hge:es.size≤i)
    (hQ:∀ h',Heap.ExtBut it s.heap h'→Q none { s with heap:=h' }):wpAny (model prog w) A (pyNext (.ref it)) Q E s:=by
  obtain ⟨o,ho,hc,hd⟩:=id hit
  unfold pyNext;refine wpAny_bind (wpAny_attempt (wpAny_callSpecial?_slot (name:=Str.ofString "__next__") hit.typeIs F.slot_dict_valueiterator_next (wpAny_call_entry F.slot_dict_valueiterator_next hit.typeIs F.entry_dict_valueiterator_next ?_ (F.args_dict_valueiterator_next_1 _))))
  refine wpAny_bind (wpAny_pure ?_);refine wpAny_bind ?_;refine wpAny_bind ?_
  refine wpAny_bind (wpAny_typeNameOfWhole_valiter hit.typeIs (wpAny_pure ?_));refine wpAny_bind (wpAny_fieldsOf ho hd ?_)
  simp only [show Builtin.Dict_items.ownsTuple "dict_valueiterator" = false by decide,Bool.false_eq_true,if_false]
  show wpAny _ _ (if (Value.ref d == Value.none)=true then _ else _) _ _ s;rw [if_neg (fun z=>by cases z)];refine wpAny_bind (wpAny_pure (wpAny_bind (wpAny_dictEntries hod hdd ?_)))
  rw [if_neg (by simp)];refine wpAny_bind (wpAny_pure (wpAny_bind (wpAny_dictEpoch hod hdd ?_)));rw [if_neg (by simp)];refine wpAny_pure ?_
  simp only [show ¬ ((i:Int) < 0) by omega,if_false,Int.toNat_natCast,Array.getElem?_eq_none hge]
  refine wpAny_bind ?_;refine wpAny_bind (wpAny_typeNameOfWhole_valiter hit.typeIs (wpAny_pure ?_));show wpAny _ _ (setField (.ref it) 0 .none >>= _) _ _ s;refine wpAny_bind (wpAny_setField ho hd (by simp) ?_)
  show wpAny _ _ (newExc (.type "StopIteration") [] >>= _) _ _ _;refine wpAny_bind ?_;simp only [newExc,newTuple];refine wpAny_bind (wpAny_newObj_type ?_ (by size_fits))
  refine wpAny_bind (m:=firstArgMember _ _) (wpAny_of_eq (a:=Value.none) (by first | rfl | (simp only [firstArgMember];rfl)) (wpAny_newObj_type ?_ (by size_fits)))
  simp only [raiseNew];refine wpAny_bind (wpAny_handled ?_);rw [show A.in1.handled=none from hh];refine wpAny_bind (wpAny_pure (wpAny_throw ?_))
  refine wpAny_bind (wpAny_isInstance (T:="StopIteration") (b:=true) ⟨_,Heap.get?_push_size _ rfl,rfl⟩ isSubtype_stop ?_);exact wpAny_pure (hQ _ (((Heap.SameBut.update ..).extBut.push _).push _))
end
theorem walks_vals {prog:Program} {w:World} {A:Around} (hh:A.handled=none) (I d:Addr) (hne:d≠I) {od:Obj} {es:Array DictEntry} {ep:Nat} (hdat:od.data=.dict es ep) :
    Walks prog w A I [I,d] [I] es.size (fun i v=>∃ e,es[i]?=some e∧e.val=v) (fun i h=>h.IsValIter I d i es.size ep∧h.get? d=some od) where
  sub:=fun b hb=>by simp at hb;simp [hb]
  frame:=fun _ _ _ st hk=>⟨st.1.at fun o e=>hk I (by simp) o e,hk d (by simp) od st.2⟩
  item:=fun i s Q E hi st hQ=>vals_next st.1 st.2 hdat hi fun h' hit' hs'=>hQ _ h' s.toks ⟨_,Array.getElem?_eq_getElem hi,rfl⟩ ⟨hit',hs'.extBut d od hne st.2⟩ fun b o hb e=>hs'.extBut b o (fun h=>hb (by simp [h])) e
  done:=fun s Q E st hQ=>vals_stop hh st.1 st.2 hdat (Nat.le_refl _) fun h' he'=>hQ h' s.toks fun b o hb e=>he' b o (fun h=>hb (by simp [h])) e
  self:=fun _ _ _ _ st hQ=>wpAny_pyIter_valiter st.1 hQ
theorem src_vals {prog:Program} {w:World} {r d:Addr} {od:Obj} {es:Array DictEntry} {ep:Nat} (hdat:od.data=.dict es ep) :
    PySem.W.KdlSrc prog w "dict_values" r d es.size (fun i v=>∃ e,es[i]?=some e∧e.val=v) (fun h=>h.IsValuesView r d∧h.get? d=some od) where
  type:=fun _ hm=>hm.1.typeIs
  there:=fun _ hm=>⟨let ⟨_,ho,_⟩:=hm.1;Heap.lt_size ho,Heap.lt_size hm.2⟩
  keep:=fun _ _ hm hk=>⟨let ⟨o,ho,x⟩:=hm.1;⟨o,hk r (.inl rfl) o ho,x⟩,hk d (.inr rfl) od hm.2⟩
  notList:=by decide
  notTuple:=by decide
  hint:=fun _ _ _ _ hm hq=>PySem.W.kdl_hint_values hm.1.typeIs hq
  iter:=fun _ _ hh hm=>⟨_,_,(fun _ _ hq=>vals_iter hm.1 hm.2 hdat hq),walks_vals hh _ d (Nat.ne_of_lt (Heap.lt_size hm.2)) hdat,⟨⟨_,Heap.get?_push_size _ rfl,rfl,rfl⟩,Heap.get?_push_of_some _ hm.2⟩⟩
noncomputable def tVals (td:TE):TE:=fun σ H Q=>td σ H fun x H1=>∃ a kvs,x=.ref a∧H1 a=some (.dT kvs)∧∀ p,H1 p=none→Q (.ref p) (upd H1 p (.lst (kvs.map (·.2))))
section
variable {X:Cx}
theorem pe_vals {o:Expr} {td:TE} {p1 pos1 apos cpos:Pos} (hg1:Gl X "list") (hm1:X.mg "list" = none) (hc:X.calm=true) (ho:PE X o td)
    (hbase:attributeBase o "values" X.env (eval o X.env)=eval o X.env:=by rfl) (hline:(apos.endLine == cpos.line)=true:=by rfl)
    (hs1:starEach [.Call (.Attribute o "values" apos) [] [] cpos] X.env=[(false,eval (.Call (.Attribute o "values" apos) [] [] cpos) X.env)]:=by rfl) :
    PE X (.Call (.Name "list" p1) [.Call (.Attribute o "values" apos) [] [] cpos] [] pos1) (tVals td):=by
  intro pins s σ H Q I h
  refine Call_ (ld_blt I hg1 hm1 bt_list (PyProof.Rows.callWith_type1 (spliced_more ?_ (by rw [hs1];rfl)) hs1 rfl))
  refine wpAny_Call_method0_late hbase hline (thn (ho pins s σ H _ I h) fun v s1 ⟨x,H1,I1,r1,a,kvs,e0,hd,q1⟩=>?_)
  subst e0
  cases r1
  obtain ⟨t1,t2,ns⟩:=isD_at I1 (.inr ⟨kvs,.inl hd⟩)
  refine ⟨"dict",_,PySem.F.plainAttrs_dict,PySem.F.slot_dict_values,PySem.F.type_dict_values,t1,t2,Calls.callWith_builtin rfl (PySem.evalArgs_none ?_)⟩
  refine call_meetsIn PySem.F.slot_dict_values t1 PySem.F.entry_dict_values (PySem.F.args_dict_values_1 _) (vals_called ns) ⟨t1,?_⟩
  refine spliced_none ?_
  obtain ⟨hz,_,xs,rel,ob,es,ep,hob,_,hdat,hes,_⟩:=(show ObjOk _ _ _ _ _ _ from I1.hok a _ hd)
  have hsz:es.size=kvs.length:=by rw [show kvs.length=xs.length from Paired.length rel,← Array.length_toList,hes,List.length_map]
  refine PySem.W.kdl_call (src_vals hdat) (I1.ok.hd hc) ⟨⟨_,Heap.get?_push_size _ rfl,rfl,rfl⟩,Heap.get?_push_of_some _ hob⟩ (by rw [hsz];exact hz) fun h2 tk acc c' hk hS hacc=>?_
  have kp:∀ c o,s1.heap.get? c=some o→h2.get? c=some o:=fun c o e=>hk c o (Heap.get?_push_of_some _ e)
  have gsz:(s1.heap.push { cls:=.type "dict_values",data:=.fields #[.ref a] }).objs.size=s1.heap.objs.size+1:=Heap.size_push ..
  have lt:s1.heap.objs.size≤(s1.heap.push { cls:=.type "dict_values",data:=.fields #[.ref a] }).objs.size:=by rw [gsz];exact Nat.le_succ _
  refine ⟨.ref _,_,I1.laid (t':=tk) (o:=.lst (kvs.map (·.2))) kp lt ⟨by rw [List.length_map];exact hz,acc.toList,c',vals_of_get (by have e:=hacc.1;rw [List.length_map];show kvs.length=acc.size;omega) fun i x u h1 h3=>?_,by simpa using hS⟩,rfl,q1 _ (I1.hok.fresh lt)⟩
  rw [List.getElem?_map] at h1
  cases hk2:kvs[i]? with
  | none=>rw [hk2] at h1;cases h1
  | some kv =>
    rw [hk2] at h1
    cases h1
    obtain ⟨q,hq,_,_,r3⟩:=KT.at rel i kv hk2
    obtain ⟨e,he,ev⟩:=hacc.2 i u (by simpa using h3)
    have e2:es.toList[i]?=some e:=by rw [Array.getElem?_toList];exact he
    rw [hes,List.getElem?_map,hq] at e2
    cases e2
    subst ev
    exact r3
end
noncomputable def hInts (l:List Int):Int:=reduceHash (Builtin.Tuple.tupleHashOf (l.map hashInt))
noncomputable def iK (l:List Int):List Key:=l.map Sum.inl
theorem hash_iK {P:Program} {w:World} (l:List Int):(tupleKind (mixKind P w)).hash (iK l)=hInts l:=by
  show reduceHash (Builtin.Tuple.tupleHashOf ((l.map Sum.inl).map (keyH w)))=_
  rw [List.map_map];rfl
section
variable {prog:Program} {w:World} {K:Type} [DecidableEq K] {A:Around} {E:Value→Shared→Prop} {s:Shared}
theorem empty_from {knd:KeyKind prog w K} {id:String} {d:Addr} {xs:List (List K×Addr×Value)} {Q:Array DictEntry→Shared→Prop} {o:Obj} {es:Array DictEntry} {ep:Nat} (ho:s.heap.get? d=some o) (hd:o.data=.dict es ep) (he:es.toList=xs.map (entryOfKey (tupleKind knd))) (his:∀ x∈xs,(tupleKind knd).is s.heap x.1 x.2.1)
    (hn:(xs.map fun x=>(tupleKind knd).hash x.1).Nodup) (h:Q es s):wpAny (model prog w) A (Builtin.Dict.entriesForEmpty id d) Q E s:=by
  unfold Builtin.Dict.entriesForEmpty
  refine wpAny_bind (wpAny_dictEntries ho hd ?_)
  rw [← Array.forIn_toList]
  refine wpAny_bind (wpAny_forIn_list _ (fun rest _ s'=>s'=s∧∃ pre,es.toList=pre ++ rest) _ ?_ ?_ _ _ ⟨rfl,[],rfl⟩)
  · rintro e rest b s' ⟨rfl,pre,hr⟩
    have hm:e∈es.toList:=by rw [hr];simp
    rw [he] at hm
    obtain ⟨x,hx,rfl⟩:=List.mem_map.mp hm
    refine wpAny_bind ?_
    unfold Builtin.Dict.quietEq
    show wpAny _ _ (specialOf (.ref x.2.1) "__eq__" >>= _) _ _ _
    refine wpAny_bind (wpAny_specialOf (IsTupleKey.typeIs (his x hx)) F.slot_tuple_eq.lookup (wpAny_pure ?_))
    have z:¬ (es.filter (·.hash == (entryOfKey (tupleKind knd) x).hash)).size > 1:=by
      have hnd:(es.toList.map (·.hash)).Nodup:=by rw [he,List.map_map];exact hn
      have e1:(es.filter (·.hash == (entryOfKey (tupleKind knd) x).hash)).size=(es.toList.map (·.hash)).count (entryOfKey (tupleKind knd) x).hash:=by
        rw [List.count,List.countP_map,← Array.length_toList,Array.toList_filter,← List.countP_eq_length_filter];rfl
      rw [e1]
      have:=List.nodup_iff_count.mp hnd (entryOfKey (tupleKind knd) x).hash
      omega
    show wpAny _ _ (if (!(some (Value.builtin "tuple.__eq__") == some (Value.builtin "object.__eq__")))=true then _ else _) _ _ _
    rw [if_pos (by decide),if_neg z]
    exact wpAny_pure ⟨rfl,pre ++ [entryOfKey (tupleKind knd) x],by rw [hr];simp⟩
  · rintro _ s' ⟨rfl,_⟩
    exact wpAny_pure h
theorem dcopy_call {knd:KeyKind prog w K} {o:Addr} {xs:List (List K×Addr×Value)} {Q:Value→Shared→Prop} (hoS:(o == sysModules)=false) (ho:s.heap.DictOfH (tupleKind knd) o xs) (hsz:xs.length≤sizeLine) (hne:xs≠[]) (hn:(xs.map fun x=>(tupleKind knd).hash x.1).Nodup)
    (h:∀ h' es ep,h'.get? s.heap.objs.size=some { cls:=.type "dict",data:=.dict es ep }→es.toList=xs.map (entryOfKey (tupleKind knd))→Heap.SameBut s.heap.objs.size (s.heap.push { cls:=.type "dict",data:=.dict #[] }) h'→Q (.ref s.heap.objs.size) { s with heap:=h' }) :
    wpAny (model prog w) A (call (.type "dict") [.ref o]) Q E s:=by
  obtain ⟨oo,es,ep,hoo,hc,hdd,he,his,hnd⟩:=id ho
  refine callType_codes (Q₁:=fun obj s₁=>obj=.ref s.heap.objs.size∧s₁={ s with heap:=s.heap.push { cls:=.type "dict",data:=.dict #[] } }) F.kt_called_dict (F.kt_typeCall_dict_1 _) F.entry_dict_init (kt_code_dict_new _ ⟨rfl,rfl⟩) ?_
  rintro obj s₁ ⟨rfl,rfl⟩
  have hdo:s.heap.objs.size≠o:=fun e=>absurd (Heap.lt_size hoo) (by rw [e];exact Nat.lt_irrefl _)
  have hoo':(s.heap.push { cls:=.type "dict",data:=.dict #[] }).get? o=some oo:=Heap.get?_push_of_some _ hoo
  have hnew:(s.heap.push { cls:=.type "dict",data:=.dict #[] }).get? s.heap.objs.size=some { cls:=.type "dict",data:=.dict #[] }:=Heap.get?_push_size _ rfl
  have tN:Shared.TypeIs { s with heap:=s.heap.push { cls:=.type "dict",data:=.dict #[] } } (.ref s.heap.objs.size) "dict":=⟨_,hnew,rfl⟩
  have tO:Shared.TypeIs { s with heap:=s.heap.push { cls:=.type "dict",data:=.dict #[] } } (.ref o) "dict":=⟨oo,hoo',hc.1⟩
  refine ⟨tN,F.args_dict_init_2 _ _,?_⟩
  unfold Builtin.«dict.__init__»;refine wpAny_bind ?_;unfold Builtin.Dict.selfAndRest;refine wpAny_bind (wpAny_notOrdered_dict tN ?_)
  show wpAny _ _ (pure (s.heap.objs.size,[Value.ref o])) _ _ _;refine wpAny_pure ?_
  show wpAny _ _ (Builtin.Dict.updateFrom "dict.__init__" s.heap.objs.size (.ref o) [] .none) _ _ _;unfold Builtin.Dict.updateFrom
  refine wpAny_bind (wpAny_typeOf tO ?_);rw [if_neg (by decide)];refine wpAny_bind ?_;unfold Builtin.Dict.merge;refine wpAny_bind ?_;unfold Builtin.Dict.readDirectly
  refine wpAny_bind (wpAny_isInstance tO isSubtype_dict_dict ?_);simp only [Bool.not_true,Bool.false_eq_true,if_false]
  refine wpAny_bind (wpAny_specialOf tO F.slot_dict_iter.lookup (wpAny_pure ?_));simp only [beq_self_eq_true,if_true]
  refine wpAny_bind (wpAny_pure ?_)
  show wpAny _ _ (Builtin.Dict.mergeDict "dict.__init__" s.heap.objs.size o) _ _ _
  unfold Builtin.Dict.mergeDict
  rw [if_neg (by simpa using hdo)]
  unfold Builtin.Dict.showsAll
  rw [if_neg (by rw [hoS];simp)]
  refine wpAny_bind (wpAny_pure ?_)
  refine wpAny_bind (wpAny_dictEntries hoo' hdd ?_)
  have hes:es.size=xs.length:=by rw [← Array.length_toList,he,List.length_map]
  have few:(decide (es.size≤8) && es.all fun e=>(keyPart e.key).isSome)=false:=by
    cases hx:xs with
    | nil=>exact absurd hx hne
    | cons x r =>
      have e1:(es.all fun e=>(keyPart e.key).isSome)=false:=by
        rw [← Array.all_toList,he,hx,List.map_cons,List.all_cons]
        rfl
      rw [e1,Bool.and_false]
  simp only [few,Bool.not_false,if_true]
  refine wpAny_bind (wpAny_dictEntries hnew rfl ?_)
  rw [if_pos (by rfl)]
  refine wpAny_bind (empty_from hoo' hdd he (fun x hx=>?_) hn ?_)
  · exact (let ⟨q,items,n,hq,r⟩:=his x hx;⟨q,items,n,Heap.get?_push_of_some _ hq,r⟩)
  · rw [if_pos (by rw [show es.isEmpty=false from by cases hq:es.isEmpty with | false=>rfl | true=>exact absurd (by rw [Array.isEmpty_iff] at hq;rw [hq] at hes;exact List.eq_nil_of_length_eq_zero hes.symm) hne];rfl)]
    refine wpAny_bind (wpAny_updateDictKeysTo hnew rfl ?_ (by show es.size≤_;omega))
    refine wpAny_pure ?_
    show wpAny _ _ (Builtin.Dict.addKeywords s.heap.objs.size [] >>= _) _ _ _
    exact wpAny_bind (wpAny_pure (wpAny_pure ⟨rfl,h _ es _ (Heap.get?_update_self _ hnew rfl) he (Heap.SameBut.update ..)⟩))
end
noncomputable def cDict:List V→Hp→VK→Prop:=fun xs H Q=>∃ (a:Addr) (kvs:List (List Key×V)) (ls:List (List Int)),xs=[.ref a]∧H a=some (.dT kvs)∧kvs≠[]∧kvs.map (·.1)=ls.map iK∧(ls.map hInts).Nodup∧∀ p,H p=none→Q (.ref p) (upd H p (.dT kvs))
theorem KT.keys {H:Hp} {kvs:List (List Key×V)} {xs:List (List Key×Addr×Value)} (r:KT H kvs xs):kvs.map (·.1)=xs.map (·.1):=by
  induction r with
  | nil=>rfl
  | cons h t ih=>rw [List.map_cons,List.map_cons,ih,h.1]
theorem call_dict_of {X:Cx}:CallR X (.type "dict") cDict:=by
  intro pins s σ H xs us Q I r h
  obtain ⟨a,kvs,ls,rfl,hd,hne,hk,hh,q⟩:=h
  obtain ⟨u,rfl,rx⟩:=vals1 r
  cases rx
  obtain ⟨hz,hS,ys,rel,dd⟩:=dt_of I.hok hd
  have hl:kvs.length=ys.length:=Paired.length rel
  have ek:kvs.map (·.1)=ys.map (·.1):=KT.keys rel
  have eh:(ys.map fun x=>(tupleKind (mixKind X.prog X.w)).hash x.1)=ls.map hInts:=by
    have e1:(ys.map fun x=>(tupleKind (mixKind X.prog X.w)).hash x.1)=(ys.map (·.1)).map (tupleKind (mixKind X.prog X.w)).hash:=by rw [List.map_map];rfl
    rw [e1,← ek,hk,List.map_map]
    exact List.map_congr_left fun l _=>hash_iK l
  have hn:(ys.map (·.1)).Nodup:=by obtain ⟨_,_,_,_,_,_,_,_,z⟩:=dd;exact z
  refine dcopy_call hS dd (by omega) (fun z=>hne (by rw [z] at hl;exact List.eq_nil_of_length_eq_zero hl)) (by rw [eh];exact hh) fun h' es ep hg he hs=>?_
  have kp:∀ b o,s.heap.get? b=some o→h'.get? b=some o:=fun b o e=>hs.extBut b o (Nat.ne_of_lt (Heap.lt_size e)) (Heap.get?_push_of_some _ e)
  refine ⟨.ref s.heap.objs.size,_,I.laid (t':=s.toks) (o:=.dT kvs) kp (Nat.le_refl _) ⟨hz,?_,ys,KT.keeps rel fun b zs e=>?_,_,es,ep,hg,⟨rfl,rfl,rfl⟩,rfl,he,hn⟩,rfl,q _ (I.hok.fresh (Nat.le_refl _))⟩
  · have:=I.big
    exact beq_false_of_ne (Nat.ne_of_gt this)
  · rw [upd_ne (ne_of_none e (I.hok.fresh (Nat.le_refl _)))];exact e
theorem comp_tupI {K:PySem.W.Frag} {a:Addr} {xs:List V} {σ:St} {caps:List Nat} {tt:TT} {te:TE} {H1:Hp} {fin:List V→Hp→Prop} (W:Nat→List V→Hp→Prop) (hz:xs.length≤sizeLine) (h0:W 0 [] H1) (hl:∀ i ys H,i≤xs.length→W i ys H→SqT K H a xs)
    (hs:∀ i x ys H,xs[i]?=some x→ys.length≤i→W i ys H→tt (some x :: caught σ caps) H fun b H4=>if b=true then te (some x :: caught σ caps) H4 fun y H5=>W (i+1) (ys ++ [y]) H5 else W (i+1) ys H4) (hd:∀ ys H,W xs.length ys H→fin ys H):CompRdI (Itt K a) σ caps tt te H1 fin:=by
  refine ⟨xs.length,W,hz,h0,fun i ys H2 hi hy hw=>?_⟩
  have q:=hl i ys H2 hi hw
  by_cases hlt:i < xs.length
  · refine .inr ⟨hlt,⟨xs,xs[i],q,by simp [hlt]⟩,fun x H3 y=>?_⟩
    obtain ⟨e,y⟩:=y
    subst e
    exact hs i x ys _ (y xs q) hy hw
  · have e:i=xs.length:=by omega
    subst e
    exact .inl ⟨⟨xs,q,Nat.le_refl _⟩,hd ys H2 hw⟩
end L2
namespace L2
open PySem PySem.Spec PySem.Calls PyProof.Rows PySem.W PySem.W.X in
theorem walk_x {q:Program} {loose:List Str} {XP:(Str→Option Value)→Heap→Prop} {K:Params→PySem.W.Frag} {as:List Addr} {n t:Nat} {r:PySem.W.RowW} {d:DefRec} {kwd:List (Str×Expr)} {run:Value→List Value→Sem Value}
    (e:∀ P,as=(K P).map (·.1)) (W:PySem.W.WalkO q loose XP (fun w h=>(K w.params).In h) r d kwd run):WalkX q loose XP (obsZ as) (valZ K n t) r d kwd run :=
  fun w s₀ s₁ mg mb G y a o pm cd doc dV kV h1 h2 h3 h4 h5 h6 args vals as' L h7 h8 h9 h10 h11 =>
    W w s₀ s₁ mg mb G (InK.keeps w _ _ (z_facts e y).2.1 L.keeps) a o pm cd doc dV kV h1 h2 h3 h4 h5 h6 args vals as' h7 h8 h9 h10 h11
end L2

set_option Elab.async false
set_option maxRecDepth 100000
set_option maxHeartbeats 4000000
set_option linter.all false
namespace My
open PySem L2
theorem sz0:0≤sizeLine:=by decide
theorem sz1:1≤sizeLine:=by decide
theorem sz2:2≤sizeLine:=by decide
theorem sz3:3≤sizeLine:=by decide
theorem Lq0 {α:Type} {a:α} {l:List α}:(a::l)[0]?=some a:=rfl
theorem Lq1 {α:Type} {a:α} {l:List α} {i:Nat}:(a::l)[i+1]?=l[i]?:=rfl
theorem Ls0 {α:Type} {a b:α} {l:List α}:(a::l).set 0 b=b::l:=rfl
theorem Ls1 {α:Type} {a b:α} {l:List α} {i:Nat}:(a::l).set (i+1) b=a::l.set i b:=rfl
theorem Lca {α:Type} {a:α} {l k:List α}:a::l++k=a::(l++k):=rfl
theorem Lna {α:Type} {k:List α}:[]++k=k:=rfl
local macro_rules | `(tactic| dsimp! [$xs,*]) => `(tactic| (try dsimp only [$xs,*, Lq0, Lq1, Ls0, Ls1, exI_lit, exB_lit, exR_lit]; try simp only [$xs,*, Lq0, Lq1, Ls0, Ls1, Option.some.injEq, exists_eq_left', V.int.injEq, V.ref.injEq, V.bl.injEq, List.cons.injEq, and_true, true_and, exists_and_left, exists_eq_left, and_assoc, exI_lit, exB_lit, exR_lit, exI_ex, exB_ex, exR_ex]))
local macro_rules | `(tactic| dsimp? [$xs,*]) => `(tactic| dsimp only [$xs,*, tSeq, tAsg, gName, tVar, tC, tOp, tUn, rI0, rI, rU, rAddI, rSubI, rMulI, rDivI, rDivC, rModI, rPowI, rNegI, rLtI, rLeI, rGtI, rGeI, rEq, rNe, scal_ii, tRet, tIfS, tTest, tB, tNot, tNext, tCall, tCons, tNil, tTup, tLst, tCB, cAbs, cLen, cIsB, tSl, tPart, tNoPart, rSlL, rIxL, rIxT, tAndV, tOrV, tAnd, tOr, tNotV, tPar, tNever, gTup, gCons, gNil, Lq0, Lq1, Ls0, Ls1, Lca, Lna, exI_lit, exB_lit, exR_lit])
local macro_rules | `(tactic| simp_arith [$xs,*]) => `(tactic| simp only [$xs,*, tSeq, tAsg, gName, tVar, tC, tOp, tUn, rI0, rI, rU, rAddI, rSubI, rMulI, rDivI, rDivC, rModI, rPowI, rNegI, rLtI, rLeI, rGtI, rGeI, rEq, rNe, scal_ii, tRet, tIfS, tTest, tB, tNot, tNext, tCall, tCons, tNil, tTup, tLst, tCB, cAbs, cLen, cIsB, tSl, tPart, tNoPart, rSlL, rIxL, rIxT, tAndV, tOrV, tAnd, tOr, tNotV, tPar, tNever, gTup, gCons, gNil, Lq0, Lq1, Ls0, Ls1, Option.some.injEq, exists_eq_left', exists_eq_left, V.int.injEq, V.ref.injEq, V.bl.injEq, V.ty.injEq, List.cons.injEq, and_true, true_and, List.append_nil, exists_and_left, decide_eq_true_eq, Lca, Lna, and_assoc, exI_lit, exB_lit, exR_lit, exI_ex, exB_ex, exR_ex])
theorem abs_eq (i:Int):(if i<0 then -i else i)=(i.natAbs:Int):=by split <;> omega
theorem atI_map {ns:List Int} {k:Int} (h0:0≤k) (h:k<(ns.length:Int)):atI (List.map V.int ns) k=some (.int (ns.getD k.toNat 0)):=by
 have hk:k.toNat<ns.length:=by omega
 have e:=atI_nat (xs:=List.map V.int ns) (j:=k.toNat) (v:=V.int (ns.getD k.toNat 0)) (by
  rw [List.getElem?_map,List.getElem?_eq_getElem hk,List.getD_eq_getElem?_getD,List.getElem?_eq_getElem hk];rfl)
 rwa [Int.toNat_of_nonneg h0] at e
theorem atI0 {α:Type} {a:α} {l:List α}:atI (a::l) 0=some a:=atI_nat (j:=0) rfl
theorem atI1 {α:Type} {a b:α} {l:List α}:atI (a::b::l) 1=some b:=atI_nat (j:=1) rfl
theorem atI2 {α:Type} {a b c:α} {l:List α}:atI (a::b::c::l) 2=some c:=atI_nat (j:=2) rfl
structure Lo (t b x y:Int):Prop where
 pos:0<y
 cop:Int.gcd x y=1
 eq:x*b=t*y
 bx:x.natAbs≤t.natAbs
 by_:y.natAbs≤b.natAbs
theorem lo_of {t b g q r:Int} (hb:b≠0) (hg:g≠0) (ht:t=g*q) (hbr:b=g*r) (hr:0<r) (hc:Int.gcd q r=1):Lo t b (t.fdiv g) (b.fdiv g):=by
 have e1:t.fdiv g=q:=by rw [ht,Int.mul_fdiv_cancel_left _ hg]
 have e2:b.fdiv g=r:=by rw [hbr,Int.mul_fdiv_cancel_left _ hg]
 rw [e1,e2]
 have hg1:1≤g.natAbs:=by omega
 refine ⟨hr,hc,by rw [ht,hbr];rw [Int.mul_left_comm,Int.mul_assoc],?_,?_⟩
 ·rw [ht,Int.natAbs_mul];exact Nat.le_mul_of_pos_left _ hg1
 ·rw [hbr,Int.natAbs_mul];exact Nat.le_mul_of_pos_left _ hg1
theorem gcd_split {t b:Int} (hb:b≠0):∃ q r:Int,t=(Int.gcd t b:Nat)*q∧b=(Int.gcd t b:Nat)*r∧Int.gcd q r=1∧0<Int.gcd t b:=by
 have hp:0<Int.gcd t b:=Int.gcd_pos_of_ne_zero_right _ hb
 obtain ⟨q,hq⟩:=Int.gcd_dvd_left (a:=t) (b:=b)
 obtain ⟨r,hr⟩:=Int.gcd_dvd_right (a:=t) (b:=b)
 refine ⟨q,r,hq,hr,?_,hp⟩
 have e:Int.gcd t b=Int.gcd ((Int.gcd t b:Nat)*q) ((Int.gcd t b:Nat)*r):=by rw [← hq,← hr]
 rw [Int.gcd_mul_left,Int.natAbs_natCast] at e
 exact Nat.eq_of_mul_eq_mul_left hp (by rw [Nat.mul_one];exact e.symm)
theorem lo_pos {t b:Int} (hb:0<b):Lo t b (t.fdiv (Int.gcd t b:Nat)) (b.fdiv (Int.gcd t b:Nat)):=by
 obtain ⟨q,r,h1,h2,h3,h4⟩:=gcd_split (t:=t) (b:=b) (by omega)
 refine lo_of (q:=q) (r:=r) (by omega) (by omega) h1 h2 ?_ h3
 rcases Int.lt_trichotomy r 0 with h | h | h
 ·have:(Int.gcd t b:Int)*r<0:=Int.mul_neg_of_pos_of_neg (by omega) h
  omega
 ·rw [h,Int.mul_zero] at h2;omega
 ·exact h
theorem lo_neg {t b:Int} (hb:b<0):Lo t b (t.fdiv (-(Int.gcd t b:Nat))) (b.fdiv (-(Int.gcd t b:Nat))):=by
 obtain ⟨q,r,h1,h2,h3,h4⟩:=gcd_split (t:=t) (b:=b) (by omega)
 refine lo_of (q:=-q) (r:=-r) (by omega) (by omega) (by rw [Int.neg_mul_neg];exact h1) (by rw [Int.neg_mul_neg];exact h2) ?_ (by rw [Int.gcd,Int.natAbs_neg,Int.natAbs_neg];exact h3)
 rcases Int.lt_trichotomy r 0 with h | h | h
 ·omega
 ·rw [h,Int.mul_zero] at h2;omega
 ·have:(Int.gcd t b:Int)*r > 0:=Int.mul_pos (by omega) h
  omega
noncomputable def intO:Option V→Int
 | some (.int i)=>i
 | _=>0
noncomputable def FrsAt (K:W.Frag) (H:Hp):List Addr→List (Int×Int)→Prop
 | [],[]=>True
 | p::ps,f::fs=>SqT K H p [.int f.1,.int f.2]∧FrsAt K H ps fs
 | _,_=>False
theorem FrsAt.same {K:W.Frag} {H H':Hp} (s:Same H H'):∀ {ps:List Addr} {fs:List (Int×Int)},FrsAt K H ps fs→FrsAt K H' ps fs
 | [],[],_=>trivial
 | _::_,_::_,h=>⟨s.tup h.1,h.2.same s⟩
 | [],_::_,h=>h.elim
 | _::_,[],h=>h.elim
theorem FrsAt.length {K:W.Frag} {H:Hp}:∀ {ps:List Addr} {fs:List (Int×Int)},FrsAt K H ps fs→ps.length=fs.length
 | [],[],_=>rfl
 | _::_,_::_,h=>by rw [List.length_cons,List.length_cons,h.2.length]
 | [],_::_,h=>h.elim
 | _::_,[],h=>h.elim
theorem FrsAt.get {K:W.Frag} {H:Hp}:∀ {ps:List Addr} {fs:List (Int×Int)} {i:Nat} {p:Addr},FrsAt K H ps fs→ps[i]?=some p→∃ f,fs[i]?=some f∧SqT K H p [.int f.1,.int f.2]
 | [],[],_,_,_,e=>by simp at e
 | _::_,f::_,0,_,h,e=>by simp at e;subst e;exact ⟨f,rfl,h.1⟩
 | _::_,_::_,i+1,_,h,e=>by
  obtain ⟨f,e1,e2⟩:=h.2.get (i:=i) (by simpa using e)
  exact ⟨f,by simpa using e1,e2⟩
 | [],_::_,_,_,h,_=>h.elim
 | _::_,[],_,_,h,_=>h.elim
theorem FrsAt.set {K:W.Frag} {H:Hp} {q:Addr} {g:Int×Int} (hq:SqT K H q [.int g.1,.int g.2]):∀ {ps:List Addr} {fs:List (Int×Int)} (i:Nat),FrsAt K H ps fs→FrsAt K H (ps.set i q) (fs.set i g)
 | [],[],_,_=>trivial
 | _::_,_::_,0,h=>⟨hq,h.2⟩
 | _::_,_::_,i+1,h=>⟨h.1,FrsAt.set hq i h.2⟩
 | [],_::_,_,h=>h.elim
 | _::_,[],_,h=>h.elim
theorem FrsAt.take {K:W.Frag} {H:Hp}:∀ {ps:List Addr} {fs:List (Int×Int)} (i:Nat),FrsAt K H ps fs→FrsAt K H (ps.take i) (fs.take i)
 | [],[],i,_=>by simp [FrsAt]
 | _::_,_::_,0,_=>trivial
 | _::_,_::_,i+1,h=>⟨h.1,h.2.take i⟩
 | [],_::_,_,h=>h.elim
 | _::_,[],_,h=>h.elim
theorem FrsAt.drop {K:W.Frag} {H:Hp}:∀ {ps:List Addr} {fs:List (Int×Int)} (i:Nat),FrsAt K H ps fs→FrsAt K H (ps.drop i) (fs.drop i)
 | [],[],i,_=>by simp [FrsAt]
 | _::_,_::_,0,h=>h
 | _::_,_::_,i+1,h=>h.2.drop i
 | [],_::_,_,h=>h.elim
 | _::_,[],_,h=>h.elim
theorem FrsAt.erase {K:W.Frag} {H:Hp}:∀ {ps:List Addr} {fs:List (Int×Int)} (i:Nat),FrsAt K H ps fs→FrsAt K H (ps.eraseIdx i) (fs.eraseIdx i)
 | [],[],i,_=>by simp [FrsAt]
 | _::_,_::_,0,h=>h.2
 | _::_,_::_,i+1,h=>⟨h.1,h.2.erase i⟩
 | [],_::_,_,h=>h.elim
 | _::_,[],_,h=>h.elim
theorem get_ints {ns:List Int} {i:Nat} {x:V} (h:(List.map V.int ns)[i]?=some x):∃ c,x=.int c∧ns[i]?=some c:=by
 rw [List.getElem?_map] at h
 cases e:ns[i]? with
 | none=>rw [e] at h;cases h
 | some z=>rw [e] at h;exact ⟨z,(Option.some.inj h).symm,rfl⟩
theorem take_snoc {α:Type} {l:List α} {i:Nat} {x:α} (h:l[i]?=some x):l.take (i+1)=l.take i++[x]:=by
 rw [List.take_succ,h];rfl
noncomputable def Two (K:W.Frag) (H:Hp) (p q:Addr) (a b c d:Int):Prop:=SqT K H p [.int a,.int b]∧SqT K H q [.int c,.int d]∧BB 4000 a∧BB 4000 b∧BB 4000 c∧BB 4000 d∧0<b∧0<d
noncomputable def tv (q:List Nat):List V:=q.map λ n:Nat=>V.int (n:Int)
noncomputable def tk (q:List Nat):List Key:=q.map λ n:Nat=>(Sum.inl (n:Int):Key)
theorem tv_tk (q:List Nat):(tk q).map kV=tv q:=by
 unfold tk tv
 rw [List.map_map]
 exact List.map_congr_left λ n _=>rfl
theorem tv_app (a b:List Nat):tv (a++b)=tv a++tv b:=List.map_append
theorem tv_len (q:List Nat):(tv q).length=q.length:=List.length_map _
theorem tv_get {q:List Nat} {i:Nat} {x:V} (h:(tv q)[i]?=some x):∃ n,q[i]?=some n∧x=.int (n:Nat):=by
 unfold tv at h
 rw [List.getElem?_map] at h
 cases e:q[i]? with
 | none=>rw [e] at h;cases h
 | some n=>rw [e] at h;exact ⟨n,rfl,(Option.some.inj h).symm⟩
theorem tv_at {q:List Nat} {i n:Nat} (h:q[i]?=some n):(tv q)[i]?=some (.int (n:Nat)):=by
 unfold tv;rw [List.getElem?_map,h];rfl
theorem tk_inj:∀ {a b:List Nat},tk a=tk b→a=b
 | [],[],_=>rfl
 | [],_::_,h=>by simp [tk] at h
 | _::_,[],h=>by simp [tk] at h
 | x::a,y::b,h=>by
  simp only [tk,List.map_cons,List.cons.injEq,Sum.inl.injEq] at h
  have h1:x=y:=by have:=h.1;omega
  rw [h1,tk_inj (a:=a) (b:=b) h.2]
noncomputable def ordR:List Nat→List (List Nat)
 | []=>[[]]
 | s::rs=>(ordR rs).flatMap λ b=>(List.range s).map λ c=>b++[c]
noncomputable def digs:List Nat→Nat→List Nat
 | [],_=>[]
 | s::rs,n=>digs rs (n / s)++[n % s]
noncomputable def prodR:List Nat→Nat
 | []=>1
 | s::rs=>prodR rs*s
theorem range_mul (s:Nat):∀ m:Nat,List.range (m*s)=(List.range m).flatMap λ i=>(List.range s).map λ c=>i*s+c
 | 0=>by simp
 | m+1=>by
  rw [Nat.succ_mul,List.range_add,List.range_succ,List.flatMap_append,range_mul s m]
  simp
theorem ordR_eq:∀ rs:List Nat,(∀ s∈rs,1≤s)→ordR rs=(List.range (prodR rs)).map (digs rs)
 | [],_=>by simp [ordR,prodR,digs]
 | s::rs,h=>by
  have hs:1≤s:=h s (List.mem_cons_self ..)
  have hr:=ordR_eq rs λ t ht=>h t (List.mem_cons_of_mem _ ht)
  show (ordR rs).flatMap _=(List.range (prodR rs*s)).map (digs (s::rs))
  rw [hr,range_mul,List.map_flatMap,List.flatMap_map]
  congr 1
  funext i
  rw [List.map_map]
  refine List.map_congr_left λ c hc=>?_
  have hc':c<s:=List.mem_range.mp hc
  show digs rs i++[c]=digs rs ((i*s+c) / s)++[(i*s+c) % s]
  rw [Nat.mul_comm i s,Nat.mul_add_div (by omega),Nat.div_eq_of_lt hc',Nat.mul_add_mod,Nat.mod_eq_of_lt hc',Nat.add_zero]
theorem ordR_length (rs:List Nat) (h:∀ s∈rs,1≤s):(ordR rs).length=prodR rs:=by rw [ordR_eq rs h,List.length_map,List.length_range]
theorem prodR_le:∀ rs:List Nat,(∀ s∈rs,s≤6)→prodR rs≤6 ^ rs.length
 | [],_=>Nat.le_refl _
 | s::rs,h=>by
  show prodR rs*s≤6 ^ (rs.length+1)
  rw [Nat.pow_succ]
  exact Nat.mul_le_mul (prodR_le rs λ t ht=>h t (List.mem_cons_of_mem _ ht)) (h s (List.mem_cons_self ..))
theorem ordR_len_each:∀ (rs:List Nat) (q:List Nat),q∈ordR rs→q.length=rs.length
 | [],q,h=>by simp [ordR] at h;subst h;rfl
 | s::rs,q,h=>by
  simp only [ordR,List.mem_flatMap,List.mem_map] at h
  obtain ⟨b,hb,c,_,rfl⟩:=h
  simp [ordR_len_each rs b hb]
theorem ordR_nodup:∀ rs:List Nat,(ordR rs).Nodup
 | []=>by simp [ordR]
 | s::rs=>by
  show List.Nodup ((ordR rs).flatMap _)
  unfold List.Nodup
  rw [List.pairwise_flatMap]
  refine ⟨λ b _=>?_,(ordR_nodup rs).imp λ {a b} hab x hx y hy e=>?_⟩
  ·rw [List.pairwise_map]
   exact List.nodup_range.imp λ {c d} hcd e=>hcd (by simpa using e)
  ·obtain ⟨c,_,rfl⟩:=List.mem_map.mp hx
   obtain ⟨d,_,rfl⟩:=List.mem_map.mp hy
   have:=(List.append_inj' e rfl).1
   exact hab this
structure Sz (ns:List Nat):Prop where
 len:ns.length≤3
 ge:∀ n∈ns,1≤n
 le:∀ n∈ns,n≤6
theorem Sz.rev {ns:List Nat} (h:Sz ns):Sz ns.reverse:=⟨by rw [List.length_reverse];exact h.len,λ n hn=>h.ge n (List.mem_reverse.mp hn),λ n hn=>h.le n (List.mem_reverse.mp hn)⟩
theorem Sz.take {ns:List Nat} (h:Sz ns) (i:Nat):Sz (ns.take i):=⟨by have:=h.len;rw [List.length_take];omega,λ n hn=>h.ge n (List.mem_of_mem_take hn),λ n hn=>h.le n (List.mem_of_mem_take hn)⟩
theorem Sz.many {ns:List Nat} (h:Sz ns):prodR ns≤216:=Nat.le_trans (prodR_le ns h.le) (Nat.le_trans (Nat.pow_le_pow_right (by decide) h.len) (by decide))
theorem Sz.ord {ns:List Nat} (h:Sz ns):(ordR ns).length≤216:=by rw [ordR_length ns h.ge];exact h.many
noncomputable def wo {α:Type} (h:Nat) (q:List α):List α:=q.take h++q.drop (h+1)
theorem Sz.wo {ns:List Nat} (s:Sz ns) (h:Nat):Sz (wo h ns):=by
 have hm:∀ n∈My.wo h ns,n∈ns:=λ n hn=>by
  rcases List.mem_append.mp hn with z | z
  ·exact List.mem_of_mem_take z
  ·exact List.mem_of_mem_drop z
 refine ⟨?_,λ n hn=>s.ge n (hm n hn),λ n hn=>s.le n (hm n hn)⟩
 have:=s.len
 unfold My.wo
 rw [List.length_append,List.length_take,List.length_drop]
 omega
theorem wo_tv (h:Nat) (q:List Nat):wo h (tv q)=tv (wo h q):=by
 unfold wo tv
 rw [List.map_append,List.map_take,List.map_drop]
noncomputable def Ps (H:Hp) (xs:List V) (qs:List (List Nat)):Prop:=xs.length=qs.length∧∀ (i:Nat) (q:List Nat),qs[i]?=some q→∃ a:Addr,xs[i]?=some (V.ref a)∧H a=some (.tup (tv q))
noncomputable def KeepT (H H':Hp):Prop:=∀ a xs,H a=some (.tup xs)→H' a=some (.tup xs)
theorem keepT_same {H H':Hp} (s:Same H H'):KeepT H H':=λ a xs h=>s a _ h
theorem keepT_lst {H:Hp} {l:Addr} {xs:List V} {o:HO} (h:H l=some (.lst xs)):KeepT H (upd H l o):=λ a ys e=>by
 rw [upd_ne (ne_of e h (by intro z;cases z))];exact e
theorem KeepT.trans {H H' H'':Hp} (a:KeepT H H') (b:KeepT H' H''):KeepT H H'':=λ c xs h=>b c xs (a c xs h)
theorem Ps.keep {H H':Hp} {xs:List V} {qs:List (List Nat)} (p:Ps H xs qs) (k:KeepT H H'):Ps H' xs qs:=⟨p.1,λ i q e=>let ⟨a,h1,h2⟩:=p.2 i q e;⟨a,h1,k a _ h2⟩⟩
theorem Ps.same {H H':Hp} {xs:List V} {qs:List (List Nat)} (p:Ps H xs qs) (s:Same H H'):Ps H' xs qs:=p.keep (keepT_same s)
theorem Ps.nil {H:Hp}:Ps H [] []:=⟨rfl,λ i q e=>by simp at e⟩
theorem Ps.app {H:Hp} {xs ys:List V} {qs rs:List (List Nat)} (p:Ps H xs qs) (r:Ps H ys rs):Ps H (xs++ys) (qs++rs):=by
 refine ⟨by rw [List.length_append,List.length_append,p.1,r.1],λ i q e=>?_⟩
 by_cases hi:i<qs.length
 ·rw [List.getElem?_append_left hi] at e
  rw [List.getElem?_append_left (by rw [p.1];exact hi)]
  exact p.2 i q e
 ·rw [List.getElem?_append_right (by omega)] at e
  rw [List.getElem?_append_right (by rw [p.1];omega),p.1]
  exact r.2 _ q e
theorem Ps.one {H:Hp} {a:Addr} {q:List Nat} (h:H a=some (.tup (tv q))):Ps H [.ref a] [q]:=by
 refine ⟨rfl,λ i q' e=>?_⟩
 cases i with
 | zero=>simp at e;subst e;exact ⟨a,rfl,h⟩
 | succ i=>simp at e
theorem Ps.get {H:Hp} {xs:List V} {qs:List (List Nat)} {i:Nat} {x:V} (p:Ps H xs qs) (h:xs[i]?=some x):∃ q a,qs[i]?=some q∧x=.ref a∧H a=some (.tup (tv q)):=by
 have hl:i<qs.length:=by rw [← p.1];exact (List.getElem?_eq_some_iff.mp h).1
 obtain ⟨a,e1,e2⟩:=p.2 i qs[i] (List.getElem?_eq_getElem hl)
 rw [h] at e1
 exact ⟨qs[i],a,List.getElem?_eq_getElem hl,Option.some.inj e1,e2⟩
theorem Ps.at {H:Hp} {xs:List V} {qs:List (List Nat)} {i:Nat} (p:Ps H xs qs) (h:i<qs.length):∃ q a,qs[i]?=some q∧xs[i]?=some (.ref a)∧H a=some (.tup (tv q)):=by
 obtain ⟨a,e1,e2⟩:=p.2 i qs[i] (List.getElem?_eq_getElem h)
 exact ⟨qs[i],a,List.getElem?_eq_getElem h,e1,e2⟩
theorem Ps.rev {H:Hp} {xs:List V} {qs:List (List Nat)} (p:Ps H xs qs):Ps H xs.reverse qs.reverse:=by
 refine ⟨by rw [List.length_reverse,List.length_reverse,p.1],λ i q e=>?_⟩
 have hi:i<qs.length:=by have:=(List.getElem?_eq_some_iff.mp e).1;rwa [List.length_reverse] at this
 rw [List.getElem?_reverse hi] at e
 rw [List.getElem?_reverse (by rw [p.1];exact hi),p.1]
 exact p.2 _ q e
theorem small {n:Nat} (h:n≤216):n≤sizeLine:=by rw [sizeLine_eq];omega
theorem small' {n:Nat} (h:n≤216):n<sizeLine:=by rw [sizeLine_eq];omega
theorem cut_to {xs:List V} {h:Nat}:cutV xs none (some (h:Int))=xs.take h:=by
 unfold cutV
 rw [HT.sIx_none,HT.sIx_nat,List.drop_zero,Nat.sub_zero]
 by_cases e:h≤xs.length
 ·rw [Nat.min_eq_left e]
 ·rw [Nat.min_eq_right (by omega),List.take_length,List.take_of_length_le (by omega)]
theorem cut_from {xs:List V} {h:Nat}:cutV xs (some (h:Int)) none=xs.drop h:=by
 unfold cutV
 rw [HT.sIx_none,HT.sIx_nat]
 by_cases e:h≤xs.length
 ·rw [Nat.min_eq_left e,List.take_of_length_le (by rw [List.length_drop];omega)]
 ·rw [Nat.min_eq_right (by omega),List.drop_eq_nil_of_le (Nat.le_refl _),List.drop_eq_nil_of_le (by omega)];simp
theorem cut_len (xs:List V) (lo hi:Option Int):(cutV xs lo hi).length≤xs.length:=cutV_length xs lo hi
theorem nodup_take {α:Type} {l:List α} {i:Nat} {x:α} (h:l.Nodup) (e:l[i]?=some x):x∉l.take i:=by
 intro hm
 have h2:(l.take (i+1)).Nodup:=(List.take_sublist (i+1) l).nodup h
 have et:l.take (i+1)=l.take i++[x]:=by rw [List.take_add_one,e];rfl
 rw [et,List.nodup_append] at h2
 exact h2.2.2 x hm x (List.mem_singleton_self x) rfl
noncomputable def Cells (H:Hp) (kvs:List (List Key×V)) (cont:List Nat→List V) (q:List Nat):Prop:=∃ l,valV kvs (tk q)=some (.ref l)∧H l=some (.lst (cont q))
theorem Cells.same {H H':Hp} {kvs:List (List Key×V)} {cont:List Nat→List V} {q:List Nat} (c:Cells H kvs cont q) (s:Same H H'):Cells H' kvs cont q:=let ⟨l,h1,h2⟩:=c;⟨l,h1,s _ _ h2⟩
noncomputable def FrT (H:Hp) (xs:List V):Prop:=∀ v∈xs,∃ a x y,v=.ref a∧H a=some (.tup [.int x,.int y])
theorem FrT.keep {H H':Hp} {xs:List V} (f:FrT H xs) (k:KeepT H H'):FrT H' xs:=λ v hv=>let ⟨a,x,y,e,h⟩:=f v hv;⟨a,x,y,e,k _ _ h⟩
theorem FrT.same {H H':Hp} {xs:List V} (f:FrT H xs) (s:Same H H'):FrT H' xs:=f.keep (keepT_same s)
theorem prodR_pos:∀ rs:List Nat,(∀ s∈rs,1≤s)→0<prodR rs
 | [],_=>Nat.one_pos
 | s::rs,h=>Nat.mul_pos (prodR_pos rs λ t ht=>h t (List.mem_cons_of_mem _ ht)) (h s (List.mem_cons_self ..))
theorem valV_mem {kvs:List (List Key×V)} {k:List Key} {v:V} (h:valV kvs k=some v):∃ p∈kvs,p.1=k∧p.2=v:=by
 unfold valV at h
 obtain ⟨p,hp,e⟩:=Option.map_eq_some_iff.mp h
 exact ⟨p,List.mem_of_find?_eq_some hp,by have:=List.find?_some hp;simpa using this,e⟩
theorem ordR_lt:∀ (rs q:List Nat),q∈ordR rs→∀ (i n c:Nat),rs.reverse[i]?=some n→q[i]?=some c→c<n
 | [],q,h=>by intro i n c e;simp at e
 | s::rs,q,h=>by
  simp only [ordR,List.mem_flatMap,List.mem_map,List.mem_range] at h
  obtain ⟨b,hb,x,hx,rfl⟩:=h
  intro i n c e1 e2
  have hl:=ordR_len_each rs b hb
  rw [List.reverse_cons] at e1
  by_cases hi:i<rs.length
  ·rw [List.getElem?_append_left (by rw [List.length_reverse];exact hi)] at e1
   rw [List.getElem?_append_left (by rw [hl];exact hi)] at e2
   exact ordR_lt rs b hb i n c e1 e2
  ·rw [List.getElem?_append_right (by rw [List.length_reverse];omega),List.length_reverse] at e1
   rw [List.getElem?_append_right (by rw [hl];omega),hl] at e2
   cases e3:i - rs.length with
   | zero=>rw [e3] at e1 e2;simp at e1 e2;omega
   | succ k=>rw [e3] at e1;simp at e1
noncomputable def only (S:Addr→Prop) (H:Hp):Hp:=open Classical in λ b=>if S b then H b else none
noncomputable def Kc (H:Hp) (kvs:List (List Key×V)) (cont:List Nat→List V) (qs:List (List Nat)):Prop:=kvs.length=qs.length∧∀ (i:Nat) (q:List Nat),qs[i]?=some q→∃ l,kvs[i]?=some (tk q,V.ref l)∧H l=some (.lst (cont q))
theorem valV_at:∀ {kvs:List (List Key×V)},(kvs.map (·.1)).Nodup→∀ (i:Nat) {k:List Key} {v:V},kvs[i]?=some (k,v)→valV kvs k=some v
 | [],_,i,k,v,h=>by simp at h
 | p::kvs,nd,i,k,v,h=>by
  rw [List.map_cons,List.nodup_cons] at nd
  cases i with
  | zero =>
   simp at h;subst h
   exact valV_pos rfl
  | succ i =>
   simp at h
   have hm:k∈kvs.map (·.1):=List.mem_map.mpr ⟨_,List.mem_of_getElem? h,rfl⟩
   rw [valV_neg (λ e=>nd.1 (by rw [e];exact hm))]
   exact valV_at nd.2 i h
theorem Kc.keys {H:Hp} {kvs:List (List Key×V)} {cont:List Nat→List V} {qs:List (List Nat)} (h:Kc H kvs cont qs):kvs.map (·.1)=qs.map tk:=by
 refine List.ext_getElem? λ i=>?_
 rw [List.getElem?_map,List.getElem?_map]
 cases e:qs[i]? with
 | none =>
  have:kvs[i]?=none:=by
   rw [List.getElem?_eq_none_iff] at e ⊢
   rw [h.1];exact e
  rw [this];rfl
 | some q =>
  obtain ⟨l,e1,_⟩:=h.2 i q e
  rw [e1];rfl
theorem Kc.cells {H:Hp} {kvs:List (List Key×V)} {cont:List Nat→List V} {qs:List (List Nat)} (h:Kc H kvs cont qs) (nd:qs.Nodup):∀ q∈qs,Cells H kvs cont q:=by
 intro q hq
 obtain ⟨i,hi,e⟩:=List.getElem_of_mem hq
 obtain ⟨l,e1,e2⟩:=h.2 i q (by rw [List.getElem?_eq_getElem hi,e])
 refine ⟨l,valV_at ?_ i e1,e2⟩
 rw [h.keys]
 unfold List.Nodup
 rw [List.pairwise_map]
 exact nd.imp λ hab e=>hab (tk_inj e)
theorem Kc.same {H H':Hp} {kvs:List (List Key×V)} {cont:List Nat→List V} {qs:List (List Nat)} (h:Kc H kvs cont qs) (s:Same H H'):Kc H' kvs cont qs:=⟨h.1,λ i q e=>let ⟨l,e1,e2⟩:=h.2 i q e;⟨l,e1,s _ _ e2⟩⟩
theorem Kc.snoc {H:Hp} {kvs:List (List Key×V)} {cont:List Nat→List V} {qs:List (List Nat)} {b:List Nat} {l:Addr} {i:Nat} (h:Kc H kvs cont (qs.take i)) (hb:qs[i]?=some b) (hl:H l=some (.lst (cont b))):Kc H (kvs++[(tk b,.ref l)]) cont (qs.take (i+1)):=by
 rw [take_snoc hb]
 refine ⟨by rw [List.length_append,List.length_append,h.1];rfl,λ j q e=>?_⟩
 by_cases hj:j<(qs.take i).length
 ·rw [List.getElem?_append_left hj] at e
  rw [List.getElem?_append_left (by rw [h.1];exact hj)]
  exact h.2 j q e
 ·rw [List.getElem?_append_right (by omega)] at e
  rw [List.getElem?_append_right (by rw [h.1];omega),h.1]
  cases z:j - (qs.take i).length with
  | zero=>rw [z] at e;simp at e;subst e;exact ⟨l,rfl,hl⟩
  | succ n=>rw [z] at e;simp at e
theorem Kc.new {H:Hp} {kvs:List (List Key×V)} {cont:List Nat→List V} {qs:List (List Nat)} {b:List Nat} {i:Nat} (h:Kc H kvs cont (qs.take i)) (nd:qs.Nodup) (hb:qs[i]?=some b):valV kvs (tk b)=none:=by
 cases e:valV kvs (tk b) with
 | none=>rfl
 | some v =>
  obtain ⟨p,hp,e1,_⟩:=valV_mem e
  have hm:tk b∈kvs.map (·.1):=List.mem_map.mpr ⟨p,hp,e1⟩
  rw [h.keys] at hm
  obtain ⟨q,hq,eq⟩:=List.mem_map.mp hm
  rw [tk_inj eq] at hq
  exact absurd hq (nodup_take nd hb)
noncomputable def WEq (H:Hp) (P:Nat→List V→Prop):Nat→List V→Hp→Prop:=λ i zs H5=>H5=H∧P i zs
noncomputable def UF (H:Hp) (sc:Int) (xs:List V) (us:List Int):Prop:=xs.length=us.length∧∀ (i:Nat) (u:Int),us[i]?=some u→∃ a x y,xs[i]?=some (.ref a)∧H a=some (.tup [.int x,.int y])∧Lo u sc x y∧BB 300 u
theorem UF.keep {H H':Hp} {sc:Int} {xs:List V} {us:List Int} (f:UF H sc xs us) (k:KeepT H H'):UF H' sc xs us:=⟨f.1,λ i u e=>let ⟨a,x,y,h1,h2,h3⟩:=f.2 i u e;⟨a,x,y,h1,k _ _ h2,h3⟩⟩
theorem UF.same {H H':Hp} {sc:Int} {xs:List V} {us:List Int} (f:UF H sc xs us) (s:Same H H'):UF H' sc xs us:=f.keep (keepT_same s)
theorem UF.nil {H:Hp} {sc:Int}:UF H sc [] []:=⟨rfl,λ i u e=>by simp at e⟩
theorem UF.snoc {H:Hp} {sc:Int} {xs:List V} {us:List Int} {a:Addr} {u x y:Int} (f:UF H sc xs us) (h:H a=some (.tup [.int x,.int y])) (lo:Lo u sc x y) (b:BB 300 u):UF H sc (xs++[.ref a]) (us++[u]):=by
 refine ⟨by rw [List.length_append,List.length_append,f.1];rfl,λ i v e=>?_⟩
 by_cases hi:i<us.length
 ·rw [List.getElem?_append_left hi] at e
  rw [List.getElem?_append_left (by rw [f.1];exact hi)]
  exact f.2 i v e
 ·rw [List.getElem?_append_right (by omega)] at e
  rw [List.getElem?_append_right (by rw [f.1];omega),f.1]
  cases z:i - us.length with
  | zero=>rw [z] at e;simp at e;subst e;exact ⟨a,x,y,rfl,h,lo,b⟩
  | succ n=>rw [z] at e;simp at e
theorem UF.get {H:Hp} {sc:Int} {xs:List V} {us:List Int} {i:Nat} {v:V} (f:UF H sc xs us) (h:xs[i]?=some v):∃ u a x y,us[i]?=some u∧v=.ref a∧H a=some (.tup [.int x,.int y])∧Lo u sc x y∧BB 300 u:=by
 have hl:i<us.length:=by rw [← f.1];exact (List.getElem?_eq_some_iff.mp h).1
 obtain ⟨a,x,y,h1,h2,h3,h4⟩:=f.2 i us[i] (List.getElem?_eq_getElem hl)
 rw [h] at h1
 exact ⟨us[i],a,x,y,List.getElem?_eq_getElem hl,Option.some.inj h1,h2,h3,h4⟩
noncomputable def FM (l:List Int) (m:Int) (j:Nat):Prop:=l[j]?=some m∧(∀ (k:Nat) v,l[k]?=some v→v≤m)∧∀ k,k<j→l[k]?≠some m
theorem FM.uniq {l:List Int} {m m':Int} {j j':Nat} (h:FM l m j) (h':FM l m' j'):m=m'∧j=j':=by
 have e:m=m':=by
  have a:=h.2.1 j' m' h'.1
  have b:=h'.2.1 j m h.1
  omega
 subst e
 refine ⟨rfl,?_⟩
 rcases Nat.lt_trichotomy j j' with z | z | z
 ·exact absurd h.1 (h'.2.2 j z)
 ·exact z
 ·exact absurd h'.1 (h.2.2 j' z)
noncomputable def hereL (un:List Nat→List Int) (q:List Nat) (h n:Nat):List Int:=(List.range n).map λ c=>(un (q.set h c)).getD h 0
noncomputable def NoOff (un:List Nat→List Int) (q ns:List Nat) (i:Nat):Prop:=∀ h n,h<i→ns[h]?=some n→∀ m j,FM (hereL un q h n) m j→¬ (un q).getD h 0<m
noncomputable def Off (un:List Nat→List Int) (q ns:List Nat):Option (Nat×Nat)→Prop
 | none=>NoOff un q ns ns.length
 | some (h,c)=>∃ n m,ns[h]?=some n∧FM (hereL un q h n) m c∧(un q).getD h 0<m∧NoOff un q ns h
theorem NoOff.succ {un:List Nat→List Int} {q ns:List Nat} {i n:Nat} {m:Int} {j:Nat} (h:NoOff un q ns i) (hn:ns[i]?=some n) (fm:FM (hereL un q i n) m j) (hm:¬ (un q).getD i 0<m):NoOff un q ns (i+1):=by
 intro h' n' hl e m' j' fm'
 by_cases z:h'<i
 ·exact h h' n' z e m' j' fm'
 ·have:h'=i:=by omega
  subst this
  rw [hn] at e
  obtain rfl:=Option.some.inj e
  obtain ⟨rfl,_⟩:=fm.uniq fm'
  exact hm
theorem Off.uniq {un:List Nat→List Int} {q ns:List Nat}:∀ {o o':Option (Nat×Nat)},Off un q ns o→Off un q ns o'→o=o'
 | none,none,_,_=>rfl
 | none,some (h,c),a,⟨n,m,e1,e2,e3,_⟩=>absurd e3 (a h n (List.getElem?_eq_some_iff.mp e1).1 e1 m c e2)
 | some (h,c),none,⟨n,m,e1,e2,e3,_⟩,a=>absurd e3 (a h n (List.getElem?_eq_some_iff.mp e1).1 e1 m c e2)
 | some (h,c),some (h',c'),⟨n,m,e1,e2,e3,e4⟩,⟨n',m',f1,f2,f3,f4⟩=>by
  rcases Nat.lt_trichotomy h h' with z | z | z
  ·exact absurd e3 (f4 h n z e1 m c e2)
  ·subst z
   rw [e1] at f1
   obtain rfl:=Option.some.inj f1
   obtain ⟨_,rfl⟩:=e2.uniq f2
   rfl
  ·exact absurd f3 (e4 h' n' z f1 m' c' f2)
noncomputable def OffV (H:Hp) (v:V):Option (Nat×Nat)→Prop
 | none=>v=.non
 | some (h,c)=>∃ a,v=.ref a∧H a=some (.tup [.int (h:Nat),.int (c:Nat)])
theorem OffV.same {H H':Hp} {v:V} {o:Option (Nat×Nat)} (h:OffV H v o) (s:Same H H'):OffV H' v o:=by
 cases o with
 | none=>exact h
 | some p=>obtain ⟨a,e1,e2⟩:=h;exact ⟨a,e1,s _ _ e2⟩
theorem mem_ordR:∀ (rs q:List Nat),q.length=rs.length→(∀ (i n c:Nat),rs.reverse[i]?=some n→q[i]?=some c→c<n)→q∈ordR rs
 | [],q,hl,_=>by
  have:q=[]:=List.eq_nil_of_length_eq_zero hl
  subst this;simp [ordR]
 | s::rs,q,hl,h=>by
  rw [List.length_cons] at hl
  have hlt:rs.length<q.length:=by omega
  have hq:q[rs.length]?=some q[rs.length]:=List.getElem?_eq_getElem hlt
  have e:q=q.take rs.length++[q[rs.length]]:=by
   have:=take_snoc hq
   rw [List.take_of_length_le (by omega)] at this
   exact this
  have hb:q.take rs.length∈ordR rs:=by
   refine mem_ordR rs _ (by rw [List.length_take];omega) λ i n c e1 e2=>?_
   have hi:i<rs.length:=by have:=(List.getElem?_eq_some_iff.mp e1).1;rwa [List.length_reverse] at this
   refine h i n c ?_ ?_
   ·rw [List.reverse_cons,List.getElem?_append_left (by rw [List.length_reverse];exact hi)];exact e1
   ·rw [List.getElem?_take_of_lt hi] at e2;exact e2
  have hc:q[rs.length]<s:=by
   refine h rs.length s _ ?_ hq
   rw [List.reverse_cons,List.getElem?_append_right (by rw [List.length_reverse];omega),List.length_reverse,Nat.sub_self];rfl
  simp only [ordR,List.mem_flatMap,List.mem_map,List.mem_range]
  exact ⟨_,hb,_,hc,e.symm⟩
theorem ordR_set {ns q:List Nat} {i n c:Nat} (hq:q∈ordR ns.reverse) (hn:ns[i]?=some n) (hc:c<n):q.set i c∈ordR ns.reverse:=by
 refine mem_ordR _ _ (by rw [List.length_set];exact ordR_len_each _ q hq) λ j n' c' e1 e2=>?_
 rw [List.reverse_reverse] at e1
 by_cases hj:j=i
 ·subst hj
  rw [hn] at e1
  obtain rfl:=Option.some.inj e1
  have hl:j<q.length:=by
   have:=(List.getElem?_eq_some_iff.mp e2).1
   rwa [List.length_set] at this
  rw [List.getElem?_set_self hl] at e2
  obtain rfl:=Option.some.inj e2
  exact hc
 ·rw [List.getElem?_set_ne (by omega)] at e2
  exact ordR_lt _ q hq j n' c' (by rw [List.reverse_reverse];exact e1) e2
theorem lo_mk {T B x y:Int} (hB:0<B) (hy:0<y) (hc:Int.gcd x y=1) (e:x*B=T*y):Lo T B x y:=by
 have cop:Nat.Coprime x.natAbs y.natAbs:=hc
 have en:x.natAbs*B.natAbs=T.natAbs*y.natAbs:=by rw [← Int.natAbs_mul,← Int.natAbs_mul,e]
 refine ⟨hy,hc,e,?_,?_⟩
 ·by_cases h:T=0
  ·rw [h,Int.zero_mul] at e
   rcases Int.mul_eq_zero.mp e with z | z
   ·rw [z];exact Nat.zero_le _
   ·omega
  ·exact Nat.le_of_dvd (by omega) (cop.dvd_of_dvd_mul_right ⟨_,en.symm⟩)
 ·exact Nat.le_of_dvd (by omega) (cop.symm.dvd_of_dvd_mul_left ⟨T.natAbs,by rw [en,Nat.mul_comm]⟩)
theorem flat_eq {α β:Type} {f g:α→List β}:∀ {L:List α},(∀ b∈L,f b=g b)→L.flatMap f=L.flatMap g
 | [],_=>rfl
 | b::L,h=>by rw [List.flatMap_cons,List.flatMap_cons,h b List.mem_cons_self,flat_eq λ b hb=>h b (List.mem_cons_of_mem _ hb)]
noncomputable def ins (h c:Nat) (b:List Nat):List Nat:=b.take h++c::b.drop h
theorem ins_snoc {h c d:Nat} {b:List Nat} (hb:h≤b.length):ins h c (b++[d])=ins h c b++[d]:=by
 unfold ins
 rw [List.take_append_of_le_length hb,List.drop_append_of_le_length hb,List.append_assoc]
 rfl
theorem ins_end {c:Nat} {b:List Nat}:ins b.length c b=b++[c]:=by unfold ins;rw [List.take_length,List.drop_length]
theorem range_sel {c:Nat}:∀ {s:Nat},c<s→(List.range s).filter (λ d=>decide (d=c))=[c]
 | s+1,h=>by
  rw [List.range_succ,List.filter_append]
  by_cases e:c<s
  ·rw [range_sel e,List.filter_cons_of_neg (by simp;omega)];rfl
  ·have e:c=s:=by omega
   subst e
   rw [List.filter_eq_nil_iff.mpr λ d hd=>by rw [List.mem_range] at hd;simp;omega,List.filter_cons_of_pos (by simp)];rfl
theorem wo_len {α:Type} {h:Nat} {l:List α} (hl:h<l.length):(wo h l).length+1=l.length:=by unfold wo;rw [List.length_append,List.length_take,List.length_drop];omega
theorem ordR_sel:∀ (rs:List Nat) (h n c:Nat),rs.reverse[h]?=some n→c<n→(ordR rs).filter (λ q=>decide (q[h]?=some c))=(ordR (wo h rs.reverse).reverse).map (ins h c)
 | [],h,n,c,e,_=>by simp at e
 | s::rs,h,n,c,e,hc=>by
  rw [List.reverse_cons] at e ⊢
  have rl:rs.reverse.length=rs.length:=List.length_reverse
  by_cases hh:h<rs.length
  ·have e':rs.reverse[h]?=some n:=by rwa [List.getElem?_append_left (by omega)] at e
   have ih:=ordR_sel rs h n c e' hc
   have hw:wo h (rs.reverse++[s])=wo h rs.reverse++[s]:=by
    unfold wo;rw [List.take_append_of_le_length (by omega),List.drop_append_of_le_length (by omega),List.append_assoc]
   rw [hw,List.reverse_append]
   show List.filter _ ((ordR rs).flatMap λ b=>(List.range s).map λ d=>b++[d])=List.map (ins h c) ((ordR (wo h rs.reverse).reverse).flatMap λ b=>(List.range s).map λ d=>b++[d])
   have k1:∀ L:List (List Nat),(∀ b∈L,b.length=rs.length)→List.filter (λ q=>decide (q[h]?=some c)) (L.flatMap λ b=>(List.range s).map λ d=>b++[d])=(L.filter λ q=>decide (q[h]?=some c)).flatMap λ b=>(List.range s).map λ d=>b++[d]:=by
    intro L
    induction L with
    | nil=>intro _;rfl
    | cons b L ih =>
     intro hL
     have hb:=hL b List.mem_cons_self
     have same:∀ d,(b++[d])[h]?=b[h]?:=λ d=>List.getElem?_append_left (by omega)
     rw [List.flatMap_cons,List.filter_append,ih λ b hb=>hL b (List.mem_cons_of_mem _ hb)]
     by_cases p:b[h]?=some c
     ·rw [List.filter_cons_of_pos (by simpa using p),List.flatMap_cons,List.filter_eq_self.mpr λ q hq=>?_]
      obtain ⟨d,_,rfl⟩:=List.mem_map.mp hq
      rw [same];simpa using p
     ·rw [List.filter_cons_of_neg (by simpa using p),List.filter_eq_nil_iff.mpr λ q hq=>?_,Lna]
      obtain ⟨d,_,rfl⟩:=List.mem_map.mp hq
      rw [same];simpa using p
   rw [k1 _ λ b hb=>ordR_len_each rs b hb,ih,List.flatMap_map,List.map_flatMap]
   refine flat_eq λ b hb=>?_
   have bl:b.length=(wo h rs.reverse).length:=by rw [ordR_len_each _ b hb,List.length_reverse]
   have wl:=wo_len (h:=h) (l:=rs.reverse) (by omega)
   rw [List.map_map]
   exact List.map_congr_left λ d _=>(ins_snoc (by omega)).symm
  ·have hl:h<(rs.reverse++[s]).length:=(List.getElem?_eq_some_iff.mp e).1
   rw [List.length_append,List.length_singleton] at hl
   have eh:h=rs.length:=by omega
   subst eh
   rw [List.getElem?_append_right (by omega),rl,Nat.sub_self] at e
   have es:s=n:=by simpa using e
   subst es
   have hw:wo rs.length (rs.reverse++[s])=rs.reverse:=by
    unfold wo;rw [List.take_append_of_le_length (by omega),List.take_of_length_le (by omega),List.drop_eq_nil_of_le (by simp),List.append_nil]
   rw [hw,List.reverse_reverse]
   show List.filter _ ((ordR rs).flatMap λ b=>(List.range s).map λ d=>b++[d])=_
   have k2:∀ L:List (List Nat),(∀ b∈L,b.length=rs.length)→List.filter (λ q=>decide (q[rs.length]?=some c)) (L.flatMap λ b=>(List.range s).map λ d=>b++[d])=L.map (ins rs.length c):=by
    intro L
    induction L with
    | nil=>intro _;rfl
    | cons b L ih =>
     intro hL
     have hb:=hL b List.mem_cons_self
     rw [List.flatMap_cons,List.filter_append,ih λ b hb=>hL b (List.mem_cons_of_mem _ hb),List.map_cons,List.filter_map]
     have:((λ q:List Nat=>decide (q[rs.length]?=some c)) ∘ λ d=>b++[d])=λ d=>decide (d=c):=by
      funext d
      show decide ((b++[d])[rs.length]?=some c)=_
      rw [List.getElem?_append_right (by omega),hb,Nat.sub_self];simp
     rw [this,range_sel hc,← hb,ins_end]
     rfl
   exact k2 _ λ b hb=>ordR_len_each rs b hb
theorem ordR_ins {ns b:List Nat} {h n c:Nat} (hn:ns[h]?=some n) (hc:c<n) (hb:b∈ordR (wo h ns).reverse):ins h c b∈ordR ns.reverse:=by
 have:=ordR_sel ns.reverse h n c (by rw [List.reverse_reverse];exact hn) hc
 rw [List.reverse_reverse] at this
 have hm:ins h c b∈(ordR (wo h ns).reverse).map (ins h c):=List.mem_map_of_mem hb
 rw [← this] at hm
 exact (List.mem_filter.mp hm).1
theorem fold_sel {α:Type} {p:α→Prop} [DecidablePred p] {f:Int→α→Int}:∀ (l:List α) (s:Int),l.foldl (λ s q=>if p q then f s q else s) s=(l.filter λ q=>decide (p q)).foldl f s
 | [],_=>rfl
 | q::l,s=>by
  rw [List.foldl_cons,fold_sel l]
  by_cases h:p q
  ·rw [if_pos h,List.filter_cons_of_pos (by simpa using h),List.foldl_cons]
  ·rw [if_neg h,List.filter_cons_of_neg (by simpa using h)]
theorem fold_eq {α:Type} {f g:Int→α→Int}:∀ (l:List α) (s:Int),(∀ b∈l,∀ s,f s b=g s b)→l.foldl f s=l.foldl g s
 | [],_,_=>rfl
 | b::l,s,h=>by rw [List.foldl_cons,List.foldl_cons,h b List.mem_cons_self,fold_eq l _ λ b hb=>h b (List.mem_cons_of_mem _ hb)]
theorem tv_ints (q:List Nat):tv q=List.map V.int (q.map λ n:Nat=>(n:Int)):=by unfold tv;rw [List.map_map];rfl
theorem tk_iK (q:List Nat):tk q=iK (q.map λ n:Nat=>(n:Int)):=by unfold tk iK;rw [List.map_map];rfl
theorem iK_kV (l:List Int):(iK l).map kV=List.map V.int l:=by unfold iK;rw [List.map_map];rfl
theorem Lo.val {T B x y:Int} (h:Lo T B x y) (hB:0<B):(0<x↔0<T)∧(x<0↔T<0):=by
 have e:=h.eq
 have p:=h.pos
 rcases Int.lt_trichotomy x 0 with hx | hx | hx
 ·have:x*B<0:=Int.mul_neg_of_neg_of_pos hx hB
  have:T<0:=by
   rcases Int.lt_or_le T 0 with z | z
   ·exact z
   ·have:=Int.mul_nonneg z (Int.le_of_lt p);omega
  omega
 ·subst hx
  rw [Int.zero_mul] at e
  have:T=0:=by
   rcases Int.mul_eq_zero.mp e.symm with z | z
   ·exact z
   ·omega
  omega
 ·have:0<x*B:=Int.mul_pos hx hB
  have:0<T:=by
   rcases Int.lt_or_le 0 T with z | z
   ·exact z
   ·have:=Int.mul_le_mul_of_nonneg_right z (Int.le_of_lt p);omega
  omega
theorem lo_by {X Y B T x y:Int} (h:Lo X Y x y) (hY:0<Y) (hB:0<B) (e:X*B=T*Y):Lo T B x y:=by
 refine lo_mk hB h.pos h.cop ?_
 have e2:=h.eq
 refine Int.eq_of_mul_eq_mul_right (a:=Y) (by omega) ?_
 calc x*B*Y=x*Y*B:=by ac_rfl
  _=X*B*y:=by rw [e2];ac_rfl
  _=T*y*Y:=by rw [e];ac_rfl
theorem lo_plus {a b c d B S T x y:Int} (h1:a*B=S*b) (h2:c*B=T*d) (hb:0<b) (hd:0<d) (hB:0<B) (h:Lo (a*d+c*b) (b*d) x y):Lo (S+T) B x y:=by
 refine lo_by h (Int.mul_pos hb hd) hB ?_
 calc (a*d+c*b)*B=a*B*d+c*B*b:=by rw [Int.add_mul];congr 1 <;> ac_rfl
  _=(S+T)*(b*d):=by rw [h1,h2,Int.add_mul];congr 1 <;> ac_rfl
theorem lo_less {a b c d B S T x y:Int} (h1:a*B=S*b) (h2:c*B=T*d) (hb:0<b) (hd:0<d) (hB:0<B) (h:Lo (a*d - c*b) (b*d) x y):Lo (S - T) B x y:=by
 refine lo_by h (Int.mul_pos hb hd) hB ?_
 calc (a*d - c*b)*B=a*B*d - c*B*b:=by rw [Int.sub_mul];congr 1 <;> ac_rfl
  _=(S - T)*(b*d):=by rw [h1,h2,Int.sub_mul];congr 1 <;> ac_rfl
theorem lo_prod {a b c d A B S T x y:Int} (h1:a*A=S*b) (h2:c*B=T*d) (hb:0<b) (hd:0<d) (hA:0<A) (hB:0<B) (h:Lo (a*c) (b*d) x y):Lo (S*T) (B*A) x y:=by
 refine lo_by h (Int.mul_pos hb hd) (Int.mul_pos hB hA) ?_
 calc a*c*(B*A)=(a*A)*(c*B):=by ac_rfl
  _=S*T*(b*d):=by rw [h1,h2];ac_rfl
noncomputable def EnV (m:Nat) (H:Hp) (v:V):Prop:=∃ a x y,v=.ref a∧H a=some (.tup [.int x,.int y])∧0<y∧y≤9∧BB m x
noncomputable def enU (H:Hp) (v:V):Int:=match v with
 | .ref a=>match H a with
  | some (.tup [.int x,.int y])=>x*(2520 / y)
  | _=>0
 | _=>0
noncomputable def En (H:Hp) (v:V) (u:Int):Prop:=∃ a x y,v=.ref a∧H a=some (.tup [.int x,.int y])∧0<y∧y≤9∧x*2520=u*y∧BB 40 x
theorem EnV.keep {m:Nat} {H H':Hp} {v:V} (h:EnV m H v) (k:KeepT H H'):EnV m H' v:=let ⟨a,x,y,e,h1,r⟩:=h;⟨a,x,y,e,k _ _ h1,r⟩
theorem En.keep {H H':Hp} {v:V} {u:Int} (h:En H v u) (k:KeepT H H'):En H' v u:=let ⟨a,x,y,e,h1,r⟩:=h;⟨a,x,y,e,k _ _ h1,r⟩
theorem EnV.mono {m n:Nat} {H:Hp} {v:V} (h:EnV m H v) (k:m≤n):EnV n H v:=let ⟨a,x,y,e,h1,h2,h3,b⟩:=h;⟨a,x,y,e,h1,h2,h3,b.mono k⟩
theorem EnV.en {H:Hp} {v:V} (h:EnV 40 H v):En H v (enU H v):=by
 obtain ⟨a,x,y,rfl,h1,y0,y9,b⟩:=h
 refine ⟨a,x,y,rfl,h1,y0,y9,?_,b⟩
 have:enU H (.ref a)=x*(2520 / y):=by unfold enU;simp only [h1]
 rw [this,Int.mul_assoc]
 congr 1
 have:y=1∨y=2∨y=3∨y=4∨y=5∨y=6∨y=7∨y=8∨y=9:=by omega
 rcases this with e | e | e | e | e | e | e | e | e <;> rw [e] <;> rfl
theorem En.bb {H:Hp} {v:V} {u:Int} (h:En H v u):BB 52 u:=by
 obtain ⟨a,x,y,_,_,y0,y9,e,b⟩:=h
 have e2:u.natAbs*y.natAbs=x.natAbs*2520:=by rw [← Int.natAbs_mul,← e,Int.natAbs_mul];rfl
 have h1:u.natAbs≤u.natAbs*y.natAbs:=Nat.le_mul_of_pos_right _ (by omega)
 unfold BB at *
 omega
noncomputable def EnA (m:Nat) (H:Hp) (xs:List V) (n:Nat):Prop:=xs.length=n∧∀ v∈xs,EnV m H v
theorem EnA.keep {m:Nat} {H H':Hp} {xs:List V} {n:Nat} (h:EnA m H xs n) (k:KeepT H H'):EnA m H' xs n:=⟨h.1,λ v hv=>(h.2 v hv).keep k⟩
theorem EnA.mono {m m':Nat} {H:Hp} {xs:List V} {n:Nat} (h:EnA m H xs n) (k:m≤m'):EnA m' H xs n:=⟨h.1,λ v hv=>(h.2 v hv).mono k⟩
theorem EnA.get {m:Nat} {H:Hp} {xs:List V} {n i:Nat} (h:EnA m H xs n) (hi:i<n):∃ v,xs[i]?=some v∧EnV m H v:=by
 have hl:i<xs.length:=by rw [h.1];exact hi
 exact ⟨xs[i],List.getElem?_eq_getElem hl,h.2 _ (List.getElem_mem hl)⟩
theorem EnA.set {m:Nat} {H:Hp} {xs:List V} {n i:Nat} {v:V} (h:EnA m H xs n) (hv:EnV m H v):EnA m H (xs.set i v) n:=by
 refine ⟨by rw [List.length_set];exact h.1,λ w hw=>?_⟩
 rcases List.mem_or_eq_of_mem_set hw with z | z
 ·exact h.2 w z
 ·rw [z];exact hv
noncomputable def Wt (H:Hp) (v:V) (S m:Int):Prop:=∃ a x y,v=.ref a∧H a=some (.tup [.int x,.int y])∧0<y∧x*S=m*y∧BB 40 x∧BB 40 y
theorem Wt.keep {H H':Hp} {v:V} {S m:Int} (h:Wt H v S m) (k:KeepT H H'):Wt H' v S m:=let ⟨a,x,y,e,h1,r⟩:=h;⟨a,x,y,e,k _ _ h1,r⟩
theorem Wt.bb {H:Hp} {v:V} {S m:Int} (h:Wt H v S m) (hS:BB 20 S):BB 60 m:=by
 obtain ⟨a,x,y,_,_,y0,e,b,_⟩:=h
 have h1:m.natAbs≤(x*S).natAbs:=by rw [e,Int.natAbs_mul];exact Nat.le_mul_of_pos_right _ (by omega)
 exact (b.mul hS).of_le h1
noncomputable def WtL (H:Hp) (xs:List V) (S:Int) (ms:List Int):Prop:=xs.length=ms.length∧∀ (i:Nat) v,xs[i]?=some v→∃ m,ms[i]?=some m∧Wt H v S m
theorem WtL.keep {H H':Hp} {xs:List V} {S:Int} {ms:List Int} (h:WtL H xs S ms) (k:KeepT H H'):WtL H' xs S ms:=⟨h.1,λ i v e=>let ⟨m,e1,w⟩:=h.2 i v e;⟨m,e1,w.keep k⟩⟩
theorem WtL.erase {H:Hp} {xs:List V} {S:Int} {ms:List Int} (h:WtL H xs S ms) (j:Nat):WtL H (xs.eraseIdx j) S (ms.eraseIdx j):=by
 have hl:=h.1
 refine ⟨by rw [List.length_eraseIdx,List.length_eraseIdx,hl],λ i v e=>?_⟩
 rw [List.getElem?_eraseIdx] at e ⊢
 split at e
 ·rw [if_pos ‹_›];exact h.2 _ _ e
 ·rw [if_neg ‹_›];exact h.2 _ _ e
theorem WtL.set {H:Hp} {xs:List V} {S:Int} {ms:List Int} (h:WtL H xs S ms) (j:Nat) {v:V} {m:Int} (w:Wt H v S m):WtL H (xs.set j v) S (ms.set j m):=by
 have hl:=h.1
 refine ⟨by rw [List.length_set,List.length_set,hl],λ i u e=>?_⟩
 rw [List.getElem?_set] at e ⊢
 by_cases hj:j=i
 ·rw [if_pos hj] at e ⊢
  split at e
  ·rw [if_pos (by omega)];cases e;exact ⟨m,rfl,w⟩
  ·cases e
 ·rw [if_neg hj] at e ⊢
  exact h.2 _ _ e
theorem WtL.snoc {H:Hp} {xs:List V} {S:Int} {ms:List Int} (h:WtL H xs S ms) {v:V} {m:Int} (w:Wt H v S m):WtL H (xs++[v]) S (ms++[m]):=by
 refine ⟨by rw [List.length_append,List.length_append,h.1];rfl,λ i u e=>?_⟩
 by_cases hi:i<xs.length
 ·rw [List.getElem?_append_left hi] at e
  rw [List.getElem?_append_left (by rw [← h.1];exact hi)]
  exact h.2 _ _ e
 ·rw [List.getElem?_append_right (by omega)] at e
  rw [List.getElem?_append_right (by rw [← h.1];omega),← h.1]
  cases z:i - xs.length with
  | zero=>rw [z] at e;simp at e;subst e;exact ⟨m,rfl,w⟩
  | succ k=>rw [z] at e;simp at e
theorem sum_snoc {ms:List Int} {i:Nat} {m:Int} (h:ms[i]?=some m):(ms.take (i+1)).sum=(ms.take i).sum+m:=by rw [take_snoc h,List.sum_append];simp
theorem bb_sums {ms:List Int} (h:∀ m∈ms,BB 60 m):∀ i:Nat,BB (61+i) (ms.take i).sum
 | 0=>by simp;unfold BB;exact Nat.two_pow_pos _
 | i+1=>by
  cases e:ms[i]? with
  | none =>
   have hl:=List.getElem?_eq_none_iff.mp e
   rw [List.take_of_length_le (by omega)]
   have:=bb_sums h i
   rw [List.take_of_length_le hl] at this
   exact this.mono (by omega)
  | some m =>
   rw [sum_snoc e]
   exact (bb_sums h i).add ((h m (List.mem_of_getElem? e)).mono (by omega))
noncomputable def goodP (kvs:List (List Key×V)) (ms:List Int) (S:Int) (qs:List (List Nat)):Prop:=(∀ q∈qs,(valV kvs (tk q)).isSome=true)∧ms.length=qs.length∧(∀ m∈ms,0≤m)∧ms.sum=S
noncomputable def brs1 (h n c:Nat):List (List Nat):=((List.range n).filter λ o=>decide (o≠c)).map λ o=>[h,c,o]
noncomputable def brsH (h n:Nat):List (List Nat):=(List.range n).flatMap (brs1 h n)
noncomputable def brsF (ns:List Nat) (i:Nat):List (List Nat):=(List.range i).flatMap λ h=>brsH h (ns.getD h 0)
noncomputable def gn (wt:List Nat→Int) (un:List Nat→Nat→Int) (bs:List (List Nat)) (h c o:Nat):Int:=bs.foldl (λ s b=>s+wt (ins h c b)*(un (ins h o b) h - un (ins h c b) h)) 0
noncomputable def gl (wt:List Nat→Int) (un:List Nat→Nat→Int) (qs:List (List Nat)) (h c o:Nat):Int:=qs.foldl (λ s q=>if q[h]?=some c then s+wt q*(un (q.set h o) h - un q h) else s) 0
theorem gn_snoc {wt:List Nat→Int} {un:List Nat→Nat→Int} {bs:List (List Nat)} {b:List Nat} {h c o i:Nat} (e:bs[i]?=some b):gn wt un (bs.take (i+1)) h c o=gn wt un (bs.take i) h c o+wt (ins h c b)*(un (ins h o b) h - un (ins h c b) h):=by unfold gn;rw [take_snoc e,List.foldl_append];rfl
theorem gl_snoc {wt:List Nat→Int} {un:List Nat→Nat→Int} {qs:List (List Nat)} {q:List Nat} {h c o i:Nat} (e:qs[i]?=some q):gl wt un (qs.take (i+1)) h c o=if q[h]?=some c then gl wt un (qs.take i) h c o+wt q*(un (q.set h o) h - un q h) else gl wt un (qs.take i) h c o:=by unfold gl;rw [take_snoc e,List.foldl_append];rfl
theorem ins_set {h c o:Nat} {b:List Nat} (hb:h≤b.length):(ins h c b).set h o=ins h o b:=by
 unfold ins
 rw [List.set_append_right _ _ (by rw [List.length_take];omega),List.length_take,Nat.min_eq_left hb,Nat.sub_self]
 rfl
theorem gl_eq {wt:List Nat→Int} {un:List Nat→Nat→Int} {ns:List Nat} {h n c o:Nat} (hn:ns[h]?=some n) (hc:c<n):gl wt un (ordR ns.reverse) h c o=gn wt un (ordR (wo h ns).reverse) h c o:=by
 have e:=ordR_sel ns.reverse h n c (by rw [List.reverse_reverse];exact hn) hc
 rw [List.reverse_reverse] at e
 unfold gl gn
 rw [fold_sel,e,List.foldl_map]
 have wl:=wo_len (h:=h) (l:=ns) (List.getElem?_eq_some_iff.mp hn).1
 have hl:=(List.getElem?_eq_some_iff.mp hn).1
 refine fold_eq _ _ λ b hb s=>?_
 have bl:b.length=(wo h ns).length:=by rw [ordR_len_each _ b hb,List.length_reverse]
 rw [ins_set (by omega)]
theorem perm_sub {α:Type} [BEq α] [LawfulBEq α]:∀ {l1 l2:List α},l1.Nodup→(∀ a∈l1,a∈l2)→l2.length≤l1.length→l1.Perm l2
 | [],l2,_,_,hl=>by
  have:l2=[]:=List.eq_nil_of_length_eq_zero (by simpa using hl)
  rw [this]
 | a::t,l2,nd,sub,hl=>by
  have nd':=List.nodup_cons.mp nd
  have ha:=sub a List.mem_cons_self
  have p:t.Perm (l2.erase a):=perm_sub nd'.2 (λ b hb=>(List.mem_erase_of_ne (λ e:b=a=>nd'.1 (e ▸ hb))).mpr (sub b (List.mem_cons_of_mem _ hb))) (by rw [List.length_erase_of_mem ha];simp at hl;omega)
  exact (p.cons a).trans (List.perm_cons_erase ha).symm
theorem sum_perm {l1 l2:List Int} (h:l1.Perm l2):l1.sum=l2.sum:=by
 induction h with
 | nil=>rfl
 | cons a _ ih=>rw [List.sum_cons,List.sum_cons,ih]
 | swap a b l=>rw [List.sum_cons,List.sum_cons,List.sum_cons,List.sum_cons];omega
 | trans _ _ h1 h2=>rw [h1,h2]
noncomputable def plat (c n r k:Nat):Nat:=if r=1 then n - 1 - (c+k) % n else (c+k) % n
theorem plat_lt {c n r k:Nat} (hn:0<n):plat c n r k<n:=by
 have:=Nat.mod_lt (c+k) hn
 unfold plat
 split <;> omega
theorem plat_inj {c n r k j:Nat} (hk:k<n) (hj:j<n) (e:plat c n r k=plat c n r j):k=j:=by
 have hn:0<n:=by omega
 have h1:=Nat.mod_lt (c+k) hn
 have h2:=Nat.mod_lt (c+j) hn
 have e2:(c+k) % n=(c+j) % n:=by
  unfold plat at e
  split at e <;> omega
 have go:∀ {a b:Nat},a≤b→b<n→(c+a) % n=(c+b) % n→a=b:=λ {a b} hab hb e=>by
  have:=Nat.sub_mod_eq_zero_of_mod_eq e.symm
  rw [show c+b - (c+a)=b - a by omega,Nat.mod_eq_of_lt (by omega)] at this
  omega
 rcases Nat.le_total k j with h | h
 ·exact go h hj e2
 ·exact (go h hk e2.symm).symm
theorem plat_perm {c n r:Nat}:((List.range n).map (plat c n r)).Perm (List.range n):=by
 refine perm_sub ?_ (λ a ha=>?_) (by simp)
 ·unfold List.Nodup
  rw [List.pairwise_map]
  refine List.Pairwise.imp_of_mem ?_ List.nodup_range
  intro a b ha hb hab e
  exact hab (plat_inj (List.mem_range.mp ha) (List.mem_range.mp hb) e)
 ·obtain ⟨k,hk,rfl⟩:=List.mem_map.mp ha
  have:=List.mem_range.mp hk
  exact List.mem_range.mpr (plat_lt (by omega))
theorem range_getD {ws:List Int}:(List.range ws.length).map (λ i=>ws.getD i 0)=ws:=by
 apply List.ext_getElem
 ·simp
 ·intro i h1 h2
  simp [h2]
theorem plat_sum {ws:List Int} {c r:Nat}:((List.range ws.length).map λ k=>ws.getD (plat c ws.length r k) 0).sum=ws.sum:=by
 have p:=(plat_perm (c:=c) (n:=ws.length) (r:=r)).map λ i=>ws.getD i 0
 rw [range_getD,List.map_map] at p
 exact sum_perm p
theorem putK_len {kvs:List (List Key×V)} {k:List Key} {v:V} (h:(valV kvs k).isSome=true):(putK kvs k v).length=kvs.length:=by
 unfold putK
 rw [valV_any,if_pos h,List.length_map]
theorem keys_put {kvs:List (List Key×V)} {k:List Key} {v:V} (h:(valV kvs k).isSome=true):(putK kvs k v).map (·.1)=kvs.map (·.1):=by
 unfold putK
 rw [valV_any,if_pos h,List.map_map]
 refine List.map_congr_left λ p _=>?_
 show (if p.1=k then (p.1,v) else p).1=p.1
 split <;> rfl
theorem vals_put:∀ {kvs:List (List Key×V)} {k:List Key} {u v:V} {j:Nat},(kvs.map (·.1)).Nodup→kvs[j]?=some (k,u)→(putK kvs k v).map (·.2)=(kvs.map (·.2)).set j v:=by
 intro kvs k u v j nd hj
 have hs:(valV kvs k).isSome=true:=by rw [valV_at nd j hj];rfl
 unfold putK
 rw [valV_any,if_pos hs,List.map_map]
 apply List.ext_getElem?
 intro i
 rw [List.getElem?_map,List.getElem?_set,List.length_map]
 have hjl:=(List.getElem?_eq_some_iff.mp hj).1
 by_cases hi:j=i
 ·subst hi
  rw [if_pos rfl,if_pos hjl,hj]
  show some ((if k=k then (k,v) else (k,u)).2)=_
  rw [if_pos rfl]
 ·rw [if_neg hi,List.getElem?_map]
  cases e:kvs[i]? with
  | none=>rfl
  | some p =>
   show some ((if p.1=k then (p.1,v) else p).2)=some p.2
   have:¬ p.1=k:=λ z=>hi (by
    refine (List.getElem?_inj (l:=kvs.map (·.1)) (by rw [List.length_map];exact hjl) nd).mp ?_
    rw [List.getElem?_map,List.getElem?_map,hj,e]
    show some k=some p.1
    rw [z])
   rw [if_neg this]
theorem valV_erase {kvs:List (List Key×V)} {k:List Key} {u:V} {j:Nat} (nd:(kvs.map (·.1)).Nodup) (hj:kvs[j]?=some (k,u)):valV (kvs.eraseIdx j) k=none:=by
 cases e:valV (kvs.eraseIdx j) k with
 | none=>rfl
 | some v =>
  exfalso
  obtain ⟨p,hp,e1,_⟩:=valV_mem e
  obtain ⟨i,hi⟩:=List.getElem?_of_mem hp
  rw [List.getElem?_eraseIdx] at hi
  have hjl:=(List.getElem?_eq_some_iff.mp hj).1
  have go:∀ m:Nat,kvs[m]?=some p→m=j:=λ m hm=>by
   have:=(List.getElem?_inj (i:=m) (j:=j) (l:=kvs.map (·.1)) (by rw [List.length_map];exact (List.getElem?_eq_some_iff.mp hm).1) nd).mp (by
    rw [List.getElem?_map,List.getElem?_map,hj,hm]
    show some p.1=some k
    rw [e1])
   exact this
  split at hi
  ·have:=go _ hi;omega
  ·have:=go _ hi;omega
theorem req_tup {K:W.Frag} {H:Hp} {n:Nat} {a c:Addr} {zs ws:List Int} (h1:SqT K H a (List.map V.int zs)) (h2:SqT K H c (List.map V.int ws)):REq K H (DEq K H n) (.ref a) (.ref c) (decide (zs=ws)):=by
 refine ⟨a,c,_,_,rfl,rfl,.inr ⟨h1,h2,λ j=>zs.getD j 0 == ws.getD j 0,λ j x y ex ey=>?_,?_⟩⟩
 ·obtain ⟨i,rfl,e1⟩:=get_ints ex
  obtain ⟨k,rfl,e2⟩:=get_ints ey
  have leaf:(V.int i=V.int k∧(∃ a,V.int i=V.ref a)∧(zs.getD j 0 == ws.getD j 0)=true)∨∃ i' k',V.int i=V.int i'∧V.int k=V.int k'∧(zs.getD j 0 == ws.getD j 0)=(i' == k'):=.inr ⟨i,k,rfl,rfl,by rw [List.getD_eq_getElem?_getD,List.getD_eq_getElem?_getD,e1,e2];rfl⟩
  cases n with
  | zero=>exact leaf
  | succ n=>exact .inl leaf
 ·rw [List.length_map,List.length_map];exact (all_eq_ints zs ws).symm
theorem brk_step {T B g S x1 y1 x2 y2 x3 y3 u1 u2 w:Int} (h:T*(2520*S) = -g*B) (e1:x1*2520=u1*y1) (e2:x2*2520=u2*y2) (e3:x3*S=w*y3):(T*(y1*y2*y3)+(x1*y2 - x2*y1)*x3*B)*(2520*S) = -(g+w*(u2 - u1))*(B*(y1*y2*y3)):=by
 have a1:(T*(y1*y2*y3)+(x1*y2 - x2*y1)*x3*B)*(2520*S)=T*(2520*S)*(y1*y2*y3)+((x1*2520)*y2 - (x2*2520)*y1)*(x3*S)*B:=by grind
 rw [a1,h,e1,e2,e3]
 grind
theorem brk_sign {T B g S:Int} (h:T*(2520*S) = -g*B) (s0:0<S) (b0:0<B):T<0↔0<g:=by
 have S0:0<2520*S:=by omega
 constructor
 ·intro t
  have:=Int.mul_neg_of_neg_of_pos t S0
  rcases Int.lt_or_le 0 g with z | z
  ·exact z
  ·have:=Int.mul_nonneg (show 0≤-g by omega) (Int.le_of_lt b0);omega
 ·intro t
  have:=Int.mul_neg_of_neg_of_pos (show -g<0 by omega) b0
  rcases Int.lt_or_le T 0 with z | z
  ·exact z
  ·have:=Int.mul_nonneg z (Int.le_of_lt S0);omega
theorem pre_range {k n:Nat} (h:k≤n):List.range k <+: List.range n:=by
 obtain ⟨m,rfl⟩:=Nat.exists_eq_add_of_le h
 rw [List.range_add]
 exact List.prefix_append _ _
theorem pre_flat {α β:Type} {f:α→List β} {l1 l2:List α} (h:l1 <+: l2):l1.flatMap f <+: l2.flatMap f:=by
 obtain ⟨t,rfl⟩:=h
 rw [List.flatMap_append]
 exact List.prefix_append _ _
theorem find_pre {α:Type} {f:α→Bool} {l1 l2:List α} {x:α} (h:l1 <+: l2) (e:l1.find? f=some x):l2.find? f=some x:=by
 obtain ⟨t,rfl⟩:=h
 rw [List.find?_append,e]
 rfl
noncomputable def brP (ns:List Nat) (h n c k:Nat):List (List Nat):=brsF ns h++((List.range c).flatMap (brs1 h n)++((List.range k).filter λ o=>decide (o≠c)).map λ o=>[h,c,o])
theorem brP_pre {ns:List Nat} {h n c k:Nat} (hn:ns[h]?=some n) (hc:c<n) (hk:k≤n):brP ns h n c k <+: brsF ns ns.length:=by
 have hl:=(List.getElem?_eq_some_iff.mp hn).1
 have e:ns.getD h 0=n:=by rw [List.getD_eq_getElem?_getD,hn];rfl
 have p1:brsF ns (h+1) <+: brsF ns ns.length:=pre_flat (pre_range (by omega))
 have p2:brsF ns (h+1)=brsF ns h++brsH h n:=by
  unfold brsF
  rw [List.range_succ,List.flatMap_append,List.flatMap_cons,List.flatMap_nil,List.append_nil,e]
 have p3:(List.range (c+1)).flatMap (brs1 h n) <+: brsH h n:=pre_flat (pre_range (by omega))
 rw [List.range_succ,List.flatMap_append,List.flatMap_cons,List.flatMap_nil,List.append_nil] at p3
 have p4:((List.range k).filter λ o=>decide (o≠c)).map (λ o=>[h,c,o]) <+: brs1 h n c:=((pre_range hk).filter _).map _
 refine List.IsPrefix.trans ?_ p1
 rw [p2]
 unfold brP
 refine (List.prefix_append_right_inj _).mpr (List.IsPrefix.trans ?_ p3)
 exact (List.prefix_append_right_inj _).mpr p4
structure DK (H0 H:Hp) (c:Addr) (kvs:List (List Key×V)) (qs:List (List Nat)) (ad:List Nat→Addr) (cont:List Nat→List V) (B:List Nat→Nat) (n:Nat):Prop where
 at_:H c=some (.dT kvs)
 v:∀ q∈qs,valV kvs (tk q)=some (.ref (ad q))∧H (ad q)=some (.lst (cont q))∧H0 (ad q)=none∧EnA (B q) H (cont q) n
 inj:∀ q∈qs,∀ q'∈qs,ad q=ad q'→q=q'
theorem keepT_dict {H:Hp} {c:Addr} {kvs:List (List Key×V)} {o:HO} (h:H c=some (.dT kvs)):KeepT H (upd H c o):=λ a ys e=>by
 rw [upd_ne (ne_of e h (by intro z;cases z))];exact e
theorem DK.put {H0 H H1:Hp} {c p:Addr} {kvs:List (List Key×V)} {qs qs':List (List Nat)} {ad:List Nat→Addr} {cont:List Nat→List V} {B:List Nat→Nat} {n:Nat} {q0:List Nat} {zs:List V} (d:DK H0 H c kvs qs ad cont B n) (s:Same H H1) (hp:H1 p=some (.lst zs)) (h0:H p=none) (h00:H0 p=none) (en:EnA (B q0) H1 zs n) (sub:∀ q∈qs',q=q0∨q∈qs) :
  DK H0 (upd H1 c (.dT (putK kvs (tk q0) (.ref p)))) c (putK kvs (tk q0) (.ref p)) qs' (λ q=>if q=q0 then p else ad q) (λ q=>if q=q0 then zs else cont q) B n:=by
 have hc1:=s _ _ d.at_
 have kt:KeepT H1 (upd H1 c (.dT (putK kvs (tk q0) (.ref p)))):=keepT_dict hc1
 have pc:p≠c:=λ e=>by rw [e,d.at_] at h0;cases h0
 refine ⟨upd_same,λ q hq=>?_,λ q hq q' hq' e=>?_⟩
 ·rw [valV_put]
  by_cases e:q=q0
  ·subst e
   simp only [if_true]
   exact ⟨trivial,by rw [upd_ne pc];exact hp,h00,en.keep kt⟩
  ·have hm:q∈qs:=(sub q hq).resolve_left e
   obtain ⟨v1,v2,v3,v4⟩:=d.v q hm
   simp only [e,if_false]
   rw [if_neg (λ z=>e (tk_inj z))]
   refine ⟨v1,?_,v3,(v4.keep (keepT_same s)).keep kt⟩
   rw [upd_ne (ne_of v2 d.at_ (by intro z;cases z))]
   exact s _ _ v2
 ·have go:∀ r∈qs,p≠ad r:=λ r hr e=>by
   have:=(d.v r hr).2.1
   rw [← e,h0] at this;cases this
  by_cases e1:q=q0
  ·by_cases e2:q'=q0
   ·rw [e1,e2]
   ·simp only [e1,e2,if_true,if_false] at e
    exact absurd e (go q' ((sub q' hq').resolve_left e2))
  ·have m1:=(sub q hq).resolve_left e1
   by_cases e2:q'=q0
   ·simp only [e1,e2,if_true,if_false] at e
    exact absurd e.symm (go q m1)
   ·simp only [e1,e2,if_false] at e
    exact d.inj q m1 q' ((sub q' hq').resolve_left e2) e
theorem DK.mut {H0 H:Hp} {c:Addr} {kvs:List (List Key×V)} {qs:List (List Nat)} {ad:List Nat→Addr} {cont:List Nat→List V} {B:List Nat→Nat} {n:Nat} {q0:List Nat} {zs:List V} (d:DK H0 H c kvs qs ad cont B n) {m:Nat} (h0:q0∈qs) (en:EnA m H zs n) :
  DK H0 (upd H (ad q0) (.lst zs)) c kvs qs ad (λ q=>if q=q0 then zs else cont q) (λ q=>if q=q0 then m else B q) n:=by
 obtain ⟨_,w2,_,_⟩:=d.v q0 h0
 have kt:KeepT H (upd H (ad q0) (.lst zs)):=keepT_lst w2
 refine ⟨by rw [upd_ne (ne_of d.at_ w2 (by intro z;cases z))];exact d.at_,λ q hq=>?_,d.inj⟩
 obtain ⟨v1,v2,v3,v4⟩:=d.v q hq
 by_cases e:q=q0
 ·subst e
  simp only [if_true]
  exact ⟨v1,upd_same,v3,en.keep kt⟩
 ·simp only [e,if_false]
  refine ⟨v1,?_,v3,v4.keep kt⟩
  rw [upd_ne (λ z=>e (d.inj q hq q0 h0 z))]
  exact v2
theorem DK.same {H0 H H1:Hp} {c:Addr} {kvs:List (List Key×V)} {qs:List (List Nat)} {ad:List Nat→Addr} {cont:List Nat→List V} {B:List Nat→Nat} {n:Nat} (d:DK H0 H c kvs qs ad cont B n) (s:Same H H1):DK H0 H1 c kvs qs ad cont B n :=
 ⟨s _ _ d.at_,λ q hq=>let ⟨v1,v2,v3,v4⟩:=d.v q hq;⟨v1,s _ _ v2,v3,v4.keep (keepT_same s)⟩,d.inj⟩
theorem prodR_leM {m:Nat}:∀ rs:List Nat,(∀ s∈rs,s≤m)→prodR rs≤m ^ rs.length
 | [],_=>Nat.le_refl _
 | s::rs,h=>by
  show prodR rs*s≤m ^ (rs.length+1)
  rw [Nat.pow_succ]
  exact Nat.mul_le_mul (prodR_leM rs λ t ht=>h t (List.mem_cons_of_mem _ ht)) (h s List.mem_cons_self)
structure ShT (ns:List Nat):Prop where
 sz:Sz ns
 l2:2≤ns.length
 sh:(ns.length=2∧∀ n∈ns,n≤4)∨(ns.length=3∧∀ n∈ns,n≤3)
theorem ShT.many {ns:List Nat} (h:ShT ns):(ordR ns.reverse).length≤27:=by
 rw [ordR_length _ h.sz.rev.ge]
 rcases h.sh with ⟨e,a⟩ | ⟨e,a⟩
 ·have:=prodR_leM (m:=4) ns.reverse λ s hs=>a s (List.mem_reverse.mp hs)
  rw [List.length_reverse,e] at this
  omega
 ·have:=prodR_leM (m:=3) ns.reverse λ s hs=>a s (List.mem_reverse.mp hs)
  rw [List.length_reverse,e] at this
  omega
theorem ShT.pos {ns:List Nat} (h:ShT ns):1≤(ordR ns.reverse).length:=by
 rw [ordR_length _ h.sz.rev.ge]
 exact prodR_pos _ h.sz.rev.ge
noncomputable def hPl (q:List Nat):Int:=hInts (q.map λ n:Nat=>(n:Int))
theorem hash_nd2:((ordR [4,4]).map hPl).Nodup:=by decide +kernel
theorem hash_nd3:((ordR [3,3,3]).map hPl).Nodup:=by decide +kernel
theorem inj_map {α β:Type} {f:α→β} {l:List α} (h:(l.map f).Nodup) {a b:α} (ha:a∈l) (hb:b∈l) (e:f a=f b):a=b:=by
 obtain ⟨i,hi⟩:=List.getElem?_of_mem ha
 obtain ⟨j,hj⟩:=List.getElem?_of_mem hb
 have:=(List.getElem?_inj (i:=i) (j:=j) (l:=l.map f) (by rw [List.length_map];exact (List.getElem?_eq_some_iff.mp hi).1) h).mp (by rw [List.getElem?_map,List.getElem?_map,hi,hj];exact congrArg some e)
 subst this
 rw [hi] at hj
 exact Option.some.inj hj
theorem ShT.hash {ns:List Nat} (h:ShT ns) {qs:List (List Nat)} (nd:qs.Nodup) (sub:∀ q∈qs,q∈ordR ns.reverse):(qs.map hPl).Nodup:=by
 have key:∃ A:List (List Nat),(A.map hPl).Nodup∧∀ q∈qs,q∈A:=by
  rcases h.sh with ⟨e,a⟩ | ⟨e,a⟩
  ·refine ⟨_,hash_nd2,λ q hq=>mem_ordR _ q ?_ λ i n c e1 e2=>?_⟩
   ·rw [ordR_len_each _ q (sub q hq),List.length_reverse,e];rfl
   ·have hi:i<ns.length:=by
     have:=(List.getElem?_eq_some_iff.mp e1).1
     rw [e];exact this
    have:=ordR_lt _ q (sub q hq) i ns[i] c (by rw [List.reverse_reverse];exact List.getElem?_eq_getElem hi) e2
    have:=a ns[i] (List.getElem_mem hi)
    have:n=4:=by
     have hi2:i<2:=by omega
     have:i=0∨i=1:=by omega
     rcases this with rfl | rfl <;> (simp at e1;omega)
    omega
  ·refine ⟨_,hash_nd3,λ q hq=>mem_ordR _ q ?_ λ i n c e1 e2=>?_⟩
   ·rw [ordR_len_each _ q (sub q hq),List.length_reverse,e];rfl
   ·have hi:i<ns.length:=by
     have:=(List.getElem?_eq_some_iff.mp e1).1
     rw [e];exact this
    have:=ordR_lt _ q (sub q hq) i ns[i] c (by rw [List.reverse_reverse];exact List.getElem?_eq_getElem hi) e2
    have:=a ns[i] (List.getElem_mem hi)
    have:n=3:=by
     have:i=0∨i=1∨i=2:=by omega
     rcases this with rfl | rfl | rfl <;> (simp at e1;omega)
    omega
 obtain ⟨A,hA,sA⟩:=key
 unfold List.Nodup
 rw [List.pairwise_map]
 refine List.Pairwise.imp_of_mem ?_ nd
 intro a b ha hb hab e
 exact hab (inj_map hA (sA a ha) (sA b hb) e)
noncomputable def Nm (h:Int):Prop:=0≤h∧BB 210 h
theorem nm_at {hs:List Int} {i:Nat} (h:∀ x∈hs,Nm x) (hi:i<hs.length):Nm (hs.getD i 0):=by
 rw [List.getD_eq_getElem?_getD,List.getElem?_eq_getElem hi]
 exact h _ (List.getElem_mem hi)
theorem ints_atD {zs:List Int} {i:Nat} (h:i<zs.length):atI (List.map V.int zs) (i:Int)=some (.int (zs.getD i 0)):=by
 refine atI_nat ?_
 rw [List.getElem?_map,List.getD_eq_getElem?_getD,List.getElem?_eq_getElem h];rfl
theorem ixN_at {n i:Nat} (h:i<n):ixN n (i:Int)=some i:=by unfold ixN;rw [if_pos (Int.natCast_nonneg _),if_pos (by omega)];rfl
theorem sum_le {m:Int}:∀ {ws:List Int},(∀ w∈ws,0≤w∧w≤m)→0≤ws.sum∧ws.sum≤m*ws.length
 | [],_=>by simp
 | w::ws,h=>by
  have:=sum_le (ws:=ws) λ v hv=>h v (List.mem_cons_of_mem _ hv)
  have:=h w List.mem_cons_self
  rw [List.sum_cons,List.length_cons,Int.natCast_add,Int.mul_add]
  omega
theorem sum_ge {ws:List Int} (h:∀ w∈ws,0≤w):∀ {w:Int},w∈ws→w≤ws.sum:=by
 induction ws with
 | nil=>intro w hw;cases hw
 | cons v ws ih =>
  intro w hw
  have h0:=h v List.mem_cons_self
  have ih:=@ih λ x hx=>h x (List.mem_cons_of_mem _ hx)
  have hs:0≤ws.sum:=by
   cases ws with
   | nil=>simp
   | cons u us=>have:=ih (w:=u) List.mem_cons_self;have:=h u (List.mem_cons_of_mem _ List.mem_cons_self);omega
  rw [List.sum_cons]
  rcases List.mem_cons.mp hw with e | e
  ·omega
  ·have:=ih e;omega
structure PnOut (H:Hp) (kvs:List (List Key×V)) (qs:List (List Nat)) (ws:List Int) (c r:Nat) (m:Nat):Prop where
 len:kvs.length=m
 en:∀ k,k<m→∃ q a x y,qs[plat c qs.length r k]?=some q∧kvs[k]?=some (tk q,.ref a)∧H a=some (.tup [.int x,.int y])∧Lo (ws.getD (plat c qs.length r k) 0) ws.sum x y
structure WsOk (ws:List Int) (n:Nat):Prop where
 len:ws.length=n
 rg:∀ w∈ws,0≤w∧w≤6
 pos:0<ws.sum
theorem WsOk.bb {ws:List Int} {n:Nat} (h:WsOk ws n) (hn:n≤27):ws.sum≤162∧BB 20 ws.sum:=by
 have:=sum_le h.rg
 have:=h.pos
 have:=h.len
 have:ws.sum≤162:=by omega
 exact ⟨this,by unfold BB;omega⟩
theorem PnOut.keep {H H':Hp} {kvs:List (List Key×V)} {qs:List (List Nat)} {ws:List Int} {c r m:Nat} (h:PnOut H kvs qs ws c r m) (k:KeepT H H'):PnOut H' kvs qs ws c r m:=⟨h.len,λ j hj=>let ⟨q,a,x,y,e1,e2,e3,e4⟩:=h.en j hj;⟨q,a,x,y,e1,e2,k _ _ e3,e4⟩⟩
theorem PnOut.new {H:Hp} {kvs:List (List Key×V)} {qs:List (List Nat)} {ws:List Int} {c r m:Nat} (h:PnOut H kvs qs ws c r m) (nd:qs.Nodup) {q:List Nat} (hm:m<qs.length) (hq:qs[plat c qs.length r m]?=some q):valV kvs (tk q)=none:=by
 cases e:valV kvs (tk q) with
 | none=>rfl
 | some v =>
  exfalso
  obtain ⟨p,hp,e1,_⟩:=valV_mem e
  obtain ⟨j,hj⟩:=List.getElem?_of_mem hp
  have jl:j<m:=by rw [← h.len];exact (List.getElem?_eq_some_iff.mp hj).1
  obtain ⟨q',a,x,y,f1,f2,_⟩:=h.en j jl
  rw [hj] at f2
  cases f2
  have:q'=q:=tk_inj e1
  subst this
  have:=(List.getElem?_inj (List.getElem?_eq_some_iff.mp f1).1 nd).mp (f1.trans hq.symm)
  have:=plat_inj (by omega) hm this
  omega
theorem PnOut.snoc {H:Hp} {kvs:List (List Key×V)} {qs:List (List Nat)} {ws:List Int} {c r m:Nat} (h:PnOut H kvs qs ws c r m) {q:List Nat} {a:Addr} {x y:Int} (hq:qs[plat c qs.length r m]?=some q) (ha:H a=some (.tup [.int x,.int y])) (lo:Lo (ws.getD (plat c qs.length r m) 0) ws.sum x y):PnOut H (kvs++[(tk q,.ref a)]) qs ws c r (m+1):=by
 refine ⟨by rw [List.length_append,h.len];rfl,λ k hk=>?_⟩
 by_cases hl:k<m
 ·obtain ⟨q',a',x',y',e1,e2,e3,e4⟩:=h.en k hl
  exact ⟨q',a',x',y',e1,by rw [List.getElem?_append_left (by rw [h.len];exact hl)];exact e2,e3,e4⟩
 ·have:k=m:=by omega
  subst this
  refine ⟨q,a,x,y,hq,?_,ha,lo⟩
  rw [List.getElem?_append_right (by rw [h.len];exact Nat.le_refl _),h.len,Nat.sub_self]
  rfl
theorem ixN_int {n:Nat} {k:Int} (h0:0≤k) (h:k<n):ixN n k=some k.toNat:=by
 unfold ixN
 rw [if_pos h0,if_pos h]
theorem cut_last {xs:List V}:cutV xs none (some (-1))=xs.take (xs.length - 1):=by
 unfold cutV
 rw [HT.sIx_none,List.drop_zero,Nat.sub_zero]
 congr 1
 unfold HT.sIx
 simp
 omega
theorem set_not {q q':List Nat} {h:Nat} {z:Int} (hl:h<q.length) (hz:∀ m:Nat,q'[h]?=some m→(m:Int)≠z):(q.map λ n:Nat=>(n:Int)).set h z≠q'.map λ n:Nat=>(n:Int):=λ e=>by
 have e2:=congrArg (λ l=>l[h]?) e
 simp only [List.getElem?_map] at e2
 rw [List.getElem?_set_self (by rw [List.length_map];exact hl)] at e2
 cases hq:q'[h]? with
 | none=>rw [hq] at e2;cases e2
 | some m=>rw [hq] at e2;exact hz m hq (Option.some.inj e2).symm
theorem len_not {zs:List Int} {q:List Nat} (h:zs.length≠q.length):zs≠q.map λ n:Nat=>(n:Int):=λ e=>h (by rw [e,List.length_map])
theorem neg_step {S w x y:Int} (e:x*S=w*y):(0 - y - x)*S=(-S - w)*y:=by
 have:(0 - y - x)*S = -(y*S) - x*S:=by grind
 rw [this,e]
 grind
structure PlG (H:Hp) (p l:Addr) (kvs:List (List Key×V)) (xs:List V) (ns:List Nat) (ws:List Int) (c r:Nat):Prop where
 hp:H p=some (.dT kvs)
 po:PnOut H kvs (ordR ns.reverse) ws c r (ordR ns.reverse).length
 wo:WsOk ws (ordR ns.reverse).length
 sh:ShT ns
 hl:H l=some (.lst xs)
 ps:Ps H xs (ordR ns.reverse)
theorem PlG.same {H H':Hp} {p l:Addr} {kvs:List (List Key×V)} {xs:List V} {ns:List Nat} {ws:List Int} {c r:Nat} (h:PlG H p l kvs xs ns ws c r) (s:Same H H'):PlG H' p l kvs xs ns ws c r:=⟨s _ _ h.hp,h.po.keep (keepT_same s),h.wo,h.sh,s _ _ h.hl,h.ps.same s⟩
noncomputable def msOf (ws:List Int) (c r:Nat):List Int:=(List.range ws.length).map λ k=>ws.getD (plat c ws.length r k) 0
theorem msOf_len {ws:List Int} {c r:Nat}:(msOf ws c r).length=ws.length:=by unfold msOf;rw [List.length_map,List.length_range]
theorem msOf_get {ws:List Int} {c r k:Nat} (h:k<ws.length):(msOf ws c r)[k]?=some (ws.getD (plat c ws.length r k) 0):=by
 unfold msOf
 rw [List.getElem?_map,List.getElem?_range h]
 rfl
theorem WsOk.get {ws:List Int} {n:Nat} (h:WsOk ws n) {i:Nat} (hi:i<n):0≤ws.getD i 0∧ws.getD i 0≤6:=by
 have hl:i<ws.length:=by rw [h.len];exact hi
 rw [List.getD_eq_getElem?_getD,List.getElem?_eq_getElem hl]
 exact h.rg _ (List.getElem_mem hl)
theorem lo_small {m S x y:Int} (lo:Lo m S x y) (m0:0≤m) (m6:m≤6) (s0:0<S) (s162:S≤162):BB 10 x∧BB 10 y:=by
 have h1:=lo.bx
 have h2:=lo.by_
 unfold BB
 omega
theorem pl_perm {ns:List Nat} {c r:Nat}:((List.range (ordR ns.reverse).length).map λ k=>(ordR ns.reverse).getD (plat c (ordR ns.reverse).length r k) []).Nodup∧∀ q,q∈(List.range (ordR ns.reverse).length).map (λ k=>(ordR ns.reverse).getD (plat c (ordR ns.reverse).length r k) [])→q∈ordR ns.reverse:=by
 constructor
 ·unfold List.Nodup
  rw [List.pairwise_map]
  refine List.Pairwise.imp_of_mem ?_ List.nodup_range
  intro a b ha hb hab e
  have ha:=List.mem_range.mp ha
  have hb:=List.mem_range.mp hb
  have pa:plat c (ordR ns.reverse).length r a<(ordR ns.reverse).length:=plat_lt (by omega)
  have pb:plat c (ordR ns.reverse).length r b<(ordR ns.reverse).length:=plat_lt (by omega)
  rw [List.getD_eq_getElem?_getD,List.getD_eq_getElem?_getD,List.getElem?_eq_getElem pa,List.getElem?_eq_getElem pb] at e
  have e:(ordR ns.reverse)[plat c (ordR ns.reverse).length r a]=(ordR ns.reverse)[plat c (ordR ns.reverse).length r b]:=e
  have:=(List.getElem?_inj pa (ordR_nodup ns.reverse)).mp ((List.getElem?_eq_getElem pa).trans ((congrArg some e).trans (List.getElem?_eq_getElem pb).symm))
  exact hab (plat_inj ha hb this)
 ·intro q hq
  obtain ⟨k,hk,rfl⟩:=List.mem_map.mp hq
  have hk:=List.mem_range.mp hk
  have pk:plat c (ordR ns.reverse).length r k<(ordR ns.reverse).length:=plat_lt (by omega)
  rw [List.getD_eq_getElem?_getD,List.getElem?_eq_getElem pk]
  exact List.getElem_mem pk
theorem ms_sum {ws:List Int} {c r:Nat}:(msOf ws c r).sum=ws.sum:=plat_sum
section
variable {H:Hp} {p l:Addr} {kvs:List (List Key×V)} {xs:List V} {ns:List Nat} {ws:List Int} {c r:Nat} (g:PlG H p l kvs xs ns ws c r)
include g
theorem PlG.key:kvs.map (·.1)=(List.range (ordR ns.reverse).length).map λ k=>tk ((ordR ns.reverse).getD (plat c (ordR ns.reverse).length r k) []):=by
 apply List.ext_getElem?
 intro k
 rw [List.getElem?_map,List.getElem?_map]
 by_cases hk:k<(ordR ns.reverse).length
 ·obtain ⟨q,a,x,y,e1,e2,_⟩:=g.po.en k hk
  rw [e2,List.getElem?_range hk,Option.map_some,Option.map_some,List.getD_eq_getElem?_getD,e1]
  rfl
 ·rw [List.getElem?_eq_none (by rw [g.po.len];omega),List.getElem?_eq_none (by rw [List.length_range];omega)]
  rfl
theorem PlG.dict:∃ ls:List (List Int),kvs.map (·.1)=ls.map iK∧(ls.map hInts).Nodup∧kvs≠[]:=by
 obtain ⟨nd,sub⟩:=@pl_perm ns c r
 refine ⟨((List.range (ordR ns.reverse).length).map λ k=>(ordR ns.reverse).getD (plat c (ordR ns.reverse).length r k) []).map (λ q=>q.map λ n:Nat=>(n:Int)),?_,?_,λ e=>?_⟩
 ·rw [g.key,List.map_map,List.map_map]
  exact List.map_congr_left λ k _=>tk_iK _
 ·rw [List.map_map]
  exact g.sh.hash nd sub
 ·have:=g.po.len
  have:=g.sh.pos
  rw [e] at *
  simp at *
  omega
theorem PlG.nodup:(kvs.map (·.1)).Nodup:=by
 obtain ⟨nd,_⟩:=@pl_perm ns c r
 rw [g.key]
 have e:((List.range (ordR ns.reverse).length).map λ k=>tk ((ordR ns.reverse).getD (plat c (ordR ns.reverse).length r k) []))=((List.range (ordR ns.reverse).length).map λ k=>(ordR ns.reverse).getD (plat c (ordR ns.reverse).length r k) []).map tk:=by rw [List.map_map];rfl
 rw [e]
 unfold List.Nodup
 rw [List.pairwise_map]
 exact List.Pairwise.imp (λ h e=>h (tk_inj e)) nd
theorem PlG.at_ {q:List Nat} (hq:q∈ordR ns.reverse):∃ (k:Nat) (a:Addr) (x y m:Int),kvs[k]?=some (tk q,V.ref a)∧H a=some (.tup [.int x,.int y])∧Lo m ws.sum x y∧(msOf ws c r)[k]?=some m∧0≤m∧m≤6:=by
 obtain ⟨i,hi⟩:=List.getElem?_of_mem hq
 have il:=(List.getElem?_eq_some_iff.mp hi).1
 have hm:i∈(List.range (ordR ns.reverse).length).map (plat c (ordR ns.reverse).length r):=plat_perm.mem_iff.mpr (List.mem_range.mpr il)
 obtain ⟨k,hk,ek⟩:=List.mem_map.mp hm
 have kl:=List.mem_range.mp hk
 obtain ⟨q',a,x,y,e1,e2,e3,e4⟩:=g.po.en k kl
 rw [ek,hi] at e1
 cases e1
 have:=g.wo.get (i:=plat c (ordR ns.reverse).length r k) (by rw [ek];exact il)
 refine ⟨k,a,x,y,_,e2,e3,e4,?_,this.1,this.2⟩
 rw [msOf_get (by rw [g.wo.len];exact kl),g.wo.len]
theorem PlG.s162:ws.sum≤162∧BB 20 ws.sum:=g.wo.bb g.sh.many
theorem PlG.wtl:WtL H (kvs.map (·.2)) ws.sum (msOf ws c r):=by
 refine ⟨by rw [List.length_map,g.po.len,msOf_len,g.wo.len],λ k v e=>?_⟩
 rw [List.getElem?_map] at e
 have kl:k<(ordR ns.reverse).length:=by
  rcases Nat.lt_or_ge k (ordR ns.reverse).length with z | z
  ·exact z
  ·rw [List.getElem?_eq_none (by rw [g.po.len];exact z)] at e;cases e
 obtain ⟨q,a,x,y,e1,e2,e3,e4⟩:=g.po.en k kl
 rw [e2] at e
 cases e
 have w:=g.wo.get (i:=plat c (ordR ns.reverse).length r k) (plat_lt (by omega))
 obtain ⟨b1,b2⟩:=lo_small e4 w.1 w.2 g.wo.pos g.s162.1
 exact ⟨_,by rw [msOf_get (by rw [g.wo.len];exact kl),g.wo.len],a,x,y,rfl,e3,e4.pos,e4.eq,b1.mono (by decide),b2.mono (by decide)⟩
theorem PlG.nn:∀ m∈msOf ws c r,0≤m:=by
 intro m hm
 unfold msOf at hm
 obtain ⟨k,hk,rfl⟩:=List.mem_map.mp hm
 have kl:=List.mem_range.mp hk
 exact (g.wo.get (by rw [← g.wo.len];exact plat_lt (by omega))).1
theorem PlG.wt:∃ wt:List Nat→Int,∀ q∈ordR ns.reverse,(∃ v,valV kvs (tk q)=some v∧Wt H v ws.sum (wt q))∧0≤wt q∧wt q≤6:=by
 have ex:∀ q:List Nat,∃ m:Int,q∈ordR ns.reverse→(∃ v,valV kvs (tk q)=some v∧Wt H v ws.sum m)∧0≤m∧m≤6:=λ q=>by
  by_cases hq:q∈ordR ns.reverse
  ·obtain ⟨k,a,x,y,m,e1,e2,e3,e4,e5,e6⟩:=g.at_ hq
   obtain ⟨b1,b2⟩:=lo_small e3 e5 e6 g.wo.pos g.s162.1
   exact ⟨m,λ _=>⟨⟨.ref a,valV_at g.nodup k e1,a,x,y,rfl,e2,e3.pos,e3.eq,b1.mono (by decide),b2.mono (by decide)⟩,e5,e6⟩⟩
  ·exact ⟨0,λ h=>absurd h hq⟩
 exact ⟨λ q=>Classical.choose (ex q),λ q hq=>Classical.choose_spec (ex q) hq⟩
theorem PlG.good:goodP kvs (msOf ws c r) ws.sum (ordR ns.reverse):=by
 refine ⟨λ q hq=>?_,by rw [msOf_len,g.wo.len],g.nn,ms_sum⟩
 obtain ⟨k,a,x,y,m,e1,_⟩:=g.at_ hq
 rw [valV_at g.nodup k e1]
 rfl
theorem PlG.keyl {k:List Key} {v:V} {j:Nat} (e:kvs[j]?=some (k,v)):k.length=ns.length:=by
 have jl:j<(ordR ns.reverse).length:=by rw [← g.po.len];exact (List.getElem?_eq_some_iff.mp e).1
 obtain ⟨q,a,x,y,e1,e2,_⟩:=g.po.en j jl
 rw [e2] at e
 cases e
 have:=ordR_len_each _ q (List.mem_of_getElem? e1)
 rw [List.length_reverse] at this
 unfold tk
 rw [List.length_map,this]
theorem PlG.keyq {k:List Key} {v:V} {j:Nat} (e:kvs[j]?=some (k,v)):∃ q∈ordR ns.reverse,k=tk q:=by
 have jl:j<(ordR ns.reverse).length:=by rw [← g.po.len];exact (List.getElem?_eq_some_iff.mp e).1
 obtain ⟨q,a,x,y,e1,e2,_⟩:=g.po.en j jl
 rw [e2] at e
 cases e
 exact ⟨q,List.mem_of_getElem? e1,rfl⟩
end
theorem sum_set:∀ {ms:List Int} {j:Nat} {m v:Int},ms[j]?=some m→(ms.set j v).sum=ms.sum - m+v
 | a::ms,0,m,v,h=>by simp at h;subst h;simp;omega
 | a::ms,j+1,m,v,h=>by
  have:=sum_set (ms:=ms) (j:=j) (m:=m) (v:=v) (by simpa using h)
  rw [Ls1,List.sum_cons,List.sum_cons,this];omega
 | [],_,_,_,h=>by simp at h
theorem iK_inj:∀ {a b:List Int},iK a=iK b→a=b:=by
 intro a b h
 unfold iK at h
 exact (List.map_inj_right (λ x y e=>Sum.inl.inj e)).mp h
theorem put_get {kvs:List (List Key×V)} {k k':List Key} {u v:V} {j:Nat} (h:(valV kvs k).isSome=true) (e:kvs[j]?=some (k',v)) (hne:k'≠k):(putK kvs k u)[j]?=some (k',v):=by
 unfold putK
 rw [valV_any,if_pos h,List.getElem?_map,e]
 show some (if k'=k then (k',u) else (k',v))=_
 rw [if_neg hne]
theorem pos_mem {ms:List Int} (h0:∀ m∈ms,0≤m) (h:0<ms.sum):∃ m∈ms,0<m:=by
 refine Classical.byContradiction λ z=>?_
 have:=sum_le (m:=0) (ws:=ms) λ m hm=>⟨h0 m hm,Int.not_lt.mp λ y=>z ⟨m,hm,y⟩⟩
 omega
structure PlW (H:Hp) (p:Addr) (kvs:List (List Key×V)) (S:Int) (qs:List (List Nat)) (wt:List Nat→Int):Prop where
 at_:H p=some (.dT kvs)
 s0:0<S
 bS:BB 20 S
 w:∀ q∈qs,∃ v,valV kvs (tk q)=some v∧Wt H v S (wt q)
theorem PlW.same {H H':Hp} {p:Addr} {kvs:List (List Key×V)} {S:Int} {qs:List (List Nat)} {wt:List Nat→Int} (h:PlW H p kvs S qs wt) (s:Same H H'):PlW H' p kvs S qs wt:=⟨s _ _ h.at_,h.s0,h.bS,λ q hq=>let ⟨v,e,w⟩:=h.w q hq;⟨v,e,w.keep (keepT_same s)⟩⟩
noncomputable def gnB (wt:List Nat→Int) (un:List Nat→Nat→Int) (ns:List Nat) (b:List Nat):Bool:=decide (0<gn wt un (ordR (wo (b.getD 0 0) ns).reverse) (b.getD 0 0) (b.getD 1 0) (b.getD 2 0))
noncomputable def BrV (H:Hp) (v:V):Option (List Nat)→Prop
 | none=>v=.non
 | some b=>∃ a,v=.ref a∧b.length=3∧H a=some (.tup (tv b))
noncomputable def N_l_numbers:List PySem.Str:=["_law_script", "_law_many", "_law_found", "_law_k", "_law_cell", "_law_at"]
noncomputable def sp_l_numbers (K:W.Frag):Sp:=λ vs H Q _=>∃ a ns,∃ many:Nat,vs=[.ref a,.int many]∧SqL K H a (List.map V.int ns)∧ns.length≤63∧1≤many∧many≤1000∧∀ l hs H',Same H H'→H' l=some (.lst (List.map V.int hs))→hs.length=many→(∀ h∈hs,Nm h)→Q (.ref l) H'
noncomputable def iv_numbers (a l:Addr) (many:Nat) (H0:Hp):Nat→St→Hp→Prop:=λ _ σ H3=>∃ (o1 o2 o3:Option V) (hs:List Int),σ=[some (.ref a),some (.int many),some (.ref l),o1,o2,o3]∧Same H0 H3∧H3 l=some (.lst (List.map V.int hs))∧hs.length=many∧∀ h∈hs,Nm h
noncomputable def t_l_numbers_r1 (K:W.Frag):TS:=(tSeq (tAsg (tOp rModI (tVar 3) (tVar 1)) (gName 5)) (tAsg (tOp rModI (tOp rAddI (tOp rAddI (tOp rMulI (tOp (rIxL K) (tVar 2) (tVar 5)) (tC (.int 48271))) (tVar 4)) (tOp rMulI (tVar 3) (tVar 3))) (tOp rAddI (tOp rPowI (tC (.int 10)) (tC (.int 60))) (tC (.int 7)))) (gSub (tVar 2) (tVar 5) rSetL)))
noncomputable def t_l_numbers_b1 (K:W.Frag):TS:=(tSeq (tAsg (tC (.int 0)) (gName 4)) (tSeq (tIfS (tTest (tOp rGtI (tCB (cLen K) (tCons (tVar 0) tNil)) (tC (.int 0)))) (tAsg (tOp rMulI (tOp rModI (tOp (rIxL K) (tVar 0) (tOp rModI (tVar 3) (tCB cMin (tCons (tCB (cLen K) (tCons (tVar 0) tNil)) (tCons (tC (.int 63)) tNil))))) (tOp rAddI (tOp rPowI (tC (.int 10)) (tC (.int 60))) (tC (.int 7)))) (tOp rAddI (tC (.int 1)) (tOp rMulI (tOp rDivC (tVar 3) (tC (.int 63))) (tC (.int 2))))) (gName 4)) tNext) (t_l_numbers_r1 K)))
noncomputable def t_l_numbers_c1 (K:W.Frag):TE:=(tC (.int 0))
noncomputable def t_l_numbers (K:W.Frag):TS:=(tSeq (tAsg (tComp (iRng1 (tCons (tVar 1) tNil)) [] (t_l_numbers_c1 K)) (gName 2)) (tSeq (tFor (iRng1 (tCons (tCB cMax (tCons (tVar 1) (tCons (tCB cMin (tCons (tCB (cLen K) (tCons (tVar 0) tNil)) (tCons (tC (.int 63)) tNil))) tNil))) tNil)) (gName 3) (t_l_numbers_b1 K)) (tRet (tVar 2))))
theorem len_l_numbers {K vs H Q E} (h:sp_l_numbers K vs H Q E):vs.length=2:=by obtain ⟨a,ns,m,rfl,_⟩:=h;rfl
theorem nm_mod (c:Int):Nm (c % (10 ^ Int.toNat 60+7)):=by
 have w1:=Int.emod_nonneg c (show (10 ^ Int.toNat 60+7:Int)≠0 by decide)
 have w2:=Int.emod_lt_of_pos c (show (0:Int)<10 ^ Int.toNat 60+7 by decide)
 refine ⟨w1,?_⟩
 generalize c % (10 ^ Int.toNat 60+7)=w at w1 w2 ⊢
 have e60:(10 ^ Int.toNat 60:Int)=1000000000000000000000000000000000000000000000000000000000000:=by decide
 rw [e60] at w2
 unfold BB
 have:(2:Nat) ^ 210=1645504557321206042154969182557350504982735865633579863348609024:=by decide
 rw [this]
 omega
theorem rd_l_numbers {K vs H Q E} (h:sp_l_numbers K vs H Q E):t_l_numbers K { nx:=λ _ H'=>Q .non H',rt:=Q } (start N_l_numbers vs) H:=by
 obtain ⟨a,ns,many,rfl,hS,hn,m1,m2,q⟩:=h
 rw [show start N_l_numbers [V.ref a,V.int many]=[some (.ref a),some (.int many),none,none,none,none] from rfl]
 (dsimp! [t_l_numbers,tComp,tFor,iRng1,cMax,cMin,tSeq,tAsg,gName,tVar,tC,tRet,tCons,tNil,tCB,cLen])
 refine ⟨by omega,by omega,comp_range (lo:=0) (W:=WEq H λ i zs=>zs=List.map V.int (List.replicate i 0)) (by rw [sizeLine_eq];omega) ⟨rfl,rfl⟩ ?_ ?_⟩
 ·rintro i ys H3 _ _ ⟨rfl,rfl⟩
  dsimp only [t_l_numbers_c1,tC,exI_lit,exB_lit,exR_lit]
  exact ⟨rfl,by show _=List.map V.int (List.replicate (i+1) 0);rw [List.replicate_succ',List.map_append];rfl⟩
 ·rintro ys H3 _ ⟨rfl,rfl⟩ l hl
  rw [Int.toNat_natCast]
  have s1:=Same.upd (o:=HO.lst (List.map V.int (List.replicate many 0))) hl
  refine ⟨_,.inl (s1.seq hS),?_⟩
  rw [List.length_map]
  have hj:∃ j:Nat,(if (if 63<(ns.length:Int) then 63 else (ns.length:Int)) > many then (if 63<(ns.length:Int) then 63 else (ns.length:Int)) else (many:Int))=j∧j≤1063:=by
   refine ⟨(if (if 63<(ns.length:Int) then 63 else (ns.length:Int)) > many then (if 63<(ns.length:Int) then 63 else (ns.length:Int)) else (many:Int)).toNat,?_,?_⟩
   ·split <;> (try split) <;> omega
   ·split <;> (try split) <;> omega
  obtain ⟨j,ej,hj⟩:=hj
  rw [ej,Int.toNat_natCast]
  refine ⟨by omega,by omega,for_range (lo:=0) (n:=j) (g:=gName 3) (D:={ nx:=tRet (tVar 2) { nx:=λ _ H'=>Q .non H',rt:=Q },rt:=Q }) (iv_numbers a l many H3) ?_ ?_ ?_⟩
  ·exact ⟨none,none,none,List.replicate many 0,rfl,s1,upd_same,by rw [List.length_replicate],λ h hh=>by rw [List.eq_of_mem_replicate hh];exact ⟨by decide,by unfold BB;decide⟩⟩
  ·rintro i σ H4 hij ⟨o1,o2,o3,hs,rfl,s4,hl4,hlen,hb⟩
   have last:∀ c:Int,t_l_numbers_r1 K { nx:=iv_numbers a l many H3 (i+1),ct:=iv_numbers a l many H3 (i+1),bk:=tRet (tVar 2) { nx:=λ _ H'=>Q .non H',rt:=Q },rt:=Q } [some (.ref a),some (.int many),some (.ref l),some (.int (0+i)),some (.int c),o3] H4:=by
    intro c
    have hat:((0+(i:Int)) % (many:Int))=((i % many:Nat):Int):=by rw [Int.zero_add];push_cast;rfl
    have hik:i % many<many:=Nat.mod_lt _ (by omega)
    (dsimp! [t_l_numbers_r1,gSub,rSetL,tSeq,tAsg,gName,tVar,tC,tOp,rI0,rI,rAddI,rMulI,rModI,rPowI,rIxL])
    refine ⟨by omega,_,SqL.of hl4,_,atI_map (by rw [hat];omega) (by rw [hat,hlen];omega),_,rfl,.r (by unfold BB;decide),.r (by unfold BB;omega),⟨by decide,by decide,by decide⟩,by decide,_,hl4,_,(by rw [List.length_map,hlen];exact ixN_int (by rw [hat];omega) (by rw [hat];omega)),?_⟩
    rw [← List.map_set]
    refine ⟨_,_,_,_,rfl,s4.put hl,upd_same,by rw [List.length_set,hlen],λ h hh=>?_⟩
    rcases List.mem_or_eq_of_mem_set hh with hh | rfl
    ·exact hb h hh
    ·exact nm_mod _
   (try dsimp? [t_l_numbers_b1,cMin,rDivC];try simp_arith [t_l_numbers_b1,cMin,rDivC])
   refine ⟨_,.inl (s4.seq hS),ite2 (λ h0=>?_) (λ _=>last 0)⟩
   rw [List.length_map] at h0
   refine ⟨_,.inl (s4.seq hS),?_⟩
   rw [List.length_map]
   have hm:0<(if 63<(ns.length:Int) then 63 else (ns.length:Int))∧(if 63<(ns.length:Int) then 63 else (ns.length:Int))≤ns.length:=by split <;> omega
   generalize (if 63<(ns.length:Int) then 63 else (ns.length:Int))=m at hm
   have z1:=Int.emod_nonneg (0+(i:Int)) (show m≠0 by omega)
   have z2:=Int.emod_lt_of_pos (0+(i:Int)) hm.1
   exact ⟨hm.1,_,s4.seq hS,_,atI_map z1 (by omega),⟨by decide,by decide,by decide⟩,_,rfl,by decide,⟨by decide,by decide⟩,.r (by unfold BB;decide),.b (nm_mod _).2 (m:=210) (n:=40) (by unfold BB;omega),last _⟩
  ·rintro σ H4 ⟨o1,o2,o3,hs,rfl,s4,hl4,hlen,hb⟩
   (dsimp! [tVar,tRet])
   exact q l hs H4 s4 hl4 hlen hb
noncomputable def N_l_plays:List PySem.Str:=["_law_sizes", "_law_plays_here", "_law_many", "_law_longer", "_law_play"]
noncomputable def sp_l_plays (K:W.Frag):Sp:=λ vs H Q _=>∃ l ns,vs=[.ref l]∧H l=some (.lst (tv ns))∧Sz ns∧∀ p xs H',Same H H'→H p=none→H' p=some (.lst xs)→Ps H' xs (ordR ns.reverse)→Q (.ref p) H'
noncomputable def moreP (s:Nat) (b:List Nat):List (List Nat):=(List.range s).map λ c=>b++[c]
noncomputable def iv_l_plays (l:Addr) (H:Hp) (ns:List Nat):Nat→St→Hp→Prop:=λ i σ H3=>∃ t xs o1 o2 o3,σ=[some (.ref l),some (.ref t),o1,o2,o3]∧Same H H3∧H t=none∧H3 t=some (.lst xs)∧Ps H3 xs (ordR (ns.take i).reverse)
noncomputable def iv_l_plays2 (l t:Addr) (n:Nat) (H:Hp) (qs:List (List Nat)):Nat→St→Hp→Prop:=λ j σ H3=>∃ g ys o3,σ=[some (.ref l),some (.ref t),some (.int n),some (.ref g),o3]∧Same H H3∧H g=none∧H3 g=some (.lst ys)∧Ps H3 ys ((qs.take j).flatMap (moreP n))
noncomputable def t_l_plays_r1 (K:W.Frag):TS:=(tAsg (tVar 3) (gName 1))
noncomputable def t_l_plays_c1 (K:W.Frag):TE:=(tOp rCatA (tVar 1) (tTup (tCons (tVar 0) tNil)))
noncomputable def t_l_plays_b1 (K:W.Frag):TS:=(tAsg (tOp rCat (tVar 3) (tComp (iRng1 (tCons (tVar 2) tNil)) [4] (t_l_plays_c1 K))) (gName 3))
noncomputable def t_l_plays_b2 (K:W.Frag):TS:=(tSeq (tAsg (tLst tNil) (gName 3)) (tSeq (tFor (iList K (tVar 1)) (gName 4) (t_l_plays_b1 K)) (t_l_plays_r1 K)))
noncomputable def t_l_plays (K:W.Frag):TS:=(tSeq (tAsg (tLst (tCons (tTup tNil) tNil)) (gName 1)) (tSeq (tFor (iList K (tVar 0)) (gName 2) (t_l_plays_b2 K)) (tRet (tVar 1))))
theorem len_l_plays {K vs H Q E} (h:sp_l_plays K vs H Q E):vs.length=1:=by obtain ⟨l,ns,rfl,_⟩:=h;rfl
theorem moreP_len (s:Nat) (b:List Nat):(moreP s b).length=s:=by simp [moreP]
theorem moreP_flat (s:Nat):∀ qs:List (List Nat),(qs.flatMap (moreP s)).length=qs.length*s
 | []=>by simp
 | b::qs=>by rw [List.flatMap_cons,List.length_append,moreP_len,moreP_flat s qs,List.length_cons,Nat.succ_mul];omega
theorem rd_l_plays {K vs H Q E} (h:sp_l_plays K vs H Q E):t_l_plays K { nx:=λ _ H'=>Q .non H',rt:=Q } (start N_l_plays vs) H:=by
 obtain ⟨l,ns,rfl,hS,sz,q⟩:=h
 rw [show start N_l_plays [V.ref l]=[some (.ref l),none,none,none,none] from rfl]
 (try dsimp? [t_l_plays,tFor,iList];try simp_arith [t_l_plays,tFor,iList])
 refine ⟨sz0,λ a ha=>⟨sz1,λ t ht=>?_⟩⟩
 have s1:Same H (upd H a (.tup [])):=Same.upd ha
 have s2:Same (upd H a (.tup [])) (upd (upd H a (.tup [])) t (.lst [.ref a])):=Same.upd ht
 have s3:=s1.trans s2
 refine ⟨⟨_,SqL.of (s3 _ _ hS)⟩,for_list (K:=K) (a:=l) (xs:=tv ns) (g:=gName 2) (D:={ nx:=tRet (tVar 1) { nx:=λ _ H'=>Q .non H',rt:=Q },rt:=Q }) (iv_l_plays l H ns) ?_ ?_ ?_ ?_⟩
 ·exact ⟨t,_,none,none,none,rfl,s3,s1.free ht,upd_same,Ps.one (s2 _ _ upd_same)⟩
 ·rintro i σ H3 _ ⟨_,_,_,_,_,_,s4,_⟩
  exact SqL.of (s4 _ _ hS)
 ·rintro i x σ H3 hi ⟨t,xs,o1,o2,o3,rfl,s4,ht,hT,ps⟩
  obtain ⟨n,hn,rfl⟩:=tv_get hi
  have hin:i<ns.length:=(List.getElem?_eq_some_iff.mp hn).1
  have n6:=sz.le n (List.mem_of_getElem? hn)
  have hlen:=sz.len
  have hmax:(ordR (ns.take i).reverse).length≤36:=by
   rw [ordR_length _ (sz.take i).rev.ge]
   have h2:(ns.take i).reverse.length≤2:=?_
   ·exact Nat.le_trans (prodR_le _ (sz.take i).rev.le) (Nat.le_trans (Nat.pow_le_pow_right (by decide) h2) (by decide))
   rw [List.length_reverse,List.length_take];omega
  have el:xs.length=(ordR (ns.take i).reverse).length:=ps.1
  (try dsimp? [t_l_plays_b2,tFor,iList];try simp_arith [t_l_plays_b2,tFor,iList])
  refine ⟨sz0,λ g hg=>?_⟩
  have s5:Same H3 (upd H3 g (.lst [])):=Same.upd hg
  refine ⟨⟨_,SqL.of (s5 _ _ hT)⟩,for_list (K:=K) (a:=t) (xs:=xs) (g:=gName 4) (D:={ nx:=t_l_plays_r1 K _,rt:=Q }) (iv_l_plays2 l t n H3 (ordR (ns.take i).reverse)) ?_ ?_ ?_ ?_⟩
  ·exact ⟨g,[],_,rfl,s5,hg,upd_same,Ps.nil⟩
  ·rintro j σ H4 _ ⟨_,_,_,_,s6,_⟩
   exact SqL.of (s6 _ _ hT)
  ·rintro j x σ H4 hj ⟨g,ys,o4,rfl,s6,hg,hG,py⟩
   obtain ⟨b,a,hb,rfl,ha⟩:=(ps.same s6).get hj
   have hjl:j<(ordR (ns.take i).reverse).length:=(List.getElem?_eq_some_iff.mp hb).1
   have hy:ys.length=j*n:=by rw [py.1,moreP_flat,List.length_take];congr 1;omega
   (try dsimp? [t_l_plays_b1,tComp,iRng1,rCat];try simp_arith [t_l_plays_b1,tComp,iRng1,rCat])
   refine ⟨by omega,by omega,comp_range (lo:=0) (n:=n) (λ k zs H5=>Same H4 H5∧Ps H5 zs ((List.range k).map λ c=>b++[c])) (small (by omega)) ⟨Same.refl _,Ps.nil⟩ ?_ ?_⟩
   ·rintro k zs H5 hk _ ⟨s7,pz⟩
    (try dsimp? [caught,List.map_cons,List.map_nil,t_l_plays_c1,rCatA];try simp_arith [caught,List.map_cons,List.map_nil,t_l_plays_c1,rCatA,Int.zero_add])
    refine ⟨sz1,λ z hz=>?_⟩
    have s8:Same H5 (upd H5 z (.tup [.int k])):=Same.upd hz
    refine ⟨_,rfl,_,s8 _ _ (s7 _ _ ha),_,upd_same,?_,λ p H6 s9 hp=>⟨s7.trans (s8.trans s9),?_⟩⟩
    ·rw [tv_len]
     have:=ordR_len_each _ b (List.mem_of_getElem? hb)
     rw [List.length_reverse,List.length_take] at this
     exact small (by show _+1≤216;omega)
    ·rw [List.range_succ,List.map_append]
     exact (pz.same (s8.trans s9)).app (Ps.one (by rw [hp,tv_app];rfl))
   ·rintro zs H5 hz ⟨s7,pz⟩ p hp
    have s8:Same H5 (upd H5 p (.lst zs)):=Same.upd hp
    refine ⟨ys,s8 _ _ (s7 _ _ hG),zs,upd_same,?_,λ r hr=>?_⟩
    ·rw [hy,hz]
     have:j*n+n≤216:=by
      have h1:(j+1)*n≤36*6:=Nat.mul_le_mul (by omega) n6
      rw [Nat.succ_mul] at h1
      exact h1
     exact small this
    ·have s9:Same (upd H5 p (.lst zs)) (upd (upd H5 p (.lst zs)) r (.lst (ys++zs))):=Same.upd hr
     refine ⟨r,_,_,rfl,((s6.trans s7).trans s8).trans s9,((s6.trans s7).trans s8).free hr,upd_same,?_⟩
     rw [take_snoc hb,List.flatMap_append]
     refine Ps.app (((py.same s7).same s8).same s9) ?_
     rw [List.flatMap_cons,List.flatMap_nil,List.append_nil]
     exact (pz.same s8).same s9
  ·rintro σ H4 ⟨g,ys,o4,rfl,s6,hg,hG,py⟩
   (try dsimp? [t_l_plays_r1];try simp_arith [t_l_plays_r1])
   refine ⟨g,ys,_,_,_,rfl,s4.trans s6,s4.free hg,hG,?_⟩
   rw [el,List.take_length] at py
   rw [take_snoc hn,List.reverse_append]
   exact py
 ·rintro σ H3 ⟨t,xs,o1,o2,o3,rfl,s4,ht,hT,ps⟩
  (dsimp! [tVar,tC,tOp,rI0,rNe,scal_ii,tRet,tTest])
  rw [tv_len,List.take_length] at ps
  exact q t xs H3 s4 ht hT ps
noncomputable def N_l_divisor:List PySem.Str:=["_law_one", "_law_other"]
noncomputable def sp_l_divisor (_:W.Frag):Sp:=λ vs H Q _=>∃ a b,vs=[.int a,.int b]∧Q (.int (Int.gcd a b:Nat)) H
noncomputable def t_l_divisor_b1 (K:W.Frag):TS:=(tPar 0 1 (tCons (tVar 1) (tCons (tOp rModI (tVar 0) (tVar 1)) tNil)))
noncomputable def t_l_divisor (K:W.Frag):TS:=(tSeq (tAsg (tCB cAbs (tCons (tVar 0) tNil)) (gName 0)) (tSeq (tAsg (tCB cAbs (tCons (tVar 1) tNil)) (gName 1)) (tSeq (tWhile (tTest (tOp rGtI (tVar 1) (tC (.int 0)))) (t_l_divisor_b1 K)) (tRet (tVar 0)))))
theorem len_l_divisor {K vs H Q E} (h:sp_l_divisor K vs H Q E):vs.length=2:=by obtain ⟨a,b,rfl,_⟩:=h;rfl
theorem rd_l_divisor {K vs H Q E} (h:sp_l_divisor K vs H Q E):t_l_divisor K { nx:=λ _ H'=>Q .non H',rt:=Q } (start N_l_divisor vs) H:=by
 obtain ⟨a,b,rfl,k⟩:=h
 rw [show start N_l_divisor [V.int a,V.int b]=[some (.int a),some (.int b)] from rfl]
 (dsimp! [t_l_divisor,tSeq,tAsg,gName,tVar,rGtI,tCons,tNil,tCB,cAbs,abs_eq])
 refine while_by (λ σ H'=>H'=H∧∃ g s,σ=[some (.int g),some (.int s)]∧0≤g∧0≤s∧Int.gcd g s=Int.gcd a b) (λ σ _=>(intO (σ.getD 1 none)).toNat) ?_ ?_ ?_
 ·exact ⟨rfl,_,_,rfl,by omega,by omega,by simp [Int.gcd]⟩
 ·rintro σ H' ⟨rfl,g,s,rfl,hg,hs,e⟩
  (dsimp! [t_l_divisor_b1,tVar,tC,tOp,rI0,rI,rModI,tRet,tTest,tCons,tNil,tPar,decide_eq_true_eq])
  refine ite2 (λ hp=>?_) (λ hp=>?_)
  ·have h1:=Int.emod_nonneg g (b:=s) (by omega)
   have h2:=Int.emod_lt_of_pos g hp
   simp [hp,h1,hs]
   refine ⟨?_,?_⟩
   ·rw [← e,Int.gcd_comm g s,Int.emod_def,Int.gcd_sub_mul_left_right]
   ·show max (g % s) 0<s
    omega
  ·have h0:s=0:=by omega
   subst h0
   rw [← e,Int.gcd_zero_right] at k
   have:((g.natAbs:Nat):Int)=g:=by omega
   rw [this] at k
   exact k
 ·intro σ H' Q1 Q2 im h
  dsimp only [tTest,tOp,tC,rI0] at h ⊢
  first
  | (obtain ⟨v,hv,q⟩:=tVar_el h
     exact tVar_in hv (exI_mono q λ i q=>im _ _ q))
  | (obtain ⟨v,hv,i,j,hi,hj,b,hb,q⟩:=tVar_el h
     exact tVar_in hv ⟨i,j,hi,hj,b,hb,im _ _ q⟩)
noncomputable def N_l_earning:List PySem.Str:=["_law_number", "_law_way", "_law_top", "_law_bottom", "_law_most"]
noncomputable def sp_l_earning (_:W.Frag):Sp:=λ vs H Q _=>∃ n way,vs=[.int n,.int way]∧Nm n∧∀ p H',Same H H'→EnV 31 H' (.ref p)→Q (.ref p) H'
noncomputable def t_l_earning (K:W.Frag):TS:=(tSeq (tIfS (tTest (tOp rEq (tVar 1) (tC (.int 0)))) (tRet (tTup (tCons (tOp rSubI (tOp rModI (tOp rModI (tOp rMulI (tVar 0) (tC (.int 48271))) (tC (.int 1000003))) (tC (.int 3))) (tC (.int 1))) (tCons (tC (.int 1)) tNil)))) tNext) (tSeq (tIfS (tTest (tOp rEq (tVar 1) (tC (.int 1)))) (tRet (tTup (tCons (tOp rSubI (tOp rModI (tOp rModI (tOp rMulI (tVar 0) (tC (.int 69621))) (tC (.int 1000033))) (tC (.int 19))) (tC (.int 9))) (tCons (tC (.int 1)) tNil)))) tNext) (tSeq (tAsg (tOp rSubI (tOp rModI (tVar 0) (tOp rAddI (tOp rMulI (tC (.int 2)) (tOp rPowI (tC (.int 10)) (tC (.int 9)))) (tC (.int 1)))) (tOp rPowI (tC (.int 10)) (tC (.int 9)))) (gName 2)) (tSeq (tAsg (tOp rAddI (tC (.int 1)) (tOp rModI (tOp rModI (tOp rMulI (tVar 0) (tC (.int 16807))) (tC (.int 1000037))) (tC (.int 9)))) (gName 3)) (tSeq (tAsg (tCall (sp_l_divisor K) [] E0 (tCons (tVar 2) (tCons (tVar 3) tNil))) (gName 4)) (tRet (tTup (tCons (tOp rDivI (tVar 2) (tVar 4)) (tCons (tOp rDivI (tVar 3) (tVar 4)) tNil)))))))))
theorem len_l_earning {K vs H Q E} (h:sp_l_earning K vs H Q E):vs.length=2:=by obtain ⟨_,_,rfl,_⟩:=h;rfl
theorem bb_t9 (c:Int):BB 30 (c % (2*10 ^ Int.toNat 9+1) - 10 ^ Int.toNat 9):=by
 have e:(10 ^ Int.toNat 9:Int)=1000000000:=by decide
 rw [e]
 unfold BB
 omega
theorem rd_l_earning {K vs H Q E} (h:sp_l_earning K vs H Q E):t_l_earning K { nx:=λ _ H'=>Q .non H',rt:=Q } (start N_l_earning vs) H:=by
 obtain ⟨n,way,rfl,nm,q⟩:=h
 rw [show start N_l_earning [V.int n,V.int way]=[some (.int n),some (.int way),none,none,none] from rfl]
 have bn:=nm.2
 have b1:∀ k:Int,0≤k→k<1000000→BB 20 k:=λ k h0 h1=>by unfold BB;omega
 (try dsimp? [t_l_earning];try simp_arith [t_l_earning,sp_l_divisor])
 refine ite2 (λ _=>?_) (λ _=>ite2 (λ _=>?_) (λ _=>?_))
 ·refine ⟨.b bn (b1 _ (by decide) (by decide)),by decide,by decide,sz2,λ p hp=>q p _ (Same.upd hp) ⟨p,_,_,rfl,upd_same,by decide,by decide,?_⟩⟩
  generalize n*48271 % 1000003=m
  unfold BB;omega
 ·refine ⟨.b bn (b1 _ (by decide) (by decide)),by decide,by decide,sz2,λ p hp=>q p _ (Same.upd hp) ⟨p,_,_,rfl,upd_same,by decide,by decide,?_⟩⟩
  generalize n*69621 % 1000033=m
  unfold BB;omega
 ·refine ⟨⟨by decide,by decide,by decide⟩,.b (m:=2) (n:=40) (by unfold BB;decide) (by unfold BB;decide),by decide,⟨by decide,by decide,by decide⟩,.b bn (b1 _ (by decide) (by decide)),by decide,by decide,?_⟩
  have bt:=bb_t9 n
  generalize n % (2*10 ^ Int.toNat 9+1) - 10 ^ Int.toNat 9=t at bt
  generalize n*16807 % 1000037=m
  have m1:0<1+m % 9:=by omega
  have m9:1+m % 9≤9:=by omega
  generalize 1+m % 9=b at m1 m9
  have g0:0<Int.gcd t b:=Int.gcd_pos_of_ne_zero_right _ (by omega)
  have bb:BB 20 b:=b1 b (by omega) (by omega)
  have bg:=bb.gcd (i:=t) (by omega)
  refine ⟨⟨by omega,bg.mono (by decide)⟩,⟨by omega,bg.mono (by decide)⟩,sz2,λ p hp=>q p _ (Same.upd hp) ?_⟩
  have lo:=lo_pos (t:=t) (b:=b) (by omega)
  have l2:=lo.by_
  exact ⟨p,_,_,rfl,upd_same,lo.pos,by have:=lo.pos;omega,(bt.of_le lo.bx).mono (by decide)⟩
noncomputable def N_l_put:List PySem.Str:=["_law_play", "_law_hand", "_law_choice"]
noncomputable def sp_l_put (_:W.Frag):Sp:=λ vs H Q _=>∃ a zs h c,vs=[.ref a,.int (h:Nat),.int c]∧H a=some (.tup (List.map V.int zs))∧h<zs.length∧zs.length≤100∧∀ p H',Same H H'→H' p=some (.tup (List.map V.int (zs.set h c)))→Q (.ref p) H'
noncomputable def t_l_put (K:W.Frag):TS:=(tRet (tOp rCatA (tOp rCatA (tSl rSlA (tVar 0) tNoPart (tPart (tVar 1))) (tTup (tCons (tVar 2) tNil))) (tSl rSlA (tVar 0) (tPart (tOp rAddI (tVar 1) (tC (.int 1)))) tNoPart)))
theorem len_l_put {K vs H Q E} (h:sp_l_put K vs H Q E):vs.length=3:=by obtain ⟨_,_,_,_,rfl,_⟩:=h;rfl
theorem rd_l_put {K vs H Q E} (h:sp_l_put K vs H Q E):t_l_put K { nx:=λ _ H'=>Q .non H',rt:=Q } (start N_l_put vs) H:=by
 obtain ⟨a,zs,h,c,rfl,ha,hl,h100,q⟩:=h
 rw [show start N_l_put [V.ref a,V.int h,V.int c]=[some (.ref a),some (.int h),some (.int c)] from rfl]
 (try dsimp? [t_l_put,rCatA,rSlA];try simp_arith [t_l_put,rCatA,rSlA])
 have e0:=cut_len (List.map V.int zs) none (some (h:Int))
 have e9:=cut_len (List.map V.int zs) (some ((h:Int)+1)) none
 rw [List.length_map] at e0 e9
 refine ⟨_,ha,λ p1 H1 s1 h1=>⟨sz1,λ p2 hp2=>?_⟩⟩
 have s2:Same H1 (upd H1 p2 (.tup [.int c])):=Same.upd hp2
 refine ⟨_,s2 _ _ h1,_,upd_same,small (by show _+1≤216;omega),λ p3 H3 s3 h3=>?_⟩
 refine ⟨_,s3 _ _ (s2 _ _ (s1 _ _ ha)),λ p4 H4 s4 h4=>?_⟩
 refine ⟨_,s4 _ _ h3,_,h4,small (by rw [List.length_append];show _+1+_≤216;omega),λ p5 H5 s5 h5=>q p5 H5 (s1.trans (s2.trans (s3.trans (s4.trans s5)))) ?_⟩
 rw [h5,cut_to,show ((h:Int)+1)=((h+1:Nat):Int) by omega,cut_from,List.set_eq_take_append_cons_drop,if_pos hl,List.map_append,List.map_cons,List.map_take,List.map_drop,List.append_assoc]
 rfl
noncomputable def N_l_table:List PySem.Str:=["_law_head", "_law_sizes", "_law_plays_here", "_law_cells", "_law_k", "_law_play", "_law_hand", "_law_top", "_law_bottom"]
structure TbO (H:Hp) (s l c:Addr) (ns:List Nat) (xs:List V) (kvs:List (List Key×V)) (cont:List Nat→List V):Prop where
 hs:H s=some (.lst (tv ns))
 sh:ShT ns
 hl:H l=some (.lst xs)
 ps:Ps H xs (ordR ns.reverse)
 hc:H c=some (.dT kvs)
 cel:∀ q∈ordR ns.reverse,Cells H kvs cont q
 len:kvs.length=(ordR ns.reverse).length
 en:∀ q∈ordR ns.reverse,EnA 40 H (cont q) ns.length
noncomputable def sp_l_table (K:W.Frag):Sp:=λ vs H Q _=>∃ a hs,vs=[.ref a]∧H a=some (.lst (List.map V.int hs))∧hs.length=116∧(∀ h∈hs,Nm h)∧∀ r s l c ns xs kvs cont H',Same H H'→H' r=some (.tup [.ref s,.ref l,.ref c])→TbO H' s l c ns xs kvs cont→Q (.ref r) H'
noncomputable def iv_l_table1 (a s l c:Addr) (H0:Hp) (ns:List Nat):Nat→St→Hp→Prop:=λ i σ H=>∃ kvs ad cont o1,σ=[some (.ref a),some (.ref s),some (.ref l),some (.ref c),o1,none,none,none,none]∧Same H0 H∧DK H0 H c kvs ((ordR ns.reverse).take i) ad cont (λ _=>31) ns.length∧kvs.length=i∧∀ q,q∉(ordR ns.reverse).take i→valV kvs (tk q)=none
noncomputable def iv_l_table2 (a s l c:Addr) (o1:Option V) (H0:Hp) (ns:List Nat):Nat→St→Hp→Prop:=λ _ σ H=>∃ kvs ad cont o2,σ=[some (.ref a),some (.ref s),some (.ref l),some (.ref c),o1,o2,none,none,none]∧Same H0 H∧DK H0 H c kvs (ordR ns.reverse) ad cont (λ _=>31) ns.length∧kvs.length=(ordR ns.reverse).length
noncomputable def iv_l_table3 (a s l c:Addr) (o1:Option V) (hd:Nat) (H0:Hp) (ns:List Nat):Nat→St→Hp→Prop:=λ i σ H=>∃ kvs ad cont B o2 o3 o4,σ=[some (.ref a),some (.ref s),some (.ref l),some (.ref c),o1,o2,some (.int hd),o3,o4]∧Same H0 H∧DK H0 H c kvs (ordR ns.reverse) ad cont B ns.length∧kvs.length=(ordR ns.reverse).length∧(∀ q,B q≤40)∧∀ j q,i≤j→(ordR ns.reverse)[j]?=some q→B q=31
noncomputable def t_l_table_r1 (K:W.Frag):TS:=(tRet (tTup (tCons (tVar 1) (tCons (tVar 2) (tCons (tVar 3) tNil)))))
noncomputable def t_l_table_b1 (K:W.Frag):TS:=(tIfS (tTest (tOp rEq (tOp (rIxT K) (tVar 5) (tVar 6)) (tOp rModI (tOp rDivC (tOp (rIxL K) (tVar 0) (tC (.int 6))) (tC (.int 3))) (tOp (rIxL K) (tVar 1) (tVar 6))))) (tSeq (tAsg (tOp (rIxL K) (tDGet (tVar 3) (tVar 5)) (tVar 6)) (gTup K 2 (gCons (gName 7) (gCons (gName 8) gNil)))) (tAsg (tTup (tCons (tOp rAddI (tVar 7) (tVar 8)) (tCons (tVar 8) tNil))) (gSub (tDGet (tVar 3) (tVar 5)) (tVar 6) rSetL))) tNext)
noncomputable def t_l_table_r2 (K:W.Frag):TS:=(tIfS (tTest (tOp rEq (tOp rModI (tOp rDivC (tOp (rIxL K) (tVar 0) (tC (.int 5))) (tC (.int 3))) (tC (.int 2))) (tC (.int 1)))) (tSeq (tAsg (tOp rModI (tOp (rIxL K) (tVar 0) (tC (.int 6))) (tCB (cLen K) (tCons (tVar 1) tNil))) (gName 6)) (tFor (iList K (tVar 2)) (gName 5) (t_l_table_b1 K))) tNext)
noncomputable def t_l_table_c1 (K:W.Frag):TE:=(tOp (rIxL K) (tDGet (tVar 1) (tCall (sp_l_put K) [] E0 (tCons (tVar 2) (tCons (tVar 0) (tCons (tC (.int 0)) tNil))))) (tVar 0))
noncomputable def t_l_table_b2 (K:W.Frag):TS:=(sDPut (tVar 3) (tVar 5) (tComp (iRng1 (tCons (tCB (cLen K) (tCons (tVar 1) tNil)) tNil)) [3,5] (t_l_table_c1 K)))
noncomputable def t_l_table_r3 (K:W.Frag):TS:=(tSeq (tIfS (tTest (tOp rEq (tOp rModI (tOp (rIxL K) (tVar 0) (tC (.int 5))) (tC (.int 3))) (tC (.int 1)))) (tSeq (tFor (iList K (tVar 2)) (gName 5) (t_l_table_b2 K)) (t_l_table_r2 K)) tNext) (t_l_table_r1 K))
noncomputable def t_l_table_c2 (K:W.Frag):TE:=(tCall (sp_l_earning K) [] E0 (tCons (tOp (rIxL K) (tVar 1) (tOp rAddI (tOp rAddI (tC (.int 8)) (tOp rMulI (tC (.int 3)) (tVar 2))) (tVar 0))) (tCons (tOp rModI (tOp (rIxL K) (tVar 1) (tC (.int 4))) (tC (.int 3))) tNil)))
noncomputable def t_l_table_b3 (K:W.Frag):TS:=(sDPut (tVar 3) (tOp (rIxL K) (tVar 2) (tVar 4)) (tComp (iRng1 (tCons (tCB (cLen K) (tCons (tVar 1) tNil)) tNil)) [0,4] (t_l_table_c2 K)))
noncomputable def t_l_table_r4 (K:W.Frag):TS:=(tSeq (tFor (iRng1 (tCons (tCB (cLen K) (tCons (tVar 2) tNil)) tNil)) (gName 4) (t_l_table_b3 K)) (t_l_table_r3 K))
noncomputable def t_l_table_r5 (K:W.Frag):TS:=(tSeq (tAsg tDNewT (gName 3)) (t_l_table_r4 K))
noncomputable def t_l_table_r6 (K:W.Frag):TS:=(tSeq (tAsg (tCall (sp_l_plays K) [] E0 (tCons (tVar 1) tNil)) (gName 2)) (t_l_table_r5 K))
noncomputable def t_l_table (K:W.Frag):TS:=(tSeq (tAsg (tLst (tCons (tOp rAddI (tC (.int 1)) (tOp rModI (tOp (rIxL K) (tVar 0) (tC (.int 1))) (tC (.int 4)))) (tCons (tOp rAddI (tC (.int 1)) (tOp rModI (tOp (rIxL K) (tVar 0) (tC (.int 2))) (tC (.int 4)))) tNil))) (gName 1)) (tSeq (tIfS (tTest (tOp rEq (tOp rModI (tOp (rIxL K) (tVar 0) (tC (.int 0))) (tC (.int 2))) (tC (.int 1)))) (tAsg (tLst (tCons (tOp rAddI (tC (.int 1)) (tOp rModI (tOp (rIxL K) (tVar 0) (tC (.int 1))) (tC (.int 3)))) (tCons (tOp rAddI (tC (.int 1)) (tOp rModI (tOp (rIxL K) (tVar 0) (tC (.int 2))) (tC (.int 3)))) (tCons (tOp rAddI (tC (.int 1)) (tOp rModI (tOp (rIxL K) (tVar 0) (tC (.int 3))) (tC (.int 3)))) tNil)))) (gName 1)) tNext) (t_l_table_r6 K)))
theorem len_l_table {K vs H Q E} (h:sp_l_table K vs H Q E):vs.length=1:=by obtain ⟨_,_,rfl,_⟩:=h;rfl
theorem tb_r1 {K:W.Frag} {a s l c:Addr} {o1 o2 o3 o4 o5:Option V} {H0 H:Hp} {ns:List Nat} {xs:List V} {kvs:List (List Key×V)} {ad:List Nat→Addr} {cont:List Nat→List V} {B:List Nat→Nat} {D:Ends} (hB:∀ q,B q≤40) (hs:H0 s=some (.lst (tv ns))) (sh:ShT ns) (hl:H0 l=some (.lst xs)) (ps:Ps H0 xs (ordR ns.reverse)) (s3:Same H0 H) (dk:DK H0 H c kvs (ordR ns.reverse) ad cont B ns.length) (len:kvs.length=(ordR ns.reverse).length)
  (k:∀ r cont H',Same H0 H'→H' r=some (.tup [.ref s,.ref l,.ref c])→TbO H' s l c ns xs kvs cont→D.rt (.ref r) H'):t_l_table_r1 K D [some (.ref a),some (.ref s),some (.ref l),some (.ref c),o1,o2,o3,o4,o5] H:=by
 (try dsimp? [t_l_table_r1];try simp_arith [t_l_table_r1])
 refine ⟨sz3,λ r hr=>?_⟩
 have s4:Same H (upd H r (.tup [.ref s,.ref l,.ref c])):=Same.upd hr
 have s5:=s3.trans s4
 have d5:=dk.same s4
 exact k r cont _ s5 upd_same ⟨s5 _ _ hs,sh,s5 _ _ hl,ps.same s5,d5.at_,λ q hq=>⟨ad q,(d5.v q hq).1,(d5.v q hq).2.1⟩,len,λ q hq=>((d5.v q hq).2.2.2).mono (hB q)⟩
theorem ordR_zero {ns q:List Nat} {h:Nat} (sz:Sz ns) (hq:q∈ordR ns.reverse) (hh:h<ns.length):q.set h 0∈ordR ns.reverse:=ordR_set hq (List.getElem?_eq_getElem hh) (by have:=sz.ge ns[h] (List.getElem_mem hh);omega)
theorem tb_r3 {K:W.Frag} {a s l c:Addr} {o1:Option V} {H0 H:Hp} {hs:List Int} {ns:List Nat} {xs:List V} {kvs:List (List Key×V)} {ad:List Nat→Addr} {cont:List Nat→List V} {D:Ends} (ha:H0 a=some (.lst (List.map V.int hs))) (hh:hs.length=116) (nm:∀ h∈hs,Nm h) (hs0:H0 s=some (.lst (tv ns))) (sh:ShT ns) (hl:H0 l=some (.lst xs)) (ps:Ps H0 xs (ordR ns.reverse)) (hc0:H0 c=none) (s3:Same H0 H) (dk:DK H0 H c kvs (ordR ns.reverse) ad cont (λ _=>31) ns.length) (len:kvs.length=(ordR ns.reverse).length)
  (k:∀ r kvs cont H',Same H0 H'→H' r=some (.tup [.ref s,.ref l,.ref c])→TbO H' s l c ns xs kvs cont→D.rt (.ref r) H'):t_l_table_r3 K D [some (.ref a),some (.ref s),some (.ref l),some (.ref c),o1,none,none,none,none] H:=by
 have n3:=sh.sz.len
 have l2:=sh.l2
 (try dsimp? [t_l_table_r3,tFor,iList];try simp_arith [t_l_table_r3,tFor,iList])
 refine ⟨_,SqL.of (s3 _ _ ha),_,ints_atD (i:=5) (by omega),_,rfl,by decide,ite2 (λ _=>?_) (λ _=>tb_r1 (λ _=>by decide) hs0 sh hl ps s3 dk len λ r cont H'=>k r kvs cont H')⟩
 refine ⟨⟨_,SqL.of (s3 _ _ hl)⟩,for_list (K:=K) (a:=l) (xs:=xs) (g:=gName 5) (D:={ D with nx:=t_l_table_r2 K { D with nx:=t_l_table_r1 K D } }) (iv_l_table2 a s l c o1 H0 ns) ⟨kvs,ad,cont,none,rfl,s3,dk,len⟩ ?_ ?_ ?_⟩
 ·rintro i σ H3 _ ⟨_,_,_,_,_,s4,_⟩
  exact SqL.of (s4 _ _ hl)
 ·rintro i x' σ H3 hi ⟨kvs,ad,cont,o2,rfl,s4,dk,len⟩
  obtain ⟨b,pa,hb,rfl,hpa⟩:=(ps.same s4).get hi
  have bm:=List.mem_of_getElem? hb
  have bl:b.length=ns.length:=by rw [ordR_len_each _ b bm,List.length_reverse]
  (try dsimp? [t_l_table_b2,sDPut,tComp,iRng1];try simp_arith [t_l_table_b2,sDPut,tComp,iRng1])
  refine ⟨_,.inl (SqL.of (s4 _ _ hs0)),?_⟩
  rw [tv_len]
  refine ⟨by omega,by omega,comp_range (lo:=0) (n:=ns.length) (λ j zs H5=>Same H3 H5∧zs.length=j∧∀ v∈zs,EnV 31 H3 v) (small (by omega)) ⟨Same.refl _,rfl,λ v hv=>by cases hv⟩ ?_ ?_⟩
  ·rintro j zs H5 hj _ ⟨s5,zl,ze⟩
   have qz:=ordR_zero sh.sz bm hj
   obtain ⟨v1,v2,v3,v4⟩:=dk.v _ qz
   obtain ⟨w,ew,enw⟩:=v4.get hj
   show t_l_table_c1 K [some (.int (0+(j:Int))),some (.ref c),some (.ref pa)] H5 _
   (try dsimp? [t_l_table_c1,tDGet];try simp_arith [Int.zero_add,t_l_table_c1,tDGet])
   refine ⟨pa,b.map (λ n:Nat=>(n:Int)),j,0,rfl,by rw [← tv_ints];exact s5 _ _ hpa,by rw [List.length_map];omega,by rw [List.length_map];omega,λ p4 H6 s6 h6=>?_⟩
   have h6':H6 p4=some (.tup (tv (b.set j 0))):=by rw [h6,tv_ints,List.map_set,List.map_set,List.map_set];rfl
   refine ⟨_,by rw [← v1];exact DGet.t (s6 _ _ (s5 _ _ dk.at_)) (by rw [tv_tk];exact h6'),_,rfl,_,SqL.of (s6 _ _ (s5 _ _ v2)),w,atI_nat ew,s5.trans s6,by rw [List.length_append,zl];rfl,λ u hu=>?_⟩
   rcases List.mem_append.mp hu with z | z
   ·exact ze u z
   ·rw [List.mem_singleton.mp z];exact enw
  ·rintro zs H5 _ ⟨s5,zl,ze⟩ p hp
   have s6:Same H5 (upd H5 p (.lst zs)):=Same.upd hp
   have s56:=s5.trans s6
   have h3p:=s5.free hp
   have vb:=(dk.v b bm).1
   refine ⟨_,DPut.t (s56 _ _ dk.at_) (by rw [tv_tk];exact s56 _ _ hpa) (by rw [len,sizeLine_eq];have:=sh.many;omega),?_⟩
   exact ⟨_,_,_,_,rfl,(s4.trans s56).put hc0,dk.put (q0:=b) (qs':=ordR ns.reverse) s56 upd_same h3p (s4.free h3p) ⟨zl,λ v hv=>(ze v hv).keep (keepT_same s56)⟩ (λ q hq=>.inr hq),by rw [putK_len (by rw [vb];rfl)];exact len⟩
 ·rintro σ H3 ⟨kvs,ad,cont,o2,rfl,s4,dk,len⟩
  (try dsimp? [t_l_table_r2,tFor,iList];try simp_arith [t_l_table_r2,tFor,iList])
  refine ⟨_,SqL.of (s4 _ _ ha),_,ints_atD (i:=5) (by omega),_,rfl,⟨by decide,by decide⟩,by decide,ite2 (λ _=>?_) (λ _=>tb_r1 (λ _=>by decide) hs0 sh hl ps s4 dk len λ r cont H'=>k r kvs cont H')⟩
  refine ⟨_,SqL.of (s4 _ _ ha),_,ints_atD (i:=6) (by omega),_,.inl (SqL.of (s4 _ _ hs0)),_,rfl,?_⟩
  rw [tv_len]
  obtain ⟨hd,ehd,hdl⟩:∃ m:Nat,hs.getD 6 0 % (ns.length:Int)=(m:Int)∧m<ns.length:=by
   have h1:=Int.emod_nonneg (hs.getD 6 0) (show (ns.length:Int)≠0 by omega)
   have h2:=Int.emod_lt_of_pos (hs.getD 6 0) (show (0:Int)<ns.length by omega)
   exact ⟨(hs.getD 6 0 % (ns.length:Int)).toNat,by omega,by omega⟩
  rw [ehd]
  have hdn:ns[hd]?=some ns[hd]:=List.getElem?_eq_getElem hdl
  have hd1:=sh.sz.ge ns[hd] (List.getElem_mem hdl)
  generalize ns[hd]=nd at hdn hd1
  refine ⟨by omega,⟨_,SqL.of (s4 _ _ hl)⟩,for_list (K:=K) (a:=l) (xs:=xs) (g:=gName 5) (D:={ D with nx:=t_l_table_r1 K D }) (iv_l_table3 a s l c o1 hd H0 ns) ⟨kvs,ad,cont,_,_,none,none,rfl,s4,dk,len,λ _=>by decide,λ _ _ _ _=>rfl⟩ ?_ ?_ ?_⟩
  ·rintro i σ H4 _ ⟨_,_,_,_,_,_,_,_,s5,_⟩
   exact SqL.of (s5 _ _ hl)
  ·rintro i x' σ H4 hi ⟨kvs,ad,cont,B,o2,o3,o4,rfl,s5,dk,len,hB,hi1⟩
   obtain ⟨b,pa,hb,rfl,hpa⟩:=(ps.same s5).get hi
   have bm:=List.mem_of_getElem? hb
   have bl:b.length=ns.length:=by rw [ordR_len_each _ b bm,List.length_reverse]
   have hbh:b[hd]?=some b[hd]:=List.getElem?_eq_getElem (by omega)
   obtain ⟨v1,v2,v3,v4⟩:=dk.v b bm
   rw [hi1 i b (Nat.le_refl _) hb] at v4
   obtain ⟨w,ew,wa,x,y,rfl,hwa,y0,y9,bx⟩:=v4.get hdl
   (try dsimp? [t_l_table_b1,tDGet,gSub,rSetL];try simp_arith [t_l_table_b1,tDGet,gSub,rSetL])
   refine ⟨_,SqT.of hpa,_,atI_nat (tv_at hbh),_,SqL.of (s5 _ _ ha),_,ints_atD (i:=6) (by omega),_,rfl,⟨by decide,by decide⟩,_,SqL.of (s5 _ _ hs0),_,atI_nat (tv_at hdn),_,rfl,by omega,rfl,ite2 (λ _=>?_) (λ _=>⟨kvs,ad,cont,B,_,_,_,rfl,s5,dk,len,hB,λ j q hj=>hi1 j q (by omega)⟩)⟩
   have dg:∀ {H5:Hp},Same H4 H5→DGet H5 c (.ref pa) (some (.ref (ad b))):=λ s=>by rw [← v1];exact DGet.t (s _ _ dk.at_) (by rw [tv_tk];exact s _ _ hpa)
   refine ⟨_,dg (Same.refl _),_,rfl,_,SqL.of v2,_,atI_nat ew,wa,rfl,_,SqT.of hwa,rfl,_,_,rfl,_,_,rfl,rfl,_,rfl,_,rfl,sz2,λ z hz=>?_⟩
   have s6:Same H4 (upd H4 z (.tup [.int (x+y),.int y])):=Same.upd hz
   have by4:BB 4 y:=by unfold BB;omega
   refine ⟨_,dg s6,_,rfl,_,s6 _ _ v2,hd,ixN_at (by rw [v4.1];exact hdl),kvs,ad,_,_,_,_,_,rfl,(s5.trans s6).put v3,(dk.same s6).mut bm (((v4.mono (show 31≤40 by decide)).keep (keepT_same s6)).set ⟨z,x+y,y,rfl,upd_same,y0,y9,(bx.add (by4.mono (by decide))).mono (by decide)⟩),len,λ q=>?_,λ j q hj hq=>?_⟩
   ·show (if q=b then 40 else B q)≤40
    split
    ·exact Nat.le_refl _
    ·exact hB q
   ·show (if q=b then 40 else B q)=31
    rw [if_neg (λ e=>?_)]
    ·exact hi1 j q (by omega) hq
    ·subst e
     have:=(List.getElem?_inj (List.getElem?_eq_some_iff.mp hb).1 (ordR_nodup ns.reverse)).mp (hb.trans hq.symm)
     omega
  ·rintro σ H4 ⟨kvs,ad,cont,B,o2,o3,o4,rfl,s5,dk,len,hB,_⟩
   dsimp only
   exact tb_r1 hB hs0 sh hl ps s5 dk len λ r cont H'=>k r kvs cont H'
theorem tb_r6 {K:W.Frag} {a s:Addr} {H0:Hp} {hs:List Int} {ns:List Nat} {D:Ends} (ha:H0 a=some (.lst (List.map V.int hs))) (hh:hs.length=116) (nm:∀ h∈hs,Nm h) (hs0:H0 s=some (.lst (tv ns))) (sh:ShT ns)
  (k:∀ r l c xs kvs cont H',Same H0 H'→H' r=some (.tup [.ref s,.ref l,.ref c])→TbO H' s l c ns xs kvs cont→D.rt (.ref r) H'):t_l_table_r6 K D [some (.ref a),some (.ref s),none,none,none,none,none,none,none] H0:=by
 have n3:=sh.sz.len
 (try dsimp? [t_l_table_r6,t_l_table_r5,tDNewT];try simp_arith [t_l_table_r6,t_l_table_r5,tDNewT])
 refine ⟨s,ns,rfl,hs0,sh.sz,λ l xs H1 s1 hl0 hl ps c hc=>?_⟩
 have s2:Same H1 (upd H1 c (.dT [])):=Same.upd hc
 have s02:=s1.trans s2
 (try dsimp? [t_l_table_r4,tFor,iRng1];try simp_arith [t_l_table_r4,tFor,iRng1])
 refine ⟨_,.inl (SqL.of (s2 _ _ hl)),?_⟩
 have many:=sh.many
 rw [ps.1]
 refine ⟨by omega,by omega,for_range (lo:=0) (n:=(ordR ns.reverse).length) (g:=gName 4) (D:={ D with nx:=t_l_table_r3 K D }) (iv_l_table1 a s l c H1 ns) ?_ ?_ ?_⟩
 ·exact ⟨[],λ _=>0,λ _=>[],none,rfl,s2,⟨upd_same,λ q hq=>by simp at hq,λ q hq=>by simp at hq⟩,rfl,λ q _=>rfl⟩
 ·rintro i σ H3 hi ⟨kvs,ad,cont,o1,rfl,s4,dk,len,new⟩
  have hb:(ordR ns.reverse)[i]?=some (ordR ns.reverse)[i]:=List.getElem?_eq_getElem hi
  generalize (ordR ns.reverse)[i]=b at hb
  obtain ⟨ab,eb,hab⟩:=(ps.same s4).2 i b hb
  have s14:=s1.trans s4
  (try dsimp? [t_l_table_b3,sDPut,tComp,iRng1];try simp_arith [t_l_table_b3,sDPut,tComp,iRng1,Int.zero_add])
  refine ⟨_,.inl (SqL.of (s14 _ _ hs0)),?_⟩
  rw [tv_len]
  refine ⟨by omega,by omega,comp_range (lo:=0) (n:=ns.length) (λ j zs H5=>Same H3 H5∧zs.length=j∧∀ v∈zs,EnV 31 H5 v) (small (by omega)) ⟨Same.refl _,rfl,λ v hv=>by cases hv⟩ ?_ ?_⟩
  ·rintro j zs H5 hj _ ⟨s5,zl,ze⟩
   have hix:atI (List.map V.int hs) (8+3*(i:Int)+(j:Int))=some (.int (hs.getD (8+3*i+j) 0)):=by rw [show (8+3*(i:Int)+(j:Int))=((8+3*i+j:Nat):Int) by omega];exact ints_atD (by omega)
   show t_l_table_c2 K [some (.int (0+(j:Int))),some (.ref a),some (.int (i:Int))] H5 _
   (try dsimp? [t_l_table_c2];try simp_arith [Int.zero_add,t_l_table_c2])
   have h5a:=(s14.trans s5) _ _ ha
   refine ⟨.b (m:=2) (n:=40) (by unfold BB;decide) (by unfold BB;omega),_,SqL.of h5a,_,hix,_,SqL.of h5a,_,ints_atD (i:=4) (by omega),_,rfl,by decide,_,_,rfl,nm_at nm (by omega),λ p H6 s6 en=>⟨s5.trans s6,by rw [List.length_append,zl];rfl,λ u hu=>?_⟩⟩
   rcases List.mem_append.mp hu with z | z
   ·exact (ze u z).keep (keepT_same s6)
   ·rw [List.mem_singleton.mp z];exact en
  ·rintro zs H5 _ ⟨s5,zl,ze⟩ p hp
   have s6:Same H5 (upd H5 p (.lst zs)):=Same.upd hp
   have s56:=s5.trans s6
   have h3p:=s5.free hp
   have vb:valV kvs (tk b)=none:=new b λ hm=>by
    obtain ⟨j,hj⟩:=List.getElem?_of_mem hm
    have hjl:j<i:=by
     have:=(List.getElem?_eq_some_iff.mp hj).1
     rw [List.length_take] at this
     omega
    rw [List.getElem?_take,if_pos hjl] at hj
    have:=(List.getElem?_inj (List.getElem?_eq_some_iff.mp hj).1 (ordR_nodup ns.reverse)).mp (hj.trans hb.symm)
    omega
   refine ⟨_,SqL.of (s56 _ _ (s4 _ _ hl)),_,atI_nat eb,_,DPut.t (s56 _ _ dk.at_) (by rw [tv_tk];exact s56 _ _ hab) (by rw [len,sizeLine_eq];omega),?_⟩
   refine ⟨_,_,_,_,rfl,(s4.trans s56).put hc,dk.put (q0:=b) (qs':=(ordR ns.reverse).take (i+1)) s56 upd_same h3p (s4.free h3p) ⟨zl,λ v hv=>(ze v hv).keep (keepT_same s6)⟩ (λ q hq=>?_),by rw [putK_new _ vb,List.length_append,len];rfl,λ q hq=>?_⟩
   ·rw [take_snoc hb] at hq
    rcases List.mem_append.mp hq with z | z
    ·exact .inr z
    ·exact .inl (List.mem_singleton.mp z)
   ·rw [take_snoc hb] at hq
    rw [valV_put,if_neg (λ z=>hq (List.mem_append.mpr (.inr (List.mem_singleton.mpr (tk_inj z)))))]
    exact new q λ z=>hq (List.mem_append.mpr (.inl z))
 ·rintro σ H3 ⟨kvs,ad,cont,o1,rfl,s4,dk,len,new⟩
  rw [List.take_length] at dk
  exact tb_r3 (s1 _ _ ha) hh nm (s1 _ _ hs0) sh hl ps hc s4 dk len λ r kvs cont H' s5=>k r l c xs kvs cont H' (s1.trans s5)
theorem one_mod (c:Int) {m:Nat} (hm:0<m):∃ k:Nat,1+c % (m:Int)=(k:Int)∧1≤k∧k≤m:=by
 have h1:=Int.emod_nonneg c (show (m:Int)≠0 by omega)
 have h2:=Int.emod_lt_of_pos c (show (0:Int)<m by omega)
 exact ⟨(1+c % (m:Int)).toNat,by omega,by omega,by omega⟩
theorem rd_l_table {K vs H Q E} (h:sp_l_table K vs H Q E):t_l_table K { nx:=λ _ H'=>Q .non H',rt:=Q } (start N_l_table vs) H:=by
 obtain ⟨a,hs,rfl,ha,hh,nm,q⟩:=h
 rw [show start N_l_table [V.ref a]=[some (.ref a),none,none,none,none,none,none,none,none] from rfl]
 (try dsimp? [t_l_table];try simp_arith [t_l_table])
 refine ⟨_,SqL.of ha,_,ints_atD (i:=1) (by omega),_,rfl,by decide,_,SqL.of ha,_,ints_atD (i:=2) (by omega),_,rfl,by decide,sz2,λ s hs1=>?_⟩
 obtain ⟨m1,e1,p1,q1⟩:=one_mod (hs.getD 1 0) (m:=4) (by decide)
 obtain ⟨m2,e2,p2,q2⟩:=one_mod (hs.getD 2 0) (m:=4) (by decide)
 obtain ⟨m3,e3,p3,q3⟩:=one_mod (hs.getD 1 0) (m:=3) (by decide)
 obtain ⟨m4,e4,p4,q4⟩:=one_mod (hs.getD 2 0) (m:=3) (by decide)
 obtain ⟨m5,e5,p5,q5⟩:=one_mod (hs.getD 3 0) (m:=3) (by decide)
 rw [show 1+hs.getD 1 0 % 4=(m1:Int) from e1,show 1+hs.getD 2 0 % 4=(m2:Int) from e2]
 have s1:Same H (upd H s (.lst [.int m1,.int m2])):=Same.upd hs1
 have hs2:(upd H s (.lst [.int m1,.int m2])) s=some (.lst (tv [m1,m2])):=upd_same
 generalize upd H s (.lst [.int m1,.int m2])=H1 at s1 hs2
 refine ⟨_,SqL.of (s1 _ _ ha),_,ints_atD (i:=0) (by omega),_,rfl,by decide,ite2 (λ _=>?_) (λ _=>?_)⟩
 ·refine ⟨_,SqL.of (s1 _ _ ha),_,ints_atD (i:=1) (by omega),_,rfl,by decide,_,SqL.of (s1 _ _ ha),_,ints_atD (i:=2) (by omega),_,rfl,by decide,_,SqL.of (s1 _ _ ha),_,ints_atD (i:=3) (by omega),_,rfl,by decide,sz3,λ r hr=>?_⟩
  rw [show 1+hs.getD 1 0 % 3=(m3:Int) from e3,show 1+hs.getD 2 0 % 3=(m4:Int) from e4,show 1+hs.getD 3 0 % 3=(m5:Int) from e5]
  have s2:Same H1 (upd H1 r (.lst [.int m3,.int m4,.int m5])):=Same.upd hr
  refine tb_r6 (ns:=[m3,m4,m5]) (s2 _ _ (s1 _ _ ha)) hh nm upd_same ⟨⟨Nat.le_refl 3,?_,?_⟩,(by show 2≤3;decide),.inr ⟨rfl,?_⟩⟩ λ r' l c xs kvs cont H' s3=>q r' r l c _ xs kvs cont H' (s1.trans (s2.trans s3))
  all_goals (intro n hn;simp only [List.mem_cons,List.not_mem_nil,or_false] at hn;omega)
 ·refine tb_r6 (ns:=[m1,m2]) (s1 _ _ ha) hh nm hs2 ⟨⟨(by show 2≤3;decide),?_,?_⟩,Nat.le_refl 2,.inl ⟨rfl,?_⟩⟩ λ r' l c xs kvs cont H' s3=>q r' s l c _ xs kvs cont H' (s1.trans s3)
  all_goals (intro n hn;simp only [List.mem_cons,List.not_mem_nil,or_false] at hn;omega)
noncomputable def N_l_plan:List PySem.Str:=["_law_head", "_law_plays_here", "_law_weights", "_law_k", "_law_weight", "_law_plan_here", "_law_at", "_law_most"]
noncomputable def sp_l_plan (K:W.Frag):Sp:=λ vs H Q _=>∃ a hs l xs qs,vs=[.ref a,.ref l]∧H a=some (.lst (List.map V.int hs))∧hs.length=116∧(∀ h∈hs,Nm h)∧H l=some (.lst xs)∧Ps H xs qs∧qs.Nodup∧1≤qs.length∧qs.length≤27∧∀ p kvs ws c r H',Same H H'→H p=none→H' p=some (.dT kvs)→PnOut H' kvs qs ws c r qs.length→WsOk ws qs.length→Q (.ref p) H'
noncomputable def iv_l_plan (a l w:Addr) (H:Hp):Nat→St→Hp→Prop:=λ i σ H3=>∃ ws o1 o2,σ=[some (.ref a),some (.ref l),some (.ref w),o1,o2,none,none,none]∧Same H H3∧H3 w=some (.lst (List.map V.int ws))∧ws.length=i∧∀ m∈ws,0≤m∧m≤6
noncomputable def iv_l_plan2 (a l w p:Addr) (H:Hp) (qs:List (List Nat)) (ws:List Int) (c r:Nat):Nat→St→Hp→Prop:=λ i σ H3=>∃ kvs o1 o2 o3 o4,σ=[some (.ref a),some (.ref l),some (.ref w),o1,o2,some (.ref p),o3,o4]∧Same H H3∧H3 p=some (.dT kvs)∧PnOut H3 kvs qs ws c r i
noncomputable def t_l_plan_r1 (K:W.Frag):TS:=(sDPut (tVar 5) (tOp (rIxL K) (tVar 1) (tVar 6)) (tTup (tCons (tOp rDivI (tOp (rIxL K) (tVar 2) (tVar 6)) (tVar 7)) (tCons (tOp rDivI (tCB (cSum K) (tCons (tVar 2) tNil)) (tVar 7)) tNil))))
noncomputable def t_l_plan_r2 (K:W.Frag):TS:=(tSeq (tAsg (tCall (sp_l_divisor K) [] E0 (tCons (tOp (rIxL K) (tVar 2) (tVar 6)) (tCons (tCB (cSum K) (tCons (tVar 2) tNil)) tNil))) (gName 7)) (t_l_plan_r1 K))
noncomputable def t_l_plan_r3 (K:W.Frag):TS:=(tSeq (tIfS (tTest (tOp rEq (tOp rModI (tOp rDivC (tOp (rIxL K) (tVar 0) (tC (.int 7))) (tC (.int 6))) (tC (.int 2))) (tC (.int 1)))) (tAsg (tOp rSubI (tOp rSubI (tCB (cLen K) (tCons (tVar 1) tNil)) (tC (.int 1))) (tVar 6)) (gName 6)) tNext) (t_l_plan_r2 K))
noncomputable def t_l_plan_b1 (K:W.Frag):TS:=(tSeq (tAsg (tOp rModI (tOp rAddI (tOp rDivC (tOp (rIxL K) (tVar 0) (tC (.int 7))) (tC (.int 12))) (tVar 3)) (tCB (cLen K) (tCons (tVar 1) tNil))) (gName 6)) (t_l_plan_r3 K))
noncomputable def t_l_plan_r4 (K:W.Frag):TS:=(tSeq (tAsg tDNewT (gName 5)) (tSeq (tFor (iRng1 (tCons (tCB (cLen K) (tCons (tVar 1) tNil)) tNil)) (gName 3) (t_l_plan_b1 K)) (tRet (tVar 5))))
noncomputable def t_l_plan_r5 (K:W.Frag):TS:=(tSeq (tIfS (tTest (tOp rEq (tCB (cSum K) (tCons (tVar 2) tNil)) (tC (.int 0)))) (tAsg (tC (.int 1)) (gSub (tVar 2) (tOp rModI (tOp rDivC (tOp (rIxL K) (tVar 0) (tC (.int 7))) (tC (.int 2))) (tCB (cLen K) (tCons (tVar 1) tNil))) rSetL)) tNext) (t_l_plan_r4 K))
noncomputable def t_l_plan_r6 (K:W.Frag):TS:=(tDrop (tBM K "list" rAppend (tVar 2) (tCons (tVar 4) tNil)))
noncomputable def t_l_plan_r7 (K:W.Frag):TS:=(tSeq (tIfS (tAnd (tTest (tOp rEq (tOp rModI (tOp (rIxL K) (tVar 0) (tC (.int 7))) (tC (.int 2))) (tC (.int 1)))) (tTest (tOp rGtI (tOp rModI (tOp rDivC (tOp (rIxL K) (tVar 0) (tOp rAddI (tC (.int 89)) (tVar 3))) (tC (.int 7))) (tC (.int 3))) (tC (.int 0))))) (tAsg (tC (.int 0)) (gName 4)) tNext) (t_l_plan_r6 K))
noncomputable def t_l_plan_b2 (K:W.Frag):TS:=(tSeq (tAsg (tOp rModI (tOp (rIxL K) (tVar 0) (tOp rAddI (tC (.int 89)) (tVar 3))) (tC (.int 7))) (gName 4)) (t_l_plan_r7 K))
noncomputable def t_l_plan (K:W.Frag):TS:=(tSeq (tAsg (tLst tNil) (gName 2)) (tSeq (tFor (iRng1 (tCons (tCB (cLen K) (tCons (tVar 1) tNil)) tNil)) (gName 3) (t_l_plan_b2 K)) (t_l_plan_r5 K)))
theorem len_l_plan {K vs H Q E} (h:sp_l_plan K vs H Q E):vs.length=2:=by obtain ⟨_,_,_,_,_,rfl,_⟩:=h;rfl
theorem plan_w {K:W.Frag} {a l w:Addr} {H3:Hp} {hs:List Int} {xs:List V} {qs:List (List Nat)} {ws:List Int} {o1 o2:Option V} {D:Ends} (ha:H3 a=some (.lst (List.map V.int hs))) (hl:H3 l=some (.lst xs)) (hh:hs.length=116) (nm:∀ h∈hs,Nm h) (ps:Ps H3 xs qs) (nd:qs.Nodup) (q1:1≤qs.length) (q27:qs.length≤27) (hw:H3 w=some (.lst (List.map V.int ws))) (wo:WsOk ws qs.length)
  (k:∀ p kvs c r H',Same H3 H'→H3 p=none→H' p=some (.dT kvs)→PnOut H' kvs qs ws c r qs.length→D.rt (.ref p) H'):t_l_plan_r4 K D [some (.ref a),some (.ref l),some (.ref w),o1,o2,none,none,none] H3:=by
 have n7:=(nm_at nm (i:=7) (by omega)).1
 obtain ⟨c,hc⟩:∃ c:Nat,hs.getD 7 0 / 12=(c:Int):=⟨(hs.getD 7 0 / 12).toNat,by omega⟩
 obtain ⟨w162,bS⟩:=wo.bb q27
 have w0:=wo.pos
 (try dsimp? [t_l_plan_r4,tDNewT,tFor,iRng1];try simp_arith [t_l_plan_r4,tDNewT,tFor,iRng1])
 intro p hp
 have s1:Same H3 (upd H3 p (.dT [])):=Same.upd hp
 refine ⟨_,.inl (SqL.of (s1 _ _ hl)),?_⟩
 rw [ps.1]
 refine ⟨by omega,by omega,for_range (lo:=0) (n:=qs.length) (g:=gName 3) (D:={ nx:=tRet (tVar 5) D,rt:=D.rt }) (iv_l_plan2 a l w p H3 qs ws c (if hs.getD 7 0 / 6 % 2=1 then 1 else 0)) ?_ ?_ ?_⟩
 ·exact ⟨[],_,_,_,_,rfl,s1,upd_same,rfl,λ k hk=>absurd hk (by omega)⟩
 ·rintro i σ H4 hi ⟨kvs,o1,o2,o3,o4,rfl,s4,hp4,po⟩
  have ha4:=s4 _ _ ha
  have hl4:=s4 _ _ hl
  have hw4:=s4 _ _ hw
  have rest:∀ (j:Nat) (o4:Option V),j=plat c qs.length (if hs.getD 7 0 / 6 % 2=1 then 1 else 0) i→t_l_plan_r2 K { nx:=iv_l_plan2 a l w p H3 qs ws c (if hs.getD 7 0 / 6 % 2=1 then 1 else 0) (i+1),rt:=D.rt,ct:=iv_l_plan2 a l w p H3 qs ws c (if hs.getD 7 0 / 6 % 2=1 then 1 else 0) (i+1),bk:=tRet (tVar 5) D } [some (.ref a),some (.ref l),some (.ref w),some (.int i),o2,some (.ref p),some (.int j),o4] H4:=by
   intro j o4 ej
   have hj:j<qs.length:=by rw [ej];exact plat_lt (by omega)
   have hjw:j<ws.length:=by rw [wo.len];exact hj
   have hwj:=List.getElem_mem hjw
   have g0:0<Int.gcd (ws.getD j 0) ws.sum:=Int.gcd_pos_of_ne_zero_right _ (by omega)
   have bg:=bS.gcd (i:=ws.getD j 0) (by omega)
   have lo:=lo_pos (t:=ws.getD j 0) (b:=ws.sum) w0
   obtain ⟨b,hb⟩:∃ b,qs[j]?=some b:=⟨qs[j],List.getElem?_eq_getElem hj⟩
   obtain ⟨ab,eb,hab⟩:=(ps.same s4).2 j b hb
   (try dsimp? [t_l_plan_r2,t_l_plan_r1,cSum,sDPut];try simp_arith [t_l_plan_r2,t_l_plan_r1,sp_l_divisor,cSum,sDPut])
   refine ⟨_,SqL.of hw4,_,ints_atD hjw,ws,SqL.of hw4,_,rfl,_,SqL.of hw4,_,ints_atD hjw,_,rfl,⟨by omega,bg.mono (by decide)⟩,ws,SqL.of hw4,⟨by omega,bg.mono (by decide)⟩,sz2,λ z hz=>?_⟩
   have s5:Same H4 (upd H4 z (.tup [.int ((ws.getD j 0).fdiv (Int.gcd (ws.getD j 0) ws.sum)),.int (ws.sum.fdiv (Int.gcd (ws.getD j 0) ws.sum))])):=Same.upd hz
   have hz5:=upd_same (H:=H4) (a:=z) (o:=.tup [.int ((ws.getD j 0).fdiv (Int.gcd (ws.getD j 0) ws.sum)),.int (ws.sum.fdiv (Int.gcd (ws.getD j 0) ws.sum))])
   refine ⟨_,SqL.of (s5 _ _ hl4),_,atI_nat eb,_,DPut.t (s5 _ _ hp4) (by rw [tv_tk];exact s5 _ _ hab) (by rw [po.len,sizeLine_eq];omega),?_⟩
   rw [ej] at hb lo
   have kd:=keepT_dict (o:=.dT (putK kvs (tk b) (.ref z))) (s5 _ _ hp4)
   rw [putK_new _ (po.new nd hi hb)] at kd ⊢
   exact ⟨_,_,_,_,_,rfl,(s4.trans s5).put hp,upd_same,((po.keep (keepT_same s5)).keep kd).snoc hb (kd _ _ hz5) (by rw [ej];exact lo)⟩
  (try dsimp? [t_l_plan_b1];try simp_arith [t_l_plan_b1,Int.zero_add])
  refine ⟨_,SqL.of ha4,_,ints_atD (i:=7) (by omega),_,rfl,⟨by decide,by decide⟩,_,.inl (SqL.of hl4),?_⟩
  rw [ps.1]
  refine ⟨by omega,?_⟩
  rw [hc,show ((c:Int)+i) % (qs.length:Int)=((c+i) % qs.length:Nat) by push_cast;rfl]
  (try dsimp? [t_l_plan_r3];try simp_arith [t_l_plan_r3])
  refine ⟨_,SqL.of ha4,_,ints_atD (i:=7) (by omega),_,rfl,⟨by decide,by decide⟩,by decide,?_⟩
  have hm:=Nat.mod_lt (c+i) (show 0<qs.length by omega)
  refine ite2 (λ h1=>⟨_,.inl (SqL.of hl4),?_⟩) (λ h1=>rest _ _ ?_)
  ·rw [ps.1,show ((qs.length:Nat):Int) - 1 - ((c+i) % qs.length:Nat)=((qs.length - 1 - (c+i) % qs.length:Nat):Int) by omega]
   refine rest _ _ ?_
   unfold plat
   rw [if_pos h1,if_pos rfl]
  ·unfold plat
   rw [if_neg h1,if_neg (by decide)]
 ·rintro σ H4 ⟨kvs,o1,o2,o3,o4,rfl,s4,hp4,po⟩
  (dsimp! [tVar,tC,tOp,rI0,rNe,scal_ii,tRet,tTest])
  exact k p kvs _ _ H4 s4 hp hp4 po
theorem rd_l_plan {K vs H Q E} (h:sp_l_plan K vs H Q E):t_l_plan K { nx:=λ _ H'=>Q .non H',rt:=Q } (start N_l_plan vs) H:=by
 obtain ⟨a,hs,l,xs,qs,rfl,ha,hh,nm,hl,ps,nd,q1,q27,q⟩:=h
 rw [show start N_l_plan [V.ref a,V.ref l]=[some (.ref a),some (.ref l),none,none,none,none,none,none] from rfl]
 (try dsimp? [t_l_plan,tFor,iRng1];try simp_arith [t_l_plan,tFor,iRng1])
 refine ⟨sz0,λ w hw=>?_⟩
 have s1:Same H (upd H w (.lst [])):=Same.upd hw
 refine ⟨_,.inl (SqL.of (s1 _ _ hl)),?_⟩
 rw [ps.1]
 refine ⟨by omega,by omega,for_range (lo:=0) (n:=qs.length) (g:=gName 3) (D:={ nx:=t_l_plan_r5 K { nx:=λ _ H'=>Q .non H',rt:=Q },rt:=Q }) (iv_l_plan a l w H) ?_ ?_ ?_⟩
 ·exact ⟨[],none,none,rfl,s1,upd_same,rfl,λ m hm=>by cases hm⟩
 ·rintro i σ H3 hi ⟨ws,o1,o2,rfl,s3,hw3,wl,wr⟩
  have ha3:=s3 _ _ ha
  have fin:∀ m:Int,0≤m→m≤6→t_l_plan_r6 K { nx:=iv_l_plan a l w H (i+1),rt:=Q,ct:=iv_l_plan a l w H (i+1),bk:=t_l_plan_r5 K { nx:=λ _ H'=>Q .non H',rt:=Q } } [some (.ref a),some (.ref l),some (.ref w),some (.int i),some (.int m),none,none,none] H3:=by
   intro m m0 m6
   (try dsimp? [t_l_plan_r6,tDrop,tBM,rAppend];try simp_arith [t_l_plan_r6,tDrop,tBM,rAppend])
   refine ⟨.inl ⟨rfl,_,SqL.of hw3⟩,_,hw3,by rw [List.length_map,sizeLine_eq];omega,ws++[m],_,_,rfl,s3.put hw,by rw [upd_same,List.map_append];rfl,by rw [List.length_append,wl];rfl,λ v hv=>?_⟩
   rcases List.mem_append.mp hv with z | z
   ·exact wr v z
   ·rw [List.mem_singleton.mp z];exact ⟨m0,m6⟩
  have h89:atI (List.map V.int hs) (89+(i:Int))=some (.int (hs.getD (89+i) 0)):=by rw [show (89+(i:Int))=((89+i:Nat):Int) by omega];exact ints_atD (by omega)
  (try dsimp? [t_l_plan_b2];try simp_arith [t_l_plan_b2,Int.zero_add])
  refine ⟨_,SqL.of ha3,_,h89,_,rfl,by decide,?_⟩
  generalize hs.getD (89+i) 0=x at h89
  (try dsimp? [t_l_plan_r7];try simp_arith [t_l_plan_r7])
  refine ⟨_,SqL.of ha3,_,ints_atD (i:=7) (by omega),_,rfl,by decide,ite2 (λ _=>⟨_,SqL.of ha3,_,h89,_,rfl,⟨by decide,by decide⟩,by decide,ite2 (λ _=>fin 0 (by decide) (by decide)) (λ _=>fin _ (by omega) (by omega))⟩) (λ _=>fin _ (by omega) (by omega))⟩
 ·rintro σ H3 ⟨ws,o1,o2,rfl,s3,hw3,wl,wr⟩
  have ha3:=s3 _ _ ha
  have hl3:=s3 _ _ hl
  have ws3:=sum_le wr
  (try dsimp? [t_l_plan_r5,cSum,gSub,rSetL];try simp_arith [t_l_plan_r5,cSum,gSub,rSetL])
  refine ⟨_,SqL.of hw3,?_⟩
  by_cases h0:ws.sum=0
  ·rw [if_pos h0]
   refine ⟨_,SqL.of ha3,_,ints_atD (i:=7) (by omega),_,rfl,⟨by decide,by decide⟩,_,.inl (SqL.of hl3),?_⟩
   rw [ps.1]
   have z1:=Int.emod_nonneg (hs.getD 7 0 / 2) (show (qs.length:Int)≠0 by omega)
   have z2:=Int.emod_lt_of_pos (hs.getD 7 0 / 2) (show (0:Int)<qs.length by omega)
   refine ⟨by omega,_,hw3,_,ixN_int z1 (by rw [List.length_map];omega),?_⟩
   have hj:(hs.getD 7 0 / 2 % (qs.length:Int)).toNat<ws.length:=by omega
   generalize (hs.getD 7 0 / 2 % (qs.length:Int)).toNat=j at hj ⊢
   rw [← List.map_set]
   have s4:Same H (upd H3 w (.lst (List.map V.int (ws.set j 1)))):=s3.put hw
   have rg:∀ v∈ws.set j 1,0≤v∧v≤6:=λ v hv=>by
    rcases List.mem_or_eq_of_mem_set hv with z | z
    ·exact wr v z
    ·rw [z];decide
   have wk:WsOk (ws.set j 1) qs.length:=⟨by rw [List.length_set];exact wl,rg,by
    have:=sum_ge (λ v hv=>(rg v hv).1) (List.mem_set hj 1)
    omega⟩
   exact plan_w (s4 _ _ ha) (s4 _ _ hl) hh nm (ps.same s4) nd q1 q27 upd_same wk λ p kvs c r H' s5 hp hp' po=>q p kvs _ c r H' (s4.trans s5) (s4.free hp) hp' po wk
  ·rw [if_neg h0]
   exact plan_w ha3 hl3 hh nm (ps.same s3) nd q1 q27 hw3 ⟨wl,wr,by omega⟩ λ p kvs c r H' s4 hp hp' po=>q p kvs ws c r H' (s3.trans s4) (s3.free hp) hp' po ⟨wl,wr,by omega⟩
noncomputable def N_check_sizes:List PySem.Str:=["sizes", "size"]
noncomputable def sp_check_sizes (K:W.Frag):Sp:=λ vs H Q _=>∃ l ns,vs=[.ref l]∧SqL K H l (tv ns)∧2≤ns.length∧Sz ns∧Q .non H
noncomputable def iv_check_sizes (l:Addr) (H:Hp):Nat→St→Hp→Prop:=λ _ σ H3=>H3=H∧∃ o,σ=[some (.ref l),o]
noncomputable def t_check_sizes_b1 (K:W.Frag):TS:=(tIfS (tOr (tTest (tOp rLtI (tVar 1) (tC (.int 1)))) (tTest (tOp rGtI (tVar 1) (tC (.int 6))))) tNever tNext)
noncomputable def t_check_sizes (K:W.Frag):TS:=(tSeq (tIfS (tOr (tTest (tOp rLtI (tCB (cLen K) (tCons (tVar 0) tNil)) (tC (.int 2)))) (tTest (tOp rGtI (tCB (cLen K) (tCons (tVar 0) tNil)) (tC (.int 3))))) tNever tNext) (tFor (iList K (tVar 0)) (gName 1) (t_check_sizes_b1 K)))
theorem len_check_sizes {K vs H Q E} (h:sp_check_sizes K vs H Q E):vs.length=1:=by obtain ⟨l,ns,rfl,_⟩:=h;rfl
theorem rd_check_sizes {K vs H Q E} (h:sp_check_sizes K vs H Q E):t_check_sizes K { nx:=λ _ H'=>Q .non H',rt:=Q } (start N_check_sizes vs) H:=by
 obtain ⟨l,ns,rfl,hS,h2,sz,q⟩:=h
 have h3:=sz.len
 rw [show start N_check_sizes [V.ref l]=[some (.ref l),none] from rfl]
 (try dsimp? [t_check_sizes,tFor,iList];try simp_arith [t_check_sizes,tFor,iList])
 refine ⟨_,.inl hS,?_⟩
 rw [tv_len,if_neg (by omega)]
 refine ⟨_,.inl hS,?_⟩
 rw [tv_len,if_neg (by omega)]
 refine ⟨⟨_,hS⟩,for_list (K:=K) (a:=l) (xs:=tv ns) (g:=gName 1) (D:={ nx:=λ _ H'=>Q .non H',rt:=Q }) (iv_check_sizes l H) ?_ ?_ ?_ ?_⟩
 ·exact ⟨rfl,none,rfl⟩
 ·rintro i σ H3 _ ⟨rfl,_⟩
  exact hS
 ·rintro i x σ H3 hi ⟨rfl,o,rfl⟩
  obtain ⟨n,hn,rfl⟩:=tv_get hi
  have g1:=sz.ge n (List.mem_of_getElem? hn)
  have g2:=sz.le n (List.mem_of_getElem? hn)
  (try dsimp? [t_check_sizes_b1];try simp_arith [t_check_sizes_b1])
  rw [if_neg (by omega),if_neg (by omega)]
  exact ⟨rfl,_,rfl⟩
 ·rintro σ H3 ⟨rfl,o,rfl⟩
  exact q
noncomputable def N_one_of_each:List PySem.Str:=["lists", "told", "choices", "longer", "begun"]
noncomputable def Rg (H:Hp) (xs:List V) (ns:List Nat):Prop:=xs.length=ns.length∧∀ (i n:Nat),ns[i]?=some n→∃ c,xs[i]?=some (.ref c)∧H c=some (.lst (tv (List.range n)))
noncomputable def sp_one_of_each (_:W.Frag):Sp:=λ vs H Q _=>∃ l ls ns,vs=[.ref l]∧H l=some (.lst ls)∧Rg H ls ns∧Sz ns∧∀ p xs H',Same H H'→H p=none→H' p=some (.lst xs)→Ps H' xs (ordR ns.reverse)→Q (.ref p) H'
noncomputable def more (s:Nat) (b:List Nat):List (List Nat):=(List.range s).map λ c=>b++[c]
noncomputable def iv_one_of_each (l:Addr) (H:Hp) (ns:List Nat):Nat→St→Hp→Prop:=λ i σ H3=>∃ t xs o1 o2 o3,σ=[some (.ref l),some (.ref t),o1,o2,o3]∧Same H H3∧H t=none∧H3 t=some (.lst xs)∧Ps H3 xs (ordR (ns.take i).reverse)
noncomputable def iv_one_of_each2 (l t c:Addr) (n:Nat) (H:Hp) (qs:List (List Nat)):Nat→St→Hp→Prop:=λ j σ H3=>∃ g ys o3,σ=[some (.ref l),some (.ref t),some (.ref c),some (.ref g),o3]∧Same H H3∧H g=none∧H3 g=some (.lst ys)∧Ps H3 ys ((qs.take j).flatMap (more n))
noncomputable def t_one_of_each_r1 (K:W.Frag):TS:=(tAsg (tVar 3) (gName 1))
noncomputable def t_one_of_each_c1 (K:W.Frag):TE:=(tOp rCatA (tVar 1) (tTup (tCons (tVar 0) tNil)))
noncomputable def t_one_of_each_b1 (K:W.Frag):TS:=(tDrop (tBM K "list" rExtend (tVar 3) (tCons (tComp (iList K (tVar 2)) [4] (t_one_of_each_c1 K)) tNil)))
noncomputable def t_one_of_each_b2 (K:W.Frag):TS:=(tSeq (tAsg (tLst tNil) (gName 3)) (tSeq (tFor (iList K (tVar 1)) (gName 4) (t_one_of_each_b1 K)) (t_one_of_each_r1 K)))
noncomputable def t_one_of_each (K:W.Frag):TS:=(tSeq (tAsg (tLst (tCons (tTup tNil) tNil)) (gName 1)) (tSeq (tFor (iList K (tVar 0)) (gName 2) (t_one_of_each_b2 K)) (tRet (tVar 1))))
theorem len_one_of_each {K vs H Q E} (h:sp_one_of_each K vs H Q E):vs.length=1:=by obtain ⟨l,ls,ns,rfl,_⟩:=h;rfl
theorem more_len (s:Nat) (b:List Nat):(more s b).length=s:=by simp [more]
theorem more_flat (s:Nat):∀ qs:List (List Nat),(qs.flatMap (more s)).length=qs.length*s
 | []=>by simp
 | b::qs=>by rw [List.flatMap_cons,List.length_append,more_len,more_flat s qs,List.length_cons,Nat.succ_mul];omega
theorem Rg.same {H H':Hp} {xs:List V} {ns:List Nat} (h:Rg H xs ns) (s:Same H H'):Rg H' xs ns:=⟨h.1,λ i n e=>let ⟨c,e1,e2⟩:=h.2 i n e;⟨c,e1,s _ _ e2⟩⟩
theorem Rg.snoc {H:Hp} {xs:List V} {ns:List Nat} {c:Addr} {n:Nat} (h:Rg H xs ns) (hc:H c=some (.lst (tv (List.range n)))):Rg H (xs++[.ref c]) (ns++[n]):=by
 refine ⟨by rw [List.length_append,List.length_append,h.1];rfl,λ i m e=>?_⟩
 by_cases hi:i<ns.length
 ·rw [List.getElem?_append_left hi] at e
  rw [List.getElem?_append_left (by rw [h.1];exact hi)]
  exact h.2 i m e
 ·rw [List.getElem?_append_right (by omega)] at e
  rw [List.getElem?_append_right (by rw [h.1];omega),h.1]
  cases z:i - ns.length with
  | zero=>rw [z] at e;simp at e;subst e;exact ⟨c,rfl,hc⟩
  | succ k=>rw [z] at e;simp at e
theorem Rg.get {H:Hp} {xs:List V} {ns:List Nat} {i:Nat} {x:V} (h:Rg H xs ns) (e:xs[i]?=some x):∃ n c,ns[i]?=some n∧x=.ref c∧H c=some (.lst (tv (List.range n))):=by
 have hl:i<ns.length:=by rw [← h.1];exact (List.getElem?_eq_some_iff.mp e).1
 obtain ⟨c,e1,e2⟩:=h.2 i ns[i] (List.getElem?_eq_getElem hl)
 rw [e] at e1
 exact ⟨ns[i],c,List.getElem?_eq_getElem hl,Option.some.inj e1,e2⟩
theorem range_get {n k m:Nat} (h:(List.range n)[k]?=some m):m=k:=by
 have hl:=(List.getElem?_eq_some_iff.mp h).1
 rw [List.length_range] at hl
 rw [List.getElem?_range hl] at h
 exact (Option.some.inj h).symm
theorem rd_one_of_each {K vs H Q E} (h:sp_one_of_each K vs H Q E):t_one_of_each K { nx:=λ _ H'=>Q .non H',rt:=Q } (start N_one_of_each vs) H:=by
 obtain ⟨l,ls,ns,rfl,hS,rg,sz,q⟩:=h
 rw [show start N_one_of_each [V.ref l]=[some (.ref l),none,none,none,none] from rfl]
 (try dsimp? [t_one_of_each,tFor,iList];try simp_arith [t_one_of_each,tFor,iList])
 refine ⟨sz0,λ a ha=>⟨sz1,λ t ht=>?_⟩⟩
 have s1:Same H (upd H a (.tup [])):=Same.upd ha
 have s2:Same (upd H a (.tup [])) (upd (upd H a (.tup [])) t (.lst [.ref a])):=Same.upd ht
 have s3:=s1.trans s2
 refine ⟨⟨_,SqL.of (s3 _ _ hS)⟩,for_list (K:=K) (a:=l) (xs:=ls) (g:=gName 2) (D:={ nx:=tRet (tVar 1) { nx:=λ _ H'=>Q .non H',rt:=Q },rt:=Q }) (iv_one_of_each l H ns) ?_ ?_ ?_ ?_⟩
 ·exact ⟨t,_,none,none,none,rfl,s3,s1.free ht,upd_same,Ps.one (s2 _ _ upd_same)⟩
 ·rintro i σ H3 _ ⟨_,_,_,_,_,_,s4,_⟩
  exact SqL.of (s4 _ _ hS)
 ·rintro i x σ H3 hi ⟨t,xs,o1,o2,o3,rfl,s4,ht,hT,ps⟩
  obtain ⟨n,c,hn,rfl,hc⟩:=(rg.same s4).get hi
  have hin:i<ns.length:=(List.getElem?_eq_some_iff.mp hn).1
  have n6:=sz.le n (List.mem_of_getElem? hn)
  have hlen:=sz.len
  have hmax:(ordR (ns.take i).reverse).length≤36:=by
   rw [ordR_length _ (sz.take i).rev.ge]
   have h2:(ns.take i).reverse.length≤2:=?_
   ·exact Nat.le_trans (prodR_le _ (sz.take i).rev.le) (Nat.le_trans (Nat.pow_le_pow_right (by decide) h2) (by decide))
   rw [List.length_reverse,List.length_take];omega
  have el:xs.length=(ordR (ns.take i).reverse).length:=ps.1
  (try dsimp? [t_one_of_each_b2,tFor,iList];try simp_arith [t_one_of_each_b2,tFor,iList])
  refine ⟨sz0,λ g hg=>?_⟩
  have s5:Same H3 (upd H3 g (.lst [])):=Same.upd hg
  refine ⟨⟨_,SqL.of (s5 _ _ hT)⟩,for_list (K:=K) (a:=t) (xs:=xs) (g:=gName 4) (D:={ nx:=t_one_of_each_r1 K _,rt:=Q }) (iv_one_of_each2 l t c n H3 (ordR (ns.take i).reverse)) ?_ ?_ ?_ ?_⟩
  ·exact ⟨g,[],_,rfl,s5,hg,upd_same,Ps.nil⟩
  ·rintro j σ H4 _ ⟨_,_,_,_,s6,_⟩
   exact SqL.of (s6 _ _ hT)
  ·rintro j x σ H4 hj ⟨g,ys,o4,rfl,s6,hg,hG,py⟩
   obtain ⟨b,a,hb,rfl,ha⟩:=(ps.same s6).get hj
   have hjl:j<(ordR (ns.take i).reverse).length:=(List.getElem?_eq_some_iff.mp hb).1
   have hy:ys.length=j*n:=by rw [py.1,more_flat,List.length_take];congr 1;omega
   have hc4:=s6 _ _ hc
   (try dsimp? [t_one_of_each_b1,tDrop,tBM,tComp,iList];try simp_arith [t_one_of_each_b1,tDrop,tBM,tComp,iList])
   refine ⟨.inl ⟨rfl,_,SqL.of hG⟩,⟨_,SqL.of hc4⟩,comp_list (K:=K) (a:=c) (xs:=tv (List.range n)) (λ k zs H5=>Same H4 H5∧Ps H5 zs ((List.range k).map λ c=>b++[c])) ?_ ⟨Same.refl _,Ps.nil⟩ ?_ ?_ ?_⟩
   ·rw [tv_len,List.length_range];exact small (by omega)
   ·rintro k zs H5 _ ⟨s7,_⟩
    exact SqL.of (s7 _ _ hc4)
   ·rintro k x zs H5 hk _ ⟨s7,pz⟩
    obtain ⟨m,hm,rfl⟩:=tv_get hk
    obtain rfl:=range_get hm
    show t_one_of_each_c1 K [some (.int m),some (.ref a)] H5 _
    (try dsimp? [t_one_of_each_c1,rCatA];try simp_arith [t_one_of_each_c1,rCatA])
    refine ⟨sz1,λ z hz=>?_⟩
    have s8:Same H5 (upd H5 z (.tup [.int m])):=Same.upd hz
    refine ⟨_,s8 _ _ (s7 _ _ ha),_,upd_same,?_,λ p H6 s9 hp=>⟨s7.trans (s8.trans s9),?_⟩⟩
    ·rw [tv_len]
     have:=ordR_len_each _ b (List.mem_of_getElem? hb)
     rw [List.length_reverse,List.length_take] at this
     exact small (by show _+1≤216;omega)
    ·rw [List.range_succ,List.map_append]
     exact (pz.same (s8.trans s9)).app (Ps.one (by rw [hp,tv_app];rfl))
   ·rintro zs H5 hz ⟨s7,pz⟩ p hp
    rw [tv_len,List.length_range] at hz pz
    have s8:Same H5 (upd H5 p (.lst zs)):=Same.upd hp
    refine ⟨g,p,ys,zs,rfl,rfl,s8 _ _ (s7 _ _ hG),upd_same,?_,?_⟩
    ·rw [hy,hz]
     have:j*n+n≤216:=by
      have h1:(j+1)*n≤36*6:=Nat.mul_le_mul (by omega) n6
      rw [Nat.succ_mul] at h1
      exact h1
     exact small this
    ·have hgp:H3 g=none:=hg
     refine ⟨g,_,_,rfl,((s6.trans s7).trans s8).put hg,hg,upd_same,?_⟩
     rw [take_snoc hb,List.flatMap_append]
     refine Ps.keep (Ps.app ((py.same s7).same s8) ?_) (keepT_lst (s8 _ _ (s7 _ _ hG)))
     rw [List.flatMap_cons,List.flatMap_nil,List.append_nil]
     exact pz.same s8
  ·rintro σ H4 ⟨g,ys,o4,rfl,s6,hg,hG,py⟩
   (try dsimp? [t_one_of_each_r1];try simp_arith [t_one_of_each_r1])
   refine ⟨g,ys,_,_,_,rfl,s4.trans s6,s4.free hg,hG,?_⟩
   rw [el,List.take_length] at py
   rw [take_snoc hn,List.reverse_append]
   exact py
 ·rintro σ H3 ⟨t,xs,o1,o2,o3,rfl,s4,ht,hT,ps⟩
  (dsimp! [tVar,tC,tOp,rI0,rNe,scal_ii,tRet,tTest])
  rw [rg.1,List.take_length] at ps
  exact q t xs H3 s4 ht hT ps
noncomputable def N_in_order:List PySem.Str:=["sizes"]
noncomputable def sp_in_order (K:W.Frag):Sp:=λ vs H Q _=>∃ l ns,vs=[.ref l]∧SqL K H l (tv ns)∧Sz ns∧∀ p xs H',Same H H'→H p=none→H' p=some (.lst xs)→Ps H' xs (ordR ns.reverse)→Q (.ref p) H'
noncomputable def t_in_order_c1 (K:W.Frag):TE:=(tLRng (tVar 0))
noncomputable def t_in_order (K:W.Frag):TS:=(tRet (tCall (sp_one_of_each K) [] E0 (tCons (tComp (iList K (tVar 0)) [] (t_in_order_c1 K)) tNil)))
theorem len_in_order {K vs H Q E} (h:sp_in_order K vs H Q E):vs.length=1:=by obtain ⟨l,ns,rfl,_⟩:=h;rfl
theorem rng_tv (n:Nat):List.map V.int (rngL n)=tv (List.range n):=by unfold rngL tv;rw [List.map_map];rfl
theorem rd_in_order {K vs H Q E} (h:sp_in_order K vs H Q E):t_in_order K { nx:=λ _ H'=>Q .non H',rt:=Q } (start N_in_order vs) H:=by
 obtain ⟨l,ns,rfl,hS,sz,q⟩:=h
 rw [show start N_in_order [V.ref l]=[some (.ref l)] from rfl]
 have n3:=sz.len
 (try dsimp? [t_in_order,tComp,iList];try simp_arith [t_in_order,tComp,iList])
 refine ⟨⟨_,hS⟩,comp_list (K:=K) (a:=l) (xs:=tv ns) (λ i zs H3=>Same H H3∧Rg H3 zs (ns.take i)) ?_ ⟨Same.refl _,rfl,λ i n e=>by simp at e⟩ ?_ ?_ ?_⟩
 ·rw [tv_len];exact small (by omega)
 ·rintro i ys H3 _ ⟨s3,_⟩
  exact s3.seq hS
 ·rintro i x ys H3 hi _ ⟨s3,rg⟩
  obtain ⟨n,hn,rfl⟩:=tv_get hi
  have n6:=sz.le n (List.mem_of_getElem? hn)
  (try dsimp? [t_in_order_c1,caught,List.map_nil,tLRng];try simp_arith [t_in_order_c1,caught,List.map_nil,tLRng])
  refine ⟨n,rfl,by omega,λ p hp=>⟨s3.trans (Same.upd hp),?_⟩⟩
  rw [take_snoc hn]
  exact (rg.same (Same.upd hp)).snoc (by rw [upd_same,rng_tv])
 ·rintro ys H3 _ ⟨s3,rg⟩ p hp
  rw [tv_len,List.take_length] at rg
  have s4:Same H3 (upd H3 p (.lst ys)):=Same.upd hp
  exact ⟨p,ys,ns,rfl,upd_same,rg.same s4,sz,λ p' xs H' s5 hp' hP ps=>q p' xs H' ((s3.trans s4).trans s5) ((s3.trans s4).free hp') hP ps⟩
noncomputable def N_check_cells:List PySem.Str:=["cells", "plays", "hands", "play"]
noncomputable def sp_check_cells (K:W.Frag):Sp:=λ vs H Q _=>∃ c p kvs xs qs hands cont,vs=[.ref c,.ref p,.int (hands:Nat)]∧H c=some (.dT kvs)∧H p=some (.lst xs)∧Ps H xs qs∧(∀ q∈qs,Cells H kvs cont q)∧(∀ q∈qs,(cont q).length=hands)∧kvs.length=qs.length∧Q .non H
noncomputable def iv_check_cells (c p:Addr) (hands:Nat) (H:Hp):Nat→St→Hp→Prop:=λ _ σ H3=>H3=H∧∃ o,σ=[some (.ref c),some (.ref p),some (.int hands),o]
noncomputable def t_check_cells_r1 (K:W.Frag):TS:=(tIfS (tTest (tOp rNe (tCB cLenT (tCons (tVar 0) tNil)) (tCB (cLen K) (tCons (tVar 1) tNil)))) tNever tNext)
noncomputable def t_check_cells_b1 (K:W.Frag):TS:=(tSeq (tIfS (tB (tDNotIn (tVar 3) (tVar 0))) tNever tNext) (tIfS (tTest (tOp rNe (tCB (cLen K) (tCons (tDGet (tVar 0) (tVar 3)) tNil)) (tVar 2))) tNever tNext))
noncomputable def t_check_cells (K:W.Frag):TS:=(tSeq (tFor (iList K (tVar 1)) (gName 3) (t_check_cells_b1 K)) (t_check_cells_r1 K))
theorem len_check_cells {K vs H Q E} (h:sp_check_cells K vs H Q E):vs.length=3:=by obtain ⟨c,p,kvs,xs,qs,hands,cont,rfl,_⟩:=h;rfl
theorem rd_check_cells {K vs H Q E} (h:sp_check_cells K vs H Q E):t_check_cells K { nx:=λ _ H'=>Q .non H',rt:=Q } (start N_check_cells vs) H:=by
 obtain ⟨c,p,kvs,xs,qs,hands,cont,rfl,hc,hp,ps,ok,oh,hl,q⟩:=h
 rw [show start N_check_cells [V.ref c,V.ref p,V.int hands]=[some (.ref c),some (.ref p),some (.int hands),none] from rfl]
 (try dsimp? [t_check_cells,tFor,iList];try simp_arith [t_check_cells,tFor,iList])
 refine ⟨⟨_,SqL.of hp⟩,for_list (K:=K) (a:=p) (xs:=xs) (g:=gName 3) (D:={ nx:=t_check_cells_r1 K _,rt:=Q }) (iv_check_cells c p hands H) ?_ ?_ ?_ ?_⟩
 ·exact ⟨rfl,none,rfl⟩
 ·rintro i σ H3 _ ⟨rfl,_⟩
  exact SqL.of hp
 ·rintro i x σ H3 hi ⟨rfl,o,rfl⟩
  obtain ⟨b,a,hb,rfl,ha⟩:=ps.get hi
  obtain ⟨l,hv,hL⟩:=ok b (List.mem_of_getElem? hb)
  have hvl:=oh b (List.mem_of_getElem? hb)
  have ht:H3 a=some (.tup ((tk b).map kV)):=by rw [tv_tk];exact ha
  (try dsimp? [t_check_cells_b1,tDNotIn,tDGet];try simp_arith [t_check_cells_b1,tDNotIn,tDGet])
  refine ⟨_,DGet.t hc ht,?_⟩
  rw [hv]
  refine iteF ?_
  refine ⟨_,by rw [← hv];exact DGet.t hc ht,?_⟩
  exact ⟨l,rfl,_,.inl (SqL.of hL),iteNS (by rw [hvl]) ⟨rfl,_,rfl⟩⟩
 ·rintro σ H3 ⟨rfl,o,rfl⟩
  (try dsimp? [t_check_cells_r1,cLenT];try simp_arith [t_check_cells_r1,cLenT])
  refine ⟨_,hc,_,.inl (SqL.of hp),?_⟩
  rw [hl,ps.1]
  refine iteNS rfl q
noncomputable def N_Table_init:List PySem.Str:=["self", "sizes", "cells", "plays", "play"]
noncomputable def flds (m d:Addr):List (Str×V):=putF "cells" (.ref d) (putF "many" (.ref m) [])
structure TabAt (K:W.Frag) (H:Hp) (t:Addr) (ns:List Nat) (cont:List Nat→List V):Prop where
 ob:∃ dx m d kv,H t=some (.ins (gadr K "Table") dx (flds m d))∧H m=some (.lst (tv ns))∧H d=some (.dT kv)∧∀ q∈ordR ns.reverse,Cells H kv cont q
noncomputable def Sb (t:Addr) (H H':Hp):Prop:=∀ b o,H b=some o→b≠t→H' b=some o
noncomputable def sp_Table_init (K:W.Frag):Sp:=λ vs H Q _=>∃ t dx s c ns kvs cont,vs=[.ref t,.ref s,.ref c]∧H t=some (.ins (gadr K "Table") dx [])∧SqL K H s (tv ns)∧2≤ns.length∧Sz ns∧H c=some (.dT kvs)∧(∀ q∈ordR ns.reverse,Cells H kvs cont q)∧(∀ q∈ordR ns.reverse,(cont q).length=ns.length)∧kvs.length=(ordR ns.reverse).length ∧
 ∀ H',Sb t H H'→TabAt K H' t ns cont→Q .non H'
noncomputable def iv_Table_init (K:W.Frag) (t dx s c p m d:Addr) (ns:List Nat) (cont:List Nat→List V) (H:Hp) (xs:List V):Nat→St→Hp→Prop:=λ i σ H3=>∃ kvs o,σ=[some (.ref t),some (.ref s),some (.ref c),some (.ref p),o]∧Sb t H H3∧H3 t=some (.ins (gadr K "Table") dx (flds m d))∧H3 m=some (.lst (tv ns))∧H3 p=some (.lst xs)∧Ps H3 xs (ordR ns.reverse) ∧
 H d=none∧H3 d=some (.dT kvs)∧kvs.length≤i∧∀ q∈(ordR ns.reverse).take i,Cells H3 kvs cont q
noncomputable def t_Table_init_b1 (K:W.Frag):TS:=(sDPut (tFld K (tVar 0) "cells") (tVar 4) (tCB (cList K) (tCons (tDGet (tVar 2) (tVar 4)) tNil)))
noncomputable def t_Table_init (K:W.Frag):TS:=(tSeq (tDrop (tCall (sp_check_sizes K) [] E0 (tCons (tVar 1) tNil))) (tSeq (tAsg (tCall (sp_in_order K) [] E0 (tCons (tVar 1) tNil)) (gName 3)) (tSeq (tDrop (tCall (sp_check_cells K) [] E0 (tCons (tVar 2) (tCons (tVar 3) (tCons (tCB (cLen K) (tCons (tVar 1) tNil)) tNil))))) (tSeq (sFld K (tVar 0) (tCB (cList K) (tCons (tVar 1) tNil)) "many") (tSeq (sFld K (tVar 0) tDNewT "cells") (tFor (iList K (tVar 3)) (gName 4) (t_Table_init_b1 K)))))))
theorem len_Table_init {K vs H Q E} (h:sp_Table_init K vs H Q E):vs.length=3:=by obtain ⟨t,dx,s,c,ns,kvs,cont,rfl,_⟩:=h;rfl
theorem cm:¬ ("many" : Str)="cells":=by decide +kernel
theorem flds_many (m d:Addr):(flds m d).lookup ("many" : Str)=some (.ref m):=by
 unfold flds
 rw [lookup_putF,if_neg cm,lookup_putF,if_pos rfl]
theorem flds_cells (m d:Addr):(flds m d).lookup ("cells" : Str)=some (.ref d):=by
 unfold flds
 rw [lookup_putF,if_pos rfl]
theorem flds_no (m d:Addr) {x:Str} (h1:¬ x="cells") (h2:¬ x="many"):(flds m d).lookup x=none:=by
 unfold flds
 rw [lookup_putF,if_neg h1,lookup_putF,if_neg h2]
 all_goals rfl
theorem Sb.free {t d:Addr} {H H':Hp} (s:Sb t H H') (h:H' d=none) (n:d≠t):H d=none:=by
 cases e:H d with
 | none=>rfl
 | some o=>have:=s d o e n;rw [h] at this;cases this
theorem Sb.keepT {t C dx:Addr} {H H':Hp} {fs:List (Str×V)} (s:Sb t H H') (h:H t=some (.ins C dx fs)):KeepT H H':=λ a xs e=>s a _ e (ne_of e h (by intro z;cases z))
theorem Sb.put {t d:Addr} {H G:Hp} {o:HO} (s:Sb t H G) (h:H d=none):Sb t H (upd G d o):=λ b u e hb=>by rw [upd_ne (ne_of_none e h)];exact s b u e hb
theorem Sb.of {t:Addr} {H H':Hp} (s:Same H H'):Sb t H H':=λ b o e _=>s b o e
theorem Sb.trans {t:Addr} {H H' H'':Hp} (a:Sb t H H') (b:Sb t H' H''):Sb t H H'':=λ c o e hc=>b c o (a c o e hc) hc
theorem Sb.at {t:Addr} {H:Hp} {o:HO}:Sb t H (upd H t o):=λ b u e hb=>by rw [upd_ne hb];exact e
theorem rd_Table_init {K vs H Q E} (T:TabK K) (h:sp_Table_init K vs H Q E):t_Table_init K { nx:=λ _ H'=>Q .non H',rt:=Q } (start N_Table_init vs) H:=by
 obtain ⟨t,dx,s,c,ns,kvs,cont,rfl,ht,hS,h2,sz,hc,ok,oh,hl,q⟩:=h
 rw [show start N_Table_init [V.ref t,V.ref s,V.ref c]=[some (.ref t),some (.ref s),some (.ref c),none,none] from rfl]
 (try dsimp? [t_Table_init,tDrop,sFld,tDNewT,cList,tFor,iList];try simp_arith [t_Table_init,tDrop,sFld,tDNewT,cList,tFor,iList])
 refine ⟨s,ns,rfl,hS,h2,sz,s,ns,rfl,hS,sz,λ p xs H1 s1 hp hP ps=>?_⟩
 refine ⟨_,.inl (s1.seq hS),?_⟩
 rw [tv_len]
 refine ⟨c,p,kvs,xs,ordR ns.reverse,ns.length,cont,rfl,s1 _ _ hc,hP,ps,λ q hq=>(ok q hq).same s1,oh,hl,?_⟩
 refine ⟨_,.inl (s1.seq hS),λ m hm=>?_⟩
 have s2:Same H1 (upd H1 m (.lst (tv ns))):=Same.upd hm
 generalize e2:upd H1 m (.lst (tv ns))=H2 at s2
 have m2:H2 m=some (.lst (tv ns)):=by rw [← e2];exact upd_same
 have t2:H2 t=some (.ins (gadr K "Table") dx []):=s2 _ _ (s1 _ _ ht)
 refine ⟨_,dx,[],t2,T.cl,T.nM,by show 0<1000;decide,λ d hd=>?_⟩
 have t3:(upd H2 t (.ins (gadr K "Table") dx (putF "many" (.ref m) []))) t=some (.ins (gadr K "Table") dx (putF "many" (.ref m) [])):=upd_same
 have ntd:t≠d:=ne_of_none t3 hd
 refine ⟨_,dx,_,(by rw [upd_ne ntd];exact t3),T.cl,T.nC,by show 1<1000;decide,?_⟩
 have b1:Sb t H2 (upd (upd (upd H2 t (.ins (gadr K "Table") dx (putF "many" (.ref m) []))) d (.dT [])) t (.ins (gadr K "Table") dx (flds m d))):=(Sb.at.trans (Sb.of (Same.upd hd))).trans Sb.at
 have d5:(upd (upd (upd H2 t (.ins (gadr K "Table") dx (putF "many" (.ref m) []))) d (.dT [])) t (.ins (gadr K "Table") dx (flds m d))) d=some (.dT []):=by rw [upd_ne ntd.symm];exact upd_same
 have t5:(upd (upd (upd H2 t (.ins (gadr K "Table") dx (putF "many" (.ref m) []))) d (.dT [])) t (.ins (gadr K "Table") dx (flds m d))) t=some (.ins (gadr K "Table") dx (flds m d)):=upd_same
 have hd0:H d=none:=Sb.free ((Sb.of (s1.trans s2)).trans Sb.at) hd ntd.symm
 rw [show putF "cells" (V.ref d) (putF "many" (V.ref m) [])=flds m d from rfl]
 generalize (upd (upd (upd H2 t (.ins (gadr K "Table") dx (putF "many" (.ref m) []))) d (.dT [])) t (.ins (gadr K "Table") dx (flds m d)))=H5 at b1 d5 t5
 have b0:Sb t H H5:=(Sb.of (s1.trans s2)).trans b1
 have mt:m≠t:=ne_of m2 t2 (by intro z;cases z)
 have pt:p≠t:=ne_of (s2 _ _ hP) t2 (by intro z;cases z)
 have p5:H5 p=some (.lst xs):=b1 _ _ (s2 _ _ hP) pt
 have ps5:Ps H5 xs (ordR ns.reverse):=(ps.same s2).keep (b1.keepT t2)
 have hnp:(ordR ns.reverse).length≤216:=sz.rev.ord
 refine ⟨p,rfl,⟨_,SqL.of p5⟩,for_list (K:=K) (a:=p) (xs:=xs) (g:=gName 4) (D:={ nx:=λ _ H'=>Q .non H',rt:=Q }) (iv_Table_init K t dx s c p m d ns cont H xs) ?_ ?_ ?_ ?_⟩
 ·exact ⟨[],none,rfl,b0,t5,b1 _ _ m2 mt,p5,ps5,hd0,d5,Nat.le_refl _,λ q hq=>(by simp at hq)⟩
 ·rintro i σ G _ ⟨_,_,_,_,_,_,hp,_⟩
  exact SqL.of hp
 ·rintro i x σ G hi ⟨kv,o,rfl,b3,tG,mG,pG,psG,hd,dG,hk,okG⟩
  obtain ⟨b,a,hb,rfl,ha⟩:=psG.get hi
  have hil:i<(ordR ns.reverse).length:=(List.getElem?_eq_some_iff.mp hb).1
  obtain ⟨l,hv,hL⟩:=ok b (List.mem_of_getElem? hb)
  have cG:G c=some (.dT kvs):=b3 _ _ hc (ne_of hc ht (by intro z;cases z))
  have lG:G l=some (.lst (cont b)):=b3 _ _ hL (ne_of hL ht (by intro z;cases z))
  have aG:G a=some (.tup ((tk b).map kV)):=by rw [tv_tk];exact ha
  (try dsimp? [t_Table_init_b1,sDPut,tDGet,tFld,cList];try simp_arith [t_Table_init_b1,sDPut,tDGet,tFld,cList])
  refine ⟨_,by rw [← hv];exact DGet.t cG aG,?_⟩
  refine ⟨l,rfl,_,.inl (SqL.of lG),λ l' hl'=>?_⟩
  have s6:Same G (upd G l' (.lst (cont b))):=Same.upd hl'
  have d6:(upd G l' (.lst (cont b))) d=some (.dT kv):=s6 _ _ dG
  refine ⟨_,_,_,s6 _ _ tG,T.cl,T.nC,_,flds_cells _ _,d,rfl,_,DPut.t d6 (s6 _ _ aG) (small' (by omega)),?_⟩
  refine ⟨_,_,rfl,(b3.trans (Sb.of s6)).put hd,?_,?_,?_,?_,hd,upd_same,?_,?_⟩
  ·rw [upd_ne (ne_of (s6 _ _ tG) d6 (by intro z;cases z))];exact s6 _ _ tG
  ·rw [upd_ne (ne_of (s6 _ _ mG) d6 (by intro z;cases z))];exact s6 _ _ mG
  ·rw [upd_ne (ne_of (s6 _ _ pG) d6 (by intro z;cases z))];exact s6 _ _ pG
  ·exact (psG.same s6).keep λ b xs e=>by rw [upd_ne (ne_of e d6 (by intro z;cases z))];exact e
  ·have:=length_putK kv (tk b) (V.ref l')
   omega
  ·intro q hq
   rw [take_snoc hb] at hq
   have ne1:l'≠d:=ne_of upd_same d6 (by intro z;cases z)
   by_cases e:q=b
   ·subst e
    exact ⟨l',by rw [valV_put,if_pos rfl],by rw [upd_ne ne1];exact upd_same⟩
   ·have hq':q∈(ordR ns.reverse).take i:=by
     rcases List.mem_append.mp hq with h | h
     ·exact h
     ·exact absurd (List.mem_singleton.mp h) e
    obtain ⟨l2,hv2,hL2⟩:=okG q hq'
    exact ⟨l2,by rw [valV_put,if_neg (λ z=>e (tk_inj z))];exact hv2,by rw [upd_ne (ne_of (s6 _ _ hL2) d6 (by intro z;cases z))];exact s6 _ _ hL2⟩
 ·rintro σ G ⟨kv,o,rfl,b3,tG,mG,_,_,_,dG,_,okG⟩
  rw [show xs.length=(ordR ns.reverse).length from ps.1,List.take_length] at okG
  exact q G b3 ⟨dx,m,d,kv,tG,mG,dG,okG⟩
theorem TabAt.same {K:W.Frag} {H H':Hp} {t:Addr} {ns:List Nat} {cont:List Nat→List V} (h:TabAt K H t ns cont) (s:Same H H'):TabAt K H' t ns cont:=let ⟨dx,m,d,kv,h1,h2,h3,h4⟩:=h.ob;⟨dx,m,d,kv,s _ _ h1,s _ _ h2,s _ _ h3,λ q hq=>(h4 q hq).same s⟩
theorem TabAt.ins {K:W.Frag} {H:Hp} {t:Addr} {ns:List Nat} {cont:List Nat→List V} (h:TabAt K H t ns cont):∃ dx m d,H t=some (.ins (gadr K "Table") dx (flds m d)):=let ⟨dx,m,d,_,h1,_⟩:=h.ob;⟨dx,m,d,h1⟩
noncomputable def N_l_breaks:List PySem.Str:=["_law_cells", "_law_plan_here", "_law_plays_here", "_law_ask", "_law_hand", "_law_told", "_law_other", "_law_top", "_law_bottom", "_law_play", "_law_left", "_law_right", "_law_step", "_law_down"]
structure CeE (H:Hp) (c:Addr) (kvs:List (List Key×V)) (ns:List Nat) (cont:List Nat→List V) (un:List Nat→Nat→Int):Prop where
 at_:H c=some (.dT kvs)
 sz:Sz ns
 cel:∀ q∈ordR ns.reverse,Cells H kvs cont q
 en:∀ q∈ordR ns.reverse,∀ h,h<ns.length→∃ v,(cont q)[h]?=some v∧En H v (un q h)
theorem CeE.same {H H':Hp} {c:Addr} {kvs:List (List Key×V)} {ns:List Nat} {cont:List Nat→List V} {un:List Nat→Nat→Int} (h:CeE H c kvs ns cont un) (s:Same H H'):CeE H' c kvs ns cont un:=⟨s _ _ h.at_,h.sz,λ q hq=>(h.cel q hq).same s,λ q hq i hi=>let ⟨v,e,n⟩:=h.en q hq i hi;⟨v,e,n.keep (keepT_same s)⟩⟩
structure LbIn (H:Hp) (ca p l:Addr) (ckvs:List (List Key×V)) (ns:List Nat) (cont:List Nat→List V) (un:List Nat→Nat→Int) (kvs:List (List Key×V)) (S:Int) (wt:List Nat→Int) (xs:List V):Prop where
 ce:CeE H ca ckvs ns cont un
 pw:PlW H p kvs S (ordR ns.reverse) wt
 hl:H l=some (.lst xs)
 ps:Ps H xs (ordR ns.reverse)
theorem LbIn.same {H H':Hp} {ca p l:Addr} {ckvs:List (List Key×V)} {ns:List Nat} {cont:List Nat→List V} {un:List Nat→Nat→Int} {kvs:List (List Key×V)} {S:Int} {wt:List Nat→Int} {xs:List V} (h:LbIn H ca p l ckvs ns cont un kvs S wt xs) (s:Same H H'):LbIn H' ca p l ckvs ns cont un kvs S wt xs:=⟨h.ce.same s,h.pw.same s,s _ _ h.hl,h.ps.same s⟩
noncomputable def sp_l_breaks (K:W.Frag):Sp:=λ vs H Q _=>∃ ca p l a ckvs ns cont un kvs S wt xs h c o n,vs=[.ref ca,.ref p,.ref l,.ref a]∧LbIn H ca p l ckvs ns cont un kvs S wt xs∧H a=some (.tup (tv [h,c,o]))∧ns[h]?=some n∧c<n∧o<n∧∀ H',Same H H'→Q (.bl (gnB wt un ns [h,c,o])) H'
noncomputable def iv_l_breaks (ca p l a:Addr) (h c o:Nat) (H:Hp) (S:Int) (wt:List Nat→Int) (un:List Nat→Nat→Int) (qs:List (List Nat)):Nat→St→Hp→Prop:=λ i σ H3=>∃ T B o1 o2 o3 o4 o5,σ=[some (.ref ca),some (.ref p),some (.ref l),some (.ref a),some (.int h),some (.int c),some (.int o),some (.int T),some (.int B),o1,o2,o3,o4,o5]∧Same H H3∧T*(2520*S) = -(gl wt un (qs.take i) h c o)*B∧0<B∧BB (100*i+1) T∧BB (100*i+1) B
noncomputable def t_l_breaks_r1 (K:W.Frag):TS:=(tRet (tOp rLtI (tVar 7) (tC (.int 0))))
noncomputable def t_l_breaks_r2 (K:W.Frag):TS:=(tAsg (tOp rMulI (tVar 8) (tVar 13)) (gName 8))
noncomputable def t_l_breaks_r3 (K:W.Frag):TS:=(tSeq (tAsg (tOp rMulI (tOp rSubI (tOp rMulI (tOp (rIxT K) (tVar 10) (tC (.int 0))) (tOp (rIxT K) (tVar 11) (tC (.int 1)))) (tOp rMulI (tOp (rIxT K) (tVar 11) (tC (.int 0))) (tOp (rIxT K) (tVar 10) (tC (.int 1))))) (tOp (rIxT K) (tDGet (tVar 1) (tVar 9)) (tC (.int 0)))) (gName 12)) (tSeq (tAsg (tOp rMulI (tOp rMulI (tOp (rIxT K) (tVar 10) (tC (.int 1))) (tOp (rIxT K) (tVar 11) (tC (.int 1)))) (tOp (rIxT K) (tDGet (tVar 1) (tVar 9)) (tC (.int 1)))) (gName 13)) (tSeq (tAsg (tOp rAddI (tOp rMulI (tVar 7) (tVar 13)) (tOp rMulI (tVar 12) (tVar 8))) (gName 7)) (t_l_breaks_r2 K))))
noncomputable def t_l_breaks_r4 (K:W.Frag):TS:=(tSeq (tAsg (tOp (rIxL K) (tDGet (tVar 0) (tCall (sp_l_put K) [] E0 (tCons (tVar 9) (tCons (tVar 4) (tCons (tVar 6) tNil))))) (tVar 4)) (gName 11)) (t_l_breaks_r3 K))
noncomputable def t_l_breaks_b1 (K:W.Frag):TS:=(tIfS (tTest (tOp rEq (tOp (rIxT K) (tVar 9) (tVar 4)) (tVar 5))) (tSeq (tAsg (tOp (rIxL K) (tDGet (tVar 0) (tVar 9)) (tVar 4)) (gName 10)) (t_l_breaks_r4 K)) tNext)
noncomputable def t_l_breaks_r5 (K:W.Frag):TS:=(tSeq (tAsg (tC (.int 1)) (gName 8)) (tSeq (tFor (iList K (tVar 2)) (gName 9) (t_l_breaks_b1 K)) (t_l_breaks_r1 K)))
noncomputable def t_l_breaks (K:W.Frag):TS:=(tSeq (tAsg (tVar 3) (gTup K 3 (gCons (gName 4) (gCons (gName 5) (gCons (gName 6) gNil))))) (tSeq (tAsg (tC (.int 0)) (gName 7)) (t_l_breaks_r5 K)))
theorem len_l_breaks {K vs H Q E} (h:sp_l_breaks K vs H Q E):vs.length=4:=by obtain ⟨_,_,_,_,_,_,_,_,_,_,_,_,_,_,_,_,rfl,_⟩:=h;rfl
theorem bb9 {y:Int} (h0:0<y) (h9:y≤9):BB 4 y:=by unfold BB;omega
theorem rd_l_breaks {K vs H Q E} (h:sp_l_breaks K vs H Q E):t_l_breaks K { nx:=λ _ H'=>Q .non H',rt:=Q } (start N_l_breaks vs) H:=by
 obtain ⟨ca,p,l,a,ckvs,ns,cont,un,kvs,S,wt,xs,h,c,o,n,rfl,I,ha,hn,hc,ho,q⟩:=h
 have hl:h<ns.length:=(List.getElem?_eq_some_iff.mp hn).1
 have s0:=I.pw.s0
 rw [show start N_l_breaks [V.ref ca,V.ref p,V.ref l,V.ref a]=[some (.ref ca),some (.ref p),some (.ref l),some (.ref a),none,none,none,none,none,none,none,none,none,none] from rfl]
 (try dsimp? [t_l_breaks];try simp_arith [t_l_breaks])
 refine ⟨_,SqT.of ha,rfl,_,_,rfl,_,_,rfl,_,_,rfl,rfl,?_⟩
 (try dsimp? [t_l_breaks_r5,tFor,iList];try simp_arith [t_l_breaks_r5,tFor,iList])
 refine ⟨⟨_,SqL.of I.hl⟩,for_list (K:=K) (a:=l) (xs:=xs) (g:=gName 9) (D:={ nx:=t_l_breaks_r1 K { nx:=λ _ H'=>Q .non H',rt:=Q },rt:=Q }) (iv_l_breaks ca p l a h c o H S wt un (ordR ns.reverse)) ?_ ?_ ?_ ?_⟩
 ·exact ⟨0,1,none,none,none,none,none,rfl,Same.refl _,by rw [List.take_zero];simp [gl],by decide,by unfold BB;decide,by unfold BB;decide⟩
 ·rintro i σ H3 _ ⟨_,_,_,_,_,_,_,_,s3,_⟩
  exact SqL.of (s3 _ _ I.hl)
 ·rintro i x' σ H3 hi ⟨T,B,o1,o2,o3,o4,o5,rfl,s3,eq,b0,bT,bB⟩
  have I3:=I.same s3
  obtain ⟨b,pa,hb,rfl,hpa⟩:=I3.ps.get hi
  have bm:=List.mem_of_getElem? hb
  have bl:b.length=ns.length:=by rw [ordR_len_each _ b bm,List.length_reverse]
  have hbh:b[h]?=some b[h]:=List.getElem?_eq_getElem (by omega)
  (try dsimp? [t_l_breaks_b1,tDGet];try simp_arith [t_l_breaks_b1,tDGet])
  refine ⟨_,SqT.of hpa,_,atI_nat (tv_at hbh),rfl,?_⟩
  by_cases hm:b[h]=c
  ·rw [if_pos (by simp;omega)]
   obtain ⟨la,e1,hla⟩:=I3.ce.cel b bm
   obtain ⟨v1,f1,en1⟩:=I3.ce.en b bm h hl
   have bs:=ordR_set bm hn ho
   obtain ⟨lb,e2,hlb⟩:=I3.ce.cel _ bs
   obtain ⟨v2,f2,en2⟩:=I3.ce.en _ bs h hl
   obtain ⟨v3,e3,w3⟩:=I3.pw.w b bm
   refine ⟨.ref la,by rw [← e1];exact DGet.t I3.ce.at_ (by rw [tv_tk];exact hpa),la,rfl,_,SqL.of hla,_,atI_nat f1,?_⟩
   (try dsimp? [t_l_breaks_r4,tDGet];try simp_arith [t_l_breaks_r4,tDGet])
   refine ⟨pa,b.map (λ n:Nat=>(n:Int)),h,o,rfl,by rw [← tv_ints];exact hpa,by rw [List.length_map];omega,by rw [List.length_map];have:=I.ce.sz.len;omega,λ p4 H4 s4 h4=>?_⟩
   have I4:=I3.same s4
   have h4':H4 p4=some (.tup (tv (b.set h o))):=by rw [h4,tv_ints,List.map_set,List.map_set,List.map_set]
   refine ⟨.ref lb,by rw [← e2];exact DGet.t I4.ce.at_ (by rw [tv_tk];exact h4'),lb,rfl,_,SqL.of (s4 _ _ hlb),_,atI_nat f2,?_⟩
   obtain ⟨a1,x1,y1,rfl,h1,p1,p9,g1,b1⟩:=en1.keep (keepT_same s4)
   obtain ⟨a2,x2,y2,rfl,h2,p2,p8,g2,b2⟩:=en2.keep (keepT_same s4)
   obtain ⟨a3,x3,y3,rfl,h3,p3,g3,b3,c3⟩:=w3.keep (keepT_same s4)
   have dg:DGet H4 p (.ref pa) (some (.ref a3)):=by rw [← e3];exact DGet.t I4.pw.at_ (by rw [tv_tk];exact s4 _ _ hpa)
   have y1b:=bb9 p1 p9
   have y2b:=bb9 p2 p8
   have bst:BB 85 ((x1*y2 - x2*y1)*x3):=((b1.mul y2b).sub (b2.mul y1b)).mul b3
   have bdn:BB 48 (y1*y2*y3):=(y1b.mul y2b).mul c3
   (try dsimp? [t_l_breaks_r3,t_l_breaks_r2,tDGet];try simp_arith [t_l_breaks_r3,t_l_breaks_r2,tDGet])
   refine ⟨_,SqT.of h1,_,atI0,_,SqT.of h2,_,atI1,_,rfl,_,rfl,.b b1 y2b,_,SqT.of h2,_,atI0,_,SqT.of h1,_,atI1,_,rfl,_,rfl,.b b2 y1b,?_⟩
   have hil:i<(ordR ns.reverse).length:=(List.getElem?_eq_some_iff.mp hb).1
   have hi2:=I.ce.sz.rev.ord
   refine ⟨.ref a3,dg,a3,rfl,_,SqT.of h3,_,atI0,_,rfl,.b ((b1.mul y2b).sub (b2.mul y1b)) b3,_,SqT.of h1,_,atI1,_,SqT.of h2,_,atI1,_,rfl,_,rfl,.b y1b y2b,.ref a3,dg,a3,rfl,_,SqT.of h3,_,atI1,_,rfl,.b (y1b.mul y2b) c3,⟨_,_,by omega,.inl ⟨bT,bdn⟩⟩,⟨_,_,by omega,.inl ⟨bst,bB⟩⟩,⟨_,_,by omega,.inl ⟨bB,bdn⟩⟩,?_⟩
   refine ⟨_,_,_,_,_,_,_,rfl,s3.trans s4,?_,Int.mul_pos b0 (Int.mul_pos (Int.mul_pos p1 p2) p3),?_,(bB.mul bdn).mono (by omega)⟩
   ·rw [gl_snoc hb,if_pos (by rw [hbh,hm])]
    exact brk_step eq g1 g2 g3
   ·exact (((bT.mul bdn).mono (n:=100*i+86) (by omega)).add ((bst.mul bB).mono (by omega))).mono (by omega)
  ·rw [if_neg (by simp;omega)]
   refine ⟨T,B,_,_,_,_,_,rfl,s3,?_,b0,bT.mono (by omega),bB.mono (by omega)⟩
   rw [gl_snoc hb,if_neg (by rw [hbh];simpa using hm)]
   exact eq
 ·rintro σ H3 ⟨T,B,o1,o2,o3,o4,o5,rfl,s3,eq,b0,bT,bB⟩
  rw [I.ps.1,List.take_length,gl_eq hn hc] at eq
  (try dsimp? [t_l_breaks_r1];try simp_arith [t_l_breaks_r1])
  have e:decide (T<0)=gnB wt un ns [h,c,o]:=decide_eq_decide.mpr (brk_sign eq s0 b0)
  rw [e]
  exact q _ s3
noncomputable def N_l_due:List PySem.Str:=["_law_sizes", "_law_cells", "_law_plan_here", "_law_plays_here", "_law_hand", "_law_told", "_law_other", "_law_ask"]
noncomputable def sp_l_due (K:W.Frag):Sp:=λ vs H Q _=>∃ s ca p l ckvs ns cont un kvs S wt xs,vs=[.ref s,.ref ca,.ref p,.ref l]∧H s=some (.lst (tv ns))∧LbIn H ca p l ckvs ns cont un kvs S wt xs∧∀ v H',Same H H'→BrV H' v ((brsF ns ns.length).find? (gnB wt un ns))→Q v H'
noncomputable def iv_l_due (s ca p l:Addr) (H:Hp) (ns:List Nat) (f:List Nat→Bool):Nat→St→Hp→Prop:=λ i σ H3=>∃ o1 o2 o3 o4,σ=[some (.ref s),some (.ref ca),some (.ref p),some (.ref l),o1,o2,o3,o4]∧Same H H3∧(brsF ns i).find? f=none
noncomputable def iv_l_due2 (s ca p l:Addr) (H:Hp) (ns:List Nat) (f:List Nat→Bool) (h n:Nat):Nat→St→Hp→Prop:=λ c σ H3=>∃ o2 o3 o4,σ=[some (.ref s),some (.ref ca),some (.ref p),some (.ref l),some (.int h),o2,o3,o4]∧Same H H3∧(brP ns h n c 0).find? f=none
noncomputable def iv_l_due3 (s ca p l:Addr) (H:Hp) (ns:List Nat) (f:List Nat→Bool) (h n c:Nat):Nat→St→Hp→Prop:=λ k σ H3=>∃ o3 o4,σ=[some (.ref s),some (.ref ca),some (.ref p),some (.ref l),some (.int h),some (.int c),o3,o4]∧Same H H3∧(brP ns h n c k).find? f=none
noncomputable def t_l_due_r1 (K:W.Frag):TS:=(tRet (tC .non))
noncomputable def t_l_due_b1 (K:W.Frag):TS:=(tSeq (tAsg (tTup (tCons (tVar 4) (tCons (tVar 5) (tCons (tVar 6) tNil)))) (gName 7)) (tIfS (tAnd (tTest (tOp rNe (tVar 6) (tVar 5))) (tB (tCall (sp_l_breaks K) [] E0 (tCons (tVar 1) (tCons (tVar 2) (tCons (tVar 3) (tCons (tVar 7) tNil))))))) (tRet (tVar 7)) tNext))
noncomputable def t_l_due_b2 (K:W.Frag):TS:=(tFor (iRng1 (tCons (tOp (rIxL K) (tVar 0) (tVar 4)) tNil)) (gName 6) (t_l_due_b1 K))
noncomputable def t_l_due_b3 (K:W.Frag):TS:=(tFor (iRng1 (tCons (tOp (rIxL K) (tVar 0) (tVar 4)) tNil)) (gName 5) (t_l_due_b2 K))
noncomputable def t_l_due (K:W.Frag):TS:=(tSeq (tFor (iRng1 (tCons (tCB (cLen K) (tCons (tVar 0) tNil)) tNil)) (gName 4) (t_l_due_b3 K)) (t_l_due_r1 K))
theorem len_l_due {K vs H Q E} (h:sp_l_due K vs H Q E):vs.length=4:=by obtain ⟨_,_,_,_,_,_,_,_,_,_,_,_,rfl,_⟩:=h;rfl
theorem brP_snoc {ns:List Nat} {h n c k:Nat}:brP ns h n c (k+1)=brP ns h n c k++(if k=c then [] else [[h,c,k]]):=by
 unfold brP
 rw [List.range_succ,List.filter_append,List.map_append]
 by_cases e:k=c
 ·rw [if_pos e]
  simp [e]
 ·rw [if_neg e]
  simp [e,List.append_assoc]
theorem brP_next {ns:List Nat} {h n c:Nat}:brP ns h n (c+1) 0=brP ns h n c n:=by
 unfold brP
 rw [List.range_zero,List.filter_nil,List.map_nil,List.append_nil,List.range_succ,List.flatMap_append,List.flatMap_cons,List.flatMap_nil,List.append_nil]
 rfl
theorem brP_last {ns:List Nat} {h n:Nat} (hn:ns[h]?=some n):brP ns h n n 0=brsF ns (h+1):=by
 have e:ns.getD h 0=n:=by rw [List.getD_eq_getElem?_getD,hn];rfl
 unfold brP brsF
 rw [List.range_zero,List.filter_nil,List.map_nil,List.append_nil,List.range_succ,List.flatMap_append,List.flatMap_cons,List.flatMap_nil,List.append_nil,e]
 rfl
theorem brP_zero {ns:List Nat} {h n:Nat}:brP ns h n 0 0=brsF ns h:=by
 unfold brP
 rw [List.range_zero,List.filter_nil,List.map_nil,List.flatMap_nil,List.append_nil,List.append_nil]
theorem rd_l_due {K vs H Q E} (h:sp_l_due K vs H Q E):t_l_due K { nx:=λ _ H'=>Q .non H',rt:=Q } (start N_l_due vs) H:=by
 obtain ⟨s,ca,p,l,ckvs,ns,cont,un,kvs,S,wt,xs,rfl,hs,I,q⟩:=h
 have n3:=I.ce.sz.len
 rw [show start N_l_due [V.ref s,V.ref ca,V.ref p,V.ref l]=[some (.ref s),some (.ref ca),some (.ref p),some (.ref l),none,none,none,none] from rfl]
 (try dsimp? [t_l_due,tFor,iRng1];try simp_arith [t_l_due,tFor,iRng1])
 refine ⟨_,.inl (SqL.of hs),?_⟩
 rw [tv_len]
 refine ⟨by omega,by omega,for_range (lo:=0) (n:=ns.length) (g:=gName 4) (D:={ nx:=t_l_due_r1 K { nx:=λ _ H'=>Q .non H',rt:=Q },rt:=Q }) (iv_l_due s ca p l H ns (gnB wt un ns)) ?_ ?_ ?_⟩
 ·exact ⟨none,none,none,none,rfl,Same.refl _,rfl⟩
 ·rintro h σ H3 hh ⟨o1,o2,o3,o4,rfl,s3,hf⟩
  have hn:ns[h]?=some ns[h]:=List.getElem?_eq_getElem hh
  have n6:=I.ce.sz.le ns[h] (List.getElem_mem hh)
  generalize ns[h]=n at hn n6
  have hx:∀ {H4:Hp},Same H H4→atI (tv ns) ((0:Int)+(h:Nat))=some (.int (n:Nat)):=λ _=>by rw [Int.zero_add];exact atI_nat (tv_at hn)
  (try dsimp? [t_l_due_b3,tFor,iRng1];try simp_arith [t_l_due_b3,tFor,iRng1])
  refine ⟨_,SqL.of (s3 _ _ hs),_,hx s3,_,rfl,by omega,by omega,for_range (lo:=0) (n:=n) (g:=gName 5) (D:={ nx:=iv_l_due s ca p l H ns (gnB wt un ns) (h+1),rt:=Q,ct:=iv_l_due s ca p l H ns (gnB wt un ns) (h+1),bk:=t_l_due_r1 K { nx:=λ _ H'=>Q .non H',rt:=Q } }) (iv_l_due2 s ca p l H ns (gnB wt un ns) h n) ?_ ?_ ?_⟩
  ·exact ⟨_,_,_,by rw [Int.zero_add],s3,by rw [brP_zero];exact hf⟩
  ·rintro c σ H4 hc ⟨o2,o3,o4,rfl,s4,hf4⟩
   (try dsimp? [t_l_due_b2,tFor,iRng1];try simp_arith [t_l_due_b2,tFor,iRng1])
   refine ⟨_,SqL.of (s4 _ _ hs),_,atI_nat (tv_at hn),_,rfl,by omega,by omega,for_range (lo:=0) (n:=n) (g:=gName 6) (D:={ nx:=iv_l_due2 s ca p l H ns (gnB wt un ns) h n (c+1),rt:=Q,ct:=iv_l_due2 s ca p l H ns (gnB wt un ns) h n (c+1),bk:=iv_l_due s ca p l H ns (gnB wt un ns) (h+1) }) (iv_l_due3 s ca p l H ns (gnB wt un ns) h n c) ?_ ?_ ?_⟩
   ·exact ⟨_,_,by rw [Int.zero_add],s4,hf4⟩
   ·rintro k σ H5 hk ⟨o3,o4,rfl,s5,hf5⟩
    (try dsimp? [t_l_due_b1];try simp_arith [t_l_due_b1,Int.zero_add])
    refine ⟨sz3,λ a ha=>?_⟩
    have s6:Same H5 (upd H5 a (.tup [.int h,.int c,.int k])):=Same.upd ha
    have s06:=s5.trans s6
    by_cases e:k=c
    ·subst e
     simp only [decide_true,Bool.not_true,Bool.false_eq_true,if_false]
     refine ⟨_,_,rfl,s06,?_⟩
     rw [brP_snoc,if_pos rfl,List.append_nil];exact hf5
    ·have e':¬ ((k:Nat):Int)=(c:Nat):=by omega
     simp only [e',decide_false,Bool.not_false,if_true]
     refine ⟨ca,p,l,a,ckvs,ns,cont,un,kvs,S,wt,xs,h,c,k,n,rfl,I.same s06,upd_same,hn,hc,hk,λ H7 s7=>⟨_,rfl,?_⟩⟩
     have sn:brP ns h n c (k+1)=brP ns h n c k++[[h,c,k]]:=by rw [brP_snoc,if_neg e]
     cases g:gnB wt un ns [h,c,k] with
     | true =>
      refine iteT (q _ _ (s06.trans s7) ?_)
      have:(brP ns h n c (k+1)).find? (gnB wt un ns)=some [h,c,k]:=by rw [sn,List.find?_append,hf5,List.find?_cons,g];rfl
      rw [find_pre (brP_pre hn hc (by omega)) this]
      exact ⟨a,rfl,rfl,s7 _ _ upd_same⟩
     | false =>
      refine iteF ⟨_,_,rfl,s06.trans s7,?_⟩
      rw [sn,List.find?_append,hf5,List.find?_cons,g];rfl
   ·rintro σ H5 ⟨o3,o4,rfl,s5,hf5⟩
    exact ⟨_,_,_,rfl,s5,by rw [brP_next];exact hf5⟩
  ·rintro σ H4 ⟨o2,o3,o4,rfl,s4,hf4⟩
   exact ⟨_,_,_,_,rfl,s4,by rw [← brP_last hn];exact hf4⟩
 ·rintro σ H3 ⟨o1,o2,o3,o4,rfl,s3,hf⟩
  (try dsimp? [t_l_due_r1];try simp_arith [t_l_due_r1])
  refine q _ _ s3 ?_
  rw [hf]
  rfl
noncomputable def N_l_whole:List PySem.Str:=["_law_found"]
noncomputable def sp_l_whole (_:W.Frag):Sp:=λ vs H Q _=>∃ i,vs=[.int i]∧Q (.bl true) H
noncomputable def t_l_whole (K:W.Frag):TS:=(tRet (tAndV (tCB cIsB (tCons (tVar 0) (tCons (tC (.ty "int")) tNil))) (tNotV (tCB cIsB (tCons (tVar 0) (tCons (tC (.ty "bool")) tNil))))))
theorem len_l_whole {K vs H Q E} (h:sp_l_whole K vs H Q E):vs.length=1:=by obtain ⟨a,rfl,_⟩:=h;rfl
theorem rd_l_whole {K vs H Q E} (h:sp_l_whole K vs H Q E):t_l_whole K { nx:=λ _ H'=>Q .non H',rt:=Q } (start N_l_whole vs) H:=by
 obtain ⟨i,rfl,q⟩:=h
 rw [show start N_l_whole [V.int i]=[some (.int i)] from rfl]
 (try dsimp only [t_l_whole,tVar,tC,tRet,tCons,tNil,tCB,cIsB,tAndV,tNotV,Lq0,exI_lit,exB_lit,exR_lit];try simp only [t_l_whole,tVar,tC,tRet,tCons,tNil,tCB,cIsB,tAndV,tNotV,Lq0,Option.some.injEq,exists_eq_left',V.bl.injEq,V.ty.injEq,List.cons.injEq,and_true,exists_and_left,and_assoc,exists_eq_left,V.int.injEq,V.ref.injEq,true_and,exI_lit,exB_lit,exR_lit,exI_ex,exB_ex,exR_ex])
 exact ⟨true,.inl ⟨rfl,rfl⟩,iteT ⟨false,.inr ⟨rfl,rfl⟩,q⟩⟩
noncomputable def N_l_same:List PySem.Str:=["_law_found", "_law_due_here"]
noncomputable def sp_l_same (_:W.Frag):Sp:=λ vs H Q _=>∃ v w o,vs=[v,w]∧BrV H v o∧BrV H w o∧∀ H',Same H H'→Q (.bl true) H'
noncomputable def t_l_same_c1 (K:W.Frag):TE:=(tVar 0)
noncomputable def t_l_same_r1 (K:W.Frag):TS:=(tRet (tOp rEq (tCB (cLen K) (tCons (tCompI (iTup K (tVar 0)) [] (tB (tCall (sp_l_whole K) [] E0 (tCons (tVar 0) tNil))) (t_l_same_c1 K)) tNil)) (tC (.int 3))))
noncomputable def t_l_same_r2 (K:W.Frag):TS:=(tSeq (tIfS (tOr (tNot (tB (tCB cIsB2 (tCons (tVar 0) (tCons (tC (.ty "tuple")) tNil))))) (tTest (tOp (rNeD K 0) (tVar 0) (tVar 1)))) (tRet (tC (.bl false))) tNext) (t_l_same_r1 K))
noncomputable def t_l_same (K:W.Frag):TS:=(tSeq (tIfS (tTest (tOp rIsN (tVar 1) (tC .non))) (tRet (tOp rIsN (tVar 0) (tC .non))) tNext) (t_l_same_r2 K))
theorem len_l_same {K vs H Q E} (h:sp_l_same K vs H Q E):vs.length=2:=by obtain ⟨_,_,_,rfl,_⟩:=h;rfl
theorem rd_l_same {K vs H Q E} (h:sp_l_same K vs H Q E):t_l_same K { nx:=λ _ H'=>Q .non H',rt:=Q } (start N_l_same vs) H:=by
 obtain ⟨v,w,o,rfl,h1,h2,q⟩:=h
 rw [show start N_l_same [v,w]=[some v,some w] from rfl]
 (try dsimp? [t_l_same,rIsN];try simp_arith [t_l_same,rIsN])
 cases o with
 | none =>
  cases (show v=.non from h1)
  cases (show w=.non from h2)
  simp only [decide_true,if_true]
  exact q _ (Same.refl _)
 | some b =>
  obtain ⟨a,rfl,bl,ha⟩:=h1
  obtain ⟨c,rfl,_,hc⟩:=h2
  have hn:¬ V.ref c=V.non:=λ e=>by cases e
  simp only [hn,decide_false,Bool.false_eq_true,if_false]
  (try dsimp? [t_l_same_r2,rNeD,cIsB2];try simp_arith [t_l_same_r2,rNeD,cIsB2])
  refine ⟨true,.inl ⟨rfl,rfl,_,ha⟩,iteF ⟨_,req_tup (by rw [← tv_ints];exact SqT.of ha) (by rw [← tv_ints];exact SqT.of hc),?_⟩⟩
  rw [decide_eq_true rfl]
  refine iteF ?_
  (try dsimp? [t_l_same_r1,tCompI,iTup];try simp_arith [t_l_same_r1,tCompI,iTup,sp_l_whole])
  refine ⟨⟨_,SqT.of ha⟩,comp_tupI (K:=K) (a:=a) (xs:=tv b) (λ i zs H5=>H5=H∧zs.length=i) (small (by rw [tv_len];omega)) ⟨rfl,rfl⟩ ?_ ?_ ?_⟩
  ·rintro i ys H5 _ ⟨rfl,_⟩
   exact SqT.of ha
  ·rintro i x ys H5 hi _ ⟨rfl,hl⟩
   obtain ⟨m,_,rfl⟩:=tv_get hi
   (try dsimp? [caught,List.map_nil,t_l_same_c1];try simp_arith [caught,List.map_nil,sp_l_whole,t_l_same_c1])
   rw [if_pos trivial,List.length_append,hl]
   rfl
  ·rintro ys H5 ⟨rfl,hl⟩ p hp
   refine ⟨_,.inl (SqL.of upd_same),?_⟩
   rw [hl,tv_len,bl]
   exact q _ (Same.upd hp)
noncomputable def N_Table_plays:List PySem.Str:=["self"]
noncomputable def sp_Table_plays (K:W.Frag):Sp:=λ vs H Q _=>∃ t ns cont,vs=[.ref t]∧TabAt K H t ns cont∧Sz ns∧∀ p xs H',Same H H'→H p=none→H' p=some (.lst xs)→Ps H' xs (ordR ns.reverse)→Q (.ref p) H'
noncomputable def t_Table_plays (K:W.Frag):TS:=(tRet (tCall (sp_in_order K) [] E0 (tCons (tFld K (tVar 0) "many") tNil)))
theorem len_Table_plays {K vs H Q E} (h:sp_Table_plays K vs H Q E):vs.length=1:=by obtain ⟨t,ns,cont,rfl,_⟩:=h;rfl
theorem rd_Table_plays {K vs H Q E} (T:TabK K) (h:sp_Table_plays K vs H Q E):t_Table_plays K { nx:=λ _ H'=>Q .non H',rt:=Q } (start N_Table_plays vs) H:=by
 obtain ⟨t,ns,cont,rfl,⟨dx,m,d,kv,ht,hm,_⟩,sz,q⟩:=h
 rw [show start N_Table_plays [V.ref t]=[some (.ref t)] from rfl]
 (try dsimp? [t_Table_plays,tFld];try simp_arith [t_Table_plays,tFld])
 exact ⟨_,_,_,ht,T.cl,T.nM,_,flds_many _ _,m,ns,rfl,SqL.of hm,sz,q⟩
noncomputable def N_below:List PySem.Str:=["one", "other"]
noncomputable def sp_below (K:W.Frag):Sp:=λ vs H Q _=>∃ p q a b c d,vs=[.ref p,.ref q]∧Two K H p q a b c d∧Q (.bl (decide (a*d<c*b))) H
noncomputable def t_below (K:W.Frag):TS:=(tRet (tOp rLtI (tOp rMulI (tOp (rIxT K) (tVar 0) (tC (.int 0))) (tOp (rIxT K) (tVar 1) (tC (.int 1)))) (tOp rMulI (tOp (rIxT K) (tVar 1) (tC (.int 0))) (tOp (rIxT K) (tVar 0) (tC (.int 1))))))
theorem len_below {K vs H Q E} (h:sp_below K vs H Q E):vs.length=2:=by obtain ⟨p,q,a,b,c,d,rfl,_⟩:=h;rfl
theorem rd_below {K vs H Q E} (h:sp_below K vs H Q E):t_below K { nx:=λ _ H'=>Q .non H',rt:=Q } (start N_below vs) H:=by
 obtain ⟨p,q,a,b,c,d,rfl,⟨hp,hq,ba,bb,bc,bd,b0,d0⟩,k⟩:=h
 rw [show start N_below [V.ref p,V.ref q]=[some (.ref p),some (.ref q)] from rfl]
 (dsimp! [t_below,tVar,tC,tOp,rI0,rI,rMulI,rLtI,tRet,rIxT])
 exact ⟨_,hp,_,atI0,_,hq,_,atI1,_,rfl,_,rfl,.b ba bd,_,hq,_,atI0,_,hp,_,atI1,_,rfl,_,rfl,.b bc bb,k⟩
noncomputable def N_divisor:List PySem.Str:=["one", "other", "great", "small", "left"]
noncomputable def sp_divisor (_:W.Frag):Sp:=λ vs H Q _=>∃ a b,vs=[.int a,.int b]∧Q (.int (Int.gcd a b:Nat)) H
noncomputable def t_divisor_b1 (K:W.Frag):TS:=(tSeq (tAsg (tOp rModI (tVar 2) (tVar 3)) (gName 4)) (tSeq (tAsg (tVar 3) (gName 2)) (tAsg (tVar 4) (gName 3))))
noncomputable def t_divisor (K:W.Frag):TS:=(tSeq (tAsg (tCB cAbs (tCons (tVar 0) tNil)) (gName 2)) (tSeq (tAsg (tCB cAbs (tCons (tVar 1) tNil)) (gName 3)) (tSeq (tWhile (tTest (tOp rNe (tVar 3) (tC (.int 0)))) (t_divisor_b1 K)) (tRet (tVar 2)))))
theorem len_divisor {K vs H Q E} (h:sp_divisor K vs H Q E):vs.length=2:=by obtain ⟨a,b,rfl,_⟩:=h;rfl
theorem rd_divisor {K vs H Q E} (h:sp_divisor K vs H Q E):t_divisor K { nx:=λ _ H'=>Q .non H',rt:=Q } (start N_divisor vs) H:=by
 obtain ⟨a,b,rfl,k⟩:=h
 rw [show start N_divisor [V.int a,V.int b]=[some (.int a),some (.int b),none,none,none] from rfl]
 (dsimp! [t_divisor,tSeq,tAsg,gName,tVar,tCons,tNil,tCB,cAbs,abs_eq])
 refine while_by (λ σ H'=>H'=H∧∃ g s l,σ=[some (.int a),some (.int b),some (.int g),some (.int s),l]∧0≤g∧0≤s∧Int.gcd g s=Int.gcd a b) (λ σ _=>(intO (σ.getD 3 none)).toNat) ?_ ?_ ?_
 ·exact ⟨rfl,_,_,_,rfl,by omega,by omega,by simp [Int.gcd]⟩
 ·rintro σ H' ⟨rfl,g,s,l,rfl,hg,hs,e⟩
  (dsimp! [t_divisor_b1,tSeq,tAsg,gName,tVar,tC,tOp,rI,rModI,rNe,scal_ii,tRet,tTest])
  by_cases h0:s=0
  ·subst h0
   simp only [decide_true,Bool.not_true,Option.some.injEq,exists_eq_left',exists_eq_left,V.int.injEq,V.ref.injEq,V.bl.injEq,List.cons.injEq,and_true,true_and,exists_and_left,and_assoc,exI_lit,exB_lit,exR_lit,exI_ex,exB_ex,exR_ex]
   rw [← e,Int.gcd_zero_right] at k
   have:((g.natAbs:Nat):Int)=g:=by omega
   rw [this] at k
   simpa using k
  ·have hp:0<s:=by omega
   have h1:=Int.emod_nonneg g h0
   have h2:=Int.emod_lt_of_pos g hp
   simp [h0,hp,h1,hs]
   refine ⟨?_,?_⟩
   ·rw [← e,Int.gcd_comm g s,Int.emod_def,Int.gcd_sub_mul_left_right]
   ·show max (g % s) 0<s
    omega
 ·intro σ H' Q1 Q2 im h
  dsimp only [tTest,tOp,tC,rNe] at h ⊢
  first
  | (obtain ⟨v,hv,hs,q⟩:=tVar_el h
     exact tVar_in hv ⟨hs,im _ _ q⟩)
  | (obtain ⟨v,hv,hs,b,hb,q⟩:=tVar_el h
     exact tVar_in hv ⟨hs,b,hb,im _ _ q⟩)
noncomputable def N_ratio:List PySem.Str:=["top", "bottom", "shared"]
noncomputable def sp_ratio (_:W.Frag):Sp:=λ vs H Q _=>∃ t b,vs=[.int t,.int b]∧b≠0∧BB 9000 b∧∀ x y p H',Same H H'→H' p=some (.tup [.int x,.int y])→Lo t b x y→Q (.ref p) H'
noncomputable def t_ratio (K:W.Frag):TS:=(tSeq (tIfS (tTest (tOp rEq (tVar 1) (tC (.int 0)))) tNever tNext) (tSeq (tAsg (tCall (sp_divisor K) [] E0 (tCons (tVar 0) (tCons (tVar 1) tNil))) (gName 2)) (tSeq (tIfS (tTest (tOp rLtI (tVar 1) (tC (.int 0)))) (tAsg (tUn rNegI (tVar 2)) (gName 2)) tNext) (tRet (tTup (tCons (tOp rDivI (tVar 0) (tVar 2)) (tCons (tOp rDivI (tVar 1) (tVar 2)) tNil)))))))
theorem len_ratio {K vs H Q E} (h:sp_ratio K vs H Q E):vs.length=2:=by obtain ⟨a,b,rfl,_⟩:=h;rfl
theorem rd_ratio {K vs H Q E} (h:sp_ratio K vs H Q E):t_ratio K { nx:=λ _ H'=>Q .non H',rt:=Q } (start N_ratio vs) H:=by
 obtain ⟨t,b,rfl,hb,bb,q⟩:=h
 rw [show start N_ratio [V.int t,V.int b]=[some (.int t),some (.int b),none] from rfl]
 (try dsimp only [t_ratio,tSeq,tAsg,gName,tVar,tC,tOp,tUn,rI0,rI,rU,rDivI,rNegI,rLtI,rEq,scal_ii,tRet,tIfS,tTest,tNext,tCall,tCons,tNil,tTup,tNever,Lq0,Lq1,Ls0,Ls1,exI_lit,exB_lit,exR_lit];try simp only [t_ratio,tSeq,tAsg,gName,tVar,tC,tOp,tUn,rI0,rI,rU,rDivI,rNegI,rLtI,rEq,scal_ii,tRet,tIfS,tTest,tNext,tCall,tCons,tNil,tTup,tNever,Lq0,Lq1,Ls0,Ls1,Option.some.injEq,exists_eq_left',V.int.injEq,V.bl.injEq,List.cons.injEq,and_true,true_and,List.append_nil,exists_and_left,decide_eq_true_eq,and_assoc,sp_divisor,exists_eq_left,V.ref.injEq,exI_lit,exB_lit,exR_lit,exI_ex,exB_ex,exR_ex])
 rw [if_neg hb]
 have bg:=bb.gcd (i:=t) hb
 have g0:0<Int.gcd t b:=Int.gcd_pos_of_ne_zero_right _ hb
 refine ite2 (λ hn=>?_) (λ hn=>?_)
 ·refine ⟨⟨by omega,bg.neg⟩,⟨by omega,bg.neg⟩,sz2,λ p hp=>q _ _ p _ (Same.upd hp) upd_same (lo_neg hn)⟩
 ·refine ⟨⟨by omega,bg⟩,⟨by omega,bg⟩,sz2,λ p hp=>q _ _ p _ (Same.upd hp) upd_same (lo_pos (by omega))⟩
noncomputable def N_plus:List PySem.Str:=["one", "other"]
noncomputable def sp_plus (K:W.Frag):Sp:=λ vs H Q _=>∃ p q a b c d,vs=[.ref p,.ref q]∧Two K H p q a b c d∧∀ x y r H',Same H H'→H' r=some (.tup [.int x,.int y])→Lo (a*d+c*b) (b*d) x y→Q (.ref r) H'
noncomputable def t_plus (K:W.Frag):TS:=(tRet (tCall (sp_ratio K) [] E0 (tCons (tOp rAddI (tOp rMulI (tOp (rIxT K) (tVar 0) (tC (.int 0))) (tOp (rIxT K) (tVar 1) (tC (.int 1)))) (tOp rMulI (tOp (rIxT K) (tVar 1) (tC (.int 0))) (tOp (rIxT K) (tVar 0) (tC (.int 1))))) (tCons (tOp rMulI (tOp (rIxT K) (tVar 0) (tC (.int 1))) (tOp (rIxT K) (tVar 1) (tC (.int 1)))) tNil))))
theorem len_plus {K vs H Q E} (h:sp_plus K vs H Q E):vs.length=2:=by obtain ⟨p,q,a,b,c,d,rfl,_⟩:=h;rfl
theorem rd_plus {K vs H Q E} (h:sp_plus K vs H Q E):t_plus K { nx:=λ _ H'=>Q .non H',rt:=Q } (start N_plus vs) H:=by
 obtain ⟨p,q,a,b,c,d,rfl,⟨hp,hq,ba,bb,bc,bd,b0,d0⟩,k⟩:=h
 rw [show start N_plus [V.ref p,V.ref q]=[some (.ref p),some (.ref q)] from rfl]
 (try dsimp? [t_plus];try simp_arith [t_plus])
 refine ⟨_,hp,_,atI0,_,hq,_,atI1,_,rfl,_,rfl,.b ba bd,_,hq,_,atI0,_,hp,_,atI1,_,rfl,_,rfl,.b bc bb,_,hp,_,atI1,_,hq,_,atI1,_,rfl,_,rfl,.b bb bd,?_⟩
 have z:0<b*d:=Int.mul_pos b0 d0
 exact ⟨_,_,rfl,by omega,(bb.mul bd).mono (by decide),k⟩
noncomputable def N_summed:List PySem.Str:=["fractions", "total", "fraction"]
noncomputable def sp_summed (K:W.Frag):Sp:=λ vs H Q _=>∃ l xs S ms,vs=[.ref l]∧SqL K H l xs∧WtL H xs S ms∧0<S∧BB 20 S∧ms.length≤60∧∀ x y p H',Same H H'→H' p=some (.tup [.int x,.int y])→Lo ms.sum S x y→Q (.ref p) H'
noncomputable def iv_summed (l:Addr) (H0:Hp) (S:Int) (ms:List Int):Nat→St→Hp→Prop:=λ i σ H3=>∃ t X Y o,σ=[some (.ref l),some (.ref t),o]∧Same H0 H3∧H3 t=some (.tup [.int X,.int Y])∧Lo (ms.take i).sum S X Y
noncomputable def t_summed_b1 (K:W.Frag):TS:=(tAsg (tCall (sp_plus K) [] E0 (tCons (tVar 1) (tCons (tVar 2) tNil))) (gName 1))
noncomputable def t_summed (K:W.Frag):TS:=(tSeq (tAsg (tTup (tCons (tC (.int 0)) (tCons (tC (.int 1)) tNil))) (gName 1)) (tSeq (tFor (iList K (tVar 0)) (gName 2) (t_summed_b1 K)) (tRet (tVar 1))))
theorem len_summed {K vs H Q E} (h:sp_summed K vs H Q E):vs.length=1:=by obtain ⟨_,_,_,_,rfl,_⟩:=h;rfl
theorem WtL.bbs {H:Hp} {xs:List V} {S:Int} {ms:List Int} (w:WtL H xs S ms) (hS:BB 20 S):∀ m∈ms,BB 60 m:=λ m hm=>by
 obtain ⟨i,hi⟩:=List.getElem?_of_mem hm
 have hl:i<xs.length:=by rw [w.1];exact (List.getElem?_eq_some_iff.mp hi).1
 obtain ⟨m',e,z⟩:=w.2 i _ (List.getElem?_eq_getElem hl)
 rw [hi] at e;cases e
 exact z.bb hS
theorem rd_summed {K vs H Q E} (h:sp_summed K vs H Q E):t_summed K { nx:=λ _ H'=>Q .non H',rt:=Q } (start N_summed vs) H:=by
 obtain ⟨l,xs,S,ms,rfl,hl,w,s0,bS,hn,q⟩:=h
 have bm:=bb_sums (w.bbs bS)
 rw [show start N_summed [V.ref l]=[some (.ref l),none,none] from rfl]
 (try dsimp? [t_summed,tFor,iList];try simp_arith [t_summed,tFor,iList])
 refine ⟨sz2,λ t ht=>⟨⟨_,(Same.upd ht).seq hl⟩,for_list (K:=K) (a:=l) (xs:=xs) (g:=gName 2) (D:={ nx:=tRet (tVar 1) { nx:=λ _ H'=>Q .non H',rt:=Q },rt:=Q }) (iv_summed l H S ms) ?_ ?_ ?_ ?_⟩⟩
 ·exact ⟨t,0,1,none,rfl,Same.upd ht,upd_same,lo_mk s0 (by decide) (by decide) (by simp)⟩
 ·rintro i σ H3 _ ⟨_,_,_,_,_,s3,_⟩
  exact s3.seq hl
 ·rintro i x σ H3 hi ⟨t,X,Y,o,rfl,s3,hT,lo⟩
  obtain ⟨m,em,a,c,d,rfl,ha,d0,ew,bc,bd⟩:=(w.keep (keepT_same s3)).2 i x hi
  have hlt:i<ms.length:=(List.getElem?_eq_some_iff.mp em).1
  (try dsimp? [t_summed_b1];try simp_arith [t_summed_b1])
  refine ⟨_,_,_,_,_,_,rfl,⟨SqT.of hT,SqT.of ha,((bm i).of_le lo.bx).mono (by omega),(bS.of_le lo.by_).mono (by decide),bc.mono (by decide),bd.mono (by decide),lo.pos,d0⟩,λ X' Y' r H4 s4 hr l2=>?_⟩
  refine ⟨r,X',Y',_,rfl,s3.trans s4,hr,?_⟩
  rw [sum_snoc em]
  exact lo_plus lo.eq ew lo.pos d0 s0 l2
 ·rintro σ H3 ⟨t,X,Y,o,rfl,s3,hT,lo⟩
  (dsimp! [tVar,tC,tOp,rI0,rNe,scal_ii,tRet,tTest])
  rw [w.1,List.take_length] at lo
  exact q X Y t H3 s3 hT lo
noncomputable def N_is_mixing:List PySem.Str:=["weights", "many", "weight"]
noncomputable def mixP (ms:List Int) (S:Int) (many:Nat):Bool:=decide (ms.length=many∧(∀ m∈ms,0≤m)∧ms.sum=S)
noncomputable def sp_is_mixing (K:W.Frag):Sp:=λ vs H Q _=>∃ l xs S ms many,vs=[.ref l,.int (many:Nat)]∧SqL K H l xs∧WtL H xs S ms∧0<S∧BB 20 S∧ms.length≤60∧∀ H',Same H H'→Q (.bl (mixP ms S many)) H'
noncomputable def iv_mixing (l:Addr) (many:Nat) (H0:Hp) (ms:List Int):Nat→St→Hp→Prop:=λ i σ H3=>∃ o,σ=[some (.ref l),some (.int many),o]∧Same H0 H3∧∀ m∈ms.take i,0≤m
noncomputable def t_is_mixing_r1 (K:W.Frag):TS:=(tRet (tOp (rEqT K) (tCall (sp_summed K) [] E0 (tCons (tVar 0) tNil)) (tTup (tCons (tC (.int 1)) (tCons (tC (.int 1)) tNil)))))
noncomputable def t_is_mixing_b1 (K:W.Frag):TS:=(tIfS (tB (tCall (sp_below K) [] E0 (tCons (tVar 2) (tCons (tTup (tCons (tC (.int 0)) (tCons (tC (.int 1)) tNil))) tNil)))) (tRet (tC (.bl false))) tNext)
noncomputable def t_is_mixing (K:W.Frag):TS:=(tSeq (tIfS (tTest (tOp rNe (tCB (cLen K) (tCons (tVar 0) tNil)) (tVar 1))) (tRet (tC (.bl false))) tNext) (tSeq (tFor (iList K (tVar 0)) (gName 2) (t_is_mixing_b1 K)) (t_is_mixing_r1 K)))
theorem len_is_mixing {K vs H Q E} (h:sp_is_mixing K vs H Q E):vs.length=2:=by obtain ⟨_,_,_,_,_,rfl,_⟩:=h;rfl
theorem wt_neg {S m c d:Int} (s0:0<S) (d0:0<d) (e:c*S=m*d):c<0↔m<0:=by
 constructor
 ·intro h
  have:=Int.mul_neg_of_neg_of_pos h s0
  rcases Int.lt_or_le m 0 with z | z
  ·exact z
  ·have:=Int.mul_nonneg z (Int.le_of_lt d0);omega
 ·intro h
  have:=Int.mul_neg_of_neg_of_pos h d0
  rcases Int.lt_or_le c 0 with z | z
  ·exact z
  ·have:=Int.mul_nonneg z (Int.le_of_lt s0);omega
theorem rd_is_mixing {K vs H Q E} (h:sp_is_mixing K vs H Q E):t_is_mixing K { nx:=λ _ H'=>Q .non H',rt:=Q } (start N_is_mixing vs) H:=by
 obtain ⟨l,xs,S,ms,many,rfl,hl,w,s0,bS,hn,q⟩:=h
 rw [show start N_is_mixing [V.ref l,V.int many]=[some (.ref l),some (.int many),none] from rfl]
 (try dsimp? [t_is_mixing,tFor,iList];try simp_arith [t_is_mixing,tFor,iList])
 refine ⟨_,.inl hl,?_⟩
 rw [w.1]
 by_cases hm:ms.length=many
 ·have hm':((ms.length:Nat):Int)=many:=by omega
  simp only [hm',decide_true,Bool.not_true,Bool.false_eq_true,if_false]
  refine ⟨⟨_,hl⟩,for_list (K:=K) (a:=l) (xs:=xs) (g:=gName 2) (D:={ nx:=t_is_mixing_r1 K { nx:=λ _ H'=>Q .non H',rt:=Q },rt:=Q }) (iv_mixing l many H ms) ?_ ?_ ?_ ?_⟩
  ·exact ⟨none,rfl,Same.refl _,by simp⟩
  ·rintro i σ H3 _ ⟨_,_,s3,_⟩
   exact s3.seq hl
  ·rintro i x σ H3 hi ⟨o,rfl,s3,hp⟩
   obtain ⟨m,em,a,c,d,rfl,ha,d0,ew,bc,bd⟩:=(w.keep (keepT_same s3)).2 i x hi
   (try dsimp? [t_is_mixing_b1];try simp_arith [t_is_mixing_b1])
   refine ⟨sz2,λ z hz=>?_⟩
   have s4:Same H3 (upd H3 z (.tup [.int 0,.int 1])):=Same.upd hz
   refine ⟨_,_,_,_,_,_,rfl,⟨SqT.of (s4 _ _ ha),SqT.of upd_same,bc.mono (by decide),bd.mono (by decide),by unfold BB;exact Nat.two_pow_pos _,BB.mono (m:=1) (by unfold BB;decide) (by decide),d0,by decide⟩,_,rfl,?_⟩
   have ne:=wt_neg s0 d0 ew
   by_cases hneg:c<0
   ·rw [if_pos (by simp;omega)]
    have e:false=mixP ms S many:=by
     unfold mixP
     symm
     refine decide_eq_false λ z=>?_
     have:=z.2.1 m (List.mem_of_getElem? em)
     have:=ne.mp hneg
     omega
    rw [e]
    exact q _ (s3.trans s4)
   ·rw [if_neg (by simp;omega)]
    refine ⟨_,rfl,s3.trans s4,λ m' hm'=>?_⟩
    rw [take_snoc em] at hm'
    rcases List.mem_append.mp hm' with z | z
    ·exact hp m' z
    ·rw [List.mem_singleton.mp z]
     rcases Int.lt_or_le m 0 with y | y
     ·exact absurd (ne.mpr y) hneg
     ·exact y
  ·rintro σ H3 ⟨o,rfl,s3,hp⟩
   rw [w.1,List.take_length] at hp
   (try dsimp? [t_is_mixing_r1];try simp_arith [t_is_mixing_r1])
   refine ⟨_,_,S,ms,rfl,s3.seq hl,w.keep (keepT_same s3),s0,bS,hn,λ x y p H4 s4 hp4 lo=>⟨sz2,λ z hz=>?_⟩⟩
   have s5:Same H4 (upd H4 z (.tup [.int 1,.int 1])):=Same.upd hz
   refine ⟨_,_,[x,y],[1,1],rfl,rfl,SqT.of (s5 _ _ hp4),SqT.of upd_same,?_⟩
   have e:decide ([x,y]=[1,1])=mixP ms S many:=by
    unfold mixP
    refine decide_eq_decide.mpr ⟨λ e=>⟨hm,hp,?_⟩,λ e=>?_⟩
    ·injection e with e1 e2
     injection e2 with e2 _
     have:=lo.eq
     rw [e1,e2] at this
     omega
    ·have e1:=lo.eq
     rw [e.2.2] at e1
     have exy:x=y:=Int.eq_of_mul_eq_mul_right (a:=S) (by omega) (by rw [e1,Int.mul_comm])
     have c:=lo.cop
     have p:=lo.pos
     rw [exy,Int.gcd_self] at c
     rw [exy,show y=1 by omega]
   rw [e]
   exact q _ ((s3.trans s4).trans s5)
 ·have hm':¬ ((ms.length:Nat):Int)=many:=by omega
  simp only [hm',decide_false,Bool.not_false,if_true]
  have e:false=mixP ms S many:=(decide_eq_false λ z=>hm z.1).symm
  rw [e]
  exact q H (Same.refl _)
noncomputable def N_check_plan:List PySem.Str:=["table", "plan", "plays", "play"]
structure PlAt (H:Hp) (p:Addr) (kvs:List (List Key×V)) (S:Int) (ms:List Int):Prop where
 at_:H p=some (.dT kvs)
 w:WtL H (kvs.map (·.2)) S ms
 s0:0<S
 bS:BB 20 S
 len:ms.length≤60
theorem PlAt.same {H H':Hp} {p:Addr} {kvs:List (List Key×V)} {S:Int} {ms:List Int} (h:PlAt H p kvs S ms) (s:Same H H'):PlAt H' p kvs S ms:=⟨s _ _ h.at_,h.w.keep (keepT_same s),h.s0,h.bS,h.len⟩
noncomputable def sp_check_plan (K:W.Frag):Sp:=λ vs H Q E=>∃ t p ns cont kvs S ms,vs=[.ref t,.ref p]∧TabAt K H t ns cont∧Sz ns∧PlAt H p kvs S ms∧(goodP kvs ms S (ordR ns.reverse)→∀ H',Same H H'→Q .non H')∧(¬ goodP kvs ms S (ordR ns.reverse)→∀ H',Same H H'→E (.ref (gadr K "NoPlan")) none H')
noncomputable def iv_check_plan (t p l:Addr) (H:Hp) (kvs:List (List Key×V)) (qs:List (List Nat)):Nat→St→Hp→Prop:=λ i σ H3=>H3=H∧(∃ o,σ=[some (.ref t),some (.ref p),some (.ref l),o])∧∀ q∈qs.take i,(valV kvs (tk q)).isSome=true
noncomputable def t_check_plan_r1 (K:W.Frag) (E:XK):TS:=(tIfS (tNot (tB (tCall (sp_is_mixing K) [] E0 (tCons (tVals (tVar 1)) (tCons (tCB (cLen K) (tCons (tVar 2) tNil)) tNil))))) (tRaise E (.ref (gadr K "NoPlan")) (tCons (tC (.str "the weights are one for each play, none below 0, and come to 1")) tNil)) tNext)
noncomputable def t_check_plan_b1 (K:W.Frag) (E:XK):TS:=(tIfS (tB (tDNotIn (tVar 3) (tVar 1))) (tRaise E (.ref (gadr K "NoPlan")) (tCons (tC (.str "a play is lacking")) tNil)) tNext)
noncomputable def t_check_plan (K:W.Frag) (E:XK):TS:=(tSeq (tAsg (tMeth (gadr K "Table") "plays" (sp_Table_plays K) [] E0 (tVar 0) tNil) (gName 2)) (tSeq (tFor (iList K (tVar 2)) (gName 3) (t_check_plan_b1 K E)) (t_check_plan_r1 K E)))
theorem len_check_plan {K vs H Q E} (h:sp_check_plan K vs H Q E):vs.length=2:=by obtain ⟨_,_,_,_,_,_,_,rfl,_⟩:=h;rfl
theorem rd_check_plan {K vs H Q E} (tt:TabK K) (h:sp_check_plan K vs H Q E):t_check_plan K E { nx:=λ _ H'=>Q .non H',rt:=Q } (start N_check_plan vs) H:=by
 obtain ⟨t,p,ns,cont,kvs,S,ms,rfl,tb,sz,pl,q,x⟩:=h
 rw [show start N_check_plan [V.ref t,V.ref p]=[some (.ref t),some (.ref p),none,none] from rfl]
 obtain ⟨dx,m,d,ht⟩:=tb.ins
 (try dsimp? [t_check_plan,tMeth,tFor,iList];try simp_arith [t_check_plan,tMeth,tFor,iList,if_true])
 refine ⟨dx,_,ht,flds_no _ _ (by decide +kernel) (by decide +kernel),t,ns,cont,rfl,tb,sz,λ l xs H1 s1 hl0 hl ps=>?_⟩
 have pl1:=pl.same s1
 refine ⟨l,rfl,⟨_,SqL.of hl⟩,for_list (K:=K) (a:=l) (xs:=xs) (g:=gName 3) (D:={ nx:=t_check_plan_r1 K E { nx:=λ _ H'=>Q .non H',rt:=Q },rt:=Q }) (iv_check_plan t p l H1 kvs (ordR ns.reverse)) ?_ ?_ ?_ ?_⟩
 ·exact ⟨rfl,⟨none,rfl⟩,λ z hz=>by simp at hz⟩
 ·rintro i σ H3 _ ⟨rfl,_⟩
  exact SqL.of hl
 ·rintro i x' σ H3 hi ⟨rfl,⟨o,rfl⟩,ok⟩
  obtain ⟨b,a,hb,rfl,ha⟩:=ps.get hi
  have hk:H3 a=some (.tup ((tk b).map kV)):=by rw [tv_tk];exact ha
  (try dsimp? [t_check_plan_b1,tDNotIn,tRaise];try simp_arith [t_check_plan_b1,tDNotIn,tRaise])
  refine ⟨_,DGet.t pl1.at_ hk,?_⟩
  cases e:valV kvs (tk b) with
  | none=>exact iteT ⟨sz1,x (λ z=>by
    have:=z.1 b (List.mem_of_getElem? hb)
    rw [e] at this;cases this) _ s1⟩
  | some v =>
   refine iteF ⟨rfl,⟨_,rfl⟩,λ z hz=>?_⟩
   rw [take_snoc hb] at hz
   rcases List.mem_append.mp hz with y | y
   ·exact ok z y
   ·rw [List.mem_singleton.mp y,e];rfl
 ·rintro σ H3 ⟨rfl,⟨o,rfl⟩,ok⟩
  rw [ps.1,List.take_length] at ok
  (try dsimp? [t_check_plan_r1,tVals,tRaise];try simp_arith [t_check_plan_r1,tVals,tRaise])
  refine ⟨_,pl1.at_,λ r hr=>?_⟩
  have s4:Same H3 (upd H3 r (.lst (kvs.map (·.2)))):=Same.upd hr
  refine ⟨_,.inl (SqL.of (s4 _ _ hl)),_,_,S,ms,xs.length,rfl,SqL.of upd_same,pl1.w.keep (keepT_same s4),pl.s0,pl.bS,pl.len,λ H5 s5=>⟨_,rfl,?_⟩⟩
  have s6:=s1.trans (s4.trans s5)
  rw [ps.1]
  by_cases g:ms.length=(ordR ns.reverse).length∧(∀ m∈ms,0≤m)∧ms.sum=S
  ·have e:mixP ms S (ordR ns.reverse).length=true:=decide_eq_true g
   rw [e]
   exact iteF (q ⟨ok,g⟩ _ s6)
  ·have e:mixP ms S (ordR ns.reverse).length=false:=decide_eq_false g
   rw [e]
   exact iteT ⟨sz1,x (λ z=>g z.2) _ s6⟩
noncomputable def N_Table_sizes:List PySem.Str:=["self"]
noncomputable def sp_Table_sizes (K:W.Frag):Sp:=λ vs H Q _=>∃ t ns cont,vs=[.ref t]∧TabAt K H t ns cont∧∀ l,H l=none→Q (.ref l) (upd H l (.lst (tv ns)))
noncomputable def t_Table_sizes (K:W.Frag):TS:=(tRet (tCB (cList K) (tCons (tFld K (tVar 0) "many") tNil)))
theorem len_Table_sizes {K vs H Q E} (h:sp_Table_sizes K vs H Q E):vs.length=1:=by obtain ⟨t,ns,cont,rfl,_⟩:=h;rfl
theorem rd_Table_sizes {K vs H Q E} (T:TabK K) (h:sp_Table_sizes K vs H Q E):t_Table_sizes K { nx:=λ _ H'=>Q .non H',rt:=Q } (start N_Table_sizes vs) H:=by
 obtain ⟨t,ns,cont,rfl,⟨dx,m,d,kv,ht,hm,_⟩,q⟩:=h
 rw [show start N_Table_sizes [V.ref t]=[some (.ref t)] from rfl]
 (try dsimp? [t_Table_sizes,tFld,cList];try simp_arith [t_Table_sizes,tFld,cList])
 exact ⟨_,_,_,ht,T.cl,T.nM,_,flds_many _ _,m,rfl,_,.inl (SqL.of hm),q⟩
noncomputable def N_breaches:List PySem.Str:=["table", "told", "hand", "size", "choice"]
noncomputable def sp_breaches (K:W.Frag):Sp:=λ vs H Q _=>∃ t ns cont,vs=[.ref t]∧TabAt K H t ns cont∧Sz ns∧∀ p xs H',Same H H'→H' p=some (.lst xs)→Ps H' xs (brsF ns ns.length)→Q (.ref p) H'
noncomputable def iv_breaches (t l z:Addr) (H0:Hp) (ns:List Nat):Nat→St→Hp→Prop:=λ i σ H3=>∃ ys o1 o2 o3,σ=[some (.ref t),some (.ref l),o1,o2,o3]∧Same H0 H3∧H3 z=some (.lst (tv ns))∧H3 l=some (.lst ys)∧Ps H3 ys (brsF ns i)
noncomputable def iv_breaches2 (t l z:Addr) (H0:Hp) (ns:List Nat) (h n:Nat):Nat→St→Hp→Prop:=λ c σ H3=>∃ ys o3,σ=[some (.ref t),some (.ref l),some (.int h),some (.int n),o3]∧Same H0 H3∧H3 z=some (.lst (tv ns))∧H3 l=some (.lst ys)∧Ps H3 ys (brsF ns h++(List.range c).flatMap (brs1 h n))
noncomputable def t_breaches_c1 (K:W.Frag):TE:=(tTup (tCons (tVar 1) (tCons (tVar 2) (tCons (tVar 0) tNil))))
noncomputable def t_breaches_b1 (K:W.Frag):TS:=(tDrop (tBM K "list" rExtend (tVar 1) (tCons (tCompI (iRng1 (tCons (tVar 3) tNil)) [2,4] (tTest (tOp rNe (tVar 0) (tVar 2))) (t_breaches_c1 K)) tNil)))
noncomputable def t_breaches_b2 (K:W.Frag):TS:=(tFor (iRng1 (tCons (tVar 3) tNil)) (gName 4) (t_breaches_b1 K))
noncomputable def t_breaches_g1 (K:W.Frag):TG:=(gTup K 2 (gCons (gName 2) (gCons (gName 3) gNil)))
noncomputable def t_breaches (K:W.Frag):TS:=(tSeq (tAsg (tLst tNil) (gName 1)) (tSeq (tFor (iEnum K (tMeth (gadr K "Table") "sizes" (sp_Table_sizes K) [] E0 (tVar 0) tNil)) (t_breaches_g1 K) (t_breaches_b2 K)) (tRet (tVar 1))))
theorem len_breaches {K vs H Q E} (h:sp_breaches K vs H Q E):vs.length=1:=by obtain ⟨_,_,_,rfl,_⟩:=h;rfl
theorem brs1_len {h n c:Nat}:(brs1 h n c).length≤n:=by unfold brs1;rw [List.length_map];exact Nat.le_trans (List.length_filter_le _ _) (by rw [List.length_range];exact Nat.le_refl _)
theorem flat_len {α β:Type} {f:α→List β} {m:Nat}:∀ {l:List α},(∀ a∈l,(f a).length≤m)→(l.flatMap f).length≤l.length*m
 | [],_=>by simp
 | a::l,h=>by
  rw [List.flatMap_cons,List.length_append,List.length_cons,Nat.succ_mul]
  have:=flat_len (l:=l) λ b hb=>h b (List.mem_cons_of_mem _ hb)
  have:=h a List.mem_cons_self
  omega
theorem brsH_len {h n:Nat} (hn:n≤6):(brsH h n).length≤36:=by
 have:=flat_len (f:=brs1 h n) (m:=6) (l:=List.range n) λ c _=>Nat.le_trans brs1_len hn
 rw [List.length_range] at this
 have e:(List.flatMap (brs1 h n) (List.range n)).length=(brsH h n).length:=rfl
 omega
theorem brsF_len {ns:List Nat} (sz:Sz ns) {i:Nat} (hi:i≤3):(brsF ns i).length≤108:=by
 have:=flat_len (f:=λ h=>brsH h (ns.getD h 0)) (m:=36) (l:=List.range i) λ h _=>brsH_len (by
  rw [List.getD_eq_getElem?_getD]
  cases e:ns[h]? with
  | none=>exact Nat.zero_le _
  | some n=>exact sz.le n (List.mem_of_getElem? e))
 rw [List.length_range] at this
 have e:(brsF ns i).length=(List.flatMap (λ h=>brsH h (ns.getD h 0)) (List.range i)).length:=rfl
 omega
theorem rd_breaches {K vs H Q E} (h:sp_breaches K vs H Q E):t_breaches K { nx:=λ _ H'=>Q .non H',rt:=Q } (start N_breaches vs) H:=by
 obtain ⟨t,ns,cont,rfl,tb,sz,q⟩:=h
 rw [show start N_breaches [V.ref t]=[some (.ref t),none,none,none,none] from rfl]
 have n3:=sz.len
 obtain ⟨dx,m,d,ht⟩:=tb.ins
 (try dsimp? [t_breaches,tMeth,tFor,iEnum];try simp_arith [t_breaches,tMeth,tFor,iEnum,if_true])
 refine ⟨sz0,λ l hl=>?_⟩
 have s1:Same H (upd H l (.lst [])):=Same.upd hl
 have l1:(upd H l (.lst [])) l=some (.lst []):=upd_same
 generalize upd H l (.lst [])=H1 at s1 l1
 refine ⟨dx,_,s1 _ _ ht,flds_no _ _ (by decide +kernel) (by decide +kernel),t,ns,cont,rfl,tb.same s1,λ z hz=>?_⟩
 have s2:Same H1 (upd H1 z (.lst (tv ns))):=Same.upd hz
 have zl:z≠l:=λ e=>by rw [e,l1] at hz;cases hz
 refine ⟨z,rfl,⟨_,SqL.of upd_same⟩,for_enum (K:=K) (a:=z) (xs:=tv ns) (g:=t_breaches_g1 K) (D:={ nx:=tRet (tVar 1) { nx:=λ _ H'=>Q .non H',rt:=Q },rt:=Q }) (iv_breaches t l z H ns) ?_ ?_ ?_ ?_⟩
 ·exact ⟨[],none,none,none,rfl,s1.trans s2,upd_same,s2 _ _ l1,Ps.nil⟩
 ·rintro i σ H3 _ ⟨_,_,_,_,_,_,hz3,_⟩
  exact SqL.of hz3
 ·rintro i x p σ H3 hi ⟨ys,o1,o2,o3,rfl,s3,hz3,hl3,py⟩ hp
  obtain ⟨n,hn,rfl⟩:=tv_get hi
  have n6:=sz.le n (List.mem_of_getElem? hn)
  have il:i<ns.length:=(List.getElem?_eq_some_iff.mp hn).1
  have s4:Same H3 (upd H3 p (.tup [.int i,.int n])):=Same.upd hp
  (try dsimp? [t_breaches_g1,t_breaches_b2,tFor,iRng1];try simp_arith [t_breaches_g1,t_breaches_b2,tFor,iRng1])
  refine ⟨_,SqT.of upd_same,rfl,_,_,rfl,_,_,rfl,rfl,_,rfl,by omega,by omega,for_range (lo:=0) (n:=n) (g:=gName 4) (D:={ nx:=iv_breaches t l z H ns (i+1),rt:=Q,ct:=iv_breaches t l z H ns (i+1),bk:=tRet (tVar 1) { nx:=λ _ H'=>Q .non H',rt:=Q } }) (iv_breaches2 t l z H ns i n) ?_ ?_ ?_⟩
  ·exact ⟨ys,_,rfl,s3.trans s4,s4 _ _ hz3,s4 _ _ hl3,by rw [List.range_zero,List.flatMap_nil,List.append_nil];exact py.same s4⟩
  ·rintro c σ H4 hc ⟨ys,o3,rfl,s5,hz5,hl5,py⟩
   (try dsimp? [t_breaches_b1,tDrop,tBM,tCompI,iRng1];try simp_arith [t_breaches_b1,tDrop,tBM,tCompI,iRng1])
   refine ⟨.inl ⟨rfl,_,SqL.of hl5⟩,by omega,by omega,comp_rangeI (lo:=0) (n:=n) (λ k zs H5=>Same H4 H5∧Ps H5 zs (((List.range k).filter λ o=>decide (o≠c)).map λ o=>[i,c,o])) (small (by omega)) ⟨Same.refl _,Ps.nil⟩ ?_ ?_⟩
   ·rintro k zs H5 hk _ ⟨s7,pz⟩
    (try dsimp? [caught,List.map_cons,List.map_nil,t_breaches_c1];try simp_arith [caught,List.map_cons,List.map_nil,Int.zero_add,t_breaches_c1])
    rw [List.range_succ,List.filter_append]
    refine ⟨rfl,?_⟩
    by_cases e:k=c
    ·subst e
     rw [if_neg (by simp),List.filter_cons_of_neg (by simp),List.filter_nil,List.append_nil]
     exact ⟨s7,pz⟩
    ·rw [if_pos (by simp;omega),List.filter_cons_of_pos (by simpa using e),List.filter_nil]
     refine And.intro (sz3) (λ r hr=>⟨s7.trans (Same.upd hr),?_⟩)
     rw [List.map_append]
     exact (pz.same (Same.upd hr)).app (Ps.one (by rw [upd_same];rfl))
   ·rintro zs H5 ⟨s7,pz⟩ r hr
    have s8:Same H5 (upd H5 r (.lst zs)):=Same.upd hr
    have pb:Ps H5 zs (brs1 i n c):=pz
    have e1:=brsF_len sz (i:=i) (by omega)
    have e2:=flat_len (f:=brs1 i n) (m:=6) (l:=List.range c) λ c _=>Nat.le_trans brs1_len n6
    have e3:=@brs1_len i n c
    have e4:ys.length=(brsF ns i++(List.range c).flatMap (brs1 i n)).length:=py.1
    rw [List.length_append] at e4
    rw [List.length_range] at e2
    have e5:zs.length=(brs1 i n c).length:=pb.1
    refine ⟨l,r,ys,zs,rfl,rfl,s8 _ _ (s7 _ _ hl5),upd_same,small (by omega),?_⟩
    have hl8:=s8 _ _ (s7 _ _ hl5)
    have k8:=keepT_lst (o:=.lst (ys++zs)) hl8
    refine ⟨_,_,rfl,((s5.trans s7).trans s8).put hl,?_,upd_same,?_⟩
    ·rw [upd_ne zl];exact s8 _ _ (s7 _ _ hz5)
    ·rw [List.range_succ,List.flatMap_append,List.flatMap_cons,List.flatMap_nil,List.append_nil,← List.append_assoc]
     exact ((py.same (s7.trans s8)).app (pb.same s8)).keep k8
  ·rintro σ H4 ⟨ys,o3,rfl,s5,hz5,hl5,py⟩
   refine ⟨ys,_,_,_,rfl,s5,hz5,hl5,?_⟩
   have e:ns.getD i 0=n:=by rw [List.getD_eq_getElem?_getD,hn];rfl
   unfold brsF
   rw [List.range_succ,List.flatMap_append,List.flatMap_cons,List.flatMap_nil,List.append_nil,e]
   exact py
 ·rintro σ H3 ⟨ys,o1,o2,o3,rfl,s3,_,hl3,py⟩
  (dsimp! [tVar,tC,tOp,rI0,rNe,scal_ii,tRet,tTest])
  rw [tv_len] at py
  exact q l ys H3 s3 hl3 py
noncomputable def N_rests:List PySem.Str:=["table", "hand", "sizes"]
noncomputable def sp_rests (K:W.Frag):Sp:=λ vs H Q _=>∃ t ns cont h,vs=[.ref t,.int (h:Nat)]∧TabAt K H t ns cont∧Sz ns∧∀ p xs H',Same H H'→H p=none→H' p=some (.lst xs)→Ps H' xs (ordR (wo h ns).reverse)→Q (.ref p) H'
noncomputable def t_rests (K:W.Frag):TS:=(tSeq (tAsg (tMeth (gadr K "Table") "sizes" (sp_Table_sizes K) [] E0 (tVar 0) tNil) (gName 2)) (tRet (tCall (sp_in_order K) [] E0 (tCons (tOp rCat (tSl (rSlL K) (tVar 2) tNoPart (tPart (tVar 1))) (tSl (rSlL K) (tVar 2) (tPart (tOp rAddI (tVar 1) (tC (.int 1)))) tNoPart)) tNil))))
theorem len_rests {K vs H Q E} (h:sp_rests K vs H Q E):vs.length=2:=by obtain ⟨t,ns,cont,h,rfl,_⟩:=h;rfl
theorem rd_rests {K vs H Q E} (h:sp_rests K vs H Q E):t_rests K { nx:=λ _ H'=>Q .non H',rt:=Q } (start N_rests vs) H:=by
 obtain ⟨t,ns,cont,h,rfl,tb,sz,k⟩:=h
 rw [show start N_rests [V.ref t,V.int h]=[some (.ref t),some (.int h),none] from rfl]
 obtain ⟨dx,m,d,ht⟩:=tb.ins
 (try dsimp? [t_rests,tMeth,rCat];try simp_arith [t_rests,tMeth,if_true,rCat])
 refine ⟨dx,_,ht,flds_no _ _ (by decide +kernel) (by decide +kernel),t,ns,cont,rfl,tb,λ l hl=>?_⟩
 have s1:Same H (upd H l (.lst (tv ns))):=Same.upd hl
 have l1:(upd H l (.lst (tv ns))) l=some (.lst (tv ns)):=upd_same
 generalize upd H l (.lst (tv ns))=H1 at s1 l1
 refine ⟨l,rfl,_,SqL.of l1,λ p1 hp1=>⟨l,rfl,tv ns,SqL.of ((Same.upd hp1) _ _ l1),λ p2 hp2=>?_⟩⟩
 have s2:=Same.upd (o:=.lst (cutV (tv ns) none (some (h:Int)))) hp1
 have s3:=Same.upd (o:=.lst (cutV (tv ns) (some ((h:Int)+1)) none)) hp2
 have e1:=cut_len (tv ns) none (some (h:Int))
 have e2:=cut_len (tv ns) (some ((h:Int)+1)) none
 have e3:=sz.len
 rw [tv_len] at e1 e2
 refine ⟨_,s3 _ _ upd_same,_,upd_same,small (by omega),λ p3 hp3=>?_⟩
 have s4:=Same.upd (o:=.lst (cutV (tv ns) none (some (h:Int))++cutV (tv ns) (some ((h:Int)+1)) none)) hp3
 have s5:=((s1.trans s2).trans s3).trans s4
 refine ⟨p3,wo h ns,rfl,SqL.of ?_,sz.wo h,λ p xs H' s6 hp hP ps=>k p xs H' (s5.trans s6) (s5.free hp) hP ps⟩
 rw [upd_same,cut_to,show ((h:Int)+1)=((h+1:Nat):Int) by omega,cut_from,← wo_tv]
 rfl
noncomputable def N_joined:List PySem.Str:=["rest", "hand", "choice"]
noncomputable def sp_joined (_:W.Frag):Sp:=λ vs H Q _=>∃ a q h c,vs=[.ref a,.int (h:Nat),.int (c:Nat)]∧H a=some (.tup (tv q))∧q.length≤100∧∀ p H',Same H H'→H' p=some (.tup (tv (q.take h++c::q.drop h)))→Q (.ref p) H'
noncomputable def t_joined (K:W.Frag):TS:=(tRet (tOp rCatA (tOp rCatA (tSl rSlA (tVar 0) tNoPart (tPart (tVar 1))) (tTup (tCons (tVar 2) tNil))) (tSl rSlA (tVar 0) (tPart (tVar 1)) tNoPart)))
theorem len_joined {K vs H Q E} (h:sp_joined K vs H Q E):vs.length=3:=by obtain ⟨a,q,h,c,rfl,_⟩:=h;rfl
theorem rd_joined {K vs H Q E} (h:sp_joined K vs H Q E):t_joined K { nx:=λ _ H'=>Q .non H',rt:=Q } (start N_joined vs) H:=by
 obtain ⟨a,q,h,c,rfl,ha,hl,k⟩:=h
 rw [show start N_joined [V.ref a,V.int h,V.int c]=[some (.ref a),some (.int h),some (.int c)] from rfl]
 (try dsimp? [t_joined,rCatA,rSlA];try simp_arith [t_joined,rCatA,rSlA])
 have e1:=cut_len (tv q) none (some (h:Int))
 have e2:=cut_len (tv q) (some (h:Int)) none
 rw [tv_len] at e1 e2
 refine ⟨_,ha,λ p1 H1 s1 h1=>⟨sz1,λ z hz=>?_⟩⟩
 have s2:Same H1 (upd H1 z (.tup [.int c])):=Same.upd hz
 refine ⟨_,s2 _ _ h1,_,upd_same,small (by show _+1≤216;omega),λ p3 H3 s3 h3=>⟨_,s3 _ _ (s2 _ _ (s1 _ _ ha)),λ p4 H4 s4 h4=>⟨_,s4 _ _ h3,_,h4,?_,λ p5 H5 s5 h5=>?_⟩⟩⟩
 ·rw [List.length_append]
  exact small (by show _+1+_≤216;omega)
 ·refine k p5 H5 ((((s1.trans s2).trans s3).trans s4).trans s5) ?_
  rw [h5,cut_to,cut_from]
  simp only [tv,List.map_append,List.map_cons,List.map_take,List.map_drop,List.append_assoc,Lca,Lna]
noncomputable def N_times:List PySem.Str:=["one", "other"]
noncomputable def sp_times (K:W.Frag):Sp:=λ vs H Q _=>∃ p q a b c d,vs=[.ref p,.ref q]∧Two K H p q a b c d∧∀ x y r H',Same H H'→H' r=some (.tup [.int x,.int y])→Lo (a*c) (b*d) x y→Q (.ref r) H'
noncomputable def t_times (K:W.Frag):TS:=(tRet (tCall (sp_ratio K) [] E0 (tCons (tOp rMulI (tOp (rIxT K) (tVar 0) (tC (.int 0))) (tOp (rIxT K) (tVar 1) (tC (.int 0)))) (tCons (tOp rMulI (tOp (rIxT K) (tVar 0) (tC (.int 1))) (tOp (rIxT K) (tVar 1) (tC (.int 1)))) tNil))))
theorem len_times {K vs H Q E} (h:sp_times K vs H Q E):vs.length=2:=by obtain ⟨p,q,a,b,c,d,rfl,_⟩:=h;rfl
theorem rd_times {K vs H Q E} (h:sp_times K vs H Q E):t_times K { nx:=λ _ H'=>Q .non H',rt:=Q } (start N_times vs) H:=by
 obtain ⟨p,q,a,b,c,d,rfl,⟨hp,hq,ba,bb,bc,bd,b0,d0⟩,k⟩:=h
 rw [show start N_times [V.ref p,V.ref q]=[some (.ref p),some (.ref q)] from rfl]
 (dsimp! [t_times,tVar,tC,tOp,rI,rMulI,tRet,tCall,tCons,tNil,rIxT,List.append_nil])
 refine ⟨_,hp,_,atI0,_,hq,_,atI0,_,rfl,_,rfl,.b ba bc,_,hp,_,atI1,_,hq,_,atI1,_,rfl,_,rfl,.b bb bd,?_⟩
 have z:0<b*d:=Int.mul_pos b0 d0
 exact ⟨_,_,rfl,by omega,(bb.mul bd).mono (by decide),k⟩
noncomputable def N_minus:List PySem.Str:=["one", "other"]
noncomputable def sp_minus (K:W.Frag):Sp:=λ vs H Q _=>∃ p q a b c d,vs=[.ref p,.ref q]∧Two K H p q a b c d∧∀ x y r H',Same H H'→H' r=some (.tup [.int x,.int y])→Lo (a*d - c*b) (b*d) x y→Q (.ref r) H'
noncomputable def t_minus (K:W.Frag):TS:=(tRet (tCall (sp_ratio K) [] E0 (tCons (tOp rSubI (tOp rMulI (tOp (rIxT K) (tVar 0) (tC (.int 0))) (tOp (rIxT K) (tVar 1) (tC (.int 1)))) (tOp rMulI (tOp (rIxT K) (tVar 1) (tC (.int 0))) (tOp (rIxT K) (tVar 0) (tC (.int 1))))) (tCons (tOp rMulI (tOp (rIxT K) (tVar 0) (tC (.int 1))) (tOp (rIxT K) (tVar 1) (tC (.int 1)))) tNil))))
theorem len_minus {K vs H Q E} (h:sp_minus K vs H Q E):vs.length=2:=by obtain ⟨p,q,a,b,c,d,rfl,_⟩:=h;rfl
theorem rd_minus {K vs H Q E} (h:sp_minus K vs H Q E):t_minus K { nx:=λ _ H'=>Q .non H',rt:=Q } (start N_minus vs) H:=by
 obtain ⟨p,q,a,b,c,d,rfl,⟨hp,hq,ba,bb,bc,bd,b0,d0⟩,k⟩:=h
 rw [show start N_minus [V.ref p,V.ref q]=[some (.ref p),some (.ref q)] from rfl]
 (try dsimp? [t_minus];try simp_arith [t_minus])
 refine ⟨_,hp,_,atI0,_,hq,_,atI1,_,rfl,_,rfl,.b ba bd,_,hq,_,atI0,_,hp,_,atI1,_,rfl,_,rfl,.b bc bb,_,hp,_,atI1,_,hq,_,atI1,_,rfl,_,rfl,.b bb bd,?_⟩
 have z:0<b*d:=Int.mul_pos b0 d0
 exact ⟨_,_,rfl,by omega,(bb.mul bd).mono (by decide),k⟩
noncomputable def N_Table_earned:List PySem.Str:=["self", "play", "hand", "size"]
noncomputable def sp_Table_earned (K:W.Frag):Sp:=λ vs H Q _=>∃ t a ns cont q,vs=[.ref t,.ref a]∧TabAt K H t ns cont∧H a=some (.tup (tv q))∧q∈ordR ns.reverse∧∀ l H',Same H H'→H l=none→H' l=some (.lst (cont q))→Q (.ref l) H'
noncomputable def iv_Table_earned (t a:Addr) (H:Hp):Nat→St→Hp→Prop:=λ _ σ H3=>∃ o1 o2,σ=[some (.ref t),some (.ref a),o1,o2]∧Same H H3
noncomputable def t_Table_earned_r1 (K:W.Frag):TS:=(tRet (tCB (cList K) (tCons (tDGet (tFld K (tVar 0) "cells") (tVar 1)) tNil)))
noncomputable def t_Table_earned_b1 (K:W.Frag):TS:=(tIfS (tOr (tTest (tOp rLtI (tOp (rIxT K) (tVar 1) (tVar 2)) (tC (.int 0)))) (tTest (tOp rGeI (tOp (rIxT K) (tVar 1) (tVar 2)) (tVar 3)))) tNever tNext)
noncomputable def t_Table_earned_g1 (K:W.Frag):TG:=(gTup K 2 (gCons (gName 2) (gCons (gName 3) gNil)))
noncomputable def t_Table_earned (K:W.Frag):TS:=(tSeq (tFor (iEnum K (tFld K (tVar 0) "many")) (t_Table_earned_g1 K) (t_Table_earned_b1 K)) (t_Table_earned_r1 K))
theorem len_Table_earned {K vs H Q E} (h:sp_Table_earned K vs H Q E):vs.length=2:=by obtain ⟨t,a,ns,cont,q,rfl,_⟩:=h;rfl
theorem rd_Table_earned {K vs H Q E} (T:TabK K) (h:sp_Table_earned K vs H Q E):t_Table_earned K { nx:=λ _ H'=>Q .non H',rt:=Q } (start N_Table_earned vs) H:=by
 obtain ⟨t,a,ns,cont,q,rfl,⟨dx,m,d,kv,ht,hm,hd,ok⟩,ha,hq,k⟩:=h
 have hql:q.length=ns.length:=by rw [ordR_len_each _ q hq,List.length_reverse]
 rw [show start N_Table_earned [V.ref t,V.ref a]=[some (.ref t),some (.ref a),none,none] from rfl]
 (try dsimp? [t_Table_earned,tFor,iEnum,tFld];try simp_arith [t_Table_earned,tFor,iEnum,tFld])
 refine ⟨_,_,_,ht,T.cl,T.nM,_,flds_many _ _,m,rfl,⟨_,SqL.of hm⟩,for_enum (K:=K) (a:=m) (xs:=tv ns) (g:=t_Table_earned_g1 K) (D:={ nx:=t_Table_earned_r1 K { nx:=λ _ H'=>Q .non H',rt:=Q },rt:=Q }) (iv_Table_earned t a H) ?_ ?_ ?_ ?_⟩
 ·exact ⟨_,_,rfl,Same.refl _⟩
 ·rintro i σ H3 _ ⟨_,_,_,s3⟩
  exact SqL.of (s3 _ _ hm)
 ·rintro i x p σ H3 hi ⟨o1,o2,rfl,s3⟩ hp
  obtain ⟨n,hn,rfl⟩:=tv_get hi
  have hil:i<q.length:=by rw [hql];exact (List.getElem?_eq_some_iff.mp hn).1
  have hqi:q[i]?=some q[i]:=List.getElem?_eq_getElem hil
  have lt:=ordR_lt _ q hq i n q[i] (by rw [List.reverse_reverse];exact hn) hqi
  have s4:Same H3 (upd H3 p (.tup [.int i,.int n])):=Same.upd hp
  (try dsimp? [t_Table_earned_g1,t_Table_earned_b1];try simp_arith [t_Table_earned_g1,t_Table_earned_b1])
  refine ⟨_,SqT.of upd_same,rfl,_,_,rfl,_,_,rfl,rfl,_,rfl,_,SqT.of (s4 _ _ (s3 _ _ ha)),_,atI_nat (tv_at hqi),_,rfl,?_⟩
  rw [if_neg (by omega)]
  refine ⟨_,rfl,_,SqT.of (s4 _ _ (s3 _ _ ha)),_,atI_nat (tv_at hqi),_,rfl,_,rfl,?_⟩
  rw [if_neg (by omega)]
  exact ⟨_,_,rfl,s3.trans s4⟩
 ·rintro σ H3 ⟨o1,o2,rfl,s3⟩
  (try dsimp? [t_Table_earned_r1,tDGet,tFld,cList];try simp_arith [t_Table_earned_r1,tDGet,tFld,cList])
  obtain ⟨l,hv,hL⟩:=ok q hq
  exact ⟨_,_,_,s3 _ _ ht,T.cl,T.nC,_,flds_cells _ _,d,rfl,_,(by rw [← hv];exact DGet.t (s3 _ _ hd) (by rw [tv_tk];exact s3 _ _ ha)),l,rfl,_,.inl (SqL.of (s3 _ _ hL)),λ l' hl'=>k l' _ (s3.trans (Same.upd hl')) (s3.free hl') upd_same⟩
noncomputable def N_earned_with:List PySem.Str:=["table", "rest", "hand", "choice"]
noncomputable def sp_earned_with (K:W.Frag):Sp:=λ vs H Q _=>∃ t r ns cont b i c v,vs=[.ref t,.ref r,.int (i:Nat),.int (c:Nat)]∧TabAt K H t ns cont∧H r=some (.tup (tv b))∧b.length≤100∧b.take i++c::b.drop i∈ordR ns.reverse∧(cont (b.take i++c::b.drop i))[i]?=some v∧∀ H',Same H H'→Q v H'
noncomputable def t_earned_with (K:W.Frag):TS:=(tRet (tOp (rIxL K) (tMeth (gadr K "Table") "earned" (sp_Table_earned K) [] E0 (tVar 0) (tCons (tCall (sp_joined K) [] E0 (tCons (tVar 1) (tCons (tVar 2) (tCons (tVar 3) tNil)))) tNil)) (tVar 2)))
theorem len_earned_with {K vs H Q E} (h:sp_earned_with K vs H Q E):vs.length=4:=by obtain ⟨_,_,_,_,_,_,_,_,rfl,_⟩:=h;rfl
theorem rd_earned_with {K vs H Q E} (h:sp_earned_with K vs H Q E):t_earned_with K { nx:=λ _ H'=>Q .non H',rt:=Q } (start N_earned_with vs) H:=by
 obtain ⟨t,r,ns,cont,b,i,c,v,rfl,T,hr,hb,hq,hv,k⟩:=h
 rw [show start N_earned_with [V.ref t,V.ref r,V.int i,V.int c]=[some (.ref t),some (.ref r),some (.int i),some (.int c)] from rfl]
 obtain ⟨dx,m0,d0,ht⟩:=T.ins
 (try dsimp? [t_earned_with,tMeth];try simp_arith [t_earned_with,tMeth,if_true])
 refine ⟨dx,_,ht,flds_no _ _ (by decide +kernel) (by decide +kernel),r,b,i,c,rfl,hr,hb,λ p2 H1 s1 hp2=>⟨t,p2,ns,cont,_,rfl,T.same s1,hp2,hq,λ l H2 s2 _ hl2=>?_⟩⟩
 exact ⟨_,rfl,_,SqL.of hl2,_,atI_nat hv,k _ (s1.trans s2)⟩
noncomputable def N_more_by:List PySem.Str:=["table", "rest", "breach", "hand"]
structure TbE (K:W.Frag) (H:Hp) (t:Addr) (ns:List Nat) (cont:List Nat→List V) (un:List Nat→Nat→Int):Prop where
 tab:TabAt K H t ns cont
 sz:Sz ns
 en:∀ q∈ordR ns.reverse,∀ h,h<ns.length→∃ v,(cont q)[h]?=some v∧En H v (un q h)
theorem TbE.same {K:W.Frag} {H H':Hp} {t:Addr} {ns:List Nat} {cont:List Nat→List V} {un:List Nat→Nat→Int} (h:TbE K H t ns cont un) (s:Same H H'):TbE K H' t ns cont un:=⟨h.tab.same s,h.sz,λ q hq i hi=>let ⟨v,e,n⟩:=h.en q hq i hi;⟨v,e,n.keep (keepT_same s)⟩⟩
noncomputable def sp_more_by (K:W.Frag):Sp:=λ vs H Q _=>∃ t r a ns cont un b h c o n,vs=[.ref t,.ref r,.ref a]∧TbE K H t ns cont un∧H r=some (.tup (tv b))∧b∈ordR (wo h ns).reverse∧H a=some (.tup (tv [h,c,o]))∧ns[h]?=some n∧c<n∧o<n∧∀ x y p H',Same H H'→H' p=some (.tup [.int x,.int y])→Lo (un (ins h o b) h - un (ins h c b) h) 2520 x y→Q (.ref p) H'
noncomputable def t_more_by (K:W.Frag):TS:=(tSeq (tAsg (tOp (rIxT K) (tVar 2) (tC (.int 0))) (gName 3)) (tRet (tCall (sp_minus K) [] E0 (tCons (tCall (sp_earned_with K) [] E0 (tCons (tVar 0) (tCons (tVar 1) (tCons (tVar 3) (tCons (tOp (rIxT K) (tVar 2) (tC (.int 2))) tNil))))) (tCons (tCall (sp_earned_with K) [] E0 (tCons (tVar 0) (tCons (tVar 1) (tCons (tVar 3) (tCons (tOp (rIxT K) (tVar 2) (tC (.int 1))) tNil))))) tNil)))))
theorem len_more_by {K vs H Q E} (h:sp_more_by K vs H Q E):vs.length=3:=by obtain ⟨_,_,_,_,_,_,_,_,_,_,_,rfl,_⟩:=h;rfl
theorem rest_len {h:Nat} {ns b:List Nat} (sz:Sz ns) (hb:b∈ordR (wo h ns).reverse):b.length≤100:=by
 rw [ordR_len_each _ b hb,List.length_reverse]
 have:=(sz.wo h).len
 omega
theorem rd_more_by {K vs H Q E} (h:sp_more_by K vs H Q E):t_more_by K { nx:=λ _ H'=>Q .non H',rt:=Q } (start N_more_by vs) H:=by
 obtain ⟨t,r,a,ns,cont,un,b,h,c,o,n,rfl,tb,hr,hb,ha,hn,hc,ho,q⟩:=h
 have hl:h<ns.length:=(List.getElem?_eq_some_iff.mp hn).1
 rw [show start N_more_by [V.ref t,V.ref r,V.ref a]=[some (.ref t),some (.ref r),some (.ref a),none] from rfl]
 have bl:=rest_len tb.sz hb
 have q1:=ordR_ins hn ho hb
 have q2:=ordR_ins hn hc hb
 obtain ⟨v1,e1,en1⟩:=tb.en _ q1 h hl
 obtain ⟨v2,e2,en2⟩:=tb.en _ q2 h hl
 (try dsimp? [t_more_by];try simp_arith [t_more_by])
 refine ⟨_,SqT.of ha,_,atI0,_,SqT.of ha,_,atI2,t,r,ns,cont,b,h,o,v1,rfl,tb.tab,hr,bl,q1,e1,λ H1 s1=>?_⟩
 refine ⟨_,SqT.of (s1 _ _ ha),_,atI1,t,r,ns,cont,b,h,c,v2,rfl,tb.tab.same s1,s1 _ _ hr,bl,q2,e2,λ H2 s2=>?_⟩
 obtain ⟨a1,x1,y1,rfl,h1,p1,p9,f1,b1⟩:=en1.keep (keepT_same (s1.trans s2))
 obtain ⟨a2,x2,y2,rfl,h2,p2,p8,f2,b2⟩:=en2.keep (keepT_same (s1.trans s2))
 have by1:BB 4 y1:=by unfold BB;omega
 have by2:BB 4 y2:=by unfold BB;omega
 exact ⟨a1,a2,x1,y1,x2,y2,rfl,⟨SqT.of h1,SqT.of h2,b1.mono (by decide),by1.mono (by decide),b2.mono (by decide),by2.mono (by decide),p1,p2⟩,λ x y p H3 s3 hp lo=>q x y p H3 ((s1.trans s2).trans s3) hp (lo_less f1 f2 p1 p2 (by decide) lo)⟩
noncomputable def N_gain_by:List PySem.Str:=["table", "plan", "breach", "total", "rest", "weight"]
noncomputable def sp_gain_by (K:W.Frag):Sp:=λ vs H Q _=>∃ t p a ns cont un kvs S wt h c o n,vs=[.ref t,.ref p,.ref a]∧TbE K H t ns cont un∧PlW H p kvs S (ordR ns.reverse) wt∧H a=some (.tup (tv [h,c,o]))∧ns[h]?=some n∧c<n∧o<n∧∀ x y r H',Same H H'→H' r=some (.tup [.int x,.int y])→Lo (gn wt un (ordR (wo h ns).reverse) h c o) (2520*S) x y→BB 4000 x→BB 4000 y→Q (.ref r) H'
noncomputable def iv_gain_by (t p a:Addr) (H:Hp) (S:Int) (wt:List Nat→Int) (un:List Nat→Nat→Int) (bs:List (List Nat)) (h c o:Nat):Nat→St→Hp→Prop:=λ i σ H3=>∃ r x y o1 o2,σ=[some (.ref t),some (.ref p),some (.ref a),some (.ref r),o1,o2]∧Same H H3∧H3 r=some (.tup [.int x,.int y])∧Lo (gn wt un (bs.take i) h c o) (2520*S) x y∧BB (121+i) (gn wt un (bs.take i) h c o)
noncomputable def t_gain_by_b1 (K:W.Frag):TS:=(tSeq (tAsg (tDGet (tVar 1) (tCall (sp_joined K) [] E0 (tCons (tVar 4) (tCons (tOp (rIxT K) (tVar 2) (tC (.int 0))) (tCons (tOp (rIxT K) (tVar 2) (tC (.int 1))) tNil))))) (gName 5)) (tAsg (tCall (sp_plus K) [] E0 (tCons (tVar 3) (tCons (tCall (sp_times K) [] E0 (tCons (tVar 5) (tCons (tCall (sp_more_by K) [] E0 (tCons (tVar 0) (tCons (tVar 4) (tCons (tVar 2) tNil)))) tNil))) tNil))) (gName 3)))
noncomputable def t_gain_by (K:W.Frag):TS:=(tSeq (tAsg (tTup (tCons (tC (.int 0)) (tCons (tC (.int 1)) tNil))) (gName 3)) (tSeq (tFor (iList K (tCall (sp_rests K) [] E0 (tCons (tVar 0) (tCons (tOp (rIxT K) (tVar 2) (tC (.int 0))) tNil)))) (gName 4) (t_gain_by_b1 K)) (tRet (tVar 3))))
theorem len_gain_by {K vs H Q E} (h:sp_gain_by K vs H Q E):vs.length=3:=by obtain ⟨_,_,_,_,_,_,_,_,_,_,_,_,_,rfl,_⟩:=h;rfl
theorem rd_gain_by {K vs H Q E} (h:sp_gain_by K vs H Q E):t_gain_by K { nx:=λ _ H'=>Q .non H',rt:=Q } (start N_gain_by vs) H:=by
 obtain ⟨t,p,a,ns,cont,un,kvs,S,wt,h,c,o,n,rfl,tb,pw,ha,hn,hc,ho,q⟩:=h
 have hl:h<ns.length:=(List.getElem?_eq_some_iff.mp hn).1
 have s0:=pw.s0
 have S0:0<2520*S:=by omega
 have bB:BB 40 (2520*S):=((show BB 12 (2520:Int) by unfold BB;decide).mul pw.bS).mono (by decide)
 rw [show start N_gain_by [V.ref t,V.ref p,V.ref a]=[some (.ref t),some (.ref p),some (.ref a),none,none,none] from rfl]
 (try dsimp? [t_gain_by,tFor,iList];try simp_arith [t_gain_by,tFor,iList])
 refine ⟨sz2,λ r hr=>?_⟩
 have s1:Same H (upd H r (.tup [.int 0,.int 1])):=Same.upd hr
 refine ⟨_,SqT.of (s1 _ _ ha),_,atI0,t,ns,cont,h,rfl,tb.tab.same s1,tb.sz,λ l xs H2 s2 hl0 hl2 ps=>?_⟩
 have s12:=s1.trans s2
 have bl:(ordR (wo h ns).reverse).length≤216:=(tb.sz.wo h).rev.ord
 refine ⟨l,rfl,⟨_,SqL.of hl2⟩,for_list (K:=K) (a:=l) (xs:=xs) (g:=gName 4) (D:={ nx:=tRet (tVar 3) { nx:=λ _ H'=>Q .non H',rt:=Q },rt:=Q }) (iv_gain_by t p a H2 S wt un (ordR (wo h ns).reverse) h c o) ?_ ?_ ?_ ?_⟩
 ·refine ⟨r,0,1,none,none,rfl,Same.refl _,s2 _ _ upd_same,?_,?_⟩
  ·rw [List.take_zero];exact lo_mk S0 (by decide) (by decide) (by simp [gn])
  ·rw [List.take_zero];show BB _ 0;unfold BB;exact Nat.two_pow_pos _
 ·rintro i σ H3 _ ⟨_,_,_,_,_,_,s3,_⟩
  exact SqL.of (s3 _ _ hl2)
 ·rintro i x' σ H3 hi ⟨r,x,y,o1,o2,rfl,s3,hr3,lo,bg⟩
  obtain ⟨b,a',hb,rfl,ha'⟩:=(ps.same s3).get hi
  have hil:i<(ordR (wo h ns).reverse).length:=(List.getElem?_eq_some_iff.mp hb).1
  have bm:=List.mem_of_getElem? hb
  have bl':=rest_len tb.sz bm
  have qc:=ordR_ins hn hc bm
  have qo:=ordR_ins hn ho bm
  have s03:=s12.trans s3
  obtain ⟨v,ev,wv⟩:=pw.w _ qc
  (try dsimp? [t_gain_by_b1,tDGet];try simp_arith [t_gain_by_b1,tDGet])
  refine ⟨_,SqT.of (s03 _ _ ha),_,atI0,_,SqT.of (s03 _ _ ha),_,atI1,a',b,h,c,rfl,ha',bl',λ p4 H4 s4 h4=>?_⟩
  have s04:=s03.trans s4
  refine ⟨v,by rw [← ev];exact DGet.t (s04 _ _ pw.at_) (by rw [tv_tk];exact h4),t,a',a,ns,cont,un,b,h,c,o,n,rfl,tb.same s04,s4 _ _ ha',bm,s04 _ _ ha,hn,hc,ho,λ x1 y1 p5 H5 s5 h5 lo5=>?_⟩
  obtain ⟨av,cv,dv,rfl,hav,d0,ew,bc,bd⟩:=wv.keep (keepT_same (s04.trans s5))
  obtain ⟨v1,f1,en1⟩:=tb.en _ qo h hl
  obtain ⟨v2,f2,en2⟩:=tb.en _ qc h hl
  have bu:BB 53 (un (ins h o b) h - un (ins h c b) h):=en1.bb.sub en2.bb
  have bw:=wv.bb pw.bS
  have bp:BB 113 (wt (ins h c b)*(un (ins h o b) h - un (ins h c b) h)):=bw.mul bu
  refine ⟨av,p5,cv,dv,x1,y1,rfl,⟨SqT.of hav,SqT.of h5,bc.mono (by decide),bd.mono (by decide),(bu.of_le lo5.bx).mono (by decide),((show BB 12 (2520:Int) by unfold BB;decide).of_le lo5.by_).mono (by decide),d0,lo5.pos⟩,λ x2 y2 p6 H6 s6 h6 lo6=>?_⟩
  have lp:=lo_prod ew lo5.eq d0 lo5.pos s0 (by decide) lo6
  refine ⟨r,p6,x,y,x2,y2,rfl,⟨SqT.of ((s4.trans (s5.trans s6)) _ _ hr3),SqT.of h6,(bg.of_le lo.bx).mono (by omega),(bB.of_le lo.by_).mono (by decide),(bp.of_le lp.bx).mono (by decide),(bB.of_le lp.by_).mono (by decide),lo.pos,lp.pos⟩,λ x3 y3 p7 H7 s7 h7 lo7=>?_⟩
  refine ⟨p7,x3,y3,_,_,rfl,s3.trans (s4.trans (s5.trans (s6.trans s7))),h7,?_,?_⟩
  ·rw [gn_snoc hb]
   exact lo_plus lo.eq lp.eq lo.pos lp.pos S0 lo7
  ·rw [gn_snoc hb]
   exact bg.add (bp.mono (by omega))
 ·rintro σ H3 ⟨r,x,y,o1,o2,rfl,s3,hr3,lo,bg⟩
  (dsimp! [tVar,tC,tOp,rI0,rNe,scal_ii,tRet,tTest])
  rw [ps.1,List.take_length] at lo bg
  exact q x y r H3 (s12.trans s3) hr3 lo ((bg.of_le lo.bx).mono (by omega)) ((bB.of_le lo.by_).mono (by decide))
noncomputable def N_breaks:List PySem.Str:=["table", "plan", "breach"]
noncomputable def sp_breaks (K:W.Frag):Sp:=λ vs H Q E=>∃ t p ns cont un kvs S ms,vs=[.ref t,.ref p]∧TbE K H t ns cont un∧PlAt H p kvs S ms∧(goodP kvs ms S (ordR ns.reverse)→∃ wt,(∀ q∈ordR ns.reverse,∃ v,valV kvs (tk q)=some v∧Wt H v S (wt q))∧∀ v H',Same H H'→BrV H' v ((brsF ns ns.length).find? (gnB wt un ns))→Q v H')∧(¬ goodP kvs ms S (ordR ns.reverse)→∀ H',Same H H'→E (.ref (gadr K "NoPlan")) none H')
noncomputable def iv_breaks (t p:Addr) (H:Hp) (f:List Nat→Bool) (bs:List (List Nat)):Nat→St→Hp→Prop:=λ i σ H3=>∃ o,σ=[some (.ref t),some (.ref p),o]∧Same H H3∧(bs.take i).find? f=none
noncomputable def t_breaks_r1 (K:W.Frag) (E:XK):TS:=(tRet (tC .non))
noncomputable def t_breaks_b1 (K:W.Frag) (E:XK):TS:=(tIfS (tB (tCall (sp_below K) [] E0 (tCons (tTup (tCons (tC (.int 0)) (tCons (tC (.int 1)) tNil))) (tCons (tCall (sp_gain_by K) [] E0 (tCons (tVar 0) (tCons (tVar 1) (tCons (tVar 2) tNil)))) tNil)))) (tRet (tVar 2)) tNext)
noncomputable def t_breaks (K:W.Frag) (E:XK):TS:=(tSeq (tDrop (tCall (sp_check_plan K) [] E (tCons (tVar 0) (tCons (tVar 1) tNil)))) (tSeq (tFor (iList K (tCall (sp_breaches K) [] E0 (tCons (tVar 0) tNil))) (gName 2) (t_breaks_b1 K E)) (t_breaks_r1 K E)))
theorem len_breaks {K vs H Q E} (h:sp_breaks K vs H Q E):vs.length=2:=by obtain ⟨_,_,_,_,_,_,_,_,rfl,_⟩:=h;rfl
theorem brs_mem {ns b:List Nat} (hb:b∈brsF ns ns.length):∃ h c o n,b=[h,c,o]∧ns[h]?=some n∧c<n∧o<n∧o≠c:=by
 unfold brsF at hb
 obtain ⟨h,hh,hb⟩:=List.mem_flatMap.mp hb
 unfold brsH at hb
 obtain ⟨c,hc,hb⟩:=List.mem_flatMap.mp hb
 unfold brs1 at hb
 obtain ⟨o,ho,rfl⟩:=List.mem_map.mp hb
 have h1:=List.mem_range.mp hh
 obtain ⟨h2,h3⟩:=List.mem_filter.mp ho
 have e:ns.getD h 0=ns[h]:=by rw [List.getD_eq_getElem?_getD,List.getElem?_eq_getElem h1];rfl
 rw [e] at hc h2
 exact ⟨h,c,o,_,rfl,List.getElem?_eq_getElem h1,List.mem_range.mp hc,List.mem_range.mp h2,by simpa using h3⟩
theorem find_snoc {α:Type} {f:α→Bool} {l:List α} {i:Nat} {x:α} (h:l[i]?=some x) (hn:(l.take i).find? f=none):(f x=true→l.find? f=some x)∧(f x=false→(l.take (i+1)).find? f=none):=by
 refine ⟨λ e=>?_,λ e=>?_⟩
 ·have hl:=(List.getElem?_eq_some_iff.mp h)
  have e2:l=l.take i++x::l.drop (i+1):=by
   rw [← hl.2,List.getElem_cons_drop,List.take_append_drop]
  rw [e2,List.find?_append,hn,List.find?_cons,e]
  rfl
 ·rw [take_snoc h,List.find?_append,hn,List.find?_cons,e]
  rfl
theorem rd_breaks {K vs H Q E} (h:sp_breaks K vs H Q E):t_breaks K E { nx:=λ _ H'=>Q .non H',rt:=Q } (start N_breaks vs) H:=by
 obtain ⟨t,p,ns,cont,un,kvs,S,ms,rfl,tb,pl,good,bad⟩:=h
 rw [show start N_breaks [V.ref t,V.ref p]=[some (.ref t),some (.ref p),none] from rfl]
 (try dsimp? [t_breaks,tDrop,tFor,iList];try simp_arith [t_breaks,tDrop,tFor,iList])
 refine ⟨t,p,ns,cont,kvs,S,ms,rfl,tb.tab,tb.sz,pl,λ g H1 s1=>?_,bad⟩
 obtain ⟨wt,wa,q⟩:=good g
 have pw:PlW H p kvs S (ordR ns.reverse) wt:=⟨pl.at_,pl.s0,pl.bS,wa⟩
 refine ⟨t,ns,cont,rfl,tb.tab.same s1,tb.sz,λ l xs H2 s2 hl2 ps=>⟨l,rfl,⟨_,SqL.of hl2⟩,for_list (K:=K) (a:=l) (xs:=xs) (g:=gName 2) (D:={ nx:=t_breaks_r1 K E { nx:=λ _ H'=>Q .non H',rt:=Q },rt:=Q }) (iv_breaks t p H2 (gnB wt un ns) (brsF ns ns.length)) ?_ ?_ ?_ ?_⟩⟩
 ·exact ⟨none,rfl,Same.refl _,by rw [List.take_zero];rfl⟩
 ·rintro i σ H3 _ ⟨_,_,s3,_⟩
  exact SqL.of (s3 _ _ hl2)
 ·rintro i x' σ H3 hi ⟨o1,rfl,s3,hn⟩
  obtain ⟨b,a,hb,rfl,ha⟩:=(ps.same s3).get hi
  obtain ⟨h,c,o,n,rfl,e1,e2,e3,_⟩:=brs_mem (List.mem_of_getElem? hb)
  have s03:=s1.trans (s2.trans s3)
  obtain ⟨f1,f2⟩:=find_snoc hb hn
  (try dsimp? [t_breaks_b1];try simp_arith [t_breaks_b1])
  refine ⟨sz2,λ z hz=>?_⟩
  have s4:Same H3 (upd H3 z (.tup [.int 0,.int 1])):=Same.upd hz
  have s04:=s03.trans s4
  refine ⟨t,p,a,ns,cont,un,kvs,S,wt,h,c,o,n,rfl,tb.same s04,pw.same s04,s4 _ _ ha,e1,e2,e3,λ x y r H5 s5 h5 lo bx by_=>?_⟩
  refine ⟨z,r,0,1,x,y,rfl,⟨SqT.of (s5 _ _ upd_same),SqT.of h5,by unfold BB;exact Nat.two_pow_pos _,BB.mono (m:=1) (by unfold BB;decide) (by decide),bx,by_,by decide,lo.pos⟩,_,rfl,?_⟩
  have val:=(lo.val (by have:=pl.s0;omega)).1
  by_cases hx:0<x
  ·rw [if_pos (by simp;omega)]
   have e:gnB wt un ns [h,c,o]=true:=decide_eq_true (val.mp hx)
   refine q _ _ (s04.trans s5) ?_
   rw [f1 e]
   exact ⟨a,rfl,rfl,s5 _ _ (s4 _ _ ha)⟩
  ·rw [if_neg (by simp;omega)]
   have e:gnB wt un ns [h,c,o]=false:=decide_eq_false λ z=>hx (val.mpr z)
   exact ⟨_,rfl,s3.trans (s4.trans s5),f2 e⟩
 ·rintro σ H3 ⟨o1,rfl,s3,hn⟩
  rw [ps.1,List.take_length] at hn
  (try dsimp? [t_breaks_r1];try simp_arith [t_breaks_r1])
  refine q _ _ (s1.trans (s2.trans s3)) ?_
  rw [hn]
  rfl
noncomputable def N_l_refused:List PySem.Str:=["_law_table_here", "_law_plan_here", "_law_mine", "_law_others", "e"]
noncomputable abbrev OthP:List Str:=["NoNumber", "NoTable", "NoOrder", "NoStart", "NotTwo", "NoChoice", "NoMixing"]
noncomputable def sp_l_refused (K:W.Frag):Sp:=λ vs H Q _=>∃ t p ns cont un kvs S ms,vs=[.ref t,.ref p]∧TbE K H t ns cont un∧PlAt H p kvs S ms∧¬ goodP kvs ms S (ordR ns.reverse)∧∀ H',Same H H'→Q (.bl true) H'
noncomputable def t_l_refused (K:W.Frag):TS:=(tSeq (tAsg (tC (.bl false)) (gName 2)) (tSeq (tAsg (tC (.bl true)) (gName 3)) (tSeq (tTry (λ E=>tCall (sp_breaks K) [] E (tCons (tVar 0) (tCons (tVar 1) tNil))) (.ref (gadr K "NoPlan")) 4 (tSeq (tAsg (tAndV (tCB (cIsE K) (tCons (tVar 4) (tCons (tC (.ref (gadr K "NoPlan"))) tNil))) (tCB (cIsE K) (tCons (tVar 4) (tCons (tC (.ty "ValueError")) tNil)))) (gName 2)) (tAsg (tCB (cIsE K) (tCons (tVar 4) (tCons (tTup (tCons (tC (.ref (gadr K "NoNumber"))) (tCons (tC (.ref (gadr K "NoTable"))) (tCons (tC (.ref (gadr K "NoOrder"))) (tCons (tC (.ref (gadr K "NoStart"))) (tCons (tC (.ref (gadr K "NotTwo"))) (tCons (tC (.ref (gadr K "NoChoice"))) (tCons (tC (.ref (gadr K "NoMixing"))) tNil)))))))) tNil))) (gName 3)))) (tRet (tAndV (tVar 2) (tNotV (tVar 3)))))))
theorem len_l_refused {K vs H Q E} (h:sp_l_refused K vs H Q E):vs.length=2:=by obtain ⟨_,_,_,_,_,_,_,_,rfl,_⟩:=h;rfl
theorem rd_l_refused {K vs H Q E} (z:XT K "NoPlan" OthP) (h:sp_l_refused K vs H Q E):t_l_refused K { nx:=λ _ H'=>Q .non H',rt:=Q } (start N_l_refused vs) H:=by
 obtain ⟨t,p,ns,cont,un,kvs,S,ms,rfl,tb,pl,ng,q⟩:=h
 rw [show start N_l_refused [V.ref t,V.ref p]=[some (.ref t),some (.ref p),none,none,none] from rfl]
 (dsimp! [t_l_refused,tTry,cIsE,tSeq,tAsg,gName,tVar,tC,tRet,tCall,tCons,tNil,tTup,tCB,tAndV,tNotV,List.append_nil])
 refine ⟨t,p,ns,cont,un,kvs,S,ms,rfl,tb,pl,λ g=>absurd g ng,λ _ H1 s1=>⟨rfl,λ x hx=>?_⟩⟩
 have s2:=s1.trans (Same.upd (o:=excO x (.ref (gadr K "NoPlan"))) hx)
 have hx2:(upd H1 x (excO x (.ref (gadr K "NoPlan")))) x=some (excO x (.ref (gadr K "NoPlan"))):=upd_same
 refine ⟨_,hx2,z.kx,true,.inl ⟨_,rfl,z.own⟩,?_⟩
 refine iteT ⟨_,hx2,z.kx,true,.inr (.inl ⟨_,rfl,z.val⟩),by show 7≤sizeLine;decide,λ p hp=>?_⟩
 have hxp:x≠p:=ne_of_none hx2 hp
 refine ⟨_,by rw [upd_ne hxp];exact hx2,z.kx,false,.inr (.inr ⟨p,OthP.map (gadr K),rfl,upd_same,z.any⟩),iteT (q _ (s2.trans (Same.upd hp)))⟩
noncomputable def N_l_strange:List PySem.Str:=["_law_at", "_law_plays_here", "_law_cell", "_law_hand", "_law_way"]
structure StIn (H:Hp) (a l:Addr) (q:List Nat) (xs:List V) (qs:List (List Nat)) (n:Nat):Prop where
 ha:H a=some (.tup (tv q))
 hl:H l=some (.lst xs)
 ps:Ps H xs qs
 hq:q∈qs
 le:∀ p∈qs,p.length=n
 n2:2≤n
 n3:n≤3
 many:qs.length≤27
noncomputable def sp_l_strange (K:W.Frag):Sp:=λ vs H Q _=>∃ a l cell q xs qs n,vs=[.ref a,.ref l,.int cell]∧StIn H a l q xs qs n∧0≤cell∧∀ p zs H',Same H H'→H' p=some (.tup (List.map V.int zs))→(∀ q∈qs,zs≠q.map λ n:Nat=>(n:Int))→Q (.ref p) H'
noncomputable def t_l_strange_r1 (K:W.Frag):TS:=(tRet (tSl rSlA (tVar 0) tNoPart (tPart (tUn rNegI (tC (.int 1))))))
noncomputable def t_l_strange_r2 (K:W.Frag):TS:=(tSeq (tIfS (tTest (tOp rEq (tVar 4) (tC (.int 2)))) (tRet (tOp rCatA (tVar 0) (tTup (tCons (tC (.int 0)) tNil)))) tNext) (t_l_strange_r1 K))
noncomputable def t_l_strange_c1 (K:W.Frag):TE:=(tOp (rIxT K) (tVar 0) (tVar 1))
noncomputable def t_l_strange_r3 (K:W.Frag):TS:=(tSeq (tIfS (tTest (tOp rEq (tVar 4) (tC (.int 1)))) (tRet (tCall (sp_l_put K) [] E0 (tCons (tVar 0) (tCons (tVar 3) (tCons (tOp rAddI (tC (.int 1)) (tCB (cMaxL K) (tCons (tComp (iList K (tVar 1)) [3] (t_l_strange_c1 K)) tNil))) tNil))))) tNext) (t_l_strange_r2 K))
noncomputable def t_l_strange (K:W.Frag):TS:=(tSeq (tAsg (tOp rModI (tVar 2) (tCB (cLen K) (tCons (tVar 0) tNil))) (gName 3)) (tSeq (tAsg (tOp rModI (tOp rDivC (tVar 2) (tC (.int 6))) (tC (.int 4))) (gName 4)) (tSeq (tIfS (tTest (tOp rEq (tVar 4) (tC (.int 0)))) (tRet (tCall (sp_l_put K) [] E0 (tCons (tVar 0) (tCons (tVar 3) (tCons (tUn rNegI (tC (.int 1))) tNil))))) tNext) (t_l_strange_r3 K))))
theorem len_l_strange {K vs H Q E} (h:sp_l_strange K vs H Q E):vs.length=3:=by obtain ⟨_,_,_,_,_,_,_,rfl,_⟩:=h;rfl
theorem rd_l_strange {K vs H Q E} (h:sp_l_strange K vs H Q E):t_l_strange K { nx:=λ _ H'=>Q .non H',rt:=Q } (start N_l_strange vs) H:=by
 obtain ⟨a,l,cell,q,xs,qs,n,rfl,I,c0,k⟩:=h
 have ql:=I.le q I.hq
 have n2:=I.n2
 have n3:=I.n3
 have ha':H a=some (.tup (List.map V.int (q.map λ n:Nat=>(n:Int)))):=by rw [← tv_ints];exact I.ha
 rw [show start N_l_strange [V.ref a,V.ref l,V.int cell]=[some (.ref a),some (.ref l),some (.int cell),none,none] from rfl]
 (try dsimp? [t_l_strange];try simp_arith [t_l_strange])
 refine ⟨_,.inr (SqT.of I.ha),?_⟩
 rw [tv_len,ql]
 obtain ⟨h,eh,hh⟩:∃ m:Nat,cell % (n:Int)=(m:Int)∧m<n:=by
  have h1:=Int.emod_nonneg cell (show (n:Int)≠0 by omega)
  have h2:=Int.emod_lt_of_pos cell (show (0:Int)<n by omega)
  exact ⟨(cell % (n:Int)).toNat,by omega,by omega⟩
 rw [eh]
 refine ⟨by omega,⟨by decide,by decide⟩,by decide,ite2 (λ _=>?_) (λ _=>?_)⟩
 ·exact ⟨a,_,h,-1,rfl,ha',by rw [List.length_map];omega,by rw [List.length_map];omega,λ p H1 s1 h1=>k p _ H1 s1 h1 λ q' _=>set_not (by omega) λ m _=>by omega⟩
 (try dsimp? [t_l_strange_r3,tComp,iList,cMaxL];try simp_arith [t_l_strange_r3,tComp,iList,cMaxL])
 refine ite2 (λ _=>?_) (λ _=>?_)
 ·refine ⟨⟨_,SqL.of I.hl⟩,comp_list (K:=K) (a:=l) (xs:=xs) (λ i zs H3=>H3=H∧zs=List.map V.int ((qs.take i).map λ q=>((q.getD h 0:Nat):Int))) (small (by rw [I.ps.1];have:=I.many;omega)) ⟨rfl,rfl⟩ ?_ ?_ ?_⟩
  ·rintro i ys H3 _ ⟨rfl,_⟩
   exact SqL.of I.hl
  ·rintro i x ys H3 hi _ ⟨rfl,rfl⟩
   obtain ⟨b,pa,hb,rfl,hpa⟩:=I.ps.get hi
   have bl:=I.le b (List.mem_of_getElem? hb)
   have hbh:b[h]?=some (b.getD h 0):=by rw [List.getD_eq_getElem?_getD,List.getElem?_eq_getElem (by omega)];rfl
   show t_l_strange_c1 K [some (.ref pa),some (.int h)] H3 _
   (try dsimp? [t_l_strange_c1];try simp_arith [t_l_strange_c1])
   exact ⟨_,SqT.of hpa,_,atI_nat (tv_at hbh),by rw [take_snoc hb,List.map_append,List.map_append];rfl⟩
  ·rintro ys H3 _ ⟨rfl,rfl⟩ z hz
   rw [I.ps.1,List.take_length]
   have s1:=Same.upd (o:=HO.lst (List.map V.int (qs.map λ q=>((q.getD h 0:Nat):Int)))) hz
   refine ⟨_,SqL.of upd_same,λ e=>?_,λ M hM hmax=>?_⟩
   ·have:=List.map_eq_nil_iff.mp e
    have hq:=I.hq
    rw [this] at hq;cases hq
   ·refine ⟨a,_,h,1+M,rfl,s1 _ _ ha',by rw [List.length_map];omega,by rw [List.length_map];omega,λ p H1 s2 h1=>k p _ H1 (s1.trans s2) h1 λ q' hq'=>set_not (by omega) λ m hm=>?_⟩
    have:=hmax ((q'.getD h 0:Nat):Int) (List.mem_map.mpr ⟨q',hq',rfl⟩)
    rw [List.getD_eq_getElem?_getD,hm] at this
    have this:(m:Int)≤M:=this
    omega
 (try dsimp? [t_l_strange_r2,rCatA];try simp_arith [t_l_strange_r2,rCatA])
 refine ite2 (λ _=>?_) (λ _=>?_)
 ·refine ⟨sz1,λ z hz=>?_⟩
  have s1:=Same.upd (o:=HO.tup [.int 0]) hz
  refine ⟨_,s1 _ _ I.ha,_,upd_same,small (by rw [tv_len];show _+1≤216;omega),λ p H1 s2 h1=>k p (q.map (λ n:Nat=>(n:Int))++[0]) H1 (s1.trans s2) (by rw [h1,List.map_append,← tv_ints];rfl) λ q' hq'=>len_not ?_⟩
  rw [List.length_append,List.length_map,I.le q' hq',ql]
  show n+1≠n
  omega
 ·(try dsimp? [t_l_strange_r1,rSlA];try simp_arith [t_l_strange_r1,rSlA])
  refine ⟨_,I.ha,λ p H1 s1 h1=>k p ((q.map λ n:Nat=>(n:Int)).take (n - 1)) H1 s1 ?_ λ q' hq'=>len_not ?_⟩
  ·rw [h1,show ((-1:Int)) = -1 from rfl,cut_last,tv_len,ql,tv_ints,List.map_take]
  ·rw [List.length_take,List.length_map,I.le q' hq',ql]
   omega
noncomputable def N_l_rest:List PySem.Str:=["_law_plan_here", "_law_plays_here", "_law_at", "_law_last", "_law_top", "_law_bottom", "_law_play", "_law_one", "_law_most"]
structure ReIn (H:Hp) (p l a b:Addr) (kvs:List (List Key×V)) (S:Int) (wt:List Nat→Int) (xs:List V) (qs:List (List Nat)) (q1 q2:List Nat):Prop where
 pw:PlW H p kvs S qs wt
 s162:S≤162
 w6:∀ q∈qs,0≤wt q∧wt q≤6
 hl:H l=some (.lst xs)
 ps:Ps H xs qs
 ha:H a=some (.tup (tv q1))
 hb:H b=some (.tup (tv q2))
 many:qs.length≤27
noncomputable def sp_l_rest (K:W.Frag):Sp:=λ vs H Q _=>∃ p l a b kvs S wt xs qs q1 q2,vs=[.ref p,.ref l,.ref a,.ref b]∧ReIn H p l a b kvs S wt xs qs q1 q2∧∀ r m H',Same H H'→Wt H' (.ref r) S m→Q (.ref r) H'
noncomputable def iv_l_rest (p l a b:Addr) (H:Hp) (S:Int):Nat→St→Hp→Prop:=λ i σ H3=>∃ T B M o1 o2,σ=[some (.ref p),some (.ref l),some (.ref a),some (.ref b),some (.int T),some (.int B),o1,o2,none]∧Same H H3∧T*S=M*B∧0<B∧M.natAbs≤400*(i+1)∧BB (45*i+1) T∧BB (45*i+1) B
noncomputable def t_l_rest_r1 (K:W.Frag):TS:=(tSeq (tAsg (tCall (sp_l_divisor K) [] E0 (tCons (tVar 4) (tCons (tVar 5) tNil))) (gName 8)) (tRet (tTup (tCons (tOp rDivI (tVar 4) (tVar 8)) (tCons (tOp rDivI (tVar 5) (tVar 8)) tNil)))))
noncomputable def t_l_rest_r2 (K:W.Frag):TS:=(tIfS (tTest (tOp (rNeD K 0) (tVar 6) (tVar 3))) (tSeq (tAsg (tOp rSubI (tOp rMulI (tVar 4) (tOp (rIxT K) (tVar 7) (tC (.int 1)))) (tOp rMulI (tOp (rIxT K) (tVar 7) (tC (.int 0))) (tVar 5))) (gName 4)) (tAsg (tOp rMulI (tVar 5) (tOp (rIxT K) (tVar 7) (tC (.int 1)))) (gName 5))) tNext)
noncomputable def t_l_rest_b1 (K:W.Frag):TS:=(tSeq (tAsg (tDGet (tVar 0) (tVar 6)) (gName 7)) (tSeq (tIfS (tTest (tOp (rEqD K 0) (tVar 6) (tVar 2))) (tAsg (tTup (tCons (tOp rSubI (tOp rSubI (tC (.int 0)) (tOp (rIxT K) (tVar 7) (tC (.int 1)))) (tOp (rIxT K) (tVar 7) (tC (.int 0)))) (tCons (tOp (rIxT K) (tVar 7) (tC (.int 1))) tNil))) (gName 7)) tNext) (t_l_rest_r2 K)))
noncomputable def t_l_rest (K:W.Frag):TS:=(tSeq (tAsg (tC (.int 1)) (gName 4)) (tSeq (tAsg (tC (.int 1)) (gName 5)) (tSeq (tFor (iList K (tVar 1)) (gName 6) (t_l_rest_b1 K)) (t_l_rest_r1 K))))
theorem len_l_rest {K vs H Q E} (h:sp_l_rest K vs H Q E):vs.length=4:=by obtain ⟨_,_,_,_,_,_,_,_,_,_,_,rfl,_⟩:=h;rfl
theorem rest_step {T B S M x y m:Int} (h:T*S=M*B) (e:x*S=m*y):(T*y - x*B)*S=(M - m)*(B*y):=by
 have a1:(T*y - x*B)*S=T*S*y - x*S*B:=by grind
 rw [a1,h,e]
 grind
theorem rest_end {T B S M x y:Int} (h:T*S=M*B) (lo:Lo T B x y) (b0:0<B) (s0:0<S) (s162:S≤162) (hM:M.natAbs≤100000):x*S=M*y∧BB 40 x∧BB 40 y:=by
 have e:x*S=M*y:=by
  refine Int.eq_of_mul_eq_mul_right (a:=B) (by omega) ?_
  calc x*S*B=x*B*S:=by ac_rfl
   _=T*S*y:=by rw [lo.eq];ac_rfl
   _=M*y*B:=by rw [h];ac_rfl
 have lo2:Lo M S x y:=lo_mk s0 lo.pos lo.cop e
 have h1:=lo2.bx
 have h2:=lo2.by_
 refine ⟨e,?_,?_⟩
 ·unfold BB;omega
 ·unfold BB;omega
theorem rd_l_rest {K vs H Q E} (h:sp_l_rest K vs H Q E):t_l_rest K { nx:=λ _ H'=>Q .non H',rt:=Q } (start N_l_rest vs) H:=by
 obtain ⟨p,l,a,b,kvs,S,wt,xs,qs,q1,q2,rfl,I,k⟩:=h
 have s0:=I.pw.s0
 have s162:=I.s162
 rw [show start N_l_rest [V.ref p,V.ref l,V.ref a,V.ref b]=[some (.ref p),some (.ref l),some (.ref a),some (.ref b),none,none,none,none,none] from rfl]
 (try dsimp? [t_l_rest,tFor,iList];try simp_arith [t_l_rest,tFor,iList])
 refine ⟨⟨_,SqL.of I.hl⟩,for_list (K:=K) (a:=l) (xs:=xs) (g:=gName 6) (D:={ nx:=t_l_rest_r1 K { nx:=λ _ H'=>Q .non H',rt:=Q },rt:=Q }) (iv_l_rest p l a b H S) ?_ ?_ ?_ ?_⟩
 ·exact ⟨1,1,S,none,none,rfl,Same.refl _,by omega,by decide,by omega,by unfold BB;decide,by unfold BB;decide⟩
 ·rintro i σ H3 _ ⟨_,_,_,_,_,_,s3,_⟩
  exact SqL.of (s3 _ _ I.hl)
 ·rintro i x' σ H3 hi ⟨T,B,M,o1,o2,rfl,s3,eq,b0,hM,bT,bB⟩
  obtain ⟨c,pa,hc,rfl,hpa⟩:=(I.ps.same s3).get hi
  have cm:=List.mem_of_getElem? hc
  have hil:i<qs.length:=(List.getElem?_eq_some_iff.mp hc).1
  have i27:=I.many
  obtain ⟨v,ev,wv,x,y,rfl,hv,y0,ew,bx,by_⟩:=(I.pw.same s3).w c cm
  have w6:=I.w6 c cm
  have last:∀ (H4:Hp) (o:Addr) (x m:Int),Same H3 H4→H4 o=some (.tup [.int x,.int y])→x*S=m*y→m.natAbs≤400→BB 42 x→t_l_rest_r2 K { nx:=iv_l_rest p l a b H S (i+1),rt:=Q,ct:=iv_l_rest p l a b H S (i+1),bk:=t_l_rest_r1 K { nx:=λ _ H'=>Q .non H',rt:=Q } } [some (.ref p),some (.ref l),some (.ref a),some (.ref b),some (.int T),some (.int B),some (.ref pa),some (.ref o),none] H4:=by
   intro H4 o x m s4 ho ew hm bx
   have s34:=s3.trans s4
   (try dsimp? [t_l_rest_r2,rNeD];try simp_arith [t_l_rest_r2,rNeD])
   refine ⟨_,req_tup (by rw [← tv_ints];exact SqT.of (s4 _ _ hpa)) (by rw [← tv_ints];exact SqT.of (s34 _ _ I.hb)),ite2 (λ _=>?_) (λ _=>⟨T,B,M,_,_,rfl,s34,eq,b0,by omega,bT.mono (by omega),bB.mono (by omega)⟩)⟩
   refine ⟨_,SqT.of ho,_,atI1,_,rfl,⟨_,_,by omega,.inl ⟨bT,by_⟩⟩,_,SqT.of ho,_,atI0,_,rfl,⟨_,_,by omega,.inl ⟨bx,bB⟩⟩,_,SqT.of ho,_,atI1,_,rfl,⟨_,_,by omega,.inl ⟨bB,by_⟩⟩,_,_,M - m,_,_,rfl,s34,rest_step eq ew,Int.mul_pos b0 y0,by omega,?_,(bB.mul by_).mono (by omega)⟩
   exact (((bT.mul by_).mono (n:=45*i+43) (by omega)).sub ((bx.mul bB).mono (by omega))).mono (by omega)
  (try dsimp? [t_l_rest_b1,tDGet,rEqD];try simp_arith [t_l_rest_b1,tDGet,rEqD])
  refine ⟨_,by rw [← ev];exact DGet.t (s3 _ _ I.pw.at_) (by rw [tv_tk];exact hpa),?_⟩
  refine ⟨_,req_tup (by rw [← tv_ints];exact SqT.of hpa) (by rw [← tv_ints];exact SqT.of (s3 _ _ I.ha)),ite2 (λ _=>?_) (λ _=>last H3 wv x (wt c) (Same.refl _) hv ew (by omega) (bx.mono (by decide)))⟩
  refine ⟨wv,rfl,_,SqT.of hv,_,atI1,_,rfl,wv,rfl,_,SqT.of hv,_,atI0,_,rfl,wv,rfl,_,SqT.of hv,_,atI1,sz2,λ z hz=>last _ z (0 - y - x) (-S - wt c) (Same.upd hz) upd_same (neg_step ew) (by omega) ?_⟩
  rw [show 0 - y - x = -(y+x) by omega]
  exact (by_.add bx).neg.mono (by decide)
 ·rintro σ H3 ⟨T,B,M,o1,o2,rfl,s3,eq,b0,hM,bT,bB⟩
  have hx:xs.length≤27:=by rw [I.ps.1];exact I.many
  have g0:0<Int.gcd T B:=Int.gcd_pos_of_ne_zero_right _ (by omega)
  have bg:=bB.gcd (i:=T) (by omega)
  have lo:=lo_pos (t:=T) (b:=B) b0
  obtain ⟨e,bx,by_⟩:=rest_end eq lo b0 s0 s162 (by omega)
  (try dsimp? [t_l_rest_r1];try simp_arith [t_l_rest_r1,sp_l_divisor])
  exact ⟨⟨by omega,bg.mono (by omega)⟩,⟨by omega,bg.mono (by omega)⟩,sz2,λ z hz=>k z M _ (s3.trans (Same.upd hz)) ⟨z,_,_,rfl,upd_same,lo.pos,e,bx,by_⟩⟩
noncomputable def N_l_spoilt:List PySem.Str:=["_law_plan_here", "_law_plays_here", "_law_cell", "_law_bad", "_law_at", "_law_weight", "_law_last"]
noncomputable def sp_l_spoilt (K:W.Frag):Sp:=λ vs H Q _=>∃ p l cell kvs xs ns ws c r,vs=[.ref p,.ref l,.int cell]∧PlG H p l kvs xs ns ws c r∧0≤cell∧∀ b kvs' ms H',Same H H'→PlAt H' b kvs' ws.sum ms→¬ goodP kvs' ms ws.sum (ordR ns.reverse)→Q (.ref b) H'
noncomputable def PosP (kvs:List (List Key×V)) (ms:List Int) (u:List Nat):Prop:=∃ (k:Nat) (v:V) (m:Int),kvs[k]?=some (tk u,v)∧ms[k]?=some m∧0<m
noncomputable def t_l_spoilt_r1 (K:W.Frag):TS:=(tSeq (sDPut (tVar 3) (tVar 4) (tTup (tCons (tOp rSubI (tOp rSubI (tC (.int 0)) (tOp (rIxT K) (tDGet (tVar 3) (tVar 4)) (tC (.int 1)))) (tOp (rIxT K) (tDGet (tVar 3) (tVar 4)) (tC (.int 0)))) (tCons (tOp (rIxT K) (tDGet (tVar 3) (tVar 4)) (tC (.int 1))) tNil)))) (tIfS (tTest (tOp (rNeD K 0) (tVar 6) (tVar 4))) (sDPut (tVar 3) (tVar 6) (tCall (sp_l_rest K) [] E0 (tCons (tVar 0) (tCons (tVar 1) (tCons (tVar 4) (tCons (tVar 6) tNil)))))) tNext))
noncomputable def t_l_spoilt_r2 (K:W.Frag):TS:=(tSeq (tIfS (tTest (tOp rEq (tOp rModI (tVar 2) (tC (.int 6))) (tC (.int 3)))) (tSeq (tAsg (tOp (rIxL K) (tVar 1) (tOp rModI (tOp rAddI (tOp rDivC (tVar 2) (tC (.int 6))) (tC (.int 1))) (tCB (cLen K) (tCons (tVar 1) tNil)))) (gName 6)) (t_l_spoilt_r1 K)) tNext) (tRet (tVar 3)))
noncomputable def t_l_spoilt_r3 (K:W.Frag):TS:=(sDPut (tVar 3) (tVar 4) (tTup (tCons (tC (.int 0)) (tCons (tC (.int 1)) tNil))))
noncomputable def t_l_spoilt_c1 (K:W.Frag):TE:=(tVar 0)
noncomputable def t_l_spoilt_r4 (K:W.Frag):TS:=(tSeq (tIfS (tTest (tOp rEq (tOp rModI (tVar 2) (tC (.int 6))) (tC (.int 4)))) (tSeq (tAsg (tOp (rIxL K) (tCompI (iList K (tVar 1)) [0] (tTest (tOp rGtI (tOp (rIxT K) (tDGet (tVar 1) (tVar 0)) (tC (.int 0))) (tC (.int 0)))) (t_l_spoilt_c1 K)) (tC (.int 0))) (gName 4)) (t_l_spoilt_r3 K)) tNext) (t_l_spoilt_r2 K))
noncomputable def t_l_spoilt_r5 (K:W.Frag):TS:=(sDPut (tVar 3) (tCall (sp_l_strange K) [] E0 (tCons (tVar 4) (tCons (tVar 1) (tCons (tOp rDivC (tVar 2) (tC (.int 6))) tNil)))) (tVar 5))
noncomputable def t_l_spoilt_r6 (K:W.Frag):TS:=(tSeq (tIfS (tTest (tOp rEq (tOp rModI (tVar 2) (tC (.int 6))) (tC (.int 5)))) (tSeq (tAsg (tPopT (tVar 3) (tVar 4)) (gName 5)) (t_l_spoilt_r5 K)) tNext) (t_l_spoilt_r4 K))
noncomputable def t_l_spoilt_r7 (K:W.Frag):TS:=(tSeq (tIfS (tTest (tOp rEq (tOp rModI (tVar 2) (tC (.int 6))) (tC (.int 2)))) (sDPut (tVar 3) (tVar 4) (tTup (tCons (tOp rAddI (tOp (rIxT K) (tDGet (tVar 3) (tVar 4)) (tC (.int 0))) (tOp (rIxT K) (tDGet (tVar 3) (tVar 4)) (tC (.int 1)))) (tCons (tOp (rIxT K) (tDGet (tVar 3) (tVar 4)) (tC (.int 1))) tNil)))) tNext) (t_l_spoilt_r6 K))
noncomputable def t_l_spoilt_r8 (K:W.Frag):TS:=(tSeq (tIfS (tTest (tOp rEq (tOp rModI (tVar 2) (tC (.int 6))) (tC (.int 1)))) (sDPut (tVar 3) (tOp rCatA (tVar 4) (tTup (tCons (tC (.int 0)) tNil))) (tTup (tCons (tC (.int 0)) (tCons (tC (.int 1)) tNil)))) tNext) (t_l_spoilt_r7 K))
noncomputable def t_l_spoilt_r9 (K:W.Frag):TS:=(tSeq (tIfS (tTest (tOp rEq (tOp rModI (tVar 2) (tC (.int 6))) (tC (.int 0)))) (tDrop (tPopT (tVar 3) (tVar 4))) tNext) (t_l_spoilt_r8 K))
noncomputable def t_l_spoilt_r10 (K:W.Frag):TS:=(tSeq (tAsg (tOp (rIxL K) (tVar 1) (tOp rModI (tOp rDivC (tVar 2) (tC (.int 6))) (tCB (cLen K) (tCons (tVar 1) tNil)))) (gName 4)) (t_l_spoilt_r9 K))
noncomputable def t_l_spoilt (K:W.Frag):TS:=(tSeq (tAsg (tCB cDict (tCons (tVar 0) tNil)) (gName 3)) (t_l_spoilt_r10 K))
theorem len_l_spoilt {K vs H Q E} (h:sp_l_spoilt K vs H Q E):vs.length=3:=by obtain ⟨_,_,_,_,_,_,_,_,_,rfl,_⟩:=h;rfl
theorem PlG.put {H H':Hp} {p l b:Addr} {kvs:List (List Key×V)} {xs:List V} {ns:List Nat} {ws:List Int} {c r k:Nat} {q:List Nat} {v u:V} {m:Int} (g:PlG H p l kvs xs ns ws c r) (t:KeepT H H') (hb:H' b=some (.dT (putK kvs (tk q) u))) (e:kvs[k]?=some (tk q,v)) (w:Wt H' u ws.sum m):PlAt H' b (putK kvs (tk q) u) ws.sum ((msOf ws c r).set k m):=by
 refine ⟨hb,?_,g.wo.pos,g.s162.2,?_⟩
 ·rw [vals_put g.nodup e]
  exact (g.wtl.keep t).set k w
 ·rw [List.length_set,msOf_len,g.wo.len]
  have:=g.sh.many
  omega
theorem rd_l_spoilt {K vs H Q E} (h:sp_l_spoilt K vs H Q E):t_l_spoilt K { nx:=λ _ H'=>Q .non H',rt:=Q } (start N_l_spoilt vs) H:=by
 obtain ⟨p,l,cell,kvs,xs,ns,ws,c,r,rfl,g,c0,q⟩:=h
 have many:=g.sh.many
 have pos:=g.sh.pos
 have s0:=g.wo.pos
 obtain ⟨s162,bS⟩:=g.s162
 have nd:=g.nodup
 have len:=g.po.len
 rw [show start N_l_spoilt [V.ref p,V.ref l,V.int cell]=[some (.ref p),some (.ref l),some (.int cell),none,none,none,none] from rfl]
 obtain ⟨ls,k1,k2,k3⟩:=g.dict
 (try dsimp? [t_l_spoilt,cDict];try simp_arith [t_l_spoilt,cDict])
 refine ⟨kvs,g.hp,k3,ls,k1,k2,λ b hb=>?_⟩
 have s1:Same H (upd H b (.dT kvs)):=Same.upd hb
 have hb1:(upd H b (.dT kvs)) b=some (.dT kvs):=upd_same
 generalize upd H b (.dT kvs)=H1 at s1 hb1
 have g1:=g.same s1
 obtain ⟨i,ei,hi⟩:∃ m:Nat,cell / 6 % ((ordR ns.reverse).length:Int)=(m:Int)∧m<(ordR ns.reverse).length:=by
  have h1:=Int.emod_nonneg (cell / 6) (show ((ordR ns.reverse).length:Int)≠0 by omega)
  have h2:=Int.emod_lt_of_pos (cell / 6) (show (0:Int)<(ordR ns.reverse).length by omega)
  exact ⟨(cell / 6 % ((ordR ns.reverse).length:Int)).toNat,by omega,by omega⟩
 have hq0:(ordR ns.reverse)[i]?=some (ordR ns.reverse)[i]:=List.getElem?_eq_getElem hi
 generalize (ordR ns.reverse)[i]=q0 at hq0
 have qm:=List.mem_of_getElem? hq0
 have ql:q0.length=ns.length:=by rw [ordR_len_each _ q0 qm,List.length_reverse]
 obtain ⟨a,ea,ha⟩:=g1.ps.2 i q0 hq0
 have hk0:H1 a=some (.tup ((tk q0).map kV)):=by rw [tv_tk];exact ha
 obtain ⟨j,av,x,y,m,ej,hav,lo,em,m0,m6⟩:=g1.at_ qm
 obtain ⟨bx,by_⟩:=lo_small lo m0 m6 s0 s162
 have vq:valV kvs (tk q0)=some (.ref av):=valV_at nd j ej
 have jl:=(List.getElem?_eq_some_iff.mp ej).1
 (try dsimp? [t_l_spoilt_r10];try simp_arith [t_l_spoilt_r10])
 refine ⟨⟨by decide,by decide⟩,_,.inl (SqL.of g1.hl),?_⟩
 rw [g1.ps.1,ei]
 refine ⟨by omega,_,SqL.of g1.hl,_,atI_nat ea,?_⟩
 have six:cell % 6=0∨cell % 6=1∨cell % 6=2∨cell % 6=3∨cell % 6=4∨cell % 6=5:=by omega
 have t2:∀ (G:Hp) (o4 o5 o6:Option V),¬ cell % 6=3→Q (.ref b) G→t_l_spoilt_r2 K { nx:=λ _ H'=>Q .non H',rt:=Q } [some (.ref p),some (.ref l),some (.int cell),some (.ref b),o4,o5,o6] G:=by
  intro G o4 o5 o6 h3 z
  (try dsimp? [t_l_spoilt_r2];try simp_arith [t_l_spoilt_r2])
  refine ⟨by decide,?_⟩
  rw [if_neg h3]
  exact z
 have t4:∀ (G:Hp) (o4 o5 o6:Option V),¬ cell % 6=4→¬ cell % 6=3→Q (.ref b) G→t_l_spoilt_r4 K { nx:=λ _ H'=>Q .non H',rt:=Q } [some (.ref p),some (.ref l),some (.int cell),some (.ref b),o4,o5,o6] G:=by
  intro G o4 o5 o6 h4 h3 z
  (try dsimp? [t_l_spoilt_r4];try simp_arith [t_l_spoilt_r4])
  refine ⟨by decide,?_⟩
  rw [if_neg h4]
  exact t2 G o4 o5 o6 h3 z
 have t6:∀ (G:Hp) (o4 o5 o6:Option V),¬ cell % 6=5→¬ cell % 6=4→¬ cell % 6=3→Q (.ref b) G→t_l_spoilt_r6 K { nx:=λ _ H'=>Q .non H',rt:=Q } [some (.ref p),some (.ref l),some (.int cell),some (.ref b),o4,o5,o6] G:=by
  intro G o4 o5 o6 h5 h4 h3 z
  (try dsimp? [t_l_spoilt_r6];try simp_arith [t_l_spoilt_r6])
  refine ⟨by decide,?_⟩
  rw [if_neg h5]
  exact t4 G o4 o5 o6 h4 h3 z
 have t7:∀ (G:Hp) (o4 o5 o6:Option V),¬ cell % 6=2→¬ cell % 6=5→¬ cell % 6=4→¬ cell % 6=3→Q (.ref b) G→t_l_spoilt_r7 K { nx:=λ _ H'=>Q .non H',rt:=Q } [some (.ref p),some (.ref l),some (.int cell),some (.ref b),o4,o5,o6] G:=by
  intro G o4 o5 o6 h2 h5 h4 h3 z
  (try dsimp? [t_l_spoilt_r7];try simp_arith [t_l_spoilt_r7])
  refine ⟨by decide,?_⟩
  rw [if_neg h2]
  exact t6 G o4 o5 o6 h5 h4 h3 z
 have dg:∀ {G:Hp},Same H1 G→DGet G b (.ref a) (some (.ref av)):=λ s=>by rw [← vq];exact DGet.t (s _ _ hb1) (s _ _ hk0)
 have ml:(msOf ws c r).length=(ordR ns.reverse).length:=by rw [msOf_len,g.wo.len]
 (try dsimp? [t_l_spoilt_r9,tPopT,tDrop];try simp_arith [t_l_spoilt_r9,tPopT,tDrop])
 refine ⟨by decide,ite2 (λ h0=>?_) (λ h0=>?_)⟩
 ·refine ⟨.inr ⟨kvs,.inl hb1⟩,kvs,hb1,tk q0,hk0,_,j,ej,?_⟩
  have kd:=keepT_dict (o:=.dT (kvs.eraseIdx j)) hb1
  (try dsimp? [t_l_spoilt_r8];try simp_arith [t_l_spoilt_r8])
  refine ⟨by decide,?_⟩
  rw [if_neg (by omega)]
  refine t7 _ _ _ _ (by omega) (by omega) (by omega) (by omega) (q b (kvs.eraseIdx j) ((msOf ws c r).eraseIdx j) _ (s1.put hb) ⟨upd_same,?_,s0,bS,?_⟩ λ z=>?_)
  ·rw [← map_erase]
   exact ((g1.wtl.keep kd).erase j)
  ·have:=List.length_eraseIdx_le (msOf ws c r) j
   omega
  ·have:=z.1 q0 qm
   rw [valV_erase nd ej] at this
   cases this
 (try dsimp? [t_l_spoilt_r8,sDPut,rCatA];try simp_arith [t_l_spoilt_r8,sDPut,rCatA])
 refine ⟨by decide,ite2 (λ h1=>?_) (λ h1=>?_)⟩
 ·refine ⟨sz2,λ z1 hz1=>⟨sz1,λ z2 hz2=>?_⟩⟩
  have sA:Same H1 (upd H1 z1 (.tup [.int 0,.int 1])):=Same.upd hz1
  have sB:Same (upd H1 z1 (.tup [.int 0,.int 1])) (upd (upd H1 z1 (.tup [.int 0,.int 1])) z2 (.tup [.int 0])):=Same.upd hz2
  have hz1':=sB _ _ (upd_same (H:=H1) (a:=z1) (o:=HO.tup [.int 0,.int 1]))
  have n3:=g.sh.sz.len
  refine ⟨_,sB _ _ (sA _ _ ha),_,upd_same,small (by rw [tv_len];show _+1≤216;omega),λ z3 G sC h3=>?_⟩
  have sD:=(sA.trans sB).trans sC
  have hk3:G z3=some (.tup ((iK (q0.map (λ n:Nat=>(n:Int))++[0])).map kV)):=by rw [h3,iK_kV,List.map_append,← tv_ints];rfl
  have new:valV kvs (iK (q0.map (λ n:Nat=>(n:Int))++[0]))=none:=by
   cases e:valV kvs (iK (q0.map (λ n:Nat=>(n:Int))++[0])) with
   | none=>rfl
   | some v =>
    exfalso
    obtain ⟨p',hp',e1,_⟩:=valV_mem e
    obtain ⟨jj,hj⟩:=List.getElem?_of_mem hp'
    have:=g.keyl (show kvs[jj]?=some (p'.1,p'.2) from hj)
    rw [e1] at this
    unfold iK at this
    rw [List.length_map,List.length_append,List.length_map,ql] at this
    have this:ns.length+1=ns.length:=this
    omega
  have kd:=λ o=>keepT_dict (o:=o) (sD _ _ hb1)
  refine ⟨_,DPut.t (sD _ _ hb1) hk3 (by rw [len,sizeLine_eq];omega),t7 _ _ _ _ (by omega) (by omega) (by omega) (by omega) (q b _ (msOf ws c r++[0]) _ ((s1.trans sD).put hb) ⟨upd_same,?_,s0,bS,?_⟩ λ z=>?_)⟩
  ·rw [putK_new _ new,List.map_append]
   exact ((g1.wtl.keep (keepT_same sD)).keep (kd _)).snoc ⟨z1,0,1,rfl,kd _ _ _ (sC _ _ hz1'),by decide,by simp,by unfold BB;decide,by unfold BB;decide⟩
  ·rw [List.length_append,ml];show _+1≤60;omega
  ·have:=z.2.1
   rw [List.length_append,ml] at this
   have this:(ordR ns.reverse).length+1=_:=this
   omega
 (try dsimp? [t_l_spoilt_r7,sDPut,tDGet];try simp_arith [t_l_spoilt_r7,sDPut,tDGet])
 refine ⟨by decide,ite2 (λ h2=>?_) (λ h2=>?_)⟩
 ·refine ⟨_,dg (Same.refl _),av,rfl,_,SqT.of hav,_,atI0,_,dg (Same.refl _),av,rfl,_,SqT.of hav,_,atI1,_,rfl,_,rfl,_,dg (Same.refl _),av,rfl,_,SqT.of hav,_,atI1,sz2,λ z1 hz1=>?_⟩
  have sA:Same H1 (upd H1 z1 (.tup [.int (x+y),.int y])):=Same.upd hz1
  have kd:=keepT_dict (o:=.dT (putK kvs (tk q0) (.ref z1))) (sA _ _ hb1)
  refine ⟨_,DPut.t (sA _ _ hb1) (sA _ _ hk0) (by rw [len,sizeLine_eq];omega),t6 _ _ _ _ (by omega) (by omega) (by omega) (q b _ _ _ ((s1.trans sA).put hb) ((g1.same sA).put kd upd_same ej (m:=m+ws.sum) ⟨z1,x+y,y,rfl,kd _ _ upd_same,lo.pos,?_,(bx.add by_).mono (by decide),by_.mono (by decide)⟩) λ z=>?_)⟩
  ·rw [Int.add_mul,Int.add_mul,lo.eq,Int.mul_comm y]
  ·have e:=z.2.2.2
   rw [sum_set em,ms_sum] at e
   omega
 (try dsimp? [t_l_spoilt_r6,tPopT];try simp_arith [t_l_spoilt_r6,tPopT])
 refine ⟨by decide,ite2 (λ h5=>?_) (λ h5=>?_)⟩
 ·refine ⟨.inr ⟨kvs,.inl hb1⟩,kvs,hb1,tk q0,hk0,_,j,ej,?_⟩
  have kd:=keepT_dict (o:=.dT (kvs.eraseIdx j)) hb1
  have s2:Same H (upd H1 b (.dT (kvs.eraseIdx j))):=s1.put hb
  have hb2:(upd H1 b (.dT (kvs.eraseIdx j))) b=some (.dT (kvs.eraseIdx j)):=upd_same
  have g2:=g.same s2
  have ha2:=kd _ _ ha
  have hav2:=kd _ _ hav
  generalize upd H1 b (.dT (kvs.eraseIdx j))=H2 at s2 hb2 g2 ha2 hav2
  have el:=List.length_eraseIdx_le kvs j
  have el2:=List.length_eraseIdx_le (msOf ws c r) j
  (try dsimp? [t_l_spoilt_r5,sDPut];try simp_arith [t_l_spoilt_r5,sDPut])
  refine ⟨⟨by decide,by decide⟩,a,l,cell / 6,q0,xs,ordR ns.reverse,ns.length,rfl,⟨ha2,g2.hl,g2.ps,qm,λ q' hq'=>by rw [ordR_len_each _ q' hq',List.length_reverse],g.sh.l2,g.sh.sz.len,many⟩,by omega,λ z1 zs G sC hz1 hn=>?_⟩
  have hk:G z1=some (.tup ((iK zs).map kV)):=by rw [hz1,iK_kV]
  have new:valV (kvs.eraseIdx j) (iK zs)=none:=by
   cases e:valV (kvs.eraseIdx j) (iK zs) with
   | none=>rfl
   | some v =>
    exfalso
    obtain ⟨p',hp',e1,_⟩:=valV_mem e
    obtain ⟨jj,hj⟩:=List.getElem?_of_mem (List.mem_of_mem_eraseIdx hp')
    obtain ⟨q',hq',e2⟩:=g.keyq (show kvs[jj]?=some (p'.1,p'.2) from hj)
    rw [e1,tk_iK] at e2
    exact hn q' hq' (iK_inj e2)
  have kd3:=λ o=>keepT_dict (o:=o) (sC _ _ hb2)
  refine ⟨_,DPut.t (sC _ _ hb2) hk (by rw [sizeLine_eq];omega),t4 _ _ _ _ (by omega) (by omega) (q b _ ((msOf ws c r).eraseIdx j++[m]) _ ((s2.trans sC).put hb) ⟨upd_same,?_,s0,bS,?_⟩ λ z=>?_)⟩
  ·rw [putK_new _ new,List.map_append,← map_erase]
   exact (((g2.wtl.keep (keepT_same sC)).keep (kd3 _)).erase j).snoc ⟨av,x,y,rfl,kd3 _ _ _ (sC _ _ hav2),lo.pos,lo.eq,bx.mono (by decide),by_.mono (by decide)⟩
  ·rw [List.length_append];show _+1≤60;omega
  ·have:=z.1 q0 qm
   rw [valV_put,if_neg (λ e=>by rw [tk_iK] at e;exact hn q0 qm (iK_inj e).symm),valV_erase nd ej] at this
   cases this
 (try dsimp? [t_l_spoilt_r4,tCompI,iList];try simp_arith [t_l_spoilt_r4,tCompI,iList])
 refine ⟨by decide,ite2 (λ h4=>?_) (λ h4=>?_)⟩
 ·refine ⟨⟨_,SqL.of g1.hl⟩,comp_listI (K:=K) (a:=l) (xs:=xs) (λ i zs H3=>H3=H1∧∃ us,Ps H1 zs us∧(∀ u∈us,u∈ordR ns.reverse∧PosP kvs (msOf ws c r) u)∧∀ u∈(ordR ns.reverse).take i,PosP kvs (msOf ws c r) u→us≠[]) (small (by rw [g1.ps.1];omega)) ⟨rfl,[],Ps.nil,(λ u hu=>nomatch hu),λ u hu=>by simp at hu⟩ ?_ ?_ ?_⟩
  ·rintro i ys H3 _ ⟨rfl,_⟩
   exact SqL.of g1.hl
  ·rintro i x' ys H3 hi _ ⟨rfl,us,pu,um,ue⟩
   obtain ⟨u,pa,hu,rfl,hpa⟩:=g1.ps.get hi
   have hum:=List.mem_of_getElem? hu
   obtain ⟨k,av',x,y,m,f1,f2,f3,f4,f5,f6⟩:=g1.at_ hum
   have val:=(f3.val s0).1
   show tTest _ [some (.ref pa),some (.ref p)] H3 _
   (try dsimp? [tDGet,t_l_spoilt_c1];try simp_arith [tDGet,t_l_spoilt_c1])
   refine ⟨.ref av',by rw [← valV_at nd k f1];exact DGet.t g1.hp (by rw [tv_tk];exact hpa),av',rfl,_,SqT.of f2,_,atI0,_,rfl,ite2 (λ hx=>⟨us++[u],pu.app (Ps.one hpa),λ w hw=>?_,λ w _ _=>by simp⟩) (λ hx=>⟨us,pu,um,λ w hw hp=>?_⟩)⟩
   ·rcases List.mem_append.mp hw with z | z
    ·exact um w z
    ·rw [List.mem_singleton.mp z];exact ⟨hum,k,_,m,f1,f4,val.mp hx⟩
   ·rw [take_snoc hu] at hw
    rcases List.mem_append.mp hw with z | z
    ·exact ue w z hp
    ·rw [List.mem_singleton.mp z] at hp
     obtain ⟨k',v',m',e1,e2,e3⟩:=hp
     have:k'=k:=(List.getElem?_inj (i:=k') (j:=k) (l:=kvs.map (·.1)) (by rw [List.length_map];exact (List.getElem?_eq_some_iff.mp e1).1) nd).mp (by rw [List.getElem?_map,List.getElem?_map,e1,f1];rfl)
     subst this
     rw [f4] at e2
     cases e2
     exact absurd (val.mpr e3) hx
  ·rintro ys H3 ⟨rfl,us,pu,um,ue⟩ z hz
   rw [g1.ps.1,List.take_length] at ue
   have ex:us≠[]:=by
    obtain ⟨m',hm',p'⟩:=pos_mem g.nn (by rw [ms_sum];exact s0)
    obtain ⟨k,hk⟩:=List.getElem?_of_mem hm'
    have kl:k<(ordR ns.reverse).length:=by rw [← ml];exact (List.getElem?_eq_some_iff.mp hk).1
    obtain ⟨u,au,xu,yu,e1,e2,_⟩:=g.po.en k kl
    exact ue u (List.mem_of_getElem? e1) ⟨k,_,m',e2,hk,p'⟩
   obtain ⟨u,us',rfl⟩:∃ u us',us=u::us':=by
    cases us with
    | nil=>exact absurd rfl ex
    | cons u us'=>exact ⟨u,us',rfl⟩
   obtain ⟨hum,k,v,m',f1,f2,f3⟩:=um u List.mem_cons_self
   obtain ⟨au,eu,hau⟩:=pu.2 0 u rfl
   have sA:Same H3 (upd H3 z (.lst ys)):=Same.upd hz
   refine ⟨_,SqL.of upd_same,_,atI_nat eu,?_⟩
   (try dsimp? [t_l_spoilt_r3,sDPut];try simp_arith [t_l_spoilt_r3,sDPut])
   refine ⟨sz2,λ z1 hz1=>?_⟩
   have sB:=sA.trans (Same.upd (o:=HO.tup [.int 0,.int 1]) hz1)
   have kd:=keepT_dict (o:=.dT (putK kvs (tk u) (.ref z1))) (sB _ _ hb1)
   refine ⟨_,DPut.t (sB _ _ hb1) (by rw [tv_tk];exact sB _ _ hau) (by rw [len,sizeLine_eq];omega),t2 _ _ _ _ (by omega) (q b _ _ _ ((s1.trans sB).put hb) ((g1.same sB).put kd upd_same f1 (m:=0) ⟨z1,0,1,rfl,kd _ _ upd_same,by decide,by simp,by unfold BB;decide,by unfold BB;decide⟩) λ z=>?_)⟩
   have e:=z.2.2.2
   rw [sum_set f2,ms_sum] at e
   omega
 have h3:cell % 6=3:=by omega
 (try dsimp? [t_l_spoilt_r2];try simp_arith [t_l_spoilt_r2])
 refine ⟨by decide,?_⟩
 rw [if_pos h3]
 refine ⟨⟨by decide,by decide⟩,_,.inl (SqL.of g1.hl),?_⟩
 rw [g1.ps.1]
 obtain ⟨i2,ei2,hi2⟩:∃ m:Nat,(cell / 6+1) % ((ordR ns.reverse).length:Int)=(m:Int)∧m<(ordR ns.reverse).length:=by
  have h1:=Int.emod_nonneg (cell / 6+1) (show ((ordR ns.reverse).length:Int)≠0 by omega)
  have h2:=Int.emod_lt_of_pos (cell / 6+1) (show (0:Int)<(ordR ns.reverse).length by omega)
  exact ⟨((cell / 6+1) % ((ordR ns.reverse).length:Int)).toNat,by omega,by omega⟩
 have hq2:(ordR ns.reverse)[i2]?=some (ordR ns.reverse)[i2]:=List.getElem?_eq_getElem hi2
 generalize (ordR ns.reverse)[i2]=q2 at hq2
 have qm2:=List.mem_of_getElem? hq2
 obtain ⟨a2,ea2,ha2⟩:=g1.ps.2 i2 q2 hq2
 rw [ei2]
 refine ⟨by omega,_,SqL.of g1.hl,_,atI_nat ea2,?_⟩
 (try dsimp? [t_l_spoilt_r1,sDPut,tDGet,rNeD];try simp_arith [t_l_spoilt_r1,sDPut,tDGet,rNeD])
 refine ⟨_,dg (Same.refl _),av,rfl,_,SqT.of hav,_,atI1,_,rfl,_,dg (Same.refl _),av,rfl,_,SqT.of hav,_,atI0,_,rfl,_,dg (Same.refl _),av,rfl,_,SqT.of hav,_,atI1,sz2,λ z1 hz1=>?_⟩
 have sA:Same H1 (upd H1 z1 (.tup [.int (0 - y - x),.int y])):=Same.upd hz1
 have kd:=keepT_dict (o:=.dT (putK kvs (tk q0) (.ref z1))) (sA _ _ hb1)
 refine ⟨_,DPut.t (sA _ _ hb1) (sA _ _ hk0) (by rw [len,sizeLine_eq];omega),?_⟩
 have s2:Same H (upd (upd H1 z1 (.tup [.int (0 - y - x),.int y])) b (.dT (putK kvs (tk q0) (.ref z1)))):=(s1.trans sA).put hb
 have hb2:(upd (upd H1 z1 (.tup [.int (0 - y - x),.int y])) b (.dT (putK kvs (tk q0) (.ref z1)))) b=some (.dT (putK kvs (tk q0) (.ref z1))):=upd_same
 have hz2:=kd _ _ (upd_same (H:=H1) (a:=z1) (o:=HO.tup [.int (0 - y - x),.int y]))
 have k12:KeepT H1 (upd (upd H1 z1 (.tup [.int (0 - y - x),.int y])) b (.dT (putK kvs (tk q0) (.ref z1)))):=(keepT_same sA).trans kd
 generalize upd (upd H1 z1 (.tup [.int (0 - y - x),.int y])) b (.dT (putK kvs (tk q0) (.ref z1)))=H2 at s2 hb2 hz2 k12 ⊢
 have g2:=g.same s2
 have bn:BB 40 (0 - y - x):=by
  rw [show 0 - y - x = -(y+x) by omega]
  exact (by_.add bx).neg.mono (by decide)
 have w1:Wt H2 (.ref z1) ws.sum (-ws.sum - m):=⟨z1,_,y,rfl,hz2,lo.pos,neg_step lo.eq,bn,by_.mono (by decide)⟩
 have ha':=k12 _ _ ha
 have ha2':=k12 _ _ ha2
 have hs0:(valV kvs (tk q0)).isSome=true:=by rw [vq];rfl
 refine ⟨_,req_tup (by rw [← tv_ints];exact SqT.of ha2') (by rw [← tv_ints];exact SqT.of ha'),ite2 (λ hne=>?_) (λ _=>?_)⟩
 ·obtain ⟨wt,hw⟩:=g2.wt
  have q02:tk q2≠tk q0:=λ e=>by
   rw [tk_inj e] at hne
   simp at hne
  obtain ⟨j2,av2,x2,y2,m2,ej2,_⟩:=g1.at_ qm2
  have jj:j≠j2:=λ e=>by
   rw [e,ej2] at ej
   exact q02 (Prod.mk.inj (Option.some.inj ej)).1
  refine ⟨p,l,a,a2,kvs,ws.sum,wt,xs,ordR ns.reverse,q0,q2,rfl,⟨⟨g2.hp,s0,bS,λ q hq=>(hw q hq).1⟩,s162,λ q hq=>(hw q hq).2,g2.hl,g2.ps,ha',ha2',many⟩,λ z3 m3 H3 s3 w3=>?_⟩
  have kd3:=keepT_dict (o:=.dT (putK (putK kvs (tk q0) (.ref z1)) (tk q2) (.ref z3))) (s3 _ _ hb2)
  refine ⟨_,DPut.t (s3 _ _ hb2) (by rw [tv_tk];exact s3 _ _ ha2') (by rw [putK_len hs0,len,sizeLine_eq];omega),?_⟩
  refine q b _ (((msOf ws c r).set j (-ws.sum - m)).set j2 m3) _ ((s2.trans s3).put hb) ⟨upd_same,?_,s0,bS,?_⟩ λ z=>?_
  ·rw [vals_put (j:=j2) (by rw [keys_put hs0];exact nd) (put_get hs0 ej2 q02),vals_put nd ej]
   exact (((((g2.wtl.set j w1).keep (keepT_same s3)).keep kd3)).set j2 (w3.keep kd3))
  ·rw [List.length_set,List.length_set,ml];omega
  ·have jm:j<(msOf ws c r).length:=(List.getElem?_eq_some_iff.mp em).1
   have hm:(((msOf ws c r).set j (-ws.sum - m)).set j2 m3)[j]?=some (-ws.sum - m):=by
    rw [List.getElem?_set_ne (λ e=>jj e.symm),List.getElem?_set_self jm]
   have:=z.2.2.1 _ (List.mem_of_getElem? hm)
   omega
 ·refine q b _ _ H2 s2 (g2.put (λ _ _ e=>e) hb2 ej w1) λ z=>?_
  have jm:j<(msOf ws c r).length:=(List.getElem?_eq_some_iff.mp em).1
  have:=z.2.2.1 (-ws.sum - m) (List.mem_set jm _)
  omega
noncomputable def N_law:List PySem.Str:=["_law_script", "_law_head", "_law_sizes", "_law_plays_here", "_law_cells", "_law_plan_here", "_law_table_here", "_law_due_here", "_law_handed"]
noncomputable def sp_law (K:W.Frag):Sp:=λ vs H Q _=>∃ (a:Addr) (ns:List Int),vs=[.ref a]∧SqL K H a (ns.map V.int)∧ns.length≤63∧∀ H',Q (.bl true) H'
noncomputable def t_law_r1 (K:W.Frag):TS:=(tRet (tCall (sp_l_same K) [] E0 (tCons (tCall (sp_breaks K) [] E0 (tCons (tVar 6) (tCons (tVar 8) tNil))) (tCons (tVar 7) tNil))))
noncomputable def t_law_r2 (K:W.Frag):TS:=(tSeq (tIfS (tNot (tB (tCall (sp_l_refused K) [] E0 (tCons (tVar 6) (tCons (tCall (sp_l_spoilt K) [] E0 (tCons (tVar 5) (tCons (tVar 3) (tCons (tOp rDivC (tOp (rIxL K) (tVar 1) (tC (.int 115))) (tC (.int 7))) tNil)))) tNil))))) (tRet (tC (.bl false))) tNext) (t_law_r1 K))
noncomputable def t_law_r3 (K:W.Frag):TS:=(tSeq (tIfS (tOr (tNot (tB (tCall (sp_l_same K) [] E0 (tCons (tCall (sp_breaks K) [] E0 (tCons (tVar 6) (tCons (tVar 8) tNil))) (tCons (tVar 7) tNil))))) (tTest (tOp (rNeDi K 1) (tVar 8) (tVar 5)))) (tRet (tC (.bl false))) tNext) (t_law_r2 K))
noncomputable def t_law_r4 (K:W.Frag):TS:=(tSeq (tAsg (tCB cDict (tCons (tVar 5) tNil)) (gName 8)) (t_law_r3 K))
noncomputable def t_law_r5 (K:W.Frag):TS:=(tSeq (tAsg (tCall (sp_l_due K) [] E0 (tCons (tVar 2) (tCons (tVar 4) (tCons (tVar 5) (tCons (tVar 3) tNil))))) (gName 7)) (t_law_r4 K))
noncomputable def t_law_r6 (K:W.Frag):TS:=(tSeq (tAsg (tMake (gadr K "Table") (sp_Table_init K) [] E0 (tCons (tVar 2) (tCons (tVar 4) tNil))) (gName 6)) (t_law_r5 K))
noncomputable def t_law_r7 (K:W.Frag):TS:=(tSeq (tAsg (tCall (sp_l_table K) [] E0 (tCons (tVar 1) tNil)) (gTup K 3 (gCons (gName 2) (gCons (gName 3) (gCons (gName 4) gNil))))) (tSeq (tAsg (tCall (sp_l_plan K) [] E0 (tCons (tVar 1) (tCons (tVar 3) tNil))) (gName 5)) (t_law_r6 K)))
noncomputable def t_law (K:W.Frag):TS:=(tSeq (tAsg (tCall (sp_l_numbers K) [] E0 (tCons (tVar 0) (tCons (tC (.int 116)) tNil))) (gName 1)) (t_law_r7 K))
theorem len_law {K vs H Q E} (h:sp_law K vs H Q E):vs.length=1:=by obtain ⟨a,ns,rfl,_⟩:=h;rfl
theorem BrV.same {H H':Hp} {v:V}:∀ {o:Option (List Nat)},BrV H v o→Same H H'→BrV H' v o
 | none,h,_=>h
 | some _,⟨a,e,l,h⟩,s=>⟨a,e,l,s _ _ h⟩
theorem rd_law {K vs H Q E} (h:sp_law K vs H Q E):t_law K { nx:=λ _ H'=>Q .non H',rt:=Q } (start N_law vs) H:=by
 obtain ⟨a,ns,rfl,hS,hn,q⟩:=h
 rw [show start N_law [V.ref a]=[some (.ref a),none,none,none,none,none,none,none,none] from rfl]
 (try dsimp? [t_law];try simp_arith [t_law])
 refine ⟨a,ns,116,rfl,hS,hn,by decide,by decide,λ hd hs H1 s1 hh hl nm=>?_⟩
 (try dsimp? [t_law_r7];try simp_arith [t_law_r7])
 refine ⟨hd,hs,rfl,hh,hl,nm,λ r s l c ms xs ckvs cont H2 s2 hr tb=>?_⟩
 refine ⟨r,rfl,_,SqT.of hr,rfl,_,_,rfl,_,_,rfl,_,_,rfl,rfl,?_⟩
 have nd:=ordR_nodup ms.reverse
 refine ⟨hd,hs,l,xs,ordR ms.reverse,rfl,s2 _ _ hh,hl,nm,tb.hl,tb.ps,nd,tb.sh.pos,tb.sh.many,λ p kvs ws pc pr H3 s3 hp0 hp po wo=>?_⟩
 have s23:=s2.trans s3
 have tb3:TbO H3 s l c ms xs ckvs cont:=⟨s3 _ _ tb.hs,tb.sh,s3 _ _ tb.hl,tb.ps.same s3,s3 _ _ tb.hc,λ q hq=>(tb.cel q hq).same s3,tb.len,λ q hq=>(tb.en q hq).keep (keepT_same s3)⟩
 have g3:PlG H3 p l kvs xs ms ws pc pr:=⟨hp,po,wo,tb.sh,tb3.hl,tb3.ps⟩
 (try dsimp? [t_law_r6,tMake];try simp_arith [t_law_r6,tMake])
 intro t dx ht hdx ne
 have s6:Same H3 (upd (upd H3 dx (.own t)) t (.ins (gadr K "Table") dx [])):=(Same.upd hdx).put ht
 have t6:(upd (upd H3 dx (.own t)) t (.ins (gadr K "Table") dx [])) t=some (.ins (gadr K "Table") dx []):=upd_same
 generalize (upd (upd H3 dx (.own t)) t (.ins (gadr K "Table") dx []))=H6 at s6 t6
 refine ⟨t,dx,s,c,ms,ckvs,cont,rfl,t6,SqL.of (s6 _ _ tb3.hs),tb.sh.l2,tb.sh.sz,s6 _ _ tb3.hc,λ q hq=>(tb3.cel q hq).same s6,λ q hq=>(tb3.en q hq).1,tb.len,λ H7 b7 tab=>⟨rfl,?_⟩⟩
 have s7:Same H3 H7:=λ b u e=>b7 b u (s6 b u e) (ne_of_none e ht)
 obtain ⟨un,hun⟩:∃ un:List Nat→Nat→Int,∀ q∈ordR ms.reverse,∀ h,h<ms.length→∃ v,(cont q)[h]?=some v∧En H3 v (un q h):=by
  refine ⟨λ q h=>enU H3 ((cont q).getD h .non),λ q hq h hh=>?_⟩
  obtain ⟨v,e,n⟩:=(tb3.en q hq).get hh
  refine ⟨v,e,?_⟩
  show En H3 v (enU H3 ((cont q).getD h .non))
  rw [List.getD_eq_getElem?_getD,e]
  exact n.en
 have te:TbE K H7 t ms cont un:=⟨tab,tb.sh.sz,λ q hq h hh=>let ⟨v,e,n⟩:=hun q hq h hh;⟨v,e,n.keep (keepT_same s7)⟩⟩
 have g7:=g3.same s7
 have ce:CeE H7 c ckvs ms cont un:=⟨s7 _ _ tb3.hc,tb.sh.sz,λ q hq=>(tb3.cel q hq).same s7,te.en⟩
 obtain ⟨wt,hw⟩:=g7.wt
 obtain ⟨ls,k1,k2,k3⟩:=g7.dict
 have pw:PlW H7 p kvs ws.sum (ordR ms.reverse) wt:=⟨g7.hp,wo.pos,g7.s162.2,λ q hq=>(hw q hq).1⟩
 (try dsimp? [t_law_r5];try simp_arith [t_law_r5])
 refine ⟨s,c,p,l,ckvs,ms,cont,un,kvs,ws.sum,wt,xs,rfl,s7 _ _ tb3.hs,⟨ce,pw,g7.hl,g7.ps⟩,λ v H8 s8 bv=>?_⟩
 have g8:=g7.same s8
 (try dsimp? [t_law_r4,cDict];try simp_arith [t_law_r4,cDict])
 refine ⟨kvs,g8.hp,k3,ls,k1,k2,λ d hd8=>?_⟩
 have s9:Same H8 (upd H8 d (.dT kvs)):=Same.upd hd8
 have hd9:(upd H8 d (.dT kvs)) d=some (.dT kvs):=upd_same
 generalize upd H8 d (.dT kvs)=H9 at s9 hd9
 have s79:=s8.trans s9
 have g9:=g8.same s9
 have pl9:PlAt H9 d kvs ws.sum (msOf ws pc pr):=⟨hd9,g9.wtl,wo.pos,g9.s162.2,by rw [msOf_len,wo.len];have:=tb.sh.many;omega⟩
 have good:=g9.good
 have hw9:∀ q∈ordR ms.reverse,∃ v,valV kvs (tk q)=some v∧Wt H9 v ws.sum (wt q):=λ q hq=>let ⟨v,e,w⟩:=(hw q hq).1;⟨v,e,w.keep (keepT_same s79)⟩
 have te9:=te.same s79
 have bv9:=bv.same s9
 (try dsimp? [t_law_r3,rNeDi];try simp_arith [t_law_r3,rNeDi])
 refine ⟨t,d,ms,cont,un,kvs,ws.sum,msOf ws pc pr,rfl,te9,pl9,λ _=>⟨wt,hw9,λ v2 H10 s10 bv2=>?_⟩,λ ng=>absurd good ng⟩
 refine ⟨v2,v,_,rfl,bv2,bv9.same s10,λ H11 s11=>?_⟩
 have s911:=s10.trans s11
 have g11:=g9.same s911
 have hd11:=s911 _ _ hd9
 refine ⟨true,rfl,iteF ⟨kvs,hd11,kvs,g11.hp,rfl,λ p' hp'=>?_,iteF ?_⟩⟩
 ·obtain ⟨j,hj⟩:=List.getElem?_of_mem hp'
  obtain ⟨q',_,e⟩:=g9.keyq (show kvs[j]?=some (p'.1,p'.2) from hj)
  have jl:j<(ordR ms.reverse).length:=by rw [← g9.po.len];exact (List.getElem?_eq_some_iff.mp hj).1
  obtain ⟨_,av,_,_,_,e2,_⟩:=g9.po.en j jl
  rw [hj] at e2
  have e3:p'.2=.ref av:=congrArg Prod.snd (Option.some.inj e2)
  exact ⟨p'.2,valV_at g9.nodup j (show kvs[j]?=some (p'.1,p'.2) from hj),.inl (.inl ⟨rfl,⟨av,e3⟩,rfl⟩)⟩
 have s111:=(s2.trans s3).trans (s7.trans (s79.trans s911))
 have n115:=(nm_at nm (i:=115) (by omega)).1
 (try dsimp? [t_law_r2];try simp_arith [t_law_r2])
 refine ⟨_,SqL.of (s111 _ _ hh),_,ints_atD (i:=115) (by omega),_,rfl,⟨by decide,by decide⟩,?_⟩
 refine ⟨p,l,_,kvs,xs,ms,ws,pc,pr,rfl,g11,by omega,λ b kvs' ms' H12 s12 pl ng=>?_⟩
 refine ⟨t,b,ms,cont,un,kvs',ws.sum,ms',rfl,te9.same (s911.trans s12),pl,ng,λ H13 s13=>⟨true,rfl,iteF ?_⟩⟩
 have s913:=s911.trans (s12.trans s13)
 (try dsimp? [t_law_r1];try simp_arith [t_law_r1])
 refine ⟨t,d,ms,cont,un,kvs,ws.sum,msOf ws pc pr,rfl,te9.same s913,pl9.same s913,λ _=>⟨wt,λ q hq=>let ⟨v,e,w⟩:=hw9 q hq;⟨v,e,w.keep (keepT_same s913)⟩,λ v2 H14 s14 bv2=>?_⟩,λ ng=>absurd good ng⟩
 exact ⟨v2,v,_,rfl,bv2,bv9.same (s913.trans s14),λ H15 _=>q H15⟩
noncomputable def top (i:Nat):Stmt:=PySem.Challenge.pw_mixplay_k51_who_breaks_a_plan.main.body.getD i (.Pass ⟨0,0,0,0⟩)
noncomputable abbrev s_l_numbers:Stmt:=top 37
noncomputable abbrev s_l_plays:Stmt:=top 40
noncomputable abbrev s_l_divisor:Stmt:=top 38
noncomputable abbrev s_l_earning:Stmt:=top 39
noncomputable abbrev s_l_put:Stmt:=top 41
noncomputable abbrev s_l_table:Stmt:=top 42
noncomputable abbrev s_l_plan:Stmt:=top 43
noncomputable abbrev s_check_sizes:Stmt:=top 21
noncomputable abbrev s_one_of_each:Stmt:=top 19
noncomputable abbrev s_in_order:Stmt:=top 20
noncomputable abbrev s_check_cells:Stmt:=top 22
noncomputable abbrev s_Table_init:Stmt:=inClass (top 23) 0
noncomputable abbrev s_l_breaks:Stmt:=top 44
noncomputable abbrev s_l_due:Stmt:=top 45
noncomputable abbrev s_l_whole:Stmt:=top 36
noncomputable abbrev s_l_same:Stmt:=top 50
noncomputable abbrev s_Table_plays:Stmt:=inClass (top 23) 2
noncomputable abbrev s_below:Stmt:=top 16
noncomputable abbrev s_divisor:Stmt:=top 11
noncomputable abbrev s_ratio:Stmt:=top 12
noncomputable abbrev s_plus:Stmt:=top 13
noncomputable abbrev s_summed:Stmt:=top 17
noncomputable abbrev s_is_mixing:Stmt:=top 28
noncomputable abbrev s_check_plan:Stmt:=top 31
noncomputable abbrev s_Table_sizes:Stmt:=inClass (top 23) 1
noncomputable abbrev s_breaches:Stmt:=top 30
noncomputable abbrev s_rests:Stmt:=top 25
noncomputable abbrev s_joined:Stmt:=top 24
noncomputable abbrev s_times:Stmt:=top 15
noncomputable abbrev s_minus:Stmt:=top 14
noncomputable abbrev s_Table_earned:Stmt:=inClass (top 23) 3
noncomputable abbrev s_earned_with:Stmt:=top 26
noncomputable abbrev s_more_by:Stmt:=top 32
noncomputable abbrev s_gain_by:Stmt:=top 33
noncomputable abbrev s_breaks:Stmt:=top 34
noncomputable abbrev s_l_refused:Stmt:=top 46
noncomputable abbrev s_l_strange:Stmt:=top 47
noncomputable abbrev s_l_rest:Stmt:=top 49
noncomputable abbrev s_l_spoilt:Stmt:=top 48
noncomputable abbrev s_law:Stmt:=top 51
structure Bn (K:W.Frag) (mg:Str→Option Value) (x:Str) (st:Stmt) (f:Addr) (fd:FuncData) (ps:List Str):Prop where
 F:Fun K x x st f fd
 b:Binds K fd ps []
 m:mg x=some (.ref f)
structure BnM (K:W.Frag) (C:Addr) (m q:Str) (st:Stmt) (f:Addr) (fd:FuncData) (ps:List Str):Prop where
 F:Fun K m q st f fd
 b:Binds K fd ps []
 m:Meth K C m f
set_option genInjectivity false in
set_option genSizeOf false in
structure Ad where
 f_l_numbers:Addr
 d_l_numbers:FuncData
 f_l_plays:Addr
 d_l_plays:FuncData
 f_l_divisor:Addr
 d_l_divisor:FuncData
 f_l_earning:Addr
 d_l_earning:FuncData
 f_l_put:Addr
 d_l_put:FuncData
 f_l_table:Addr
 d_l_table:FuncData
 f_l_plan:Addr
 d_l_plan:FuncData
 f_check_sizes:Addr
 d_check_sizes:FuncData
 f_one_of_each:Addr
 d_one_of_each:FuncData
 f_in_order:Addr
 d_in_order:FuncData
 f_check_cells:Addr
 d_check_cells:FuncData
 f_Table_init:Addr
 d_Table_init:FuncData
 f_l_breaks:Addr
 d_l_breaks:FuncData
 f_l_due:Addr
 d_l_due:FuncData
 f_l_whole:Addr
 d_l_whole:FuncData
 f_l_same:Addr
 d_l_same:FuncData
 f_Table_plays:Addr
 d_Table_plays:FuncData
 f_below:Addr
 d_below:FuncData
 f_divisor:Addr
 d_divisor:FuncData
 f_ratio:Addr
 d_ratio:FuncData
 f_plus:Addr
 d_plus:FuncData
 f_summed:Addr
 d_summed:FuncData
 f_is_mixing:Addr
 d_is_mixing:FuncData
 f_check_plan:Addr
 d_check_plan:FuncData
 f_Table_sizes:Addr
 d_Table_sizes:FuncData
 f_breaches:Addr
 d_breaches:FuncData
 f_rests:Addr
 d_rests:FuncData
 f_joined:Addr
 d_joined:FuncData
 f_times:Addr
 d_times:FuncData
 f_minus:Addr
 d_minus:FuncData
 f_Table_earned:Addr
 d_Table_earned:FuncData
 f_earned_with:Addr
 d_earned_with:FuncData
 f_more_by:Addr
 d_more_by:FuncData
 f_gain_by:Addr
 d_gain_by:FuncData
 f_breaks:Addr
 d_breaks:FuncData
 f_l_refused:Addr
 d_l_refused:FuncData
 f_l_strange:Addr
 d_l_strange:FuncData
 f_l_rest:Addr
 d_l_rest:FuncData
 f_l_spoilt:Addr
 d_l_spoilt:FuncData
 f_law:Addr
 d_law:FuncData
structure Tx (K:W.Frag) (mg:Str→Option Value) (a:Ad):Prop where
 l_numbers:Bn K mg "_law_numbers" s_l_numbers a.f_l_numbers a.d_l_numbers ["_law_script", "_law_many"]
 l_plays:Bn K mg "_law_plays" s_l_plays a.f_l_plays a.d_l_plays ["_law_sizes"]
 l_divisor:Bn K mg "_law_divisor" s_l_divisor a.f_l_divisor a.d_l_divisor ["_law_one", "_law_other"]
 l_earning:Bn K mg "_law_earning" s_l_earning a.f_l_earning a.d_l_earning ["_law_number", "_law_way"]
 l_put:Bn K mg "_law_put" s_l_put a.f_l_put a.d_l_put ["_law_play", "_law_hand", "_law_choice"]
 l_table:Bn K mg "_law_table" s_l_table a.f_l_table a.d_l_table ["_law_head"]
 l_plan:Bn K mg "_law_plan" s_l_plan a.f_l_plan a.d_l_plan ["_law_head", "_law_plays_here"]
 check_sizes:Bn K mg "check_sizes" s_check_sizes a.f_check_sizes a.d_check_sizes ["sizes"]
 one_of_each:Bn K mg "one_of_each" s_one_of_each a.f_one_of_each a.d_one_of_each ["lists"]
 in_order:Bn K mg "in_order" s_in_order a.f_in_order a.d_in_order ["sizes"]
 check_cells:Bn K mg "check_cells" s_check_cells a.f_check_cells a.d_check_cells ["cells", "plays", "hands"]
 Table_init:BnM K (gadr K "Table") "__init__" "Table.__init__" s_Table_init a.f_Table_init a.d_Table_init ["self", "sizes", "cells"]
 l_breaks:Bn K mg "_law_breaks" s_l_breaks a.f_l_breaks a.d_l_breaks ["_law_cells", "_law_plan_here", "_law_plays_here", "_law_ask"]
 l_due:Bn K mg "_law_due" s_l_due a.f_l_due a.d_l_due ["_law_sizes", "_law_cells", "_law_plan_here", "_law_plays_here"]
 l_whole:Bn K mg "_law_whole" s_l_whole a.f_l_whole a.d_l_whole ["_law_found"]
 l_same:Bn K mg "_law_same" s_l_same a.f_l_same a.d_l_same ["_law_found", "_law_due_here"]
 Table_plays:BnM K (gadr K "Table") "plays" "Table.plays" s_Table_plays a.f_Table_plays a.d_Table_plays ["self"]
 below:Bn K mg "below" s_below a.f_below a.d_below ["one", "other"]
 divisor:Bn K mg "divisor" s_divisor a.f_divisor a.d_divisor ["one", "other"]
 ratio:Bn K mg "ratio" s_ratio a.f_ratio a.d_ratio ["top", "bottom"]
 plus:Bn K mg "plus" s_plus a.f_plus a.d_plus ["one", "other"]
 summed:Bn K mg "summed" s_summed a.f_summed a.d_summed ["fractions"]
 is_mixing:Bn K mg "is_mixing" s_is_mixing a.f_is_mixing a.d_is_mixing ["weights", "many"]
 check_plan:Bn K mg "check_plan" s_check_plan a.f_check_plan a.d_check_plan ["table", "plan"]
 Table_sizes:BnM K (gadr K "Table") "sizes" "Table.sizes" s_Table_sizes a.f_Table_sizes a.d_Table_sizes ["self"]
 breaches:Bn K mg "breaches" s_breaches a.f_breaches a.d_breaches ["table"]
 rests:Bn K mg "rests" s_rests a.f_rests a.d_rests ["table", "hand"]
 joined:Bn K mg "joined" s_joined a.f_joined a.d_joined ["rest", "hand", "choice"]
 times:Bn K mg "times" s_times a.f_times a.d_times ["one", "other"]
 minus:Bn K mg "minus" s_minus a.f_minus a.d_minus ["one", "other"]
 Table_earned:BnM K (gadr K "Table") "earned" "Table.earned" s_Table_earned a.f_Table_earned a.d_Table_earned ["self", "play"]
 earned_with:Bn K mg "earned_with" s_earned_with a.f_earned_with a.d_earned_with ["table", "rest", "hand", "choice"]
 more_by:Bn K mg "more_by" s_more_by a.f_more_by a.d_more_by ["table", "rest", "breach"]
 gain_by:Bn K mg "gain_by" s_gain_by a.f_gain_by a.d_gain_by ["table", "plan", "breach"]
 breaks:Bn K mg "breaks" s_breaks a.f_breaks a.d_breaks ["table", "plan"]
 l_refused:Bn K mg "_law_refused" s_l_refused a.f_l_refused a.d_l_refused ["_law_table_here", "_law_plan_here"]
 l_strange:Bn K mg "_law_strange" s_l_strange a.f_l_strange a.d_l_strange ["_law_at", "_law_plays_here", "_law_cell"]
 l_rest:Bn K mg "_law_rest" s_l_rest a.f_l_rest a.d_l_rest ["_law_plan_here", "_law_plays_here", "_law_at", "_law_last"]
 l_spoilt:Bn K mg "_law_spoilt" s_l_spoilt a.f_l_spoilt a.d_l_spoilt ["_law_plan_here", "_law_plays_here", "_law_cell"]
 law:Bn K mg "law" s_law a.f_law a.d_law ["_law_script"]
 n_ValueError:mg "ValueError" = none
 n_abs:mg "abs" = none
 n_bool:mg "bool" = none
 n_dict:mg "dict" = none
 n_enumerate:mg "enumerate" = none
 n_int:mg "int" = none
 n_isinstance:mg "isinstance" = none
 n_len:mg "len" = none
 n_list:mg "list" = none
 n_max:mg "max" = none
 n_min:mg "min" = none
 n_range:mg "range" = none
 n_sum:mg "sum" = none
 n_tuple:mg "tuple" = none
 c_NoChoice:mg "NoChoice" = some (.ref (gadr K "NoChoice"))
 c_NoMixing:mg "NoMixing" = some (.ref (gadr K "NoMixing"))
 c_NoNumber:mg "NoNumber" = some (.ref (gadr K "NoNumber"))
 c_NoOrder:mg "NoOrder" = some (.ref (gadr K "NoOrder"))
 c_NoPlan:mg "NoPlan" = some (.ref (gadr K "NoPlan"))
 c_NoStart:mg "NoStart" = some (.ref (gadr K "NoStart"))
 c_NoTable:mg "NoTable" = some (.ref (gadr K "NoTable"))
 c_NotTwo:mg "NotTwo" = some (.ref (gadr K "NotTwo"))
 c_PlayError:mg "PlayError" = some (.ref (gadr K "PlayError"))
 c_Table:mg "Table" = some (.ref (gadr K "Table"))
 x_NoPlan:PySem.W.excIn K (gadr K "NoPlan") [.type "ValueError",.type "Exception",.type "BaseException",.type "object"] "ValueError.__new__" = true
 exm:PySem.W.exmOne K (.ref (gadr K "NoPlan")) (.ref (gadr K "PlayError"))=some true
 xt:XT K "NoPlan" ["NoNumber", "NoTable", "NoOrder", "NoStart", "NotTwo", "NoChoice", "NoMixing"]
 mk_Table:Mk K (gadr K "Table") a.f_Table_init
 tt:TabK K
section
variable {P:Program} {w:World} {K:W.Frag} {mg:Str→Option Value} {base:Heap} {a:Ad}
theorem sc_l_numbers:FnScope N_l_numbers ["_law_script", "_law_many"] (defScope s_l_numbers):=⟨rfl,rfl,rfl,by decide +kernel,rfl,by decide +kernel,by decide +kernel⟩
theorem ok_l_numbers (T:Tx K mg a):FnOk P w K mg base CX0 1 a.f_l_numbers a.d_l_numbers ["_law_script", "_law_many"] (sp_l_numbers K):=by
 refine T.l_numbers.F.ok sc_l_numbers (λ vs H Q E h=>len_l_numbers h) (λ cdv A outer s H vs Q E hr h=>⟨t_l_numbers K,(pss_cons (ps_setComp (i:=2) (FS:=defScope s_l_numbers) (N:=N_l_numbers) (x:="_law_k") (ys:=[]) (caps:=[]) ⟨by decide +kernel,rfl,by decide +kernel,rfl,by decide +kernel,rfl,by decide +kernel,rfl,by decide +kernel⟩ rfl rfl rfl sc_l_numbers.nd rfl (Or.inl rfl) (pi_range1 rfl T.n_range (pa_cons (pv 1) pa_nil)) (λ _ _ _ _=>pe_int)) (pss_cons (ps_for PassesOwn.never rfl (pi_range1 rfl T.n_range (pa_cons (pe_callB (call_max2 rfl) rfl T.n_max bt_max (pa_cons (pv 1) (pa_cons (pe_callB (call_min2 rfl) rfl T.n_min bt_min (pa_cons (pe_callB call_len_seq rfl T.n_len bt_len (pa_cons (pv 0) pa_nil)) (pa_cons pe_int pa_nil))) pa_nil))) pa_nil)) (pg_name (i:=3) sc_l_numbers.nd rfl (Or.inl rfl)) (pss_cons (ps_set (i:=4) sc_l_numbers.nd rfl (Or.inl rfl) pe_int) (pss_cons (ps_if (pt_cmpR op_gt (pe_callB call_len_seq rfl T.n_len bt_len (pa_cons (pv 0) pa_nil)) pe_int (nomark _)) (pss_one (ps_set (i:=4) sc_l_numbers.nd rfl (Or.inl rfl) (pe_op op_mulB (pe_op op_mod (pe_ix ix_list (pv 0) (pe_op op_mod (pv 3) (pe_callB (call_min2 rfl) rfl T.n_min bt_min (pa_cons (pe_callB call_len_seq rfl T.n_len bt_len (pa_cons (pv 0) pa_nil)) (pa_cons pe_int pa_nil)))) (λ _ _=>rfl)) (pe_op op_add (pe_op op_pow pe_int pe_int) pe_int)) (pe_op op_add pe_int (pe_op op_mulB (pe_op op_fdiv (pv 3) pe_int) pe_int))))) pss_nil) (pss_cons (ps_set (i:=5) sc_l_numbers.nd rfl (Or.inl rfl) (pe_op op_mod (pv 3) (pv 1))) (pss_one (ps_asg (pe_op op_mod (pe_op op_add (pe_op op_add (pe_op op_mulB (pe_ix ix_list (pv 2) (pv 5) (λ _ _=>rfl)) pe_int) (pv 4)) (pe_op op_mulB (pv 3) (pv 3))) (pe_op op_add (pe_op op_pow pe_int pe_int) pe_int)) (pg_sub (pv 2) (pv 5) set_list))))))) (pss_one (ps_ret (pv 2))))),rd_l_numbers h⟩)
theorem sc_l_plays:FnScope N_l_plays ["_law_sizes"] (defScope s_l_plays):=⟨rfl,rfl,rfl,by decide +kernel,rfl,by decide +kernel,by decide +kernel⟩
theorem ok_l_plays (T:Tx K mg a):FnOk P w K mg base CX0 1 a.f_l_plays a.d_l_plays ["_law_sizes"] (sp_l_plays K):=by
 refine T.l_plays.F.ok sc_l_plays (λ vs H Q E h=>len_l_plays h) (λ cdv A outer s H vs Q E hr h=>⟨t_l_plays K,(pss_cons (ps_set (i:=1) sc_l_plays.nd rfl (Or.inl rfl) (pe_lst (pa_cons (pe_tup pa_nil) pa_nil))) (pss_cons (ps_for PassesOwn.never rfl (pi_list (pv 0)) (pg_name (i:=2) sc_l_plays.nd rfl (Or.inl rfl)) (pss_cons (ps_set (i:=3) sc_l_plays.nd rfl (Or.inl rfl) (pe_lst pa_nil)) (pss_cons (ps_for PassesOwn.never rfl (pi_list (pv 1)) (pg_name (i:=4) sc_l_plays.nd rfl (Or.inr rfl)) (pss_one (ps_set (i:=3) sc_l_plays.nd rfl (Or.inl rfl) (pe_op op_cat (pv 3) (pe_comp (FS:=defScope s_l_plays) (N:=N_l_plays) (x:="_law_k") (ys:=["_law_play"]) (caps:=[4]) ⟨by decide +kernel,rfl,by decide +kernel,rfl,by decide +kernel,rfl,by decide +kernel,rfl,by decide +kernel⟩ rfl rfl rfl (pi_range1 rfl T.n_range (pa_cons (pv 2) pa_nil)) (λ _ _ _ _=>(pe_op op_catA (pv 1) (pe_tup (pa_cons (pv 0) pa_nil))))))))) (pss_one (ps_set (i:=1) sc_l_plays.nd rfl (Or.inl rfl) (pv 3)))))) (pss_one (ps_ret (pv 1))))),rd_l_plays h⟩)
theorem sc_l_divisor:FnScope N_l_divisor ["_law_one", "_law_other"] (defScope s_l_divisor):=⟨rfl,rfl,rfl,by decide +kernel,rfl,by decide +kernel,by decide +kernel⟩
theorem ok_l_divisor (T:Tx K mg a):FnOk P w K mg base CX0 1 a.f_l_divisor a.d_l_divisor ["_law_one", "_law_other"] (sp_l_divisor K):=by
 refine T.l_divisor.F.ok sc_l_divisor (λ vs H Q E h=>len_l_divisor h) (λ cdv A outer s H vs Q E hr h=>⟨t_l_divisor K,(pss_cons (ps_set (i:=0) sc_l_divisor.nd rfl (Or.inl rfl) (pe_callB call_abs rfl T.n_abs bt_abs (pa_cons (pv 0) pa_nil))) (pss_cons (ps_set (i:=1) sc_l_divisor.nd rfl (Or.inl rfl) (pe_callB call_abs rfl T.n_abs bt_abs (pa_cons (pv 1) pa_nil))) (pss_cons (ps_while PassesOwn.never (pt_cmpR op_gt (pv 1) pe_int (nomark _)) (pss_one (ps_par (i:=0) (j:=1) rfl sc_l_divisor.nd rfl rfl (by decide) rfl rfl (pa_cons (pv 1) (pa_cons (pe_op op_mod (pv 0) (pv 1)) pa_nil)) rfl))) (pss_one (ps_ret (pv 0)))))),rd_l_divisor h⟩)
theorem sc_l_earning:FnScope N_l_earning ["_law_number", "_law_way"] (defScope s_l_earning):=⟨rfl,rfl,rfl,by decide +kernel,rfl,by decide +kernel,by decide +kernel⟩
theorem ok_l_earning (T:Tx K mg a):FnOk P w K mg base CX0 2 a.f_l_earning a.d_l_earning ["_law_number", "_law_way"] (sp_l_earning K):=by
 refine T.l_earning.F.ok sc_l_earning (λ vs H Q E h=>len_l_earning h) (λ cdv A outer s H vs Q E hr h=>⟨t_l_earning K,(pss_cons (ps_if (pt_cmpR op_eq (pv 1) pe_int (nomark _)) (pss_one (ps_ret (pe_tup (pa_cons (pe_op op_sub (pe_op op_mod (pe_op op_mod (pe_op op_mulB (pv 0) pe_int) pe_int) pe_int) pe_int) (pa_cons pe_int pa_nil))))) pss_nil) (pss_cons (ps_if (pt_cmpR op_eq (pv 1) pe_int (nomark _)) (pss_one (ps_ret (pe_tup (pa_cons (pe_op op_sub (pe_op op_mod (pe_op op_mod (pe_op op_mulB (pv 0) pe_int) pe_int) pe_int) pe_int) (pa_cons pe_int pa_nil))))) pss_nil) (pss_cons (ps_set (i:=2) sc_l_earning.nd rfl (Or.inl rfl) (pe_op op_sub (pe_op op_mod (pv 0) (pe_op op_add (pe_op op_mulB pe_int (pe_op op_pow pe_int pe_int)) pe_int)) (pe_op op_pow pe_int pe_int))) (pss_cons (ps_set (i:=3) sc_l_earning.nd rfl (Or.inl rfl) (pe_op op_add pe_int (pe_op op_mod (pe_op op_mod (pe_op op_mulB (pv 0) pe_int) pe_int) pe_int))) (pss_cons (ps_set (i:=4) sc_l_earning.nd rfl (Or.inl rfl) (pe_call (ok_l_divisor T) (hr.mono (by decide)) rfl T.l_divisor.m T.l_divisor.F.kp T.l_divisor.b .nil pass0 (pa_cons (pv 2) (pa_cons (pv 3) pa_nil)))) (pss_one (ps_ret (pe_tup (pa_cons (pe_op op_fdivB (pv 2) (pv 4)) (pa_cons (pe_op op_fdivB (pv 3) (pv 4)) pa_nil)))))))))),rd_l_earning h⟩)
theorem sc_l_put:FnScope N_l_put ["_law_play", "_law_hand", "_law_choice"] (defScope s_l_put):=⟨rfl,rfl,rfl,by decide +kernel,rfl,by decide +kernel,by decide +kernel⟩
theorem ok_l_put (T:Tx K mg a):FnOk P w K mg base CX0 1 a.f_l_put a.d_l_put ["_law_play", "_law_hand", "_law_choice"] (sp_l_put K):=by
 refine T.l_put.F.ok sc_l_put (λ vs H Q E h=>len_l_put h) (λ cdv A outer s H vs Q E hr h=>⟨t_l_put K,(pss_one (ps_ret (pe_op op_catA (pe_op op_catA (pe_slice sl_tupA (pv 0) po_none (po_some (pv 1))) (pe_tup (pa_cons (pv 2) pa_nil))) (pe_slice sl_tupA (pv 0) (po_some (pe_op op_add (pv 1) pe_int)) po_none)))),rd_l_put h⟩)
theorem sc_l_table:FnScope N_l_table ["_law_head"] (defScope s_l_table):=⟨rfl,rfl,rfl,by decide +kernel,rfl,by decide +kernel,by decide +kernel⟩
theorem ok_l_table (T:Tx K mg a):FnOk P w K mg base CX0 3 a.f_l_table a.d_l_table ["_law_head"] (sp_l_table K):=by
 refine T.l_table.F.ok sc_l_table (λ vs H Q E h=>len_l_table h) (λ cdv A outer s H vs Q E hr h=>⟨t_l_table K,(pss_cons (ps_set (i:=1) sc_l_table.nd rfl (Or.inl rfl) (pe_lst (pa_cons (pe_op op_add pe_int (pe_op op_mod (pe_ix ix_list (pv 0) pe_int (λ _ _=>rfl)) pe_int)) (pa_cons (pe_op op_add pe_int (pe_op op_mod (pe_ix ix_list (pv 0) pe_int (λ _ _=>rfl)) pe_int)) pa_nil)))) (pss_cons (ps_if (pt_cmpR op_eq (pe_op op_mod (pe_ix ix_list (pv 0) pe_int (λ _ _=>rfl)) pe_int) pe_int (nomark _)) (pss_one (ps_set (i:=1) sc_l_table.nd rfl (Or.inl rfl) (pe_lst (pa_cons (pe_op op_add pe_int (pe_op op_mod (pe_ix ix_list (pv 0) pe_int (λ _ _=>rfl)) pe_int)) (pa_cons (pe_op op_add pe_int (pe_op op_mod (pe_ix ix_list (pv 0) pe_int (λ _ _=>rfl)) pe_int)) (pa_cons (pe_op op_add pe_int (pe_op op_mod (pe_ix ix_list (pv 0) pe_int (λ _ _=>rfl)) pe_int)) pa_nil)))))) pss_nil) (pss_cons (ps_set (i:=2) sc_l_table.nd rfl (Or.inl rfl) (pe_call (ok_l_plays T) (hr.mono (by decide)) rfl T.l_plays.m T.l_plays.F.kp T.l_plays.b .nil pass0 (pa_cons (pv 1) pa_nil))) (pss_cons (ps_set (i:=3) sc_l_table.nd rfl (Or.inr rfl) pe_dnewT) (pss_cons (ps_for PassesOwn.never rfl (pi_range1 rfl T.n_range (pa_cons (pe_callB call_len_seq rfl T.n_len bt_len (pa_cons (pv 2) pa_nil)) pa_nil)) (pg_name (i:=4) sc_l_table.nd rfl (Or.inr rfl)) (pss_one (ps_dput (hu_of hr) (pv 3) (pe_ix ix_list (pv 2) (pv 4) (λ _ _=>rfl)) (pe_comp (FS:=defScope s_l_table) (N:=N_l_table) (x:="_law_h") (ys:=["_law_head", "_law_k"]) (caps:=[0,4]) ⟨by decide +kernel,rfl,by decide +kernel,rfl,by decide +kernel,rfl,by decide +kernel,rfl,by decide +kernel⟩ rfl rfl rfl (pi_range1 rfl T.n_range (pa_cons (pe_callB call_len_seq rfl T.n_len bt_len (pa_cons (pv 1) pa_nil)) pa_nil)) (λ _ _ _ _=>(pe_call (ok_l_earning T) (hr.mono (by decide)) rfl T.l_earning.m T.l_earning.F.kp T.l_earning.b .nil pass0 (pa_cons (pe_ix ix_list (pv 1) (pe_op op_add (pe_op op_add pe_int (pe_op op_mulB pe_int (pv 2))) (pv 0)) (λ _ _=>rfl)) (pa_cons (pe_op op_mod (pe_ix ix_list (pv 1) pe_int (λ _ _=>rfl)) pe_int) pa_nil))))) rfl))) (pss_cons (ps_if (pt_cmpR op_eq (pe_op op_mod (pe_ix ix_list (pv 0) pe_int (λ _ _=>rfl)) pe_int) pe_int (nomark _)) (pss_cons (ps_for PassesOwn.never rfl (pi_list (pv 2)) (pg_name (i:=5) sc_l_table.nd rfl (Or.inr rfl)) (pss_one (ps_dput (hu_of hr) (pv 3) (pv 5) (pe_comp (FS:=defScope s_l_table) (N:=N_l_table) (x:="_law_h") (ys:=["_law_cells", "_law_play"]) (caps:=[3,5]) ⟨by decide +kernel,rfl,by decide +kernel,rfl,by decide +kernel,rfl,by decide +kernel,rfl,by decide +kernel⟩ rfl rfl rfl (pi_range1 rfl T.n_range (pa_cons (pe_callB call_len_seq rfl T.n_len bt_len (pa_cons (pv 1) pa_nil)) pa_nil)) (λ _ _ _ _=>(pe_ix ix_list (pe_dget (hu_of hr) (pv 1) (pe_call (ok_l_put T) (hr.mono (by decide)) rfl T.l_put.m T.l_put.F.kp T.l_put.b .nil pass0 (pa_cons (pv 2) (pa_cons (pv 0) (pa_cons pe_int pa_nil)))) (λ _ _=>rfl)) (pv 0) (λ _ _=>rfl)))) rfl))) (pss_one (ps_if (pt_cmpR op_eq (pe_op op_mod (pe_op op_fdiv (pe_ix ix_list (pv 0) pe_int (λ _ _=>rfl)) pe_int) pe_int) pe_int (nomark _)) (pss_cons (ps_set (i:=6) sc_l_table.nd rfl (Or.inl rfl) (pe_op op_mod (pe_ix ix_list (pv 0) pe_int (λ _ _=>rfl)) (pe_callB call_len_seq rfl T.n_len bt_len (pa_cons (pv 1) pa_nil)))) (pss_one (ps_for PassesOwn.never rfl (pi_list (pv 2)) (pg_name (i:=5) sc_l_table.nd rfl (Or.inr rfl)) (pss_one (ps_if (pt_cmpR op_eq (pe_ix ix_tup (pv 5) (pv 6) (λ _ _=>rfl)) (pe_op op_mod (pe_op op_fdiv (pe_ix ix_list (pv 0) pe_int (λ _ _=>rfl)) pe_int) (pe_ix ix_list (pv 1) (pv 6) (λ _ _=>rfl))) (nomark _)) (pss_cons (ps_asg (pe_ix ix_list (pe_dget (hu_of hr) (pv 3) (pv 5) (λ _ _=>rfl)) (pv 6) (λ _ _=>rfl)) (pg_tup (n:=2) rfl (pgs_cons (pg_name (i:=7) sc_l_table.nd rfl (Or.inl rfl)) (pgs_cons (pg_name (i:=8) sc_l_table.nd rfl (Or.inl rfl)) pgs_nil)))) (pss_one (ps_asg (pe_tup (pa_cons (pe_op op_add (pv 7) (pv 8)) (pa_cons (pv 8) pa_nil))) (pg_sub (pe_dget (hu_of hr) (pv 3) (pv 5) (λ _ _=>rfl)) (pv 6) set_list)))) pss_nil))))) pss_nil))) pss_nil) (pss_one (ps_ret (pe_tup (pa_cons (pv 1) (pa_cons (pv 2) (pa_cons (pv 3) pa_nil)))))))))))),rd_l_table h⟩)
theorem sc_l_plan:FnScope N_l_plan ["_law_head", "_law_plays_here"] (defScope s_l_plan):=⟨rfl,rfl,rfl,by decide +kernel,rfl,by decide +kernel,by decide +kernel⟩
theorem ok_l_plan (T:Tx K mg a):FnOk P w K mg base CX0 2 a.f_l_plan a.d_l_plan ["_law_head", "_law_plays_here"] (sp_l_plan K):=by
 refine T.l_plan.F.ok sc_l_plan (λ vs H Q E h=>len_l_plan h) (λ cdv A outer s H vs Q E hr h=>⟨t_l_plan K,(pss_cons (ps_set (i:=2) sc_l_plan.nd rfl (Or.inl rfl) (pe_lst pa_nil)) (pss_cons (ps_for PassesOwn.never rfl (pi_range1 rfl T.n_range (pa_cons (pe_callB call_len_seq rfl T.n_len bt_len (pa_cons (pv 1) pa_nil)) pa_nil)) (pg_name (i:=3) sc_l_plan.nd rfl (Or.inl rfl)) (pss_cons (ps_set (i:=4) sc_l_plan.nd rfl (Or.inl rfl) (pe_op op_mod (pe_ix ix_list (pv 0) (pe_op op_add pe_int (pv 3)) (λ _ _=>rfl)) pe_int)) (pss_cons (ps_if (PW.pt (pw_and (pt_cmpR op_eq (pe_op op_mod (pe_ix ix_list (pv 0) pe_int (λ _ _=>rfl)) pe_int) pe_int (nomark _)) (pw_and1 (pt_cmpR op_gt (pe_op op_mod (pe_op op_fdiv (pe_ix ix_list (pv 0) (pe_op op_add pe_int (pv 3)) (λ _ _=>rfl)) pe_int) pe_int) pe_int (nomark _))))) (pss_one (ps_set (i:=4) sc_l_plan.nd rfl (Or.inl rfl) pe_int)) pss_nil) (pss_one (ps_expr (pe_bm PySem.F.plainAttrs_list PySem.F.slot_list_append PySem.F.type_list_append mt_append (pv 2) (pa_cons (pv 4) pa_nil))))))) (pss_cons (ps_if (pt_cmpR op_eq (pe_callB (call_sumL rfl) rfl T.n_sum bt_sum (pa_cons (pv 2) pa_nil)) pe_int (nomark _)) (pss_one (ps_asg pe_int (pg_sub (pv 2) (pe_op op_mod (pe_op op_fdiv (pe_ix ix_list (pv 0) pe_int (λ _ _=>rfl)) pe_int) (pe_callB call_len_seq rfl T.n_len bt_len (pa_cons (pv 1) pa_nil))) set_list))) pss_nil) (pss_cons (ps_set (i:=5) sc_l_plan.nd rfl (Or.inl rfl) pe_dnewT) (pss_cons (ps_for PassesOwn.never rfl (pi_range1 rfl T.n_range (pa_cons (pe_callB call_len_seq rfl T.n_len bt_len (pa_cons (pv 1) pa_nil)) pa_nil)) (pg_name (i:=3) sc_l_plan.nd rfl (Or.inl rfl)) (pss_cons (ps_set (i:=6) sc_l_plan.nd rfl (Or.inl rfl) (pe_op op_mod (pe_op op_add (pe_op op_fdiv (pe_ix ix_list (pv 0) pe_int (λ _ _=>rfl)) pe_int) (pv 3)) (pe_callB call_len_seq rfl T.n_len bt_len (pa_cons (pv 1) pa_nil)))) (pss_cons (ps_if (pt_cmpR op_eq (pe_op op_mod (pe_op op_fdiv (pe_ix ix_list (pv 0) pe_int (λ _ _=>rfl)) pe_int) pe_int) pe_int (nomark _)) (pss_one (ps_set (i:=6) sc_l_plan.nd rfl (Or.inl rfl) (pe_op op_sub (pe_op op_sub (pe_callB call_len_seq rfl T.n_len bt_len (pa_cons (pv 1) pa_nil)) pe_int) (pv 6)))) pss_nil) (pss_cons (ps_set (i:=7) sc_l_plan.nd rfl (Or.inl rfl) (pe_call (ok_l_divisor T) (hr.mono (by decide)) rfl T.l_divisor.m T.l_divisor.F.kp T.l_divisor.b .nil pass0 (pa_cons (pe_ix ix_list (pv 2) (pv 6) (λ _ _=>rfl)) (pa_cons (pe_callB (call_sumL rfl) rfl T.n_sum bt_sum (pa_cons (pv 2) pa_nil)) pa_nil)))) (pss_one (ps_dput (hu_of hr) (pv 5) (pe_ix ix_list (pv 1) (pv 6) (λ _ _=>rfl)) (pe_tup (pa_cons (pe_op op_fdivB (pe_ix ix_list (pv 2) (pv 6) (λ _ _=>rfl)) (pv 7)) (pa_cons (pe_op op_fdivB (pe_callB (call_sumL rfl) rfl T.n_sum bt_sum (pa_cons (pv 2) pa_nil)) (pv 7)) pa_nil))) rfl)))))) (pss_one (ps_ret (pv 5)))))))),rd_l_plan h⟩)
theorem sc_check_sizes:FnScope N_check_sizes ["sizes"] (defScope s_check_sizes):=⟨rfl,rfl,rfl,by decide +kernel,rfl,by decide +kernel,by decide +kernel⟩
theorem ok_check_sizes (T:Tx K mg a):FnOk P w K mg base CX0 1 a.f_check_sizes a.d_check_sizes ["sizes"] (sp_check_sizes K):=by
 refine T.check_sizes.F.ok sc_check_sizes (λ vs H Q E h=>len_check_sizes h) (λ cdv A outer s H vs Q E hr h=>⟨t_check_sizes K,(pss_cons (ps_if (PW.pt (pw_or (pt_cmpR op_lt (pe_callB call_len_seq rfl T.n_len bt_len (pa_cons (pv 0) pa_nil)) pe_int (nomark _)) (pw_or1 (pt_cmpR op_gt (pe_callB call_len_seq rfl T.n_len bt_len (pa_cons (pv 0) pa_nil)) pe_int (nomark _))))) (pss_one ps_never) pss_nil) (pss_one (ps_for PassesOwn.never rfl (pi_list (pv 0)) (pg_name (i:=1) sc_check_sizes.nd rfl (Or.inl rfl)) (pss_one (ps_if (PW.pt (pw_or (pt_cmpR op_lt (pv 1) pe_int (nomark _)) (pw_or1 (pt_cmpR op_gt (pv 1) pe_int (nomark _))))) (pss_one ps_never) pss_nil))))),rd_check_sizes h⟩)
theorem sc_one_of_each:FnScope N_one_of_each ["lists"] (defScope s_one_of_each):=⟨rfl,rfl,rfl,by decide +kernel,rfl,by decide +kernel,by decide +kernel⟩
theorem ok_one_of_each (T:Tx K mg a):FnOk P w K mg base CX0 1 a.f_one_of_each a.d_one_of_each ["lists"] (sp_one_of_each K):=by
 refine T.one_of_each.F.ok sc_one_of_each (λ vs H Q E h=>len_one_of_each h) (λ cdv A outer s H vs Q E hr h=>⟨t_one_of_each K,(pss_cons (ps_set (i:=1) sc_one_of_each.nd rfl (Or.inl rfl) (pe_lst (pa_cons (pe_tup pa_nil) pa_nil))) (pss_cons (ps_for PassesOwn.never rfl (pi_list (pv 0)) (pg_name (i:=2) sc_one_of_each.nd rfl (Or.inl rfl)) (pss_cons (ps_set (i:=3) sc_one_of_each.nd rfl (Or.inl rfl) (pe_lst pa_nil)) (pss_cons (ps_for PassesOwn.never rfl (pi_list (pv 1)) (pg_name (i:=4) sc_one_of_each.nd rfl (Or.inr rfl)) (pss_one (ps_expr (pe_bm PySem.F.plainAttrs_list PySem.F.slot_list_extend PySem.F.type_list_extend mt_extend (pv 3) (pa_cons (pe_comp (FS:=defScope s_one_of_each) (N:=N_one_of_each) (x:="choice") (ys:=["begun"]) (caps:=[4]) ⟨by decide +kernel,rfl,by decide +kernel,rfl,by decide +kernel,rfl,by decide +kernel,rfl,by decide +kernel⟩ rfl rfl rfl (pi_list (pv 2)) (λ _ _ _ _=>(pe_op op_catA (pv 1) (pe_tup (pa_cons (pv 0) pa_nil))))) pa_nil))))) (pss_one (ps_set (i:=1) sc_one_of_each.nd rfl (Or.inl rfl) (pv 3)))))) (pss_one (ps_ret (pv 1))))),rd_one_of_each h⟩)
theorem sc_in_order:FnScope N_in_order ["sizes"] (defScope s_in_order):=⟨rfl,rfl,rfl,by decide +kernel,rfl,by decide +kernel,by decide +kernel⟩
theorem ok_in_order (T:Tx K mg a):FnOk P w K mg base CX0 2 a.f_in_order a.d_in_order ["sizes"] (sp_in_order K):=by
 refine T.in_order.F.ok sc_in_order (λ vs H Q E h=>len_in_order h) (λ cdv A outer s H vs Q E hr h=>⟨t_in_order K,(pss_one (ps_ret (pe_call (ok_one_of_each T) (hr.mono (by decide)) rfl T.one_of_each.m T.one_of_each.F.kp T.one_of_each.b .nil pass0 (pa_cons (pe_comp (FS:=defScope s_in_order) (N:=N_in_order) (x:="size") (ys:=[]) (caps:=[]) ⟨by decide +kernel,rfl,by decide +kernel,rfl,by decide +kernel,rfl,by decide +kernel,rfl,by decide +kernel⟩ rfl rfl rfl (pi_list (pv 0)) (λ _ _ _ _=>(pe_lrng rfl T.n_list rfl T.n_range rfl (pv 0)))) pa_nil)))),rd_in_order h⟩)
theorem sc_check_cells:FnScope N_check_cells ["cells", "plays", "hands"] (defScope s_check_cells):=⟨rfl,rfl,rfl,by decide +kernel,rfl,by decide +kernel,by decide +kernel⟩
theorem ok_check_cells (T:Tx K mg a):FnOk P w K mg base CX0 1 a.f_check_cells a.d_check_cells ["cells", "plays", "hands"] (sp_check_cells K):=by
 refine T.check_cells.F.ok sc_check_cells (λ vs H Q E h=>len_check_cells h) (λ cdv A outer s H vs Q E hr h=>⟨t_check_cells K,(pss_cons (ps_for PassesOwn.never rfl (pi_list (pv 1)) (pg_name (i:=3) sc_check_cells.nd rfl (Or.inl rfl)) (pss_cons (ps_if (pt_cmp (pc_dnotin (hu_of hr) (pv 3) (pv 0))) (pss_one ps_never) pss_nil) (pss_one (ps_if (pt_cmpR op_ne (pe_callB call_len_seq rfl T.n_len bt_len (pa_cons (pe_dget (hu_of hr) (pv 0) (pv 3) (λ _ _=>rfl)) pa_nil)) (pv 2) (nomark _)) (pss_one ps_never) pss_nil)))) (pss_one (ps_if (pt_cmpR op_ne (pe_callB call_lenT rfl T.n_len bt_len (pa_cons (pv 0) pa_nil)) (pe_callB call_len_seq rfl T.n_len bt_len (pa_cons (pv 1) pa_nil)) (nomark _)) (pss_one ps_never) pss_nil))),rd_check_cells h⟩)
theorem sc_Table_init:FnScope N_Table_init ["self", "sizes", "cells"] (defScope s_Table_init):=⟨rfl,rfl,rfl,by decide +kernel,rfl,by decide +kernel,by decide +kernel⟩
theorem ok_Table_init (T:Tx K mg a):FnOk P w K mg base CX0 3 a.f_Table_init a.d_Table_init ["self", "sizes", "cells"] (sp_Table_init K):=by
 refine T.Table_init.F.ok sc_Table_init (λ vs H Q E h=>len_Table_init h) (λ cdv A outer s H vs Q E hr h=>⟨t_Table_init K,(pss_cons (ps_expr (pe_call (ok_check_sizes T) (hr.mono (by decide)) rfl T.check_sizes.m T.check_sizes.F.kp T.check_sizes.b .nil pass0 (pa_cons (pv 1) pa_nil))) (pss_cons (ps_set (i:=3) sc_Table_init.nd rfl (Or.inl rfl) (pe_call (ok_in_order T) (hr.mono (by decide)) rfl T.in_order.m T.in_order.F.kp T.in_order.b .nil pass0 (pa_cons (pv 1) pa_nil))) (pss_cons (ps_expr (pe_call (ok_check_cells T) (hr.mono (by decide)) rfl T.check_cells.m T.check_cells.F.kp T.check_cells.b .nil pass0 (pa_cons (pv 2) (pa_cons (pv 3) (pa_cons (pe_callB call_len_seq rfl T.n_len bt_len (pa_cons (pv 1) pa_nil)) pa_nil))))) (pss_cons (ps_fld (pv 0) (pe_callTy call_list_of rfl T.n_list bt_list (pa_cons (pv 1) pa_nil)) rfl) (pss_cons (ps_fld (pv 0) pe_dnewT rfl) (pss_one (ps_for PassesOwn.never rfl (pi_list (pv 3)) (pg_name (i:=4) sc_Table_init.nd rfl (Or.inl rfl)) (pss_one (ps_dput (hu_of hr) (pe_fld (pv 0) rfl) (pv 4) (pe_callTy call_list_of rfl T.n_list bt_list (pa_cons (pe_dget (hu_of hr) (pv 2) (pv 4) (λ _ _=>rfl)) pa_nil)) rfl))))))))),rd_Table_init T.tt h⟩)
theorem sc_l_breaks:FnScope N_l_breaks ["_law_cells", "_law_plan_here", "_law_plays_here", "_law_ask"] (defScope s_l_breaks):=⟨rfl,rfl,rfl,by decide +kernel,rfl,by decide +kernel,by decide +kernel⟩
theorem ok_l_breaks (T:Tx K mg a):FnOk P w K mg base CX0 2 a.f_l_breaks a.d_l_breaks ["_law_cells", "_law_plan_here", "_law_plays_here", "_law_ask"] (sp_l_breaks K):=by
 refine T.l_breaks.F.ok sc_l_breaks (λ vs H Q E h=>len_l_breaks h) (λ cdv A outer s H vs Q E hr h=>⟨t_l_breaks K,(pss_cons (ps_asg (pv 3) (pg_tup (n:=3) rfl (pgs_cons (pg_name (i:=4) sc_l_breaks.nd rfl (Or.inl rfl)) (pgs_cons (pg_name (i:=5) sc_l_breaks.nd rfl (Or.inl rfl)) (pgs_cons (pg_name (i:=6) sc_l_breaks.nd rfl (Or.inl rfl)) pgs_nil))))) (pss_cons (ps_set (i:=7) sc_l_breaks.nd rfl (Or.inl rfl) pe_int) (pss_cons (ps_set (i:=8) sc_l_breaks.nd rfl (Or.inl rfl) pe_int) (pss_cons (ps_for PassesOwn.never rfl (pi_list (pv 2)) (pg_name (i:=9) sc_l_breaks.nd rfl (Or.inl rfl)) (pss_one (ps_if (pt_cmpR op_eq (pe_ix ix_tup (pv 9) (pv 4) (λ _ _=>rfl)) (pv 5) (nomark _)) (pss_cons (ps_set (i:=10) sc_l_breaks.nd rfl (Or.inl rfl) (pe_ix ix_list (pe_dget (hu_of hr) (pv 0) (pv 9) (λ _ _=>rfl)) (pv 4) (λ _ _=>rfl))) (pss_cons (ps_set (i:=11) sc_l_breaks.nd rfl (Or.inl rfl) (pe_ix ix_list (pe_dget (hu_of hr) (pv 0) (pe_call (ok_l_put T) (hr.mono (by decide)) rfl T.l_put.m T.l_put.F.kp T.l_put.b .nil pass0 (pa_cons (pv 9) (pa_cons (pv 4) (pa_cons (pv 6) pa_nil)))) (λ _ _=>rfl)) (pv 4) (λ _ _=>rfl))) (pss_cons (ps_set (i:=12) sc_l_breaks.nd rfl (Or.inl rfl) (pe_op op_mulB (pe_op op_sub (pe_op op_mulB (pe_ix ix_tup (pv 10) pe_int (λ _ _=>rfl)) (pe_ix ix_tup (pv 11) pe_int (λ _ _=>rfl))) (pe_op op_mulB (pe_ix ix_tup (pv 11) pe_int (λ _ _=>rfl)) (pe_ix ix_tup (pv 10) pe_int (λ _ _=>rfl)))) (pe_ix ix_tup (pe_dget (hu_of hr) (pv 1) (pv 9) (λ _ _=>rfl)) pe_int (λ _ _=>rfl)))) (pss_cons (ps_set (i:=13) sc_l_breaks.nd rfl (Or.inl rfl) (pe_op op_mulB (pe_op op_mulB (pe_ix ix_tup (pv 10) pe_int (λ _ _=>rfl)) (pe_ix ix_tup (pv 11) pe_int (λ _ _=>rfl))) (pe_ix ix_tup (pe_dget (hu_of hr) (pv 1) (pv 9) (λ _ _=>rfl)) pe_int (λ _ _=>rfl)))) (pss_cons (ps_set (i:=7) sc_l_breaks.nd rfl (Or.inl rfl) (pe_op op_add (pe_op op_mulB (pv 7) (pv 13)) (pe_op op_mulB (pv 12) (pv 8)))) (pss_one (ps_set (i:=8) sc_l_breaks.nd rfl (Or.inl rfl) (pe_op op_mulB (pv 8) (pv 13))))))))) pss_nil))) (pss_one (ps_ret (pe_cmpR op_lt (pv 7) pe_int (nomark _)))))))),rd_l_breaks h⟩)
theorem sc_l_due:FnScope N_l_due ["_law_sizes", "_law_cells", "_law_plan_here", "_law_plays_here"] (defScope s_l_due):=⟨rfl,rfl,rfl,by decide +kernel,rfl,by decide +kernel,by decide +kernel⟩
theorem ok_l_due (T:Tx K mg a):FnOk P w K mg base CX0 3 a.f_l_due a.d_l_due ["_law_sizes", "_law_cells", "_law_plan_here", "_law_plays_here"] (sp_l_due K):=by
 refine T.l_due.F.ok sc_l_due (λ vs H Q E h=>len_l_due h) (λ cdv A outer s H vs Q E hr h=>⟨t_l_due K,(pss_cons (ps_for PassesOwn.never rfl (pi_range1 rfl T.n_range (pa_cons (pe_callB call_len_seq rfl T.n_len bt_len (pa_cons (pv 0) pa_nil)) pa_nil)) (pg_name (i:=4) sc_l_due.nd rfl (Or.inl rfl)) (pss_one (ps_for PassesOwn.never rfl (pi_range1 rfl T.n_range (pa_cons (pe_ix ix_list (pv 0) (pv 4) (λ _ _=>rfl)) pa_nil)) (pg_name (i:=5) sc_l_due.nd rfl (Or.inl rfl)) (pss_one (ps_for PassesOwn.never rfl (pi_range1 rfl T.n_range (pa_cons (pe_ix ix_list (pv 0) (pv 4) (λ _ _=>rfl)) pa_nil)) (pg_name (i:=6) sc_l_due.nd rfl (Or.inl rfl)) (pss_cons (ps_set (i:=7) sc_l_due.nd rfl (Or.inl rfl) (pe_tup (pa_cons (pv 4) (pa_cons (pv 5) (pa_cons (pv 6) pa_nil))))) (pss_one (ps_if (PW.pt (pw_and (pt_cmpR op_ne (pv 6) (pv 5) (nomark _)) (pw_and1 (pt_val (pe_call (ok_l_breaks T) (hr.mono (by decide)) rfl T.l_breaks.m T.l_breaks.F.kp T.l_breaks.b .nil pass0 (pa_cons (pv 1) (pa_cons (pv 2) (pa_cons (pv 3) (pa_cons (pv 7) pa_nil))))))))) (pss_one (ps_ret (pv 7))) pss_nil)))))))) (pss_one (ps_ret pe_non))),rd_l_due h⟩)
theorem sc_l_whole:FnScope N_l_whole ["_law_found"] (defScope s_l_whole):=⟨rfl,rfl,rfl,by decide +kernel,rfl,by decide +kernel,by decide +kernel⟩
theorem ok_l_whole (T:Tx K mg a):FnOk P w K mg base CX0 1 a.f_l_whole a.d_l_whole ["_law_found"] (sp_l_whole K):=by
 refine T.l_whole.F.ok sc_l_whole (λ vs H Q E h=>len_l_whole h) (λ cdv A outer s H vs Q E hr h=>⟨t_l_whole K,(pss_one (ps_ret (pe_and (pe_callB call_isB rfl T.n_isinstance bt_isinstance (pa_cons (pv 0) (pa_cons (pe_bltn (v:=.ty "int") rfl T.n_int bt_int rfl) pa_nil))) (pe_one (pe_not (pe_callB call_isB rfl T.n_isinstance bt_isinstance (pa_cons (pv 0) (pa_cons (pe_bltn (v:=.ty "bool") rfl T.n_bool bt_bool rfl) pa_nil)))))))),rd_l_whole h⟩)
theorem sc_l_same:FnScope N_l_same ["_law_found", "_law_due_here"] (defScope s_l_same):=⟨rfl,rfl,rfl,by decide +kernel,rfl,by decide +kernel,by decide +kernel⟩
theorem ok_l_same (T:Tx K mg a):FnOk P w K mg base CX0 2 a.f_l_same a.d_l_same ["_law_found", "_law_due_here"] (sp_l_same K):=by
 refine T.l_same.F.ok sc_l_same (λ vs H Q E h=>len_l_same h) (λ cdv A outer s H vs Q E hr h=>⟨t_l_same K,(pss_cons (ps_if (pt_cmpR op_isN (pv 1) pe_non (nomark _)) (pss_one (ps_ret (pe_cmpR op_isN (pv 0) pe_non (nomark _)))) pss_nil) (pss_cons (ps_if (PW.pt (pw_or (pt_not (pt_val (pe_callB call_isB2 rfl T.n_isinstance bt_isinstance (pa_cons (pv 0) (pa_cons (pe_bltn (v:=.ty "tuple") rfl T.n_tuple bt_tuple rfl) pa_nil))))) (pw_or1 (pt_cmpR (op_neD 0 (hu_of hr)) (pv 0) (pv 1) (nomark _))))) (pss_one (ps_ret pe_bl)) pss_nil) (pss_one (ps_ret (pe_cmpR op_eq (pe_callB call_len_seq rfl T.n_len bt_len (pa_cons (pe_compI (FS:=defScope s_l_same) (N:=N_l_same) (x:="_law_number") (ys:=[]) (caps:=[]) ⟨by decide +kernel,rfl,by decide +kernel,rfl,by decide +kernel,rfl,by decide +kernel,rfl,by decide +kernel⟩ rfl rfl rfl (pi_tup (pv 0)) (λ _ _ _ _=>(pt_val (pe_call (ok_l_whole T) (hr.mono (by decide)) rfl T.l_whole.m T.l_whole.F.kp T.l_whole.b .nil pass0 (pa_cons (pv 0) pa_nil)))) (λ _ _ _ _=>(pv 0))) pa_nil)) pe_int (nomark _)))))),rd_l_same h⟩)
theorem sc_Table_plays:FnScope N_Table_plays ["self"] (defScope s_Table_plays):=⟨rfl,rfl,rfl,by decide +kernel,rfl,by decide +kernel,by decide +kernel⟩
theorem ok_Table_plays (T:Tx K mg a):FnOk P w K mg base CX0 3 a.f_Table_plays a.d_Table_plays ["self"] (sp_Table_plays K):=by
 refine T.Table_plays.F.ok sc_Table_plays (λ vs H Q E h=>len_Table_plays h) (λ cdv A outer s H vs Q E hr h=>⟨t_Table_plays K,(pss_one (ps_ret (pe_call (ok_in_order T) (hr.mono (by decide)) rfl T.in_order.m T.in_order.F.kp T.in_order.b .nil pass0 (pa_cons (pe_fld (pv 0) rfl) pa_nil)))),rd_Table_plays T.tt h⟩)
theorem sc_below:FnScope N_below ["one", "other"] (defScope s_below):=⟨rfl,rfl,rfl,by decide +kernel,rfl,by decide +kernel,by decide +kernel⟩
theorem ok_below (T:Tx K mg a):FnOk P w K mg base CX0 1 a.f_below a.d_below ["one", "other"] (sp_below K):=by
 refine T.below.F.ok sc_below (λ vs H Q E h=>len_below h) (λ cdv A outer s H vs Q E hr h=>⟨t_below K,(pss_one (ps_ret (pe_cmpR op_lt (pe_op op_mulB (pe_ix ix_tup (pv 0) pe_int (λ _ _=>rfl)) (pe_ix ix_tup (pv 1) pe_int (λ _ _=>rfl))) (pe_op op_mulB (pe_ix ix_tup (pv 1) pe_int (λ _ _=>rfl)) (pe_ix ix_tup (pv 0) pe_int (λ _ _=>rfl))) (nomark _)))),rd_below h⟩)
theorem sc_divisor:FnScope N_divisor ["one", "other"] (defScope s_divisor):=⟨rfl,rfl,rfl,by decide +kernel,rfl,by decide +kernel,by decide +kernel⟩
theorem ok_divisor (T:Tx K mg a):FnOk P w K mg base CX0 1 a.f_divisor a.d_divisor ["one", "other"] (sp_divisor K):=by
 refine T.divisor.F.ok sc_divisor (λ vs H Q E h=>len_divisor h) (λ cdv A outer s H vs Q E hr h=>⟨t_divisor K,(pss_cons (ps_set (i:=2) sc_divisor.nd rfl (Or.inl rfl) (pe_callB call_abs rfl T.n_abs bt_abs (pa_cons (pv 0) pa_nil))) (pss_cons (ps_set (i:=3) sc_divisor.nd rfl (Or.inl rfl) (pe_callB call_abs rfl T.n_abs bt_abs (pa_cons (pv 1) pa_nil))) (pss_cons (ps_while PassesOwn.never (pt_cmpR op_ne (pv 3) pe_int (nomark _)) (pss_cons (ps_set (i:=4) sc_divisor.nd rfl (Or.inl rfl) (pe_op op_mod (pv 2) (pv 3))) (pss_cons (ps_set (i:=2) sc_divisor.nd rfl (Or.inl rfl) (pv 3)) (pss_one (ps_set (i:=3) sc_divisor.nd rfl (Or.inl rfl) (pv 4)))))) (pss_one (ps_ret (pv 2)))))),rd_divisor h⟩)
theorem sc_ratio:FnScope N_ratio ["top", "bottom"] (defScope s_ratio):=⟨rfl,rfl,rfl,by decide +kernel,rfl,by decide +kernel,by decide +kernel⟩
theorem ok_ratio (T:Tx K mg a):FnOk P w K mg base CX0 2 a.f_ratio a.d_ratio ["top", "bottom"] (sp_ratio K):=by
 refine T.ratio.F.ok sc_ratio (λ vs H Q E h=>len_ratio h) (λ cdv A outer s H vs Q E hr h=>⟨t_ratio K,(pss_cons (ps_if (pt_cmpR op_eq (pv 1) pe_int (nomark _)) (pss_one ps_never) pss_nil) (pss_cons (ps_set (i:=2) sc_ratio.nd rfl (Or.inl rfl) (pe_call (ok_divisor T) (hr.mono (by decide)) rfl T.divisor.m T.divisor.F.kp T.divisor.b .nil pass0 (pa_cons (pv 0) (pa_cons (pv 1) pa_nil)))) (pss_cons (ps_if (pt_cmpR op_lt (pv 1) pe_int (nomark _)) (pss_one (ps_set (i:=2) sc_ratio.nd rfl (Or.inl rfl) (pe_un un_neg (pv 2)))) pss_nil) (pss_one (ps_ret (pe_tup (pa_cons (pe_op op_fdivB (pv 0) (pv 2)) (pa_cons (pe_op op_fdivB (pv 1) (pv 2)) pa_nil)))))))),rd_ratio h⟩)
theorem sc_plus:FnScope N_plus ["one", "other"] (defScope s_plus):=⟨rfl,rfl,rfl,by decide +kernel,rfl,by decide +kernel,by decide +kernel⟩
theorem ok_plus (T:Tx K mg a):FnOk P w K mg base CX0 3 a.f_plus a.d_plus ["one", "other"] (sp_plus K):=by
 refine T.plus.F.ok sc_plus (λ vs H Q E h=>len_plus h) (λ cdv A outer s H vs Q E hr h=>⟨t_plus K,(pss_one (ps_ret (pe_call (ok_ratio T) (hr.mono (by decide)) rfl T.ratio.m T.ratio.F.kp T.ratio.b .nil pass0 (pa_cons (pe_op op_add (pe_op op_mulB (pe_ix ix_tup (pv 0) pe_int (λ _ _=>rfl)) (pe_ix ix_tup (pv 1) pe_int (λ _ _=>rfl))) (pe_op op_mulB (pe_ix ix_tup (pv 1) pe_int (λ _ _=>rfl)) (pe_ix ix_tup (pv 0) pe_int (λ _ _=>rfl)))) (pa_cons (pe_op op_mulB (pe_ix ix_tup (pv 0) pe_int (λ _ _=>rfl)) (pe_ix ix_tup (pv 1) pe_int (λ _ _=>rfl))) pa_nil))))),rd_plus h⟩)
theorem sc_summed:FnScope N_summed ["fractions"] (defScope s_summed):=⟨rfl,rfl,rfl,by decide +kernel,rfl,by decide +kernel,by decide +kernel⟩
theorem ok_summed (T:Tx K mg a):FnOk P w K mg base CX0 4 a.f_summed a.d_summed ["fractions"] (sp_summed K):=by
 refine T.summed.F.ok sc_summed (λ vs H Q E h=>len_summed h) (λ cdv A outer s H vs Q E hr h=>⟨t_summed K,(pss_cons (ps_set (i:=1) sc_summed.nd rfl (Or.inl rfl) (pe_tup (pa_cons pe_int (pa_cons pe_int pa_nil)))) (pss_cons (ps_for PassesOwn.never rfl (pi_list (pv 0)) (pg_name (i:=2) sc_summed.nd rfl (Or.inl rfl)) (pss_one (ps_set (i:=1) sc_summed.nd rfl (Or.inl rfl) (pe_call (ok_plus T) (hr.mono (by decide)) rfl T.plus.m T.plus.F.kp T.plus.b .nil pass0 (pa_cons (pv 1) (pa_cons (pv 2) pa_nil)))))) (pss_one (ps_ret (pv 1))))),rd_summed h⟩)
theorem sc_is_mixing:FnScope N_is_mixing ["weights", "many"] (defScope s_is_mixing):=⟨rfl,rfl,rfl,by decide +kernel,rfl,by decide +kernel,by decide +kernel⟩
theorem ok_is_mixing (T:Tx K mg a):FnOk P w K mg base CX0 5 a.f_is_mixing a.d_is_mixing ["weights", "many"] (sp_is_mixing K):=by
 refine T.is_mixing.F.ok sc_is_mixing (λ vs H Q E h=>len_is_mixing h) (λ cdv A outer s H vs Q E hr h=>⟨t_is_mixing K,(pss_cons (ps_if (pt_cmpR op_ne (pe_callB call_len_seq rfl T.n_len bt_len (pa_cons (pv 0) pa_nil)) (pv 1) (nomark _)) (pss_one (ps_ret pe_bl)) pss_nil) (pss_cons (ps_for PassesOwn.never rfl (pi_list (pv 0)) (pg_name (i:=2) sc_is_mixing.nd rfl (Or.inl rfl)) (pss_one (ps_if (pt_val (pe_call (ok_below T) (hr.mono (by decide)) rfl T.below.m T.below.F.kp T.below.b .nil pass0 (pa_cons (pv 2) (pa_cons (pe_tup (pa_cons pe_int (pa_cons pe_int pa_nil))) pa_nil)))) (pss_one (ps_ret pe_bl)) pss_nil))) (pss_one (ps_ret (pe_cmpR (op_eqT (hu_of hr)) (pe_call (ok_summed T) (hr.mono (by decide)) rfl T.summed.m T.summed.F.kp T.summed.b .nil pass0 (pa_cons (pv 0) pa_nil)) (pe_tup (pa_cons pe_int (pa_cons pe_int pa_nil))) (nomark _)))))),rd_is_mixing h⟩)
theorem sc_check_plan:FnScope N_check_plan ["table", "plan"] (defScope s_check_plan):=⟨rfl,rfl,rfl,by decide +kernel,rfl,by decide +kernel,by decide +kernel⟩
theorem ok_check_plan (T:Tx K mg a):FnOk P w K mg base (CXF P w) 6 a.f_check_plan a.d_check_plan ["table", "plan"] (sp_check_plan K):=by
 refine T.check_plan.F.okX sc_check_plan (λ vs H Q E h=>len_check_plan h) (λ cdv A outer s H vs Q E hr h=>⟨t_check_plan K E,(pss_cons (ps_set (i:=2) sc_check_plan.nd rfl (Or.inl rfl) (pe_meth0 (pv 0) T.tt.cl T.Table_plays.m (ok_Table_plays T) (hr.mono (by decide)) T.Table_plays.b .nil pass0)) (pss_cons (ps_for PassesOwn.leaving rfl (pi_list (pv 2)) (pg_name (i:=3) sc_check_plan.nd rfl (Or.inl rfl)) (pss_one (ps_if (pt_cmp (pc_dnotin (hu_of hr) (pv 3) (pv 1))) (pss_one (ps_raise PySem.F.excBase_ValueError (by decide +kernel) PySem.F.excBase_ValueError rfl T.c_NoPlan T.x_NoPlan (pa_cons pe_str pa_nil))) pss_nil))) (pss_one (ps_if (pt_not (pt_val (pe_call (ok_is_mixing T) (hr.mono (by decide)) rfl T.is_mixing.m T.is_mixing.F.kp T.is_mixing.b .nil pass0 (pa_cons (pe_vals rfl T.n_list rfl (pv 1)) (pa_cons (pe_callB call_len_seq rfl T.n_len bt_len (pa_cons (pv 2) pa_nil)) pa_nil))))) (pss_one (ps_raise PySem.F.excBase_ValueError (by decide +kernel) PySem.F.excBase_ValueError rfl T.c_NoPlan T.x_NoPlan (pa_cons pe_str pa_nil))) pss_nil)))),rd_check_plan T.tt h⟩)
theorem sc_Table_sizes:FnScope N_Table_sizes ["self"] (defScope s_Table_sizes):=⟨rfl,rfl,rfl,by decide +kernel,rfl,by decide +kernel,by decide +kernel⟩
theorem ok_Table_sizes (T:Tx K mg a):FnOk P w K mg base CX0 1 a.f_Table_sizes a.d_Table_sizes ["self"] (sp_Table_sizes K):=by
 refine T.Table_sizes.F.ok sc_Table_sizes (λ vs H Q E h=>len_Table_sizes h) (λ cdv A outer s H vs Q E hr h=>⟨t_Table_sizes K,(pss_one (ps_ret (pe_callTy call_list_of rfl T.n_list bt_list (pa_cons (pe_fld (pv 0) rfl) pa_nil)))),rd_Table_sizes T.tt h⟩)
theorem sc_breaches:FnScope N_breaches ["table"] (defScope s_breaches):=⟨rfl,rfl,rfl,by decide +kernel,rfl,by decide +kernel,by decide +kernel⟩
theorem ok_breaches (T:Tx K mg a):FnOk P w K mg base CX0 2 a.f_breaches a.d_breaches ["table"] (sp_breaches K):=by
 refine T.breaches.F.ok sc_breaches (λ vs H Q E h=>len_breaches h) (λ cdv A outer s H vs Q E hr h=>⟨t_breaches K,(pss_cons (ps_set (i:=1) sc_breaches.nd rfl (Or.inl rfl) (pe_lst pa_nil)) (pss_cons (ps_for PassesOwn.never rfl (pi_enum rfl T.n_enumerate (pe_meth0 (pv 0) T.tt.cl T.Table_sizes.m (ok_Table_sizes T) (hr.mono (by decide)) T.Table_sizes.b .nil pass0)) (pg_tup (n:=2) rfl (pgs_cons (pg_name (i:=2) sc_breaches.nd rfl (Or.inr rfl)) (pgs_cons (pg_name (i:=3) sc_breaches.nd rfl (Or.inl rfl)) pgs_nil))) (pss_one (ps_for PassesOwn.never rfl (pi_range1 rfl T.n_range (pa_cons (pv 3) pa_nil)) (pg_name (i:=4) sc_breaches.nd rfl (Or.inr rfl)) (pss_one (ps_expr (pe_bm PySem.F.plainAttrs_list PySem.F.slot_list_extend PySem.F.type_list_extend mt_extend (pv 1) (pa_cons (pe_compI (FS:=defScope s_breaches) (N:=N_breaches) (x:="other") (ys:=["hand", "choice"]) (caps:=[2,4]) ⟨by decide +kernel,rfl,by decide +kernel,rfl,by decide +kernel,rfl,by decide +kernel,rfl,by decide +kernel⟩ rfl rfl rfl (pi_range1 rfl T.n_range (pa_cons (pv 3) pa_nil)) (λ _ _ _ _=>(pt_cmpR op_ne (pv 0) (pv 2) (nomark _))) (λ _ _ _ _=>(pe_tup (pa_cons (pv 1) (pa_cons (pv 2) (pa_cons (pv 0) pa_nil)))))) pa_nil))))))) (pss_one (ps_ret (pv 1))))),rd_breaches h⟩)
theorem sc_rests:FnScope N_rests ["table", "hand"] (defScope s_rests):=⟨rfl,rfl,rfl,by decide +kernel,rfl,by decide +kernel,by decide +kernel⟩
theorem ok_rests (T:Tx K mg a):FnOk P w K mg base CX0 3 a.f_rests a.d_rests ["table", "hand"] (sp_rests K):=by
 refine T.rests.F.ok sc_rests (λ vs H Q E h=>len_rests h) (λ cdv A outer s H vs Q E hr h=>⟨t_rests K,(pss_cons (ps_set (i:=2) sc_rests.nd rfl (Or.inl rfl) (pe_meth0 (pv 0) T.tt.cl T.Table_sizes.m (ok_Table_sizes T) (hr.mono (by decide)) T.Table_sizes.b .nil pass0)) (pss_one (ps_ret (pe_call (ok_in_order T) (hr.mono (by decide)) rfl T.in_order.m T.in_order.F.kp T.in_order.b .nil pass0 (pa_cons (pe_op op_cat (pe_slice sl_list (pv 2) po_none (po_some (pv 1))) (pe_slice sl_list (pv 2) (po_some (pe_op op_add (pv 1) pe_int)) po_none)) pa_nil))))),rd_rests h⟩)
theorem sc_joined:FnScope N_joined ["rest", "hand", "choice"] (defScope s_joined):=⟨rfl,rfl,rfl,by decide +kernel,rfl,by decide +kernel,by decide +kernel⟩
theorem ok_joined (T:Tx K mg a):FnOk P w K mg base CX0 1 a.f_joined a.d_joined ["rest", "hand", "choice"] (sp_joined K):=by
 refine T.joined.F.ok sc_joined (λ vs H Q E h=>len_joined h) (λ cdv A outer s H vs Q E hr h=>⟨t_joined K,(pss_one (ps_ret (pe_op op_catA (pe_op op_catA (pe_slice sl_tupA (pv 0) po_none (po_some (pv 1))) (pe_tup (pa_cons (pv 2) pa_nil))) (pe_slice sl_tupA (pv 0) (po_some (pv 1)) po_none)))),rd_joined h⟩)
theorem sc_times:FnScope N_times ["one", "other"] (defScope s_times):=⟨rfl,rfl,rfl,by decide +kernel,rfl,by decide +kernel,by decide +kernel⟩
theorem ok_times (T:Tx K mg a):FnOk P w K mg base CX0 3 a.f_times a.d_times ["one", "other"] (sp_times K):=by
 refine T.times.F.ok sc_times (λ vs H Q E h=>len_times h) (λ cdv A outer s H vs Q E hr h=>⟨t_times K,(pss_one (ps_ret (pe_call (ok_ratio T) (hr.mono (by decide)) rfl T.ratio.m T.ratio.F.kp T.ratio.b .nil pass0 (pa_cons (pe_op op_mulB (pe_ix ix_tup (pv 0) pe_int (λ _ _=>rfl)) (pe_ix ix_tup (pv 1) pe_int (λ _ _=>rfl))) (pa_cons (pe_op op_mulB (pe_ix ix_tup (pv 0) pe_int (λ _ _=>rfl)) (pe_ix ix_tup (pv 1) pe_int (λ _ _=>rfl))) pa_nil))))),rd_times h⟩)
theorem sc_minus:FnScope N_minus ["one", "other"] (defScope s_minus):=⟨rfl,rfl,rfl,by decide +kernel,rfl,by decide +kernel,by decide +kernel⟩
theorem ok_minus (T:Tx K mg a):FnOk P w K mg base CX0 3 a.f_minus a.d_minus ["one", "other"] (sp_minus K):=by
 refine T.minus.F.ok sc_minus (λ vs H Q E h=>len_minus h) (λ cdv A outer s H vs Q E hr h=>⟨t_minus K,(pss_one (ps_ret (pe_call (ok_ratio T) (hr.mono (by decide)) rfl T.ratio.m T.ratio.F.kp T.ratio.b .nil pass0 (pa_cons (pe_op op_sub (pe_op op_mulB (pe_ix ix_tup (pv 0) pe_int (λ _ _=>rfl)) (pe_ix ix_tup (pv 1) pe_int (λ _ _=>rfl))) (pe_op op_mulB (pe_ix ix_tup (pv 1) pe_int (λ _ _=>rfl)) (pe_ix ix_tup (pv 0) pe_int (λ _ _=>rfl)))) (pa_cons (pe_op op_mulB (pe_ix ix_tup (pv 0) pe_int (λ _ _=>rfl)) (pe_ix ix_tup (pv 1) pe_int (λ _ _=>rfl))) pa_nil))))),rd_minus h⟩)
theorem sc_Table_earned:FnScope N_Table_earned ["self", "play"] (defScope s_Table_earned):=⟨rfl,rfl,rfl,by decide +kernel,rfl,by decide +kernel,by decide +kernel⟩
theorem ok_Table_earned (T:Tx K mg a):FnOk P w K mg base CX0 1 a.f_Table_earned a.d_Table_earned ["self", "play"] (sp_Table_earned K):=by
 refine T.Table_earned.F.ok sc_Table_earned (λ vs H Q E h=>len_Table_earned h) (λ cdv A outer s H vs Q E hr h=>⟨t_Table_earned K,(pss_cons (ps_for PassesOwn.never rfl (pi_enum rfl T.n_enumerate (pe_fld (pv 0) rfl)) (pg_tup (n:=2) rfl (pgs_cons (pg_name (i:=2) sc_Table_earned.nd rfl (Or.inl rfl)) (pgs_cons (pg_name (i:=3) sc_Table_earned.nd rfl (Or.inl rfl)) pgs_nil))) (pss_one (ps_if (PW.pt (pw_or (pt_cmpR op_lt (pe_ix ix_tup (pv 1) (pv 2) (λ _ _=>rfl)) pe_int (nomark _)) (pw_or1 (pt_cmpR op_ge (pe_ix ix_tup (pv 1) (pv 2) (λ _ _=>rfl)) (pv 3) (nomark _))))) (pss_one ps_never) pss_nil))) (pss_one (ps_ret (pe_callTy call_list_of rfl T.n_list bt_list (pa_cons (pe_dget (hu_of hr) (pe_fld (pv 0) rfl) (pv 1) (λ _ _=>rfl)) pa_nil))))),rd_Table_earned T.tt h⟩)
theorem sc_earned_with:FnScope N_earned_with ["table", "rest", "hand", "choice"] (defScope s_earned_with):=⟨rfl,rfl,rfl,by decide +kernel,rfl,by decide +kernel,by decide +kernel⟩
theorem ok_earned_with (T:Tx K mg a):FnOk P w K mg base CX0 2 a.f_earned_with a.d_earned_with ["table", "rest", "hand", "choice"] (sp_earned_with K):=by
 refine T.earned_with.F.ok sc_earned_with (λ vs H Q E h=>len_earned_with h) (λ cdv A outer s H vs Q E hr h=>⟨t_earned_with K,(pss_one (ps_ret (pe_ix ix_list (pe_meth (pv 0) T.tt.cl T.Table_earned.m (ok_Table_earned T) (hr.mono (by decide)) T.Table_earned.b .nil pass0 (pa_cons (pe_call (ok_joined T) (hr.mono (by decide)) rfl T.joined.m T.joined.F.kp T.joined.b .nil pass0 (pa_cons (pv 1) (pa_cons (pv 2) (pa_cons (pv 3) pa_nil)))) pa_nil)) (pv 2) (λ _ _=>rfl)))),rd_earned_with h⟩)
theorem sc_more_by:FnScope N_more_by ["table", "rest", "breach"] (defScope s_more_by):=⟨rfl,rfl,rfl,by decide +kernel,rfl,by decide +kernel,by decide +kernel⟩
theorem ok_more_by (T:Tx K mg a):FnOk P w K mg base CX0 4 a.f_more_by a.d_more_by ["table", "rest", "breach"] (sp_more_by K):=by
 refine T.more_by.F.ok sc_more_by (λ vs H Q E h=>len_more_by h) (λ cdv A outer s H vs Q E hr h=>⟨t_more_by K,(pss_cons (ps_set (i:=3) sc_more_by.nd rfl (Or.inl rfl) (pe_ix ix_tup (pv 2) pe_int (λ _ _=>rfl))) (pss_one (ps_ret (pe_call (ok_minus T) (hr.mono (by decide)) rfl T.minus.m T.minus.F.kp T.minus.b .nil pass0 (pa_cons (pe_call (ok_earned_with T) (hr.mono (by decide)) rfl T.earned_with.m T.earned_with.F.kp T.earned_with.b .nil pass0 (pa_cons (pv 0) (pa_cons (pv 1) (pa_cons (pv 3) (pa_cons (pe_ix ix_tup (pv 2) pe_int (λ _ _=>rfl)) pa_nil))))) (pa_cons (pe_call (ok_earned_with T) (hr.mono (by decide)) rfl T.earned_with.m T.earned_with.F.kp T.earned_with.b .nil pass0 (pa_cons (pv 0) (pa_cons (pv 1) (pa_cons (pv 3) (pa_cons (pe_ix ix_tup (pv 2) pe_int (λ _ _=>rfl)) pa_nil))))) pa_nil)))))),rd_more_by h⟩)
theorem sc_gain_by:FnScope N_gain_by ["table", "plan", "breach"] (defScope s_gain_by):=⟨rfl,rfl,rfl,by decide +kernel,rfl,by decide +kernel,by decide +kernel⟩
theorem ok_gain_by (T:Tx K mg a):FnOk P w K mg base CX0 5 a.f_gain_by a.d_gain_by ["table", "plan", "breach"] (sp_gain_by K):=by
 refine T.gain_by.F.ok sc_gain_by (λ vs H Q E h=>len_gain_by h) (λ cdv A outer s H vs Q E hr h=>⟨t_gain_by K,(pss_cons (ps_set (i:=3) sc_gain_by.nd rfl (Or.inl rfl) (pe_tup (pa_cons pe_int (pa_cons pe_int pa_nil)))) (pss_cons (ps_for PassesOwn.never rfl (pi_list (pe_call (ok_rests T) (hr.mono (by decide)) rfl T.rests.m T.rests.F.kp T.rests.b .nil pass0 (pa_cons (pv 0) (pa_cons (pe_ix ix_tup (pv 2) pe_int (λ _ _=>rfl)) pa_nil)))) (pg_name (i:=4) sc_gain_by.nd rfl (Or.inl rfl)) (pss_cons (ps_set (i:=5) sc_gain_by.nd rfl (Or.inl rfl) (pe_dget (hu_of hr) (pv 1) (pe_call (ok_joined T) (hr.mono (by decide)) rfl T.joined.m T.joined.F.kp T.joined.b .nil pass0 (pa_cons (pv 4) (pa_cons (pe_ix ix_tup (pv 2) pe_int (λ _ _=>rfl)) (pa_cons (pe_ix ix_tup (pv 2) pe_int (λ _ _=>rfl)) pa_nil)))) (λ _ _=>rfl))) (pss_one (ps_set (i:=3) sc_gain_by.nd rfl (Or.inl rfl) (pe_call (ok_plus T) (hr.mono (by decide)) rfl T.plus.m T.plus.F.kp T.plus.b .nil pass0 (pa_cons (pv 3) (pa_cons (pe_call (ok_times T) (hr.mono (by decide)) rfl T.times.m T.times.F.kp T.times.b .nil pass0 (pa_cons (pv 5) (pa_cons (pe_call (ok_more_by T) (hr.mono (by decide)) rfl T.more_by.m T.more_by.F.kp T.more_by.b .nil pass0 (pa_cons (pv 0) (pa_cons (pv 4) (pa_cons (pv 2) pa_nil)))) pa_nil))) pa_nil))))))) (pss_one (ps_ret (pv 3))))),rd_gain_by h⟩)
theorem sc_breaks:FnScope N_breaks ["table", "plan"] (defScope s_breaks):=⟨rfl,rfl,rfl,by decide +kernel,rfl,by decide +kernel,by decide +kernel⟩
theorem ok_breaks (T:Tx K mg a):FnOk P w K mg base (CXF P w) 7 a.f_breaks a.d_breaks ["table", "plan"] (sp_breaks K):=by
 refine T.breaks.F.okX sc_breaks (λ vs H Q E h=>len_breaks h) (λ cdv A outer s H vs Q E hr h=>⟨t_breaks K E,(pss_cons (ps_expr (pe_call (ok_check_plan T) (hr.mono (by decide)) rfl T.check_plan.m T.check_plan.F.kp T.check_plan.b .nil passF (pa_cons (pv 0) (pa_cons (pv 1) pa_nil)))) (pss_cons (ps_for PassesOwn.leaving rfl (pi_list (pe_call (ok_breaches T) (hr.mono (by decide)) rfl T.breaches.m T.breaches.F.kp T.breaches.b .nil pass0 (pa_cons (pv 0) pa_nil))) (pg_name (i:=2) sc_breaks.nd rfl (Or.inl rfl)) (pss_one (ps_if (pt_val (pe_call (ok_below T) (hr.mono (by decide)) rfl T.below.m T.below.F.kp T.below.b .nil pass0 (pa_cons (pe_tup (pa_cons pe_int (pa_cons pe_int pa_nil))) (pa_cons (pe_call (ok_gain_by T) (hr.mono (by decide)) rfl T.gain_by.m T.gain_by.F.kp T.gain_by.b .nil pass0 (pa_cons (pv 0) (pa_cons (pv 1) (pa_cons (pv 2) pa_nil)))) pa_nil)))) (pss_one (ps_ret (pv 2))) pss_nil))) (pss_one (ps_ret pe_non)))),rd_breaks h⟩)
theorem sc_l_refused:FnScope N_l_refused ["_law_table_here", "_law_plan_here"] (defScope s_l_refused):=⟨rfl,rfl,rfl,by decide +kernel,rfl,by decide +kernel,by decide +kernel⟩
theorem ok_l_refused (T:Tx K mg a):FnOk P w K mg base CX0 8 a.f_l_refused a.d_l_refused ["_law_table_here", "_law_plan_here"] (sp_l_refused K):=by
 refine T.l_refused.F.ok sc_l_refused (λ vs H Q E h=>len_l_refused h) (λ cdv A outer s H vs Q E hr h=>⟨t_l_refused K,(pss_cons (ps_set (i:=2) sc_l_refused.nd rfl (Or.inl rfl) pe_bl) (pss_cons (ps_set (i:=3) sc_l_refused.nd rfl (Or.inl rfl) pe_bl) (pss_cons (ps_try (pex_call (ok_breaks T) (hr.mono (by decide)) rfl T.breaks.m T.breaks.F.kp T.breaks.b (pa_cons (pv 0) (pa_cons (pv 1) pa_nil))) (λ _=>(pss_cons (ps_set (i:=2) sc_l_refused.nd rfl (Or.inl rfl) (pe_and (pe_callB call_isE rfl T.n_isinstance bt_isinstance (pa_cons (pv 4) (pa_cons (pe_glob (v:=.ref (gadr K "NoPlan")) rfl T.c_NoPlan rfl) pa_nil))) (pe_one (pe_callB call_isE rfl T.n_isinstance bt_isinstance (pa_cons (pv 4) (pa_cons (pe_bltn (v:=.ty "ValueError") rfl T.n_ValueError bt_ValueError rfl) pa_nil)))))) (pss_one (ps_set (i:=3) sc_l_refused.nd rfl (Or.inl rfl) (pe_callB call_isE rfl T.n_isinstance bt_isinstance (pa_cons (pv 4) (pa_cons (pe_tup (pa_cons (pe_glob (v:=.ref (gadr K "NoNumber")) rfl T.c_NoNumber rfl) (pa_cons (pe_glob (v:=.ref (gadr K "NoTable")) rfl T.c_NoTable rfl) (pa_cons (pe_glob (v:=.ref (gadr K "NoOrder")) rfl T.c_NoOrder rfl) (pa_cons (pe_glob (v:=.ref (gadr K "NoStart")) rfl T.c_NoStart rfl) (pa_cons (pe_glob (v:=.ref (gadr K "NotTwo")) rfl T.c_NotTwo rfl) (pa_cons (pe_glob (v:=.ref (gadr K "NoChoice")) rfl T.c_NoChoice rfl) (pa_cons (pe_glob (v:=.ref (gadr K "NoMixing")) rfl T.c_NoMixing rfl) pa_nil)))))))) pa_nil))))))) rfl rfl rfl rfl T.c_PlayError T.exm sc_l_refused.nd rfl rfl) (pss_one (ps_ret (pe_and (pv 2) (pe_one (pe_not (pv 3))))))))),rd_l_refused T.xt h⟩)
theorem sc_l_strange:FnScope N_l_strange ["_law_at", "_law_plays_here", "_law_cell"] (defScope s_l_strange):=⟨rfl,rfl,rfl,by decide +kernel,rfl,by decide +kernel,by decide +kernel⟩
theorem ok_l_strange (T:Tx K mg a):FnOk P w K mg base CX0 2 a.f_l_strange a.d_l_strange ["_law_at", "_law_plays_here", "_law_cell"] (sp_l_strange K):=by
 refine T.l_strange.F.ok sc_l_strange (λ vs H Q E h=>len_l_strange h) (λ cdv A outer s H vs Q E hr h=>⟨t_l_strange K,(pss_cons (ps_set (i:=3) sc_l_strange.nd rfl (Or.inr rfl) (pe_op op_mod (pv 2) (pe_callB call_len_seq rfl T.n_len bt_len (pa_cons (pv 0) pa_nil)))) (pss_cons (ps_set (i:=4) sc_l_strange.nd rfl (Or.inl rfl) (pe_op op_mod (pe_op op_fdiv (pv 2) pe_int) pe_int)) (pss_cons (ps_if (pt_cmpR op_eq (pv 4) pe_int (nomark _)) (pss_one (ps_ret (pe_call (ok_l_put T) (hr.mono (by decide)) rfl T.l_put.m T.l_put.F.kp T.l_put.b .nil pass0 (pa_cons (pv 0) (pa_cons (pv 3) (pa_cons (pe_un un_neg pe_int) pa_nil)))))) pss_nil) (pss_cons (ps_if (pt_cmpR op_eq (pv 4) pe_int (nomark _)) (pss_one (ps_ret (pe_call (ok_l_put T) (hr.mono (by decide)) rfl T.l_put.m T.l_put.F.kp T.l_put.b .nil pass0 (pa_cons (pv 0) (pa_cons (pv 3) (pa_cons (pe_op op_add pe_int (pe_callB (call_maxL rfl) rfl T.n_max bt_max (pa_cons (pe_comp (FS:=defScope s_l_strange) (N:=N_l_strange) (x:="_law_play") (ys:=["_law_hand"]) (caps:=[3]) ⟨by decide +kernel,rfl,by decide +kernel,rfl,by decide +kernel,rfl,by decide +kernel,rfl,by decide +kernel⟩ rfl rfl rfl (pi_list (pv 1)) (λ _ _ _ _=>(pe_ix ix_tup (pv 0) (pv 1) (λ _ _=>rfl)))) pa_nil))) pa_nil)))))) pss_nil) (pss_cons (ps_if (pt_cmpR op_eq (pv 4) pe_int (nomark _)) (pss_one (ps_ret (pe_op op_catA (pv 0) (pe_tup (pa_cons pe_int pa_nil))))) pss_nil) (pss_one (ps_ret (pe_slice sl_tupA (pv 0) po_none (po_some (pe_un un_neg pe_int)))))))))),rd_l_strange h⟩)
theorem sc_l_rest:FnScope N_l_rest ["_law_plan_here", "_law_plays_here", "_law_at", "_law_last"] (defScope s_l_rest):=⟨rfl,rfl,rfl,by decide +kernel,rfl,by decide +kernel,by decide +kernel⟩
theorem ok_l_rest (T:Tx K mg a):FnOk P w K mg base CX0 2 a.f_l_rest a.d_l_rest ["_law_plan_here", "_law_plays_here", "_law_at", "_law_last"] (sp_l_rest K):=by
 refine T.l_rest.F.ok sc_l_rest (λ vs H Q E h=>len_l_rest h) (λ cdv A outer s H vs Q E hr h=>⟨t_l_rest K,(pss_cons (ps_set (i:=4) sc_l_rest.nd rfl (Or.inl rfl) pe_int) (pss_cons (ps_set (i:=5) sc_l_rest.nd rfl (Or.inl rfl) pe_int) (pss_cons (ps_for PassesOwn.never rfl (pi_list (pv 1)) (pg_name (i:=6) sc_l_rest.nd rfl (Or.inl rfl)) (pss_cons (ps_set (i:=7) sc_l_rest.nd rfl (Or.inl rfl) (pe_dget (hu_of hr) (pv 0) (pv 6) (λ _ _=>rfl))) (pss_cons (ps_if (pt_cmpR (op_eqD 0 (hu_of hr)) (pv 6) (pv 2) (nomark _)) (pss_one (ps_set (i:=7) sc_l_rest.nd rfl (Or.inl rfl) (pe_tup (pa_cons (pe_op op_sub (pe_op op_sub pe_int (pe_ix ix_tup (pv 7) pe_int (λ _ _=>rfl))) (pe_ix ix_tup (pv 7) pe_int (λ _ _=>rfl))) (pa_cons (pe_ix ix_tup (pv 7) pe_int (λ _ _=>rfl)) pa_nil))))) pss_nil) (pss_one (ps_if (pt_cmpR (op_neD 0 (hu_of hr)) (pv 6) (pv 3) (nomark _)) (pss_cons (ps_set (i:=4) sc_l_rest.nd rfl (Or.inl rfl) (pe_op op_sub (pe_op op_mulB (pv 4) (pe_ix ix_tup (pv 7) pe_int (λ _ _=>rfl))) (pe_op op_mulB (pe_ix ix_tup (pv 7) pe_int (λ _ _=>rfl)) (pv 5)))) (pss_one (ps_set (i:=5) sc_l_rest.nd rfl (Or.inl rfl) (pe_op op_mulB (pv 5) (pe_ix ix_tup (pv 7) pe_int (λ _ _=>rfl)))))) pss_nil))))) (pss_cons (ps_set (i:=8) sc_l_rest.nd rfl (Or.inl rfl) (pe_call (ok_l_divisor T) (hr.mono (by decide)) rfl T.l_divisor.m T.l_divisor.F.kp T.l_divisor.b .nil pass0 (pa_cons (pv 4) (pa_cons (pv 5) pa_nil)))) (pss_one (ps_ret (pe_tup (pa_cons (pe_op op_fdivB (pv 4) (pv 8)) (pa_cons (pe_op op_fdivB (pv 5) (pv 8)) pa_nil))))))))),rd_l_rest h⟩)
theorem sc_l_spoilt:FnScope N_l_spoilt ["_law_plan_here", "_law_plays_here", "_law_cell"] (defScope s_l_spoilt):=⟨rfl,rfl,rfl,by decide +kernel,rfl,by decide +kernel,by decide +kernel⟩
theorem ok_l_spoilt (T:Tx K mg a):FnOk P w K mg base CX0 3 a.f_l_spoilt a.d_l_spoilt ["_law_plan_here", "_law_plays_here", "_law_cell"] (sp_l_spoilt K):=by
 refine T.l_spoilt.F.ok sc_l_spoilt (λ vs H Q E h=>len_l_spoilt h) (λ cdv A outer s H vs Q E hr h=>⟨t_l_spoilt K,(pss_cons (ps_set (i:=3) sc_l_spoilt.nd rfl (Or.inl rfl) (pe_callTy call_dict_of rfl T.n_dict bt_dict (pa_cons (pv 0) pa_nil))) (pss_cons (ps_set (i:=4) sc_l_spoilt.nd rfl (Or.inl rfl) (pe_ix ix_list (pv 1) (pe_op op_mod (pe_op op_fdiv (pv 2) pe_int) (pe_callB call_len_seq rfl T.n_len bt_len (pa_cons (pv 1) pa_nil))) (λ _ _=>rfl))) (pss_cons (ps_if (pt_cmpR op_eq (pe_op op_mod (pv 2) pe_int) pe_int (nomark _)) (pss_one (ps_expr (pe_popT (hu_of hr) (pv 3) (pv 4) ⟨rfl,rfl,rfl,rfl⟩))) pss_nil) (pss_cons (ps_if (pt_cmpR op_eq (pe_op op_mod (pv 2) pe_int) pe_int (nomark _)) (pss_one (ps_dput (hu_of hr) (pv 3) (pe_op op_catA (pv 4) (pe_tup (pa_cons pe_int pa_nil))) (pe_tup (pa_cons pe_int (pa_cons pe_int pa_nil))) rfl)) pss_nil) (pss_cons (ps_if (pt_cmpR op_eq (pe_op op_mod (pv 2) pe_int) pe_int (nomark _)) (pss_one (ps_dput (hu_of hr) (pv 3) (pv 4) (pe_tup (pa_cons (pe_op op_add (pe_ix ix_tup (pe_dget (hu_of hr) (pv 3) (pv 4) (λ _ _=>rfl)) pe_int (λ _ _=>rfl)) (pe_ix ix_tup (pe_dget (hu_of hr) (pv 3) (pv 4) (λ _ _=>rfl)) pe_int (λ _ _=>rfl))) (pa_cons (pe_ix ix_tup (pe_dget (hu_of hr) (pv 3) (pv 4) (λ _ _=>rfl)) pe_int (λ _ _=>rfl)) pa_nil))) rfl)) pss_nil) (pss_cons (ps_if (pt_cmpR op_eq (pe_op op_mod (pv 2) pe_int) pe_int (nomark _)) (pss_cons (ps_set (i:=5) sc_l_spoilt.nd rfl (Or.inl rfl) (pe_popT (hu_of hr) (pv 3) (pv 4) ⟨rfl,rfl,rfl,rfl⟩)) (pss_one (ps_dput (hu_of hr) (pv 3) (pe_call (ok_l_strange T) (hr.mono (by decide)) rfl T.l_strange.m T.l_strange.F.kp T.l_strange.b .nil pass0 (pa_cons (pv 4) (pa_cons (pv 1) (pa_cons (pe_op op_fdiv (pv 2) pe_int) pa_nil)))) (pv 5) rfl))) pss_nil) (pss_cons (ps_if (pt_cmpR op_eq (pe_op op_mod (pv 2) pe_int) pe_int (nomark _)) (pss_cons (ps_set (i:=4) sc_l_spoilt.nd rfl (Or.inl rfl) (pe_ix ix_list (pe_compI (FS:=defScope s_l_spoilt) (N:=N_l_spoilt) (x:="_law_play") (ys:=["_law_plan_here"]) (caps:=[0]) ⟨by decide +kernel,rfl,by decide +kernel,rfl,by decide +kernel,rfl,by decide +kernel,rfl,by decide +kernel⟩ rfl rfl rfl (pi_list (pv 1)) (λ _ _ _ _=>(pt_cmpR op_gt (pe_ix ix_tup (pe_dget (hu_of hr) (pv 1) (pv 0) (λ _ _=>rfl)) pe_int (λ _ _=>rfl)) pe_int (nomark _))) (λ _ _ _ _=>(pv 0))) pe_int (λ _ _=>rfl))) (pss_one (ps_dput (hu_of hr) (pv 3) (pv 4) (pe_tup (pa_cons pe_int (pa_cons pe_int pa_nil))) rfl))) pss_nil) (pss_cons (ps_if (pt_cmpR op_eq (pe_op op_mod (pv 2) pe_int) pe_int (nomark _)) (pss_cons (ps_set (i:=6) sc_l_spoilt.nd rfl (Or.inl rfl) (pe_ix ix_list (pv 1) (pe_op op_mod (pe_op op_add (pe_op op_fdiv (pv 2) pe_int) pe_int) (pe_callB call_len_seq rfl T.n_len bt_len (pa_cons (pv 1) pa_nil))) (λ _ _=>rfl))) (pss_cons (ps_dput (hu_of hr) (pv 3) (pv 4) (pe_tup (pa_cons (pe_op op_sub (pe_op op_sub pe_int (pe_ix ix_tup (pe_dget (hu_of hr) (pv 3) (pv 4) (λ _ _=>rfl)) pe_int (λ _ _=>rfl))) (pe_ix ix_tup (pe_dget (hu_of hr) (pv 3) (pv 4) (λ _ _=>rfl)) pe_int (λ _ _=>rfl))) (pa_cons (pe_ix ix_tup (pe_dget (hu_of hr) (pv 3) (pv 4) (λ _ _=>rfl)) pe_int (λ _ _=>rfl)) pa_nil))) rfl) (pss_one (ps_if (pt_cmpR (op_neD 0 (hu_of hr)) (pv 6) (pv 4) (nomark _)) (pss_one (ps_dput (hu_of hr) (pv 3) (pv 6) (pe_call (ok_l_rest T) (hr.mono (by decide)) rfl T.l_rest.m T.l_rest.F.kp T.l_rest.b .nil pass0 (pa_cons (pv 0) (pa_cons (pv 1) (pa_cons (pv 4) (pa_cons (pv 6) pa_nil))))) rfl)) pss_nil)))) pss_nil) (pss_one (ps_ret (pv 3))))))))))),rd_l_spoilt h⟩)
theorem sc_law:FnScope N_law ["_law_script"] (defScope s_law):=⟨rfl,rfl,rfl,by decide +kernel,rfl,by decide +kernel,by decide +kernel⟩
theorem ok_law (T:Tx K mg a):FnOk P w K mg base CX0 9 a.f_law a.d_law ["_law_script"] (sp_law K):=by
 refine T.law.F.ok sc_law (λ vs H Q E h=>len_law h) (λ cdv A outer s H vs Q E hr h=>⟨t_law K,(pss_cons (ps_set (i:=1) sc_law.nd rfl (Or.inl rfl) (pe_call (ok_l_numbers T) (hr.mono (by decide)) rfl T.l_numbers.m T.l_numbers.F.kp T.l_numbers.b .nil pass0 (pa_cons (pv 0) (pa_cons pe_int pa_nil)))) (pss_cons (ps_asg (pe_call (ok_l_table T) (hr.mono (by decide)) rfl T.l_table.m T.l_table.F.kp T.l_table.b .nil pass0 (pa_cons (pv 1) pa_nil)) (pg_tup (n:=3) rfl (pgs_cons (pg_name (i:=2) sc_law.nd rfl (Or.inl rfl)) (pgs_cons (pg_name (i:=3) sc_law.nd rfl (Or.inl rfl)) (pgs_cons (pg_name (i:=4) sc_law.nd rfl (Or.inl rfl)) pgs_nil))))) (pss_cons (ps_set (i:=5) sc_law.nd rfl (Or.inl rfl) (pe_call (ok_l_plan T) (hr.mono (by decide)) rfl T.l_plan.m T.l_plan.F.kp T.l_plan.b .nil pass0 (pa_cons (pv 1) (pa_cons (pv 3) pa_nil)))) (pss_cons (ps_set (i:=6) sc_law.nd rfl (Or.inl rfl) (pe_make T.mk_Table (ok_Table_init T) (hr.mono (by decide)) rfl T.c_Table T.Table_init.b .nil pass0 (pa_cons (pv 2) (pa_cons (pv 4) pa_nil)))) (pss_cons (ps_set (i:=7) sc_law.nd rfl (Or.inl rfl) (pe_call (ok_l_due T) (hr.mono (by decide)) rfl T.l_due.m T.l_due.F.kp T.l_due.b .nil pass0 (pa_cons (pv 2) (pa_cons (pv 4) (pa_cons (pv 5) (pa_cons (pv 3) pa_nil)))))) (pss_cons (ps_set (i:=8) sc_law.nd rfl (Or.inl rfl) (pe_callTy call_dict_of rfl T.n_dict bt_dict (pa_cons (pv 5) pa_nil))) (pss_cons (ps_if (PW.pt (pw_or (pt_not (pt_val (pe_call (ok_l_same T) (hr.mono (by decide)) rfl T.l_same.m T.l_same.F.kp T.l_same.b .nil pass0 (pa_cons (pe_call (ok_breaks T) (hr.mono (by decide)) rfl T.breaks.m T.breaks.F.kp T.breaks.b .nil passN (pa_cons (pv 6) (pa_cons (pv 8) pa_nil))) (pa_cons (pv 7) pa_nil))))) (pw_or1 (pt_cmpR (op_neDi 1 hr.units) (pv 8) (pv 5) (nomark _))))) (pss_one (ps_ret pe_bl)) pss_nil) (pss_cons (ps_if (pt_not (pt_val (pe_call (ok_l_refused T) (hr.mono (by decide)) rfl T.l_refused.m T.l_refused.F.kp T.l_refused.b .nil pass0 (pa_cons (pv 6) (pa_cons (pe_call (ok_l_spoilt T) (hr.mono (by decide)) rfl T.l_spoilt.m T.l_spoilt.F.kp T.l_spoilt.b .nil pass0 (pa_cons (pv 5) (pa_cons (pv 3) (pa_cons (pe_op op_fdiv (pe_ix ix_list (pv 1) pe_int (λ _ _=>rfl)) pe_int) pa_nil)))) pa_nil))))) (pss_one (ps_ret pe_bl)) pss_nil) (pss_one (ps_ret (pe_call (ok_l_same T) (hr.mono (by decide)) rfl T.l_same.m T.l_same.F.kp T.l_same.b .nil pass0 (pa_cons (pe_call (ok_breaks T) (hr.mono (by decide)) rfl T.breaks.m T.breaks.F.kp T.breaks.b .nil passN (pa_cons (pv 6) (pa_cons (pv 8) pa_nil))) (pa_cons (pv 7) pa_nil))))))))))))),rd_law h⟩)
end
theorem ar1 {P:List Value→Prop} (h:∀ a,P [a]):∀ us:List Value,us.length=1→P us
 | [a],_=>h a
theorem ar2 {P:List Value→Prop} (h:∀ a b,P [a,b]):∀ us:List Value,us.length=2→P us
 | [],e=>nomatch e
 | a::us,e=>ar1 (P:=λ l=>P (a::l)) (h a) us (Nat.succ.inj e)
theorem ar3 {P:List Value→Prop} (h:∀ a b c,P [a,b,c]):∀ us:List Value,us.length=3→P us
 | [],e=>nomatch e
 | a::us,e=>ar2 (P:=λ l=>P (a::l)) (h a) us (Nat.succ.inj e)
theorem ar4 {P:List Value→Prop} (h:∀ a b c d,P [a,b,c,d]):∀ us:List Value,us.length=4→P us
 | [],e=>nomatch e
 | a::us,e=>ar3 (P:=λ l=>P (a::l)) (h a) us (Nat.succ.inj e)
theorem all_mk {l:PySem.W.OpenLaw} {w:World} {K:W.Frag} {h:Heap} {mg:Str→Option Value} {fa f0 f1 f2 f3 f4 f5 f6 f7 f8 f9 f10 f11 f12 f13 f14 f15 f16 f17 f18 f19 f20 f21 f22 f23 f24 f25 f26 f27 f28 f29 f30 f31 f32 f33 f34 f35 f36 f37 f38 f39:Addr} {C0 C1 C2 C3 C4 C5 C6 C7 C8 C9:Addr} (X:K.In h) (G:h.Ns mainGlobals mg) (hfa:mg "law" = some (.ref fa))
  {od0 an0 od1 an1 od2 an2 od3 an3 od4 an4 od5 an5 od6 an6 od7 an7 od8 an8 od9 an9 od10 an10 od11 an11 od12 an12 od13 an13 od14 an14 od15 an15 od16 an16 od17 an17 od18 an18 od19 an19 od20 an20 od21 an21 od22 an22 od23 an23 od24 an24 od25 an25 od26 an26 od27 an27 od28 an28 od29 an29 od30 an30 od31 an31 od32 an32 od33 an33 od34 an34 od35 an35 od36 an36 od37 an37 od38 an38 od39 an39:Option Addr} {sl0 sl1 sl2 sl3 sl4 sl5 sl6 sl7 sl8 sl9 sl10 sl11 sl12 sl13 sl14 sl15 sl16 sl17 sl18 sl19 sl20 sl21 sl22 sl23 sl24 sl25 sl26 sl27 sl28 sl29 sl30 sl31 sl32 sl33 sl34 sl35 sl36 sl37 sl38 sl39:Array (Option Value)} {oc0 kV0 dc0 pm0 cd0 ct0 oc1 kV1 dc1 pm1 cd1 ct1 oc2 kV2 dc2 pm2 cd2 ct2 oc3 kV3 dc3 pm3 cd3 ct3 oc4 kV4 dc4 pm4 cd4 ct4 oc5 kV5 dc5 pm5 cd5 ct5 oc6 kV6 dc6 pm6 cd6 ct6 oc7 kV7 dc7 pm7 cd7 ct7 oc8 kV8 dc8 pm8 cd8 ct8 oc9 kV9 dc9 pm9 cd9 ct9 oc10 kV10 dc10 pm10 cd10 ct10 oc11 kV11 dc11 pm11 cd11 ct11 oc12 kV12 dc12 pm12 cd12 ct12 oc13 kV13 dc13 pm13 cd13 ct13 oc14 kV14 dc14 pm14 cd14 ct14 oc15 kV15 dc15 pm15 cd15 ct15 oc16 kV16 dc16 pm16 cd16 ct16 oc17 kV17 dc17 pm17 cd17 ct17 oc18 kV18 dc18 pm18 cd18 ct18 oc19 kV19 dc19 pm19 cd19 ct19 oc20 kV20 dc20 pm20 cd20 ct20 oc21 kV21 dc21 pm21 cd21 ct21 oc22 kV22 dc22 pm22 cd22 ct22 oc23 kV23 dc23 pm23 cd23 ct23 oc24 kV24 dc24 pm24 cd24 ct24 oc25 kV25 dc25 pm25 cd25 ct25 oc26 kV26 dc26 pm26 cd26 ct26 oc27 kV27 dc27 pm27 cd27 ct27 oc28 kV28 dc28 pm28 cd28 ct28 oc29 kV29 dc29 pm29 cd29 ct29 oc30 kV30 dc30 pm30 cd30 ct30 oc31 kV31 dc31 pm31 cd31 ct31 oc32 kV32 dc32 pm32 cd32 ct32 oc33 kV33 dc33 pm33 cd33 ct33 oc34 kV34 dc34 pm34 cd34 ct34 oc35 kV35 dc35 pm35 cd35 ct35 oc36 kV36 dc36 pm36 cd36 ct36 oc37 kV37 dc37 pm37 cd37 ct37 oc38 kV38 dc38 pm38 cd38 ct38 oc39 kV39 dc39 pm39 cd39 ct39:Value}
  (y0:W.nsIn K mainGlobals "NoChoice" = some (some (.ref C0))) (y1:W.nsIn K mainGlobals "NoMixing" = some (some (.ref C1))) (y2:W.nsIn K mainGlobals "NoNumber" = some (some (.ref C2))) (y3:W.nsIn K mainGlobals "NoOrder" = some (some (.ref C3))) (y4:W.nsIn K mainGlobals "NoPlan" = some (some (.ref C4))) (y5:W.nsIn K mainGlobals "NoStart" = some (some (.ref C5))) (y6:W.nsIn K mainGlobals "NoTable" = some (some (.ref C6))) (y7:W.nsIn K mainGlobals "NotTwo" = some (some (.ref C7))) (y8:W.nsIn K mainGlobals "PlayError" = some (some (.ref C8))) (y9:W.nsIn K mainGlobals "Table" = some (some (.ref C9)))
  (a0:W.nsIn K mainGlobals "_law_numbers" = some (some (.ref f0))) (l0:K.lookup f0=some ⟨oc0,od0,.func (W.fnOf "_law_numbers" "_law_numbers" (defArgs s_l_numbers) (defBody s_l_numbers) (defScope s_l_numbers) .none kV0 dc0 pm0 an0 cd0 ct0),sl0⟩) (c0:W.codeIn K cd0 "_law_numbers" = true) (k0:W.keepIn K (.ref f0)=true)
  (a1:W.nsIn K mainGlobals "_law_plays" = some (some (.ref f1))) (l1:K.lookup f1=some ⟨oc1,od1,.func (W.fnOf "_law_plays" "_law_plays" (defArgs s_l_plays) (defBody s_l_plays) (defScope s_l_plays) .none kV1 dc1 pm1 an1 cd1 ct1),sl1⟩) (c1:W.codeIn K cd1 "_law_plays" = true) (k1:W.keepIn K (.ref f1)=true)
  (a2:W.nsIn K mainGlobals "_law_divisor" = some (some (.ref f2))) (l2:K.lookup f2=some ⟨oc2,od2,.func (W.fnOf "_law_divisor" "_law_divisor" (defArgs s_l_divisor) (defBody s_l_divisor) (defScope s_l_divisor) .none kV2 dc2 pm2 an2 cd2 ct2),sl2⟩) (c2:W.codeIn K cd2 "_law_divisor" = true) (k2:W.keepIn K (.ref f2)=true)
  (a3:W.nsIn K mainGlobals "_law_earning" = some (some (.ref f3))) (l3:K.lookup f3=some ⟨oc3,od3,.func (W.fnOf "_law_earning" "_law_earning" (defArgs s_l_earning) (defBody s_l_earning) (defScope s_l_earning) .none kV3 dc3 pm3 an3 cd3 ct3),sl3⟩) (c3:W.codeIn K cd3 "_law_earning" = true) (k3:W.keepIn K (.ref f3)=true)
  (a4:W.nsIn K mainGlobals "_law_put" = some (some (.ref f4))) (l4:K.lookup f4=some ⟨oc4,od4,.func (W.fnOf "_law_put" "_law_put" (defArgs s_l_put) (defBody s_l_put) (defScope s_l_put) .none kV4 dc4 pm4 an4 cd4 ct4),sl4⟩) (c4:W.codeIn K cd4 "_law_put" = true) (k4:W.keepIn K (.ref f4)=true)
  (a5:W.nsIn K mainGlobals "_law_table" = some (some (.ref f5))) (l5:K.lookup f5=some ⟨oc5,od5,.func (W.fnOf "_law_table" "_law_table" (defArgs s_l_table) (defBody s_l_table) (defScope s_l_table) .none kV5 dc5 pm5 an5 cd5 ct5),sl5⟩) (c5:W.codeIn K cd5 "_law_table" = true) (k5:W.keepIn K (.ref f5)=true)
  (a6:W.nsIn K mainGlobals "_law_plan" = some (some (.ref f6))) (l6:K.lookup f6=some ⟨oc6,od6,.func (W.fnOf "_law_plan" "_law_plan" (defArgs s_l_plan) (defBody s_l_plan) (defScope s_l_plan) .none kV6 dc6 pm6 an6 cd6 ct6),sl6⟩) (c6:W.codeIn K cd6 "_law_plan" = true) (k6:W.keepIn K (.ref f6)=true)
  (a7:W.nsIn K mainGlobals "check_sizes" = some (some (.ref f7))) (l7:K.lookup f7=some ⟨oc7,od7,.func (W.fnOf "check_sizes" "check_sizes" (defArgs s_check_sizes) (defBody s_check_sizes) (defScope s_check_sizes) .none kV7 dc7 pm7 an7 cd7 ct7),sl7⟩) (c7:W.codeIn K cd7 "check_sizes" = true) (k7:W.keepIn K (.ref f7)=true)
  (a8:W.nsIn K mainGlobals "one_of_each" = some (some (.ref f8))) (l8:K.lookup f8=some ⟨oc8,od8,.func (W.fnOf "one_of_each" "one_of_each" (defArgs s_one_of_each) (defBody s_one_of_each) (defScope s_one_of_each) .none kV8 dc8 pm8 an8 cd8 ct8),sl8⟩) (c8:W.codeIn K cd8 "one_of_each" = true) (k8:W.keepIn K (.ref f8)=true)
  (a9:W.nsIn K mainGlobals "in_order" = some (some (.ref f9))) (l9:K.lookup f9=some ⟨oc9,od9,.func (W.fnOf "in_order" "in_order" (defArgs s_in_order) (defBody s_in_order) (defScope s_in_order) .none kV9 dc9 pm9 an9 cd9 ct9),sl9⟩) (c9:W.codeIn K cd9 "in_order" = true) (k9:W.keepIn K (.ref f9)=true)
  (a10:W.nsIn K mainGlobals "check_cells" = some (some (.ref f10))) (l10:K.lookup f10=some ⟨oc10,od10,.func (W.fnOf "check_cells" "check_cells" (defArgs s_check_cells) (defBody s_check_cells) (defScope s_check_cells) .none kV10 dc10 pm10 an10 cd10 ct10),sl10⟩) (c10:W.codeIn K cd10 "check_cells" = true) (k10:W.keepIn K (.ref f10)=true)
  (a11:W.findIn K (.ref C9) "__init__" = some (some (.ref f11))) (i11:W.isFn K (.ref f11)=true) (l11:K.lookup f11=some ⟨oc11,od11,.func (W.fnOf "__init__" "Table.__init__" (defArgs s_Table_init) (defBody s_Table_init) (defScope s_Table_init) .none kV11 dc11 pm11 an11 cd11 ct11),sl11⟩) (c11:W.codeIn K cd11 "Table.__init__" = true) (k11:W.keepIn K (.ref f11)=true)
  (a12:W.nsIn K mainGlobals "_law_breaks" = some (some (.ref f12))) (l12:K.lookup f12=some ⟨oc12,od12,.func (W.fnOf "_law_breaks" "_law_breaks" (defArgs s_l_breaks) (defBody s_l_breaks) (defScope s_l_breaks) .none kV12 dc12 pm12 an12 cd12 ct12),sl12⟩) (c12:W.codeIn K cd12 "_law_breaks" = true) (k12:W.keepIn K (.ref f12)=true)
  (a13:W.nsIn K mainGlobals "_law_due" = some (some (.ref f13))) (l13:K.lookup f13=some ⟨oc13,od13,.func (W.fnOf "_law_due" "_law_due" (defArgs s_l_due) (defBody s_l_due) (defScope s_l_due) .none kV13 dc13 pm13 an13 cd13 ct13),sl13⟩) (c13:W.codeIn K cd13 "_law_due" = true) (k13:W.keepIn K (.ref f13)=true)
  (a14:W.nsIn K mainGlobals "_law_whole" = some (some (.ref f14))) (l14:K.lookup f14=some ⟨oc14,od14,.func (W.fnOf "_law_whole" "_law_whole" (defArgs s_l_whole) (defBody s_l_whole) (defScope s_l_whole) .none kV14 dc14 pm14 an14 cd14 ct14),sl14⟩) (c14:W.codeIn K cd14 "_law_whole" = true) (k14:W.keepIn K (.ref f14)=true)
  (a15:W.nsIn K mainGlobals "_law_same" = some (some (.ref f15))) (l15:K.lookup f15=some ⟨oc15,od15,.func (W.fnOf "_law_same" "_law_same" (defArgs s_l_same) (defBody s_l_same) (defScope s_l_same) .none kV15 dc15 pm15 an15 cd15 ct15),sl15⟩) (c15:W.codeIn K cd15 "_law_same" = true) (k15:W.keepIn K (.ref f15)=true)
  (a16:W.findIn K (.ref C9) "plays" = some (some (.ref f16))) (i16:W.isFn K (.ref f16)=true) (l16:K.lookup f16=some ⟨oc16,od16,.func (W.fnOf "plays" "Table.plays" (defArgs s_Table_plays) (defBody s_Table_plays) (defScope s_Table_plays) .none kV16 dc16 pm16 an16 cd16 ct16),sl16⟩) (c16:W.codeIn K cd16 "Table.plays" = true) (k16:W.keepIn K (.ref f16)=true)
  (a17:W.nsIn K mainGlobals "below" = some (some (.ref f17))) (l17:K.lookup f17=some ⟨oc17,od17,.func (W.fnOf "below" "below" (defArgs s_below) (defBody s_below) (defScope s_below) .none kV17 dc17 pm17 an17 cd17 ct17),sl17⟩) (c17:W.codeIn K cd17 "below" = true) (k17:W.keepIn K (.ref f17)=true)
  (a18:W.nsIn K mainGlobals "divisor" = some (some (.ref f18))) (l18:K.lookup f18=some ⟨oc18,od18,.func (W.fnOf "divisor" "divisor" (defArgs s_divisor) (defBody s_divisor) (defScope s_divisor) .none kV18 dc18 pm18 an18 cd18 ct18),sl18⟩) (c18:W.codeIn K cd18 "divisor" = true) (k18:W.keepIn K (.ref f18)=true)
  (a19:W.nsIn K mainGlobals "ratio" = some (some (.ref f19))) (l19:K.lookup f19=some ⟨oc19,od19,.func (W.fnOf "ratio" "ratio" (defArgs s_ratio) (defBody s_ratio) (defScope s_ratio) .none kV19 dc19 pm19 an19 cd19 ct19),sl19⟩) (c19:W.codeIn K cd19 "ratio" = true) (k19:W.keepIn K (.ref f19)=true)
  (a20:W.nsIn K mainGlobals "plus" = some (some (.ref f20))) (l20:K.lookup f20=some ⟨oc20,od20,.func (W.fnOf "plus" "plus" (defArgs s_plus) (defBody s_plus) (defScope s_plus) .none kV20 dc20 pm20 an20 cd20 ct20),sl20⟩) (c20:W.codeIn K cd20 "plus" = true) (k20:W.keepIn K (.ref f20)=true)
  (a21:W.nsIn K mainGlobals "summed" = some (some (.ref f21))) (l21:K.lookup f21=some ⟨oc21,od21,.func (W.fnOf "summed" "summed" (defArgs s_summed) (defBody s_summed) (defScope s_summed) .none kV21 dc21 pm21 an21 cd21 ct21),sl21⟩) (c21:W.codeIn K cd21 "summed" = true) (k21:W.keepIn K (.ref f21)=true)
  (a22:W.nsIn K mainGlobals "is_mixing" = some (some (.ref f22))) (l22:K.lookup f22=some ⟨oc22,od22,.func (W.fnOf "is_mixing" "is_mixing" (defArgs s_is_mixing) (defBody s_is_mixing) (defScope s_is_mixing) .none kV22 dc22 pm22 an22 cd22 ct22),sl22⟩) (c22:W.codeIn K cd22 "is_mixing" = true) (k22:W.keepIn K (.ref f22)=true)
  (a23:W.nsIn K mainGlobals "check_plan" = some (some (.ref f23))) (l23:K.lookup f23=some ⟨oc23,od23,.func (W.fnOf "check_plan" "check_plan" (defArgs s_check_plan) (defBody s_check_plan) (defScope s_check_plan) .none kV23 dc23 pm23 an23 cd23 ct23),sl23⟩) (c23:W.codeIn K cd23 "check_plan" = true) (k23:W.keepIn K (.ref f23)=true)
  (a24:W.findIn K (.ref C9) "sizes" = some (some (.ref f24))) (i24:W.isFn K (.ref f24)=true) (l24:K.lookup f24=some ⟨oc24,od24,.func (W.fnOf "sizes" "Table.sizes" (defArgs s_Table_sizes) (defBody s_Table_sizes) (defScope s_Table_sizes) .none kV24 dc24 pm24 an24 cd24 ct24),sl24⟩) (c24:W.codeIn K cd24 "Table.sizes" = true) (k24:W.keepIn K (.ref f24)=true)
  (a25:W.nsIn K mainGlobals "breaches" = some (some (.ref f25))) (l25:K.lookup f25=some ⟨oc25,od25,.func (W.fnOf "breaches" "breaches" (defArgs s_breaches) (defBody s_breaches) (defScope s_breaches) .none kV25 dc25 pm25 an25 cd25 ct25),sl25⟩) (c25:W.codeIn K cd25 "breaches" = true) (k25:W.keepIn K (.ref f25)=true)
  (a26:W.nsIn K mainGlobals "rests" = some (some (.ref f26))) (l26:K.lookup f26=some ⟨oc26,od26,.func (W.fnOf "rests" "rests" (defArgs s_rests) (defBody s_rests) (defScope s_rests) .none kV26 dc26 pm26 an26 cd26 ct26),sl26⟩) (c26:W.codeIn K cd26 "rests" = true) (k26:W.keepIn K (.ref f26)=true)
  (a27:W.nsIn K mainGlobals "joined" = some (some (.ref f27))) (l27:K.lookup f27=some ⟨oc27,od27,.func (W.fnOf "joined" "joined" (defArgs s_joined) (defBody s_joined) (defScope s_joined) .none kV27 dc27 pm27 an27 cd27 ct27),sl27⟩) (c27:W.codeIn K cd27 "joined" = true) (k27:W.keepIn K (.ref f27)=true)
  (a28:W.nsIn K mainGlobals "times" = some (some (.ref f28))) (l28:K.lookup f28=some ⟨oc28,od28,.func (W.fnOf "times" "times" (defArgs s_times) (defBody s_times) (defScope s_times) .none kV28 dc28 pm28 an28 cd28 ct28),sl28⟩) (c28:W.codeIn K cd28 "times" = true) (k28:W.keepIn K (.ref f28)=true)
  (a29:W.nsIn K mainGlobals "minus" = some (some (.ref f29))) (l29:K.lookup f29=some ⟨oc29,od29,.func (W.fnOf "minus" "minus" (defArgs s_minus) (defBody s_minus) (defScope s_minus) .none kV29 dc29 pm29 an29 cd29 ct29),sl29⟩) (c29:W.codeIn K cd29 "minus" = true) (k29:W.keepIn K (.ref f29)=true)
  (a30:W.findIn K (.ref C9) "earned" = some (some (.ref f30))) (i30:W.isFn K (.ref f30)=true) (l30:K.lookup f30=some ⟨oc30,od30,.func (W.fnOf "earned" "Table.earned" (defArgs s_Table_earned) (defBody s_Table_earned) (defScope s_Table_earned) .none kV30 dc30 pm30 an30 cd30 ct30),sl30⟩) (c30:W.codeIn K cd30 "Table.earned" = true) (k30:W.keepIn K (.ref f30)=true)
  (a31:W.nsIn K mainGlobals "earned_with" = some (some (.ref f31))) (l31:K.lookup f31=some ⟨oc31,od31,.func (W.fnOf "earned_with" "earned_with" (defArgs s_earned_with) (defBody s_earned_with) (defScope s_earned_with) .none kV31 dc31 pm31 an31 cd31 ct31),sl31⟩) (c31:W.codeIn K cd31 "earned_with" = true) (k31:W.keepIn K (.ref f31)=true)
  (a32:W.nsIn K mainGlobals "more_by" = some (some (.ref f32))) (l32:K.lookup f32=some ⟨oc32,od32,.func (W.fnOf "more_by" "more_by" (defArgs s_more_by) (defBody s_more_by) (defScope s_more_by) .none kV32 dc32 pm32 an32 cd32 ct32),sl32⟩) (c32:W.codeIn K cd32 "more_by" = true) (k32:W.keepIn K (.ref f32)=true)
  (a33:W.nsIn K mainGlobals "gain_by" = some (some (.ref f33))) (l33:K.lookup f33=some ⟨oc33,od33,.func (W.fnOf "gain_by" "gain_by" (defArgs s_gain_by) (defBody s_gain_by) (defScope s_gain_by) .none kV33 dc33 pm33 an33 cd33 ct33),sl33⟩) (c33:W.codeIn K cd33 "gain_by" = true) (k33:W.keepIn K (.ref f33)=true)
  (a34:W.nsIn K mainGlobals "breaks" = some (some (.ref f34))) (l34:K.lookup f34=some ⟨oc34,od34,.func (W.fnOf "breaks" "breaks" (defArgs s_breaks) (defBody s_breaks) (defScope s_breaks) .none kV34 dc34 pm34 an34 cd34 ct34),sl34⟩) (c34:W.codeIn K cd34 "breaks" = true) (k34:W.keepIn K (.ref f34)=true)
  (a35:W.nsIn K mainGlobals "_law_refused" = some (some (.ref f35))) (l35:K.lookup f35=some ⟨oc35,od35,.func (W.fnOf "_law_refused" "_law_refused" (defArgs s_l_refused) (defBody s_l_refused) (defScope s_l_refused) .none kV35 dc35 pm35 an35 cd35 ct35),sl35⟩) (c35:W.codeIn K cd35 "_law_refused" = true) (k35:W.keepIn K (.ref f35)=true)
  (a36:W.nsIn K mainGlobals "_law_strange" = some (some (.ref f36))) (l36:K.lookup f36=some ⟨oc36,od36,.func (W.fnOf "_law_strange" "_law_strange" (defArgs s_l_strange) (defBody s_l_strange) (defScope s_l_strange) .none kV36 dc36 pm36 an36 cd36 ct36),sl36⟩) (c36:W.codeIn K cd36 "_law_strange" = true) (k36:W.keepIn K (.ref f36)=true)
  (a37:W.nsIn K mainGlobals "_law_rest" = some (some (.ref f37))) (l37:K.lookup f37=some ⟨oc37,od37,.func (W.fnOf "_law_rest" "_law_rest" (defArgs s_l_rest) (defBody s_l_rest) (defScope s_l_rest) .none kV37 dc37 pm37 an37 cd37 ct37),sl37⟩) (c37:W.codeIn K cd37 "_law_rest" = true) (k37:W.keepIn K (.ref f37)=true)
  (a38:W.nsIn K mainGlobals "_law_spoilt" = some (some (.ref f38))) (l38:K.lookup f38=some ⟨oc38,od38,.func (W.fnOf "_law_spoilt" "_law_spoilt" (defArgs s_l_spoilt) (defBody s_l_spoilt) (defScope s_l_spoilt) .none kV38 dc38 pm38 an38 cd38 ct38),sl38⟩) (c38:W.codeIn K cd38 "_law_spoilt" = true) (k38:W.keepIn K (.ref f38)=true)
  (a39:W.nsIn K mainGlobals "law" = some (some (.ref f39))) (l39:K.lookup f39=some ⟨oc39,od39,.func (W.fnOf "law" "law" (defArgs s_law) (defBody s_law) (defScope s_law) .none kV39 dc39 pm39 an39 cd39 ct39),sl39⟩) (c39:W.codeIn K cd39 "law" = true) (k39:W.keepIn K (.ref f39)=true)
  (xx:PySem.W.excIn K C4 [.type "ValueError",.type "Exception",.type "BaseException",.type "object"] "ValueError.__new__" = true)    (xm:PySem.W.exmOne K (.ref C4) (.ref C8)=some true) (xa:PySem.W.kitAny K (.ref C4) [.ref C2,.ref C6,.ref C3,.ref C5,.ref C7,.ref C0,.ref C1]=some false) (xv:PySem.W.kitOne K (.ref C4) (.type "ValueError")=some true)
  (x1:W.findIn K (.ref C4) "__getattribute__" = some (some (.builtin "BaseException.__getattribute__"))) (x2:W.findIn K (.ref C4) "__getattr__" = some none) (x3:W.findIn K (.ref C4) "__class__" = some (some (.builtin "object.__class__"))) (x4:PySem.W.specialIn K (.builtin "object.__class__") "__get__" = some (some (.builtin "getset_descriptor.__get__"))) (x5:PySem.W.takesIn K (.builtin "object.__class__")=some true) (x6:PySem.W.mroIn K C4 (.type "object")=some true) (x7:PySem.W.mroIn K C4 (.type "BaseException")=some true)
  (pg:PySem.W.plainGet K C9 Str.empty=true) (hd:PySem.W.hasDictIn K C9=true) (po:PySem.W.plainOver K C9=true) (sa:W.findIn K (.ref C9) "__setattr__" = some (some (.builtin "object.__setattr__"))) (mk:PySem.W.makesIn K C9=true) (kc:W.keepIn K (.ref C9)=true) (n_many:W.findIn K (.ref C9) "many" = some none) (n_cells:W.findIn K (.ref C9) "cells" = some none)
  (z0:W.nsIn K mainGlobals "ValueError" = some none) (z1:W.nsIn K mainGlobals "abs" = some none) (z2:W.nsIn K mainGlobals "bool" = some none) (z3:W.nsIn K mainGlobals "dict" = some none) (z4:W.nsIn K mainGlobals "enumerate" = some none) (z5:W.nsIn K mainGlobals "int" = some none) (z6:W.nsIn K mainGlobals "isinstance" = some none) (z7:W.nsIn K mainGlobals "len" = some none) (z8:W.nsIn K mainGlobals "list" = some none) (z9:W.nsIn K mainGlobals "max" = some none) (z10:W.nsIn K mainGlobals "min" = some none) (z11:W.nsIn K mainGlobals "range" = some none) (z12:W.nsIn K mainGlobals "sum" = some none) (z13:W.nsIn K mainGlobals "tuple" = some none) :
  ∃ fd:FuncData,(∀ (s:Shared) (v:Value),BindsTo s fd ⟨[v],[]⟩ [("_law_script",v)])∧∀ base:Heap,K.In base→base.Ns mainGlobals mg→FnOk l.prog w K mg base CX0 9 fa fd ["_law_script"] (sp_law K):=by
 have e:=hfa.symm.trans (W.mg_of X G a39)
 cases e
 have F0:=fun_mk (st:=s_l_numbers) l0 c0 k0
 have b0:=F0.binds (ps:=["_law_script", "_law_many"]) λ _ _ _ _ _ _=>ar2 λ _ _=>rfl
 have F1:=fun_mk (st:=s_l_plays) l1 c1 k1
 have b1:=F1.binds (ps:=["_law_sizes"]) λ _ _ _ _ _ _=>ar1 λ _=>rfl
 have F2:=fun_mk (st:=s_l_divisor) l2 c2 k2
 have b2:=F2.binds (ps:=["_law_one", "_law_other"]) λ _ _ _ _ _ _=>ar2 λ _ _=>rfl
 have F3:=fun_mk (st:=s_l_earning) l3 c3 k3
 have b3:=F3.binds (ps:=["_law_number", "_law_way"]) λ _ _ _ _ _ _=>ar2 λ _ _=>rfl
 have F4:=fun_mk (st:=s_l_put) l4 c4 k4
 have b4:=F4.binds (ps:=["_law_play", "_law_hand", "_law_choice"]) λ _ _ _ _ _ _=>ar3 λ _ _ _=>rfl
 have F5:=fun_mk (st:=s_l_table) l5 c5 k5
 have b5:=F5.binds (ps:=["_law_head"]) λ _ _ _ _ _ _=>ar1 λ _=>rfl
 have F6:=fun_mk (st:=s_l_plan) l6 c6 k6
 have b6:=F6.binds (ps:=["_law_head", "_law_plays_here"]) λ _ _ _ _ _ _=>ar2 λ _ _=>rfl
 have F7:=fun_mk (st:=s_check_sizes) l7 c7 k7
 have b7:=F7.binds (ps:=["sizes"]) λ _ _ _ _ _ _=>ar1 λ _=>rfl
 have F8:=fun_mk (st:=s_one_of_each) l8 c8 k8
 have b8:=F8.binds (ps:=["lists"]) λ _ _ _ _ _ _=>ar1 λ _=>rfl
 have F9:=fun_mk (st:=s_in_order) l9 c9 k9
 have b9:=F9.binds (ps:=["sizes"]) λ _ _ _ _ _ _=>ar1 λ _=>rfl
 have F10:=fun_mk (st:=s_check_cells) l10 c10 k10
 have b10:=F10.binds (ps:=["cells", "plays", "hands"]) λ _ _ _ _ _ _=>ar3 λ _ _ _=>rfl
 have F11:=fun_mk (st:=s_Table_init) l11 c11 k11
 have b11:=F11.binds (ps:=["self", "sizes", "cells"]) λ _ _ _ _ _ _=>ar3 λ _ _ _=>rfl
 have F12:=fun_mk (st:=s_l_breaks) l12 c12 k12
 have b12:=F12.binds (ps:=["_law_cells", "_law_plan_here", "_law_plays_here", "_law_ask"]) λ _ _ _ _ _ _=>ar4 λ _ _ _ _=>rfl
 have F13:=fun_mk (st:=s_l_due) l13 c13 k13
 have b13:=F13.binds (ps:=["_law_sizes", "_law_cells", "_law_plan_here", "_law_plays_here"]) λ _ _ _ _ _ _=>ar4 λ _ _ _ _=>rfl
 have F14:=fun_mk (st:=s_l_whole) l14 c14 k14
 have b14:=F14.binds (ps:=["_law_found"]) λ _ _ _ _ _ _=>ar1 λ _=>rfl
 have F15:=fun_mk (st:=s_l_same) l15 c15 k15
 have b15:=F15.binds (ps:=["_law_found", "_law_due_here"]) λ _ _ _ _ _ _=>ar2 λ _ _=>rfl
 have F16:=fun_mk (st:=s_Table_plays) l16 c16 k16
 have b16:=F16.binds (ps:=["self"]) λ _ _ _ _ _ _=>ar1 λ _=>rfl
 have F17:=fun_mk (st:=s_below) l17 c17 k17
 have b17:=F17.binds (ps:=["one", "other"]) λ _ _ _ _ _ _=>ar2 λ _ _=>rfl
 have F18:=fun_mk (st:=s_divisor) l18 c18 k18
 have b18:=F18.binds (ps:=["one", "other"]) λ _ _ _ _ _ _=>ar2 λ _ _=>rfl
 have F19:=fun_mk (st:=s_ratio) l19 c19 k19
 have b19:=F19.binds (ps:=["top", "bottom"]) λ _ _ _ _ _ _=>ar2 λ _ _=>rfl
 have F20:=fun_mk (st:=s_plus) l20 c20 k20
 have b20:=F20.binds (ps:=["one", "other"]) λ _ _ _ _ _ _=>ar2 λ _ _=>rfl
 have F21:=fun_mk (st:=s_summed) l21 c21 k21
 have b21:=F21.binds (ps:=["fractions"]) λ _ _ _ _ _ _=>ar1 λ _=>rfl
 have F22:=fun_mk (st:=s_is_mixing) l22 c22 k22
 have b22:=F22.binds (ps:=["weights", "many"]) λ _ _ _ _ _ _=>ar2 λ _ _=>rfl
 have F23:=fun_mk (st:=s_check_plan) l23 c23 k23
 have b23:=F23.binds (ps:=["table", "plan"]) λ _ _ _ _ _ _=>ar2 λ _ _=>rfl
 have F24:=fun_mk (st:=s_Table_sizes) l24 c24 k24
 have b24:=F24.binds (ps:=["self"]) λ _ _ _ _ _ _=>ar1 λ _=>rfl
 have F25:=fun_mk (st:=s_breaches) l25 c25 k25
 have b25:=F25.binds (ps:=["table"]) λ _ _ _ _ _ _=>ar1 λ _=>rfl
 have F26:=fun_mk (st:=s_rests) l26 c26 k26
 have b26:=F26.binds (ps:=["table", "hand"]) λ _ _ _ _ _ _=>ar2 λ _ _=>rfl
 have F27:=fun_mk (st:=s_joined) l27 c27 k27
 have b27:=F27.binds (ps:=["rest", "hand", "choice"]) λ _ _ _ _ _ _=>ar3 λ _ _ _=>rfl
 have F28:=fun_mk (st:=s_times) l28 c28 k28
 have b28:=F28.binds (ps:=["one", "other"]) λ _ _ _ _ _ _=>ar2 λ _ _=>rfl
 have F29:=fun_mk (st:=s_minus) l29 c29 k29
 have b29:=F29.binds (ps:=["one", "other"]) λ _ _ _ _ _ _=>ar2 λ _ _=>rfl
 have F30:=fun_mk (st:=s_Table_earned) l30 c30 k30
 have b30:=F30.binds (ps:=["self", "play"]) λ _ _ _ _ _ _=>ar2 λ _ _=>rfl
 have F31:=fun_mk (st:=s_earned_with) l31 c31 k31
 have b31:=F31.binds (ps:=["table", "rest", "hand", "choice"]) λ _ _ _ _ _ _=>ar4 λ _ _ _ _=>rfl
 have F32:=fun_mk (st:=s_more_by) l32 c32 k32
 have b32:=F32.binds (ps:=["table", "rest", "breach"]) λ _ _ _ _ _ _=>ar3 λ _ _ _=>rfl
 have F33:=fun_mk (st:=s_gain_by) l33 c33 k33
 have b33:=F33.binds (ps:=["table", "plan", "breach"]) λ _ _ _ _ _ _=>ar3 λ _ _ _=>rfl
 have F34:=fun_mk (st:=s_breaks) l34 c34 k34
 have b34:=F34.binds (ps:=["table", "plan"]) λ _ _ _ _ _ _=>ar2 λ _ _=>rfl
 have F35:=fun_mk (st:=s_l_refused) l35 c35 k35
 have b35:=F35.binds (ps:=["_law_table_here", "_law_plan_here"]) λ _ _ _ _ _ _=>ar2 λ _ _=>rfl
 have F36:=fun_mk (st:=s_l_strange) l36 c36 k36
 have b36:=F36.binds (ps:=["_law_at", "_law_plays_here", "_law_cell"]) λ _ _ _ _ _ _=>ar3 λ _ _ _=>rfl
 have F37:=fun_mk (st:=s_l_rest) l37 c37 k37
 have b37:=F37.binds (ps:=["_law_plan_here", "_law_plays_here", "_law_at", "_law_last"]) λ _ _ _ _ _ _=>ar4 λ _ _ _ _=>rfl
 have F38:=fun_mk (st:=s_l_spoilt) l38 c38 k38
 have b38:=F38.binds (ps:=["_law_plan_here", "_law_plays_here", "_law_cell"]) λ _ _ _ _ _ _=>ar3 λ _ _ _=>rfl
 have F39:=fun_mk (st:=s_law) l39 c39 k39
 have b39:=F39.binds (ps:=["_law_script"]) λ _ _ _ _ _ _=>ar1 λ _=>rfl
 have T:Tx K mg ⟨_,_,_,_,_,_,_,_,_,_,_,_,_,_,_,_,_,_,_,_,_,_,_,_,_,_,_,_,_,_,_,_,_,_,_,_,_,_,_,_,_,_,_,_,_,_,_,_,_,_,_,_,_,_,_,_,_,_,_,_,_,_,_,_,_,_,_,_,_,_,_,_,_,_,_,_,_,_,_,_⟩:=⟨⟨F0,b0,W.mg_of X G a0⟩,⟨F1,b1,W.mg_of X G a1⟩,⟨F2,b2,W.mg_of X G a2⟩,⟨F3,b3,W.mg_of X G a3⟩,⟨F4,b4,W.mg_of X G a4⟩,⟨F5,b5,W.mg_of X G a5⟩,⟨F6,b6,W.mg_of X G a6⟩,⟨F7,b7,W.mg_of X G a7⟩,⟨F8,b8,W.mg_of X G a8⟩,⟨F9,b9,W.mg_of X G a9⟩,⟨F10,b10,W.mg_of X G a10⟩,⟨F11,b11,by rw [gadr_of y9];exact ⟨a11,i11,k11⟩⟩,⟨F12,b12,W.mg_of X G a12⟩,⟨F13,b13,W.mg_of X G a13⟩,⟨F14,b14,W.mg_of X G a14⟩,⟨F15,b15,W.mg_of X G a15⟩,⟨F16,b16,by rw [gadr_of y9];exact ⟨a16,i16,k16⟩⟩,⟨F17,b17,W.mg_of X G a17⟩,⟨F18,b18,W.mg_of X G a18⟩,⟨F19,b19,W.mg_of X G a19⟩,⟨F20,b20,W.mg_of X G a20⟩,⟨F21,b21,W.mg_of X G a21⟩,⟨F22,b22,W.mg_of X G a22⟩,⟨F23,b23,W.mg_of X G a23⟩,⟨F24,b24,by rw [gadr_of y9];exact ⟨a24,i24,k24⟩⟩,⟨F25,b25,W.mg_of X G a25⟩,⟨F26,b26,W.mg_of X G a26⟩,⟨F27,b27,W.mg_of X G a27⟩,⟨F28,b28,W.mg_of X G a28⟩,⟨F29,b29,W.mg_of X G a29⟩,⟨F30,b30,by rw [gadr_of y9];exact ⟨a30,i30,k30⟩⟩,⟨F31,b31,W.mg_of X G a31⟩,⟨F32,b32,W.mg_of X G a32⟩,⟨F33,b33,W.mg_of X G a33⟩,⟨F34,b34,W.mg_of X G a34⟩,⟨F35,b35,W.mg_of X G a35⟩,⟨F36,b36,W.mg_of X G a36⟩,⟨F37,b37,W.mg_of X G a37⟩,⟨F38,b38,W.mg_of X G a38⟩,⟨F39,b39,W.mg_of X G a39⟩,W.mg_none_of X G z0,W.mg_none_of X G z1,W.mg_none_of X G z2,W.mg_none_of X G z3,W.mg_none_of X G z4,W.mg_none_of X G z5,W.mg_none_of X G z6,W.mg_none_of X G z7,W.mg_none_of X G z8,W.mg_none_of X G z9,W.mg_none_of X G z10,W.mg_none_of X G z11,W.mg_none_of X G z12,W.mg_none_of X G z13,by rw [gadr_of y0];exact W.mg_of X G y0,by rw [gadr_of y1];exact W.mg_of X G y1,by rw [gadr_of y2];exact W.mg_of X G y2,by rw [gadr_of y3];exact W.mg_of X G y3,by rw [gadr_of y4];exact W.mg_of X G y4,by rw [gadr_of y5];exact W.mg_of X G y5,by rw [gadr_of y6];exact W.mg_of X G y6,by rw [gadr_of y7];exact W.mg_of X G y7,by rw [gadr_of y8];exact W.mg_of X G y8,by rw [gadr_of y9];exact W.mg_of X G y9,by rw [gadr_of y4];exact xx,by rw [gadr_of y4,gadr_of y8];exact xm,⟨by simp only [List.map_cons,List.map_nil,gadr_of y0,gadr_of y1,gadr_of y2,gadr_of y3,gadr_of y4,gadr_of y5,gadr_of y6,gadr_of y7,gadr_of y8,gadr_of y9];exact xa,by rw [gadr_of y4];exact xv,by rw [gadr_of y4];exact λ _=>kitx_exc x1 x2 x3 x4 x5 x6 x7⟩,by rw [gadr_of y9];exact ⟨mk,a11,i11,kc⟩,⟨by rw [gadr_of y9];exact ⟨pg,hd,po,sa⟩,by rw [gadr_of y9];exact n_many,by rw [gadr_of y9];exact n_cells⟩⟩
 exact ⟨_,λ s v=>.of_eq rfl,λ base _ _=>ok_law T⟩
theorem walk {l:PySem.W.OpenLaw} {q:Program} {loose:List Str} {XP:(Str→Option Value)→Heap→Prop} {YP:World→Heap→Prop} {d:DefRec} {K:Params→W.Frag} (hn:l.most=some 63) (hdf:d.params.defaults=[])
  (hY:∀ (w:World) (h:Heap),YP w h→(K w.params).In h)
  (F:∀ (w:World) (mg:Str→Option Value) (fa:Addr) (h:Heap),(K w.params).In h→h.Ns mainGlobals mg→mg d.name=some (.ref fa) →
   ∃ fd:FuncData,(∀ (s:Shared) (u:Value),BindsTo s fd ⟨[u],[]⟩ [("_law_script",u)])∧∀ base:Heap,(K w.params).In base→base.Ns mainGlobals mg→FnOk l.prog w (K w.params) mg base CX0 9 fa fd ["_law_script"] (sp_law (K w.params))) :
  PySem.W.WalkO q loose XP YP l.row.toRowW d [] (λ f vs=>PySem.call f vs) :=
 L2.walk_of (n:=63) (k:=9) (x:="_law_script") (CX:=λ _=>CX0) (sp:=λ w=>sp_law (K w.params)) hn (by decide) hdf ⟨rfl,by decide,by decide⟩ hY F (λ _ _ a ns hl _ hS=>⟨a,ns,rfl,hS,hl,λ _=>rfl⟩) λ _ _ _ _ _ z=>z
end My
set_option Elab.async true
noncomputable def PySem.Challenge.cw_mixplay_k51_who_breaks_a_plan_holds.tw15556233823132451288:Nat:=0
noncomputable def PySem.Challenge.cw_mixplay_k51_who_breaks_a_plan_holds.tw9221707227366345253:Nat:=0
noncomputable def PySem.Challenge.cw_mixplay_k51_who_breaks_a_plan_holds.tw17920011179970873553:Nat:=0
noncomputable def PySem.Challenge.cw_mixplay_k51_who_breaks_a_plan_holds.tw4648243104912648387:Nat:=0
noncomputable def PySem.Challenge.cw_mixplay_k51_who_breaks_a_plan_holds.tw629819672668492570:Nat:=0
noncomputable def PySem.Challenge.cw_mixplay_k51_who_breaks_a_plan_holds.tw18441006875901810757:Nat:=0
open PySem PySem.W PyProof.Rows
set_option maxRecDepth 100000 in
set_option maxHeartbeats 0 in
theorem PySem.Challenge.cw_mixplay_k51_who_breaks_a_plan_holds : PySem.Challenge.rw_mixplay_k51_who_breaks_a_plan.Holds := by
  w_on; o_law; z_head; (case hw => w_witness2)
  k_fill
  refine L2.walk_x (fun _ => rfl) (My.walk (l := PySem.Challenge.rw_mixplay_k51_who_breaks_a_plan) rfl rfl (fun w h Y => Y) ?F)
  case F =>
    intro w mg fa h KX G hmg
    refine' My.all_mk KX G hmg ?y0 ?y1 ?y2 ?y3 ?y4 ?y5 ?y6 ?y7 ?y8 ?y9 ?a0 ?l0 ?c0 ?k0 ?a1 ?l1 ?c1 ?k1 ?a2 ?l2 ?c2 ?k2 ?a3 ?l3 ?c3 ?k3 ?a4 ?l4 ?c4 ?k4 ?a5 ?l5 ?c5 ?k5 ?a6 ?l6 ?c6 ?k6 ?a7 ?l7 ?c7 ?k7 ?a8 ?l8 ?c8 ?k8 ?a9 ?l9 ?c9 ?k9 ?a10 ?l10 ?c10 ?k10 ?a11 ?i11 ?l11 ?c11 ?k11 ?a12 ?l12 ?c12 ?k12 ?a13 ?l13 ?c13 ?k13 ?a14 ?l14 ?c14 ?k14 ?a15 ?l15 ?c15 ?k15 ?a16 ?i16 ?l16 ?c16 ?k16 ?a17 ?l17 ?c17 ?k17 ?a18 ?l18 ?c18 ?k18 ?a19 ?l19 ?c19 ?k19 ?a20 ?l20 ?c20 ?k20 ?a21 ?l21 ?c21 ?k21 ?a22 ?l22 ?c22 ?k22 ?a23 ?l23 ?c23 ?k23 ?a24 ?i24 ?l24 ?c24 ?k24 ?a25 ?l25 ?c25 ?k25 ?a26 ?l26 ?c26 ?k26 ?a27 ?l27 ?c27 ?k27 ?a28 ?l28 ?c28 ?k28 ?a29 ?l29 ?c29 ?k29 ?a30 ?i30 ?l30 ?c30 ?k30 ?a31 ?l31 ?c31 ?k31 ?a32 ?l32 ?c32 ?k32 ?a33 ?l33 ?c33 ?k33 ?a34 ?l34 ?c34 ?k34 ?a35 ?l35 ?c35 ?k35 ?a36 ?l36 ?c36 ?k36 ?a37 ?l37 ?c37 ?k37 ?a38 ?l38 ?c38 ?k38 ?a39 ?l39 ?c39 ?k39 ?xx ?xm ?xa ?xv ?x1 ?x2 ?x3 ?x4 ?x5 ?x6 ?x7 ?pg ?hd ?po ?sa ?mk ?kc ?n_many ?n_cells ?z0 ?z1 ?z2 ?z3 ?z4 ?z5 ?z6 ?z7 ?z8 ?z9 ?z10 ?z11 ?z12 ?z13
    (case y0 => k_is)
    (case y1 => k_is)
    (case y2 => k_is)
    (case y3 => k_is)
    (case y4 => k_is)
    (case y5 => k_is)
    (case y6 => k_is)
    (case y7 => k_is)
    (case y8 => k_is)
    (case y9 => k_is)
    (case a0 => k_is)
    (case l0 => k_is)
    (case c0 => k_is)
    (case k0 => k_is)
    (case a1 => k_is)
    (case l1 => k_is)
    (case c1 => k_is)
    (case k1 => k_is)
    (case a2 => k_is)
    (case l2 => k_is)
    (case c2 => k_is)
    (case k2 => k_is)
    (case a3 => k_is)
    (case l3 => k_is)
    (case c3 => k_is)
    (case k3 => k_is)
    (case a4 => k_is)
    (case l4 => k_is)
    (case c4 => k_is)
    (case k4 => k_is)
    (case a5 => k_is)
    (case l5 => k_is)
    (case c5 => k_is)
    (case k5 => k_is)
    (case a6 => k_is)
    (case l6 => k_is)
    (case c6 => k_is)
    (case k6 => k_is)
    (case a7 => k_is)
    (case l7 => k_is)
    (case c7 => k_is)
    (case k7 => k_is)
    (case a8 => k_is)
    (case l8 => k_is)
    (case c8 => k_is)
    (case k8 => k_is)
    (case a9 => k_is)
    (case l9 => k_is)
    (case c9 => k_is)
    (case k9 => k_is)
    (case a10 => k_is)
    (case l10 => k_is)
    (case c10 => k_is)
    (case k10 => k_is)
    (case a11 => k_is)
    (case i11 => k_is)
    (case l11 => k_is)
    (case c11 => k_is)
    (case k11 => k_is)
    (case a12 => k_is)
    (case l12 => k_is)
    (case c12 => k_is)
    (case k12 => k_is)
    (case a13 => k_is)
    (case l13 => k_is)
    (case c13 => k_is)
    (case k13 => k_is)
    (case a14 => k_is)
    (case l14 => k_is)
    (case c14 => k_is)
    (case k14 => k_is)
    (case a15 => k_is)
    (case l15 => k_is)
    (case c15 => k_is)
    (case k15 => k_is)
    (case a16 => k_is)
    (case i16 => k_is)
    (case l16 => k_is)
    (case c16 => k_is)
    (case k16 => k_is)
    (case a17 => k_is)
    (case l17 => k_is)
    (case c17 => k_is)
    (case k17 => k_is)
    (case a18 => k_is)
    (case l18 => k_is)
    (case c18 => k_is)
    (case k18 => k_is)
    (case a19 => k_is)
    (case l19 => k_is)
    (case c19 => k_is)
    (case k19 => k_is)
    (case a20 => k_is)
    (case l20 => k_is)
    (case c20 => k_is)
    (case k20 => k_is)
    (case a21 => k_is)
    (case l21 => k_is)
    (case c21 => k_is)
    (case k21 => k_is)
    (case a22 => k_is)
    (case l22 => k_is)
    (case c22 => k_is)
    (case k22 => k_is)
    (case a23 => k_is)
    (case l23 => k_is)
    (case c23 => k_is)
    (case k23 => k_is)
    (case a24 => k_is)
    (case i24 => k_is)
    (case l24 => k_is)
    (case c24 => k_is)
    (case k24 => k_is)
    (case a25 => k_is)
    (case l25 => k_is)
    (case c25 => k_is)
    (case k25 => k_is)
    (case a26 => k_is)
    (case l26 => k_is)
    (case c26 => k_is)
    (case k26 => k_is)
    (case a27 => k_is)
    (case l27 => k_is)
    (case c27 => k_is)
    (case k27 => k_is)
    (case a28 => k_is)
    (case l28 => k_is)
    (case c28 => k_is)
    (case k28 => k_is)
    (case a29 => k_is)
    (case l29 => k_is)
    (case c29 => k_is)
    (case k29 => k_is)
    (case a30 => k_is)
    (case i30 => k_is)
    (case l30 => k_is)
    (case c30 => k_is)
    (case k30 => k_is)
    (case a31 => k_is)
    (case l31 => k_is)
    (case c31 => k_is)
    (case k31 => k_is)
    (case a32 => k_is)
    (case l32 => k_is)
    (case c32 => k_is)
    (case k32 => k_is)
    (case a33 => k_is)
    (case l33 => k_is)
    (case c33 => k_is)
    (case k33 => k_is)
    (case a34 => k_is)
    (case l34 => k_is)
    (case c34 => k_is)
    (case k34 => k_is)
    (case a35 => k_is)
    (case l35 => k_is)
    (case c35 => k_is)
    (case k35 => k_is)
    (case a36 => k_is)
    (case l36 => k_is)
    (case c36 => k_is)
    (case k36 => k_is)
    (case a37 => k_is)
    (case l37 => k_is)
    (case c37 => k_is)
    (case k37 => k_is)
    (case a38 => k_is)
    (case l38 => k_is)
    (case c38 => k_is)
    (case k38 => k_is)
    (case a39 => k_is)
    (case l39 => k_is)
    (case c39 => k_is)
    (case k39 => k_is)
    (case xx => k_exc)
    (case xm => kts_exm)
    (case xa => kit_is)
    (case xv => kit_is)
    (case x1 => k_is)
    (case x2 => k_is)
    (case x3 => k_is)
    (case x4 => k_is)
    (case x5 => k_is)
    (case x6 => k_is)
    (case x7 => k_is)
    (case pg => k_is)
    (case hd => k_is)
    (case po => k_is)
    (case sa => k_is)
    (case mk => k_is)
    (case kc => k_is)
    (case n_many => k_is)
    (case n_cells => k_is)
    (case z0 => k_is)
    (case z1 => k_is)
    (case z2 => k_is)
    (case z3 => k_is)
    (case z4 => k_is)
    (case z5 => k_is)
    (case z6 => k_is)
    (case z7 => k_is)
    (case z8 => k_is)
    (case z9 => k_is)
    (case z10 => k_is)
    (case z11 => k_is)
    (case z12 => k_is)
    (case z13 => k_is)
