import PyProof.Rows.All
import Wide.All
import OpenK.AllK
import Wide.FinOn
import Lean
import PyProof.EqAt
import PyProof.EqKinds
import PyProof.TupleCall
import PySem.Challenge.RW_mixplay_k26_whole_best
set_option Elab.async false
set_option linter.all false
set_option maxRecDepth 100000
namespace L2
open PySem PySem.Spec PyProof.Rows
noncomputable abbrev Key:=Sum Int Str
noncomputable def keyIs:Key→Value→Bool
  | .inl k,v=>Value.isInt k v
  | .inr x,v=>Value.isStrOf x v
noncomputable def keyH (w:World):Key→Int
  | .inl k=>hashInt k
  | .inr x=>hashStr w x
theorem keyIs_shape:∀ {k:Key} {v:Value},keyIs k v=true→(∃ i t,k=Sum.inl i∧v=Value.int i t)∨(∃ x t,k=Sum.inr x∧v=Value.str x t)
  | .inl i,v,h=>by
    obtain ⟨t,e⟩:=Value.isInt_shape (k:=i) (v:=v) h
    exact .inl ⟨i,t,rfl,e⟩
  | .inr x,v,h=>by
    obtain ⟨t,e⟩:=Value.isStrOf_shape (x:=x) (v:=v) h
    exact .inr ⟨x,t,rfl,e⟩
theorem key_ll (a b:Int):decide ((Sum.inl a:Key)=Sum.inl b)=(a == b):=by
  by_cases e:a=b
  · subst e;simp
  · have h:¬ (Sum.inl a:Key)=Sum.inl b:=fun q=>e (Sum.inl.inj q)
    rw [decide_eq_false h]
    exact (beq_eq_false_iff_ne.mpr e).symm
theorem key_rr (a b:Str):decide ((Sum.inr a:Key)=Sum.inr b)=decide (a=b):=by
  by_cases e:a=b
  · subst e;simp
  · have h:¬ (Sum.inr a:Key)=Sum.inr b:=fun q=>e (Sum.inr.inj q)
    rw [decide_eq_false h,decide_eq_false e]
theorem key_lr (a:Int) (b:Str):decide ((Sum.inl a:Key)=Sum.inr b)=false:=decide_eq_false (fun q=>nomatch q)
theorem key_rl (a:Str) (b:Int):decide ((Sum.inr a:Key)=Sum.inl b)=false:=decide_eq_false (fun q=>nomatch q)
noncomputable def mixKind (prog:Program) (w:World):PySem.KeyKind prog w Key where
  is:=keyIs
  hash:=keyH w
  inj:=fun v a b ha hb=>by
    rcases keyIs_shape ha with ⟨i,t,rfl,rfl⟩ | ⟨x,t,rfl,rfl⟩
    · rcases keyIs_shape hb with ⟨j,u,rfl,e⟩ | ⟨y,u,rfl,e⟩
      · injection e with e1 _;rw [e1]
      · exact nomatch e
    · rcases keyIs_shape hb with ⟨j,u,rfl,e⟩ | ⟨y,u,rfl,e⟩
      · exact nomatch e
      · injection e with e1 _;rw [e1]
  byValue:=fun k v h=>by
    rcases keyIs_shape h with ⟨i,t,rfl,rfl⟩ | ⟨x,t,rfl,rfl⟩ <;> rfl
  pyHash:=fun hv h=>by
    rcases keyIs_shape hv with ⟨i,t,rfl,rfl⟩ | ⟨x,t,rfl,rfl⟩
    · exact wpAny_pyHash_int h
    · exact wpAny_pyHash_str h
  eqBool:=fun hu hv h=>by
    rcases keyIs_shape hu with ⟨i,t,rfl,rfl⟩ | ⟨x,t,rfl,rfl⟩
    · rcases keyIs_shape hv with ⟨j,u,rfl,rfl⟩ | ⟨y,u,rfl,rfl⟩
      · rw [key_ll] at h;exact wpAny_eqBool_int h
      · rw [key_lr] at h;exact SeqAt.EqAt.int_str i t y u _ _ _ _ h
    · rcases keyIs_shape hv with ⟨j,u,rfl,rfl⟩ | ⟨y,u,rfl,rfl⟩
      · rw [key_rl] at h;exact SeqAt.EqAt.str_int x t j u _ _ _ _ h
      · rw [key_rr] at h;exact wpAny_eqBool_str h
  «strs»:=fun k x t v h=>by
    rcases keyIs_shape h with ⟨i,u,rfl,e⟩ | ⟨y,u,rfl,e⟩
    · exact nomatch e
    · injection e with e1 _
      subst e1
      cases v <;> rfl
end L2
namespace L2
open PySem PySem.Spec PyProof.Rows
inductive V where
  | non | bl (b:Bool) | int (i:Int) | str (x:Str) | byt (b:Array UInt8) | flt (b:UInt64) | ref (a:Addr) | ty (n:String)
  deriving DecidableEq
noncomputable def RelV:V→Value→Prop
  | .non,u=>u=Value.none
  | .bl b,u=>u=Value.bool b
  | .int i,u=>∃ t,u=Value.int i t
  | .str x,u=>∃ t,u=Value.str x t
  | .byt b,u=>∃ t,u=Value.bytes b t
  | .flt b,u=>∃ t,u=Value.float b t
  | .ref a,u=>u=Value.ref a
  | .ty n,u=>u=Value.type n
noncomputable abbrev Vals:List V→List Value→Prop:=Paired RelV
theorem Vals.length {xs:List V} {us:List Value} (r:Vals xs us):xs.length=us.length:=Paired.length r
theorem Vals.get:∀ {xs:List V} {us:List Value} {i:Nat} {x:V},Vals xs us→xs[i]?=some x→∃ u,us[i]?=some u∧RelV x u
  | _,_,_,_,.nil,e=>by simp at e
  | _,_,0,_,.cons r _,e=>by simp at e;subst e;exact ⟨_,rfl,r⟩
  | _,_,i+1,x,.cons _ t,e=>by
    obtain ⟨u,h1,h2⟩:=Vals.get (i:=i) (x:=x) t (by simpa using e)
    exact ⟨u,by simpa using h1,h2⟩
theorem Vals.set {x:V} {u:Value} (r:RelV x u):∀ {xs:List V} {us:List Value} (i:Nat),Vals xs us→Vals (xs.set i x) (us.set i u)
  | _,_,_,.nil=>.nil
  | _,_,0,.cons _ t=>.cons r t
  | _,_,i+1,.cons q t=>.cons q (Vals.set r i t)
theorem Vals.append:∀ {xs ys:List V} {us ws:List Value},Vals xs us→Vals ys ws→Vals (xs ++ ys) (us ++ ws)
  | _,_,_,_,.nil,s=>s
  | _,_,_,_,.cons r t,s=>.cons r (Vals.append t s)
theorem Vals.take:∀ {xs:List V} {us:List Value} (n:Nat),Vals xs us→Vals (xs.take n) (us.take n)
  | _,_,0,_=>.nil
  | _,_,_+1,.nil=>.nil
  | _,_,n+1,.cons r t=>.cons r (Vals.take n t)
theorem Vals.drop:∀ {xs:List V} {us:List Value} (n:Nat),Vals xs us→Vals (xs.drop n) (us.drop n)
  | _,_,0,r=>r
  | _,_,_+1,.nil=>.nil
  | _,_,n+1,.cons _ t=>Vals.drop n t
noncomputable def RelO:Option V→Option Value→Prop
  | some v,some u=>RelV v u
  | none,none=>True
  | _,_=>False
noncomputable def KV {κ:Type}:List (κ×V)→List (κ×Value)→Prop:=Paired fun (p:κ×V) (q:κ×Value)=>p.1=q.1∧RelV p.2 q.2
noncomputable def kV:Key→V
  | .inl i=>.int i
  | .inr x=>.str x
inductive HO where
  /-- a list -/
  | lst (xs:List V)
  /-- a tuple (never changes) -/
  | tup (xs:List V)
  /-- a dict whose keys are ints and texts;one whose keys are tuples of ints and texts (the empty one is both) -/
  | dK (kvs:List (Key×V)) | dT (kvs:List (List Key×V))
  /-- a set of ints: its members,its size -/
  | set (S:Int→Bool) (n:Nat)
  /-- an instance of the class at C,its dict at dx,its attributes -/
  | ins (C dx:Addr) (fs:List (Str×V))
  /-- the dict of the instance at x -/
  | own (x:Addr)
  /-- the dict of an exception -/
  | xd (fs:List (Str×V))
  /-- a bound method,f of x -/
  | met (f x:Addr)
  /-- a range object lo,lo+1,.. below hi -/
  | rng (lo hi:Int)
  /-- a thing that is known to the object (the script;a dict while a loop walks it): read,never written while it is so -/
  | frz (o:Obj) (u:HO)
  /-- a code object's table -/
  | tbl (ps:Array Value)
  /-- any other thing,by what is true of its one object (a def of one's own: SetO a S n:=HO.ext fun h=>..) -/
  | ext (φ:Heap→Prop)
noncomputable abbrev Hp:=Addr→Option HO
noncomputable def upd (H:Hp) (a:Addr) (o:HO):Hp:=fun b=>if b=a then some o else H b
theorem upd_same {H:Hp} {a:Addr} {o:HO}:upd H a o a=some o:=by unfold upd;rw [if_pos rfl]
theorem upd_ne {H:Hp} {a b:Addr} {o:HO} (h:b≠a):upd H a o b=H b:=by unfold upd;rw [if_neg h]
theorem ne_of {H:Hp} {a b:Addr} {o u:HO} (h:H a=some o) (h':H b=some u) (d:o≠u):a≠b:=by
  intro e;subst e;rw [h] at h';exact d (Option.some.inj h')
theorem ne_of_none {H:Hp} {a b:Addr} {o:HO} (h:H a=some o) (h':H b=none):a≠b:=by
  intro e;subst e;rw [h] at h';cases h'
section
variable (P:Program) (w:World)
noncomputable def ObjOk (H:Hp) (h:Heap) (a:Addr):HO→Prop
  | .lst xs=>xs.length≤sizeLine∧∃ (its:List Value) (n:Nat),Vals xs its∧h.get? a=some { cls:=.type "list",data:=.seq its.toArray n }
  | .tup xs=>xs.length≤sizeLine∧∃ its:List Value,Vals xs its∧IsTup h a its.toArray
  | .dK kvs=>kvs.length≤sizeLine∧(a == sysModules)=false∧∃ vs,KV kvs vs∧h.DictOf (mixKind P w) a vs
  | .dT kvs=>kvs.length≤sizeLine∧(a == sysModules)=false∧∃ xs:List (List Key×Addr×Value),
      Paired (fun (p:List Key×V) (q:List Key×Addr×Value)=>p.1=q.1∧H q.2.1=some (.tup (p.1.map kV))∧RelV p.2 q.2.2) kvs xs ∧
      ∃ o es ep,h.get? a=some o∧o.ExactDict∧o.data=.dict es ep∧es.toList=xs.map (entryOfKey (tupleKind (mixKind P w)))∧(xs.map (·.1)).Nodup
  | .set S n=>h.SetOf (intKind P w) a S n
  | .ins C dx fs=>H dx=some (.own a)∧fs.length≤1000∧dx≠a∧h.get? a=some (PySem.W.instObj C dx) ∧
      ∃ mA,h.Ns1 dx mA∧(∀ f,RelO (fs.lookup f) (mA f))∧PySem.Within mA (fs.map (·.1))
  | .own _=>∃ o,h.get? a=some o
  | .xd fs=>∃ mA,h.Ns1 a mA∧∀ f,RelO (fs.lookup f) (mA f)
  | .rng lo hi=>∃ t u v,h.get? a=some { cls:=.type "range",data:=.fields #[.int lo t,.int hi u,.int 1 v] }
  | .frz o u=>h.get? a=some o∧ObjOk H h a u
  | .tbl ps=>h.get? a=some { cls:=.none,data:=.fields ps }
  | .met f x=>h.get? a=some (PySem.W.methodObj (.ref f) (.ref x))
  | .ext φ=>φ h∧(∃ o,h.get? a=some o)∧∀ h1 h2:Heap,φ h1→(∀ o,h1.get? a=some o→h2.get? a=some o)→φ h2
noncomputable def HOk (H:Hp) (h:Heap):Prop:=∀ a o,H a=some o→ObjOk P w H h a o
end
section
variable {P:Program} {w:World} {H H':Hp} {h h':Heap} {a:Addr} {o:HO}
theorem ObjOk.lt (x:ObjOk P w H h a o):a < h.objs.size:=by
  cases o with
  | lst xs=>obtain ⟨_,_,_,_,e⟩:=x;exact Heap.lt_size e
  | tup xs=>obtain ⟨_,_,_,p⟩:=x;exact p.lt
  | dK kvs=>obtain ⟨_,_,_,_,o,_,_,e,_⟩:=x;exact Heap.lt_size e
  | dT kvs=>obtain ⟨_,_,_,_,o,_,_,e,_⟩:=x;exact Heap.lt_size e
  | set S n=>obtain ⟨o,_,_,_,e,_⟩:=x;exact Heap.lt_size e
  | ins C dx fs=>obtain ⟨_,_,_,e,_⟩:=x;exact Heap.lt_size e
  | own y=>obtain ⟨_,e⟩:=x;exact Heap.lt_size e
  | xd fs=>obtain ⟨_,⟨_,_,_,e,_⟩,_⟩:=x;exact Heap.lt_size e
  | rng lo hi=>obtain ⟨_,_,_,e⟩:=x;exact Heap.lt_size e
  | frz ob u=>obtain ⟨e,_⟩:=x;exact Heap.lt_size e
  | tbl ps=>exact Heap.lt_size (show h.get? a=some _ from x)
  | met f y=>exact Heap.lt_size (show h.get? a=some _ from x)
  | ext φ=>obtain ⟨_,⟨_,e⟩,_⟩:=x;exact Heap.lt_size e
theorem Paired.mapP {α β:Type} {F G:α→β→Prop}:∀ {l₁:List α} {l₂:List β},Paired F l₁ l₂→(∀ a b,F a b→G a b)→Paired G l₁ l₂
  | _,_,.nil,_=>.nil
  | _,_,.cons r t,f=>.cons (f _ _ r) (Paired.mapP t f)
theorem ObjOk.stay (x:ObjOk P w H h a o) (k:∀ b u,(b=a∨H b=some (.own a))→h.get? b=some u→h'.get? b=some u)
    (ho:∀ b,H b=some (.own a)→H' b=some (.own a)) (ht:∀ b xs,H b=some (.tup xs)→H' b=some (.tup xs)):ObjOk P w H' h' a o:=by
  induction o with
  | lst xs=>obtain ⟨z,its,n,r,e⟩:=x;exact ⟨z,its,n,r,k _ _ (.inl rfl) e⟩
  | tup xs=>obtain ⟨z,its,r,ob,e,c⟩:=x;exact ⟨z,its,r,ob,k _ _ (.inl rfl) e,c⟩
  | dK kvs=>obtain ⟨z,y,vs,r,ob,es,ep,e,c⟩:=x;exact ⟨z,y,vs,r,ob,es,ep,k _ _ (.inl rfl) e,c⟩
  | dT kvs =>
    obtain ⟨z,y,xs,r,ob,es,ep,e,c⟩:=x
    exact ⟨z,y,xs,Paired.mapP r fun p q z=>⟨z.1,ht _ _ z.2.1,z.2.2⟩,ob,es,ep,k _ _ (.inl rfl) e,c⟩
  | set S n=>obtain ⟨ob,es,ep,t,e,c⟩:=x;exact ⟨ob,es,ep,t,k _ _ (.inl rfl) e,c⟩
  | ins C dx fs =>
    obtain ⟨d,z,ne,e,mA,⟨od,es,ep,e2,c⟩,r⟩:=x
    exact ⟨ho _ d,z,ne,k _ _ (.inl rfl) e,mA,⟨od,es,ep,k _ _ (.inr d) e2,c⟩,r⟩
  | own y=>obtain ⟨ob,e⟩:=x;exact ⟨ob,k _ _ (.inl rfl) e⟩
  | xd fs=>obtain ⟨mA,⟨od,es,ep,e,c⟩,r⟩:=x;exact ⟨mA,⟨od,es,ep,k _ _ (.inl rfl) e,c⟩,r⟩
  | rng lo hi=>obtain ⟨t,u,v,e⟩:=x;exact ⟨t,u,v,k _ _ (.inl rfl) e⟩
  | frz ob u ih=>obtain ⟨e,q⟩:=x;exact ⟨k _ _ (.inl rfl) e,ih q⟩
  | tbl ps =>
    have e:h.get? a=some { cls:=.none,data:=.fields ps }:=x
    show h'.get? a=some { cls:=.none,data:=.fields ps }
    exact k a _ (.inl rfl) e
  | met f y =>
    have e:h.get? a=some (PySem.W.methodObj (.ref f) (.ref y)):=x
    show h'.get? a=some (PySem.W.methodObj (.ref f) (.ref y))
    exact k a _ (.inl rfl) e
  | ext φ=>obtain ⟨p,⟨o,e⟩,st⟩:=x;exact ⟨st _ _ p fun o q=>k _ _ (.inl rfl) q,⟨o,k _ _ (.inl rfl) e⟩,st⟩
theorem HOk.lt (x:HOk P w H h) (e:H a=some o):a < h.objs.size:=(x a o e).lt
theorem HOk.fresh (x:HOk P w H h) (e:h.objs.size≤a):H a=none:=by
  cases q:H a with
  | none=>rfl
  | some u=>exact absurd (Nat.lt_of_lt_of_le (x.lt q) e) (Nat.lt_irrefl _)
theorem HOk.kept (x:HOk P w H h) (k:∀ b u,h.get? b=some u→h'.get? b=some u):HOk P w H h':=fun a o e =>
  (x a o e).stay (fun b u _ q=>k b u q) (fun _ q=>q) fun _ _ q=>q
theorem HOk.laid (x:HOk P w H h) (k:∀ b u,h.get? b=some u→h'.get? b=some u) (hp:h.objs.size≤a) (new:ObjOk P w (upd H a o) h' a o):HOk P w (upd H a o) h':=fun b u e=>by
  have hn:=x.fresh hp
  by_cases hb:b=a
  · subst hb;rw [upd_same] at e;cases e;exact new
  · rw [upd_ne hb] at e
    exact (x b u e).stay (fun c v _ q=>k c v q) (fun c q=>by rw [upd_ne (ne_of_none q hn)];exact q) fun c xs q=>by rw [upd_ne (ne_of_none q hn)];exact q
end
noncomputable def Rd (H:Hp) (a:Addr) (u:HO):Prop:=H a=some u∨∃ o,H a=some (.frz o u)
theorem Rd.ok {P:Program} {w:World} {H:Hp} {h:Heap} {a:Addr} {u:HO} (r:Rd H a u) (x:HOk P w H h):ObjOk P w H h a u:=by
  rcases r with r | ⟨o,r⟩
  · exact x a u r
  · obtain ⟨_,q⟩:=x a _ r
    exact q
noncomputable def Mut:Option HO→Prop
  | some (.lst _)=>True
  | some (.dK _)=>True
  | some (.dT _)=>True
  | some (.set _ _)=>True
  | some (.ins _ _ _)=>True
  | some (.ext _)=>True
  | _=>False
section
variable {P:Program} {w:World} {H:Hp} {h h':Heap} {x e:Addr} {o':HO}
theorem HOk.write (ok:HOk P w H h) (mu:Mut (H x)) (he:e=x∨H e=some (.own x)) (k:∀ b u,b≠e→h.get? b=some u→h'.get? b=some u) (heo:∃ u,h'.get? e=some u)
    (new:ObjOk P w (upd H x o') h' x o'):HOk P w (upd H x o') h':=fun b u q=>by
  have nown:∀ c y,H c=some (.own y)→c≠x:=fun c y r z=>by subst z;rw [r] at mu;exact mu
  have ntup:∀ c xs,H c=some (.tup xs)→c≠x:=fun c xs r z=>by subst z;rw [r] at mu;exact mu
  by_cases hb:b=x
  · subst hb;rw [upd_same] at q;cases q;exact new
  · rw [upd_ne hb] at q
    by_cases hbe:b=e
    · have q':H b=some (.own x):=by
        rcases he with z | z
        · exact absurd (hbe.trans z) hb
        · rw [hbe];exact z
      rw [q] at q';cases q'
      obtain ⟨v,hv⟩:=heo
      exact ⟨v,by rw [hbe];exact hv⟩
    · refine (ok b u q).stay (fun c v hc r=>k c v ?_ r) (fun c r=>by rw [upd_ne (nown c b r)];exact r) fun c xs r=>by rw [upd_ne (ntup c xs r)];exact r
      rcases hc with rfl | hc
      · exact hbe
      · rintro rfl
        rcases he with z | z
        · exact nown c b hc z
        · rw [hc] at z;cases z;exact hb rfl
end
structure Un (fs ex:List Addr) (H H':Hp) (h h':Heap):Prop where
  keep:∀ b o,h.get? b=some o→H b=none→b∉fs→b∉ex→h'.get? b=some o
  slot:∀ b o,h.get? b=some o→H b=none→b∈fs→b∉ex→∃ sl,h'.get? b=some { o with slots:=sl }
  free:∀ b o,h.get? b=some o→H b=none→b∉ex→H' b=none
  there:∀ b o,h.get? b=some o→b∉ex→∃ o',h'.get? b=some o'
  tups:∀ b xs,H b=some (.tup xs)→H' b=some (.tup xs)
  frzs:∀ b o u,H b=some (.frz o u)→H' b=some (.frz o u)
  tbls:∀ b ps,H b=some (.tbl ps)→∃ more,H' b=some (.tbl (ps ++ more))
section
variable {fs fs' ex ex':List Addr} {H H1 H2:Hp} {h h1 h2 h':Heap} {a x e:Addr} {o:HO}
theorem Un.any (u:Un fs ex H H1 h h1) {b:Addr} {ob:Obj} (q:h.get? b=some ob) (n:H b=none) (hx:b∉ex):∃ sl,h1.get? b=some { ob with slots:=sl }:=by
  by_cases hb:b∈fs
  · exact u.slot b ob q n hb hx
  · exact ⟨ob.slots,u.keep b ob q n hb hx⟩
theorem Un.kept (k:∀ b u,h.get? b=some u→h'.get? b=some u):Un fs ex H H h h' :=
  ⟨fun b ob q _ _ _=>k b ob q,fun b ob q _ _ _=>⟨ob.slots,k b ob q⟩,fun _ _ _ n _=>n,fun b ob q _=>⟨ob,k b ob q⟩,fun _ _ q=>q,fun _ _ _ q=>q,fun _ ps q=>⟨#[],by rw [q];simp⟩⟩
theorem Un.refl:Un fs ex H H h h:=Un.kept fun _ _ q=>q
theorem Un.laid (k:∀ b u,h.get? b=some u→h'.get? b=some u) (hp:h.objs.size≤a) (hn:H a=none):Un fs ex H (upd H a o) h h' where
  keep:=fun b u q _ _ _=>k b u q
  slot:=fun b u q _ _ _=>⟨u.slots,k b u q⟩
  free:=fun b u q n _=>by rw [upd_ne (Nat.ne_of_lt (Nat.lt_of_lt_of_le (Heap.lt_size q) hp))];exact n
  there:=fun b u q _=>⟨u,k b u q⟩
  tups:=fun b xs q=>by rw [upd_ne (ne_of_none q hn)];exact q
  frzs:=fun b u xs q=>by rw [upd_ne (ne_of_none q hn)];exact q
  tbls:=fun b ps q=>⟨#[],by rw [upd_ne (ne_of_none q hn),q];simp⟩
theorem Un.write (mu:Mut (H x)) (he:e=x∨H e=some (.own x)) (k:∀ b u,b≠e→h.get? b=some u→h'.get? b=some u) (heo:∃ u,h'.get? e=some u):Un fs ex H (upd H x o) h h':=by
  have hx:∀ b,H b=none→b≠x:=fun b n z=>by subst z;rw [n] at mu;exact mu
  have hb:∀ b,H b=none→b≠e:=fun b n z=>by
    subst z
    rcases he with r | r
    · exact hx b n r
    · rw [n] at r;cases r
  have hm:∀ b u,H b=some u→¬ Mut (some u)→b≠x:=fun b u q nm z=>by subst z;rw [q] at mu;exact nm mu
  refine ⟨fun b u q n _ _=>k b u (hb b n) q,fun b u q n _ _=>⟨u.slots,k b u (hb b n) q⟩,fun b u q n _=>by rw [upd_ne (hx b n)];exact n,fun b u q _=>?_,
    fun b xs q=>by rw [upd_ne (hm b _ q fun z=>z)];exact q,fun b u xs q=>by rw [upd_ne (hm b _ q fun z=>z)];exact q,fun b ps q=>⟨#[],by rw [upd_ne (hm b _ q fun z=>z),q];simp⟩⟩
  by_cases hbe:b=e
  · subst hbe;exact heo
  · exact ⟨u,k b u hbe q⟩
end
noncomputable def trk (h:Heap) (H:Hp):List Addr:=(List.range h.objs.size).filter fun a=>(H a).isSome
noncomputable def hidT (h:Heap) (H:Hp):Heap:=PySem.W.hideAll h (trk h H)
theorem hidT_size (h:Heap) (H:Hp):(hidT h H).objs.size=h.objs.size:=PySem.W.hideAll_size _ _
theorem hidT_get {h:Heap} {H:Hp} {b:Addr} {o:Obj} (e:h.get? b=some o) (n:H b=none):(hidT h H).get? b=some o :=
  PySem.W.hideAll_get _ e fun hm=>by
    have q:(H b).isSome=true:=(List.mem_filter.mp hm).2
    rw [n] at q;simp at q
theorem of_hidT {h:Heap} {H:Hp} {b:Addr} {o:Obj} (e:(hidT h H).get? b=some o):h.get? b=some o∧H b=none:=by
  have e':h.get? b=some o:=PySem.W.of_hideAll (trk h H) e
  refine ⟨e',?_⟩
  cases q:H b with
  | none=>rfl
  | some x =>
    have hm:b∈trk h H:=List.mem_filter.mpr ⟨List.mem_range.mpr (Heap.lt_size e'),by simp [q]⟩
    have z:(hidT h H).get? b=none:=PySem.W.hideAll_none (trk h H) hm
    rw [z] at e;cases e
end L2
namespace L2
open PySem PySem.Spec PyProof.Rows
structure Mod (K:PySem.W.Frag) (mg:Str→Option Value) (base:Heap):Prop where
  kin:K.In base
  glob:base.Ns mainGlobals mg
  blt:∃ mb,base.Ns builtinsNs mb∧∀ x:Str,x ≠ "__name__" → mb x=bootBuiltins x
  nolimit:base.NoLimit
structure Cx where
  prog:Program
  w:World
  K:PySem.W.Frag
  mg:Str→Option Value
  base:Heap
  A:Around
  N:List Str
  s₀:Shared
  H₀:Hp
  env:Env
  outer:List Env
  stack:List Env
  ex:List Addr
  fn:Str→Bool
  calm:Bool
  pn:List (Addr×Obj)
  xe:Value→Shared→Prop
noncomputable def frs (l:List Env):List Addr:=l.filterMap (·.frame)
noncomputable abbrev Cx.fs (X:Cx):List Addr:=frs X.outer
noncomputable def Vis (sc:Scope) (x:Str):Prop:=sc.names.lookup x=some .local∨sc.names.lookup x=some .cell∨sc.names.lookup x=some .free
noncomputable def Loc (sc:Scope) (x:Str):Prop:=sc.names.lookup x=some .local∨sc.names.lookup x=some .cell
noncomputable def Look (env:Env) (h:Heap) (m:Str→Option Value) (x:Str) (u:Value):Prop :=
  (env.kindOf x=some .local∧m x=some u)∨((env.kindOf x=some .cell∨env.kindOf x=some .free)∧∃ c,env.cells.lookup x=some c∧h.IsCell c (some u))
structure Cx.Ok (X:Cx):Prop where
  mod:Mod X.K X.mg X.base
  kind:X.env.scope.kind=.function
  glob:X.env.globals=mainGlobals
  blt:X.env.builtins=builtinsNs
  above:X.s₀.heap.objs.size≤X.env.locals
  inj:∀ x y c,X.env.cells.lookup x=some c→X.env.cells.lookup y=some c→x=y
  has:∀ x,(X.env.kindOf x=some .cell∨X.env.kindOf x=some .free)→∃ c,X.env.cells.lookup x=some c
  cab:∀ x c,X.fn x=true→X.env.cells.lookup x=some c→X.s₀.heap.objs.size≤c
  hd:X.calm=true→X.A.handled=none
  frames:X.A.frames=some X.stack
  stk:X.stack=X.outer∨(X.stack=X.env :: X.outer∧X.env.frame=some X.env.locals)
  exf:∀ b∈X.ex,b≠X.env.locals∧∀ x c,X.env.cells.lookup x=some c→c≠b
  bs:∀ b o,X.base.get? b=some o→X.s₀.heap.get? b=some o∧X.H₀ b=none
  bsz:X.base.objs.size≤X.s₀.heap.objs.size
  noex:∀ b o,X.base.get? b=some o→b∉X.ex
  exfs:∀ b∈X.ex,b∉X.fs
  funs:X.s₀.heap.FunFrames X.base X.outer
  frf:∀ b∈X.fs,X.H₀ b=none
structure Inv (X:Cx) (pins:List (Addr×Obj)) (σ:List (Option V)) (H:Hp) (s:Shared):Prop where
  ok:X.Ok
  os:s.os=X.s₀.os
  bare:AllBare s.gens
  base:Un X.fs X.ex X.H₀ H X.s₀.heap s.heap
  loc:∃ m,s.heap.Ns X.env.locals m∧∀ (i:Nat) (x:Str) (v:V),X.N[i]?=some x→σ[i]?=some (some v)→Vis X.env.scope x→∃ u,RelV v u∧Look X.env s.heap m x u
  cell:∀ x c,X.env.cells.lookup x=some c→∃ v,s.heap.IsCell c v
  free:H X.env.locals=none
  freeC:∀ x c,X.env.cells.lookup x=some c→H c=none
  pin:∀ p∈X.pn ++ pins,s.heap.get? p.1=some p.2∧H p.1=none∧p.1≠X.env.locals∧p.1∉X.fs∧∀ v,p.2.data≠.cell v
  hok:HOk X.prog X.w H s.heap
  len:σ.length=X.N.length
section
variable {X:Cx} {pins:List (Addr×Obj)} {σ:List (Option V)} {H H':Hp} {s:Shared} {h':Heap}
theorem Cx.Ok.nofr (ok:X.Ok) {b:Addr} {o:Obj} (e:X.base.get? b=some o):b∉X.fs:=fun hb=>by
  have:=(ok.funs.mem hb).1
  rw [e] at this;cases this
theorem Inv.bs (I:Inv X pins σ H s):∀ b o,X.base.get? b=some o→s.heap.get? b=some o∧H b=none:=fun b o e =>
  ⟨I.base.keep b o (I.ok.bs b o e).1 (I.ok.bs b o e).2 (I.ok.nofr e) (I.ok.noex b o e),I.base.free b o (I.ok.bs b o e).1 (I.ok.bs b o e).2 (I.ok.noex b o e)⟩
theorem Inv.bk (I:Inv X pins σ H s):∀ b o,X.base.get? b=some o→s.heap.get? b=some o:=fun b o e=>(I.bs b o e).1
theorem Inv.mod (I:Inv X pins σ H s):Mod X.K X.mg X.base:=I.ok.mod
theorem Inv.kIn (I:Inv X pins σ H s):X.K.In s.heap:=I.ok.mod.kin.keeps I.bk
theorem Inv.lt (I:Inv X pins σ H s):X.env.locals < s.heap.objs.size:=let ⟨_,hn,_⟩:=I.loc;hn.lt
theorem Inv.sz (I:Inv X pins σ H s):X.s₀.heap.objs.size≤s.heap.objs.size:=Nat.le_trans I.ok.above (Nat.le_of_lt I.lt)
theorem Inv.nofs (I:Inv X pins σ H s) {a:Addr} (h:s.heap.objs.size≤a):a∉X.fs:=fun hb=>by
  obtain ⟨_,o,ho,_⟩:=I.ok.funs.mem hb
  exact absurd (Nat.lt_of_lt_of_le (Heap.lt_size ho) (Nat.le_trans I.sz h)) (Nat.lt_irrefl _)
theorem Inv.cne (I:Inv X pins σ H s):∀ x c,X.env.cells.lookup x=some c→c≠X.env.locals:=fun x c e z=>by
  obtain ⟨v,o,ho,hd⟩:=I.cell x c e
  obtain ⟨m,⟨o',es,ep,ho',hd',_⟩,_⟩:=I.loc
  rw [z,ho'] at ho;cases ho;rw [hd'] at hd;cases hd
theorem Inv.funs (I:Inv X pins σ H s):s.heap.FunFrames X.base X.outer:=by
  have all:∀ (l:List Env),(∀ b∈frs l,b∈X.fs)→X.s₀.heap.FunFrames X.base l→s.heap.FunFrames X.base l:=by
    intro l
    induction l with
    | nil=>intro _ _;trivial
    | cons env r ih =>
      intro hs hl
      obtain ⟨hk,⟨L,o,hf,hn,ho,hd⟩,hr⟩:=hl
      have hL:L∈X.fs:=hs L (by unfold frs;rw [List.filterMap_cons,hf];exact List.mem_cons_self)
      obtain ⟨sl,e⟩:=I.base.slot L o ho (I.ok.frf L hL) hL fun z=>I.ok.exfs L z hL
      exact ⟨hk,⟨L,_,hf,hn,e,hd⟩,ih (fun b hb=>hs b (by unfold frs;rw [List.filterMap_cons,hf];exact List.mem_cons_of_mem _ hb)) hr⟩
  exact all X.outer (fun _ hb=>hb) I.ok.funs
theorem Inv.stack (I:Inv X pins σ H s):s.heap.FunFrames X.base X.stack:=by
  rcases I.ok.stk with e | ⟨e,hf⟩
  · rw [e];exact I.funs
  · rw [e]
    obtain ⟨m,hn,_⟩:=I.loc
    refine .cons (by rw [I.ok.kind];decide) hf hn ?_ I.funs
    exact Heap.get?_none_of_le (Nat.le_trans I.ok.bsz I.ok.above)
theorem Inv.stkSub (I:Inv X pins σ H s):∀ b∈frs X.stack,b∈X.env.locals :: X.fs:=fun b hb=>by
  rcases I.ok.stk with e | ⟨e,hf⟩
  · rw [e] at hb;exact List.mem_cons_of_mem _ hb
  · rw [e] at hb
    unfold frs at hb
    rw [List.filterMap_cons,hf] at hb
    exact hb
theorem Inv.stkFree (I:Inv X pins σ H s):∀ b∈frs X.stack,H b=none:=fun b hb=>by
  rcases List.mem_cons.mp (I.stkSub b hb) with e | hb
  · rw [e];exact I.free
  · obtain ⟨_,o,ho,_⟩:=I.ok.funs.mem hb
    exact I.base.free b o ho (I.ok.frf b hb) fun z=>I.ok.exfs b z hb
theorem Inv.step {g':Array GenState} {t':Nat} {d':Drawn} {ch:List Addr} (I:Inv X pins σ H s)
    (hch:∀ b∈ch,(b∈X.ex∨X.s₀.heap.objs.size≤b)∧b≠X.env.locals∧(∀ x c,X.env.cells.lookup x=some c→c≠b)∧∀ p∈X.pn ++ pins,p.1≠b)
    (keep:∀ b o,b≠X.env.locals→b∉X.fs→b∉ch→s.heap.get? b=some o→H b=none→h'.get? b=some o)
    (slot:∀ b o,b≠X.env.locals→b∈X.fs→b∉ch→s.heap.get? b=some o→H b=none→∃ sl,h'.get? b=some { o with slots:=sl }) (free:∀ b o,b∉ch→s.heap.get? b=some o→H b=none→H' b=none)
    (there:∀ b o,b∉ch→s.heap.get? b=some o→∃ o',h'.get? b=some o')
    (tups:∀ b xs,H b=some (.tup xs)→H' b=some (.tup xs)) (frzs:∀ b o u,H b=some (.frz o u)→H' b=some (.frz o u)) (tbls:∀ b ps,H b=some (.tbl ps)→∃ more,H' b=some (.tbl (ps ++ more)))
    (ns:∀ m,s.heap.Ns X.env.locals m→h'.Ns X.env.locals m) (hok:HOk X.prog X.w H' h') (hg:AllBare g') :
    Inv X pins σ H' { s with heap:=h',gens:=g',drawn:=d',toks:=t' }:=by
  have neL:∀ b o,X.s₀.heap.get? b=some o→b≠X.env.locals:=fun b o e=>Nat.ne_of_lt (Nat.lt_of_lt_of_le (Heap.lt_size e) I.ok.above)
  have neC:∀ b o,X.s₀.heap.get? b=some o→b∉X.ex→b∉ch:=fun b o e hx hb=>by
    rcases (hch b hb).1 with z | z
    · exact hx z
    · exact absurd (Nat.lt_of_lt_of_le (Heap.lt_size e) z) (Nat.lt_irrefl _)
  have cellK:∀ x c,X.env.cells.lookup x=some c→∀ v,s.heap.IsCell c v→h'.IsCell c v:=fun x c e v ⟨o,ho,hd⟩=>by
    have nch:c∉ch:=fun z=>(hch c z).2.2.1 x c e rfl
    by_cases hc:c∈X.fs
    · obtain ⟨sl,q⟩:=slot c o (I.cne x c e) hc nch ho (I.freeC x c e)
      exact ⟨_,q,hd⟩
    · exact ⟨o,keep c o (I.cne x c e) hc nch ho (I.freeC x c e),hd⟩
  refine ⟨I.ok,I.os,hg,⟨fun b o e n hb hx=>?_,fun b o e n hb hx=>?_,fun b o e n hx=>?_,fun b o e hx=>?_,fun b xs e=>tups b xs (I.base.tups b xs e),fun b o xs e=>frzs b o xs (I.base.frzs b o xs e),fun b ps e=>?_⟩,?_,fun x c e=>?_,?_,fun x c e=>?_,fun p hp=>?_,hok,I.len⟩
  · exact keep b o (neL b o e) hb (neC b o e hx) (I.base.keep b o e n hb hx) (I.base.free b o e n hx)
  · obtain ⟨sl,e1⟩:=I.base.slot b o e n hb hx
    obtain ⟨sl',e2⟩:=slot b _ (neL b o e) hb (neC b o e hx) e1 (I.base.free b o e n hx)
    exact ⟨sl',e2⟩
  · obtain ⟨o',e1⟩:=I.base.there b o e hx
    exact free b o' (neC b o e hx) e1 (I.base.free b o e n hx)
  · obtain ⟨o',e1⟩:=I.base.there b o e hx
    exact there b o' (neC b o e hx) e1
  · obtain ⟨m1,e1⟩:=I.base.tbls b ps e
    obtain ⟨m2,e2⟩:=tbls b _ e1
    exact ⟨m1 ++ m2,by rw [e2,Array.append_assoc]⟩
  · obtain ⟨m,hn,hl⟩:=I.loc
    refine ⟨m,ns m hn,fun i x v e1 e2 e3=>?_⟩
    obtain ⟨u,r,l⟩:=hl i x v e1 e2 e3
    refine ⟨u,r,?_⟩
    rcases l with l | ⟨k,c,e,z⟩
    · exact .inl l
    · exact .inr ⟨k,c,e,cellK x c e _ z⟩
  · obtain ⟨v,z⟩:=I.cell x c e
    exact ⟨v,cellK x c e v z⟩
  · obtain ⟨m,⟨o,_,_,ho,_⟩,_⟩:=I.loc
    exact free _ o (fun z=>(hch _ z).2.1 rfl) ho I.free
  · obtain ⟨v,o,ho,hd⟩:=I.cell x c e
    exact free c o (fun z=>(hch c z).2.2.1 x c e rfl) ho (I.freeC x c e)
  · obtain ⟨e,n,ne,nf,d⟩:=I.pin p hp
    have nch:p.1∉ch:=fun z=>(hch p.1 z).2.2.2 p hp rfl
    exact ⟨keep p.1 p.2 ne nf nch e n,free p.1 p.2 nch e n,ne,nf,d⟩
theorem Inv.un {t':Nat} (I:Inv X pins σ H s) (u:Un X.fs [] H H' s.heap h') (hok:HOk X.prog X.w H' h'):Inv X pins σ H' { s with heap:=h',toks:=t' }:=by
  obtain ⟨m,⟨o,es,ep,ho,r⟩,_⟩:=id I.loc
  obtain ⟨sl,hL⟩:=u.any ho I.free (by simp)
  exact I.step (g':=s.gens) (d':=s.drawn) (ch:=[]) (fun _ z=>nomatch z) (fun b o _ hb _ e n=>u.keep b o e n hb (by simp)) (fun b o _ hb _ e n=>u.slot b o e n hb (by simp)) (fun b o _ e n=>u.free b o e n (by simp)) (fun b o _ e=>u.there b o e (by simp)) u.tups u.frzs u.tbls (fun m' hm=>by
    obtain ⟨o',es',ep',ho',r'⟩:=hm
    rw [ho] at ho';cases ho'
    exact ⟨_,es',ep',hL,r'⟩) hok I.bare
theorem Inv.call {g':Array GenState} {t':Nat} {d':Drawn} {ch:List Addr} (I:Inv X pins σ H s) (u:Un (frs X.stack) ch H H' s.heap h') (hok:HOk X.prog X.w H' h') (hg:AllBare g')
    (hch:∀ b∈ch,(b∈X.ex∨X.s₀.heap.objs.size≤b)∧b≠X.env.locals∧(∀ x c,X.env.cells.lookup x=some c→c≠b)∧∀ p∈X.pn ++ pins,p.1≠b) :
    Inv X pins σ H' { s with heap:=h',gens:=g',drawn:=d',toks:=t' }:=by
  obtain ⟨m,⟨o,es,ep,ho,r⟩,_⟩:=id I.loc
  obtain ⟨sl,hL⟩:=u.any ho I.free fun z=>(hch _ z).2.1 rfl
  exact I.step (ch:=ch) hch (fun b o hL hb hc e n=>u.keep b o e n (fun z=>(List.mem_cons.mp (I.stkSub b z)).elim hL hb) hc) (fun b o _ _ hc e n=>u.any e n hc) (fun b o hc e n=>u.free b o e n hc) (fun b o hc e=>u.there b o e hc) u.tups u.frzs u.tbls (fun m' hm=>by
    obtain ⟨o',es',ep',ho',r'⟩:=hm
    rw [ho] at ho';cases ho'
    exact ⟨_,es',ep',hL,r'⟩) hok hg
theorem Inv.turned {t':Nat} {it:Addr} (I:Inv X pins σ H s) (k:∀ b o,b≠it→s.heap.get? b=some o→h'.get? b=some o) (hn:H it=none) (hL:it≠X.env.locals)
    (h1:it∈X.ex∨X.s₀.heap.objs.size≤it) (h2:∀ x c,X.env.cells.lookup x=some c→c≠it) (h3:∀ p∈X.pn ++ pins,p.1≠it):Inv X pins σ H { s with heap:=h',toks:=t' }:=by
  have nit:∀ b u,H b=some u→b≠it:=fun b u e z=>by rw [z,hn] at e;cases e
  refine I.step (g':=s.gens) (d':=s.drawn) (ch:=[it]) (fun b hb=>?_) (fun b o _ _ hc e _=>k b o (fun z=>hc (by simp [z])) e) (fun b o _ _ hc e _=>⟨o.slots,k b o (fun z=>hc (by simp [z])) e⟩) (fun _ _ _ _ n=>n)
    (fun b o hc e=>⟨o,k b o (fun z=>hc (by simp [z])) e⟩) (fun _ _ e=>e) (fun _ _ _ e=>e) (fun b ps e=>⟨#[],by rw [e];simp⟩) (fun m hm=>?_) (fun b u e=>?_) I.bare
  · have e:b=it:=by simpa using hb
    subst e
    exact ⟨h1,hL,h2,h3⟩
  · obtain ⟨o,es,ep,ho,r⟩:=hm
    exact ⟨o,es,ep,k _ o (Ne.symm hL) ho,r⟩
  · refine (I.hok b u e).stay (fun c v hc q=>k c v ?_ q) (fun _ q=>q) fun _ _ q=>q
    rcases hc with z | z
    · rw [z];exact nit b u e
    · exact nit c _ z
theorem Inv.tok (I:Inv X pins σ H s) (t:Nat):Inv X pins σ H { s with toks:=t }:=I.un (h':=s.heap) (t':=t) Un.refl I.hok
theorem Inv.kept {t':Nat} (I:Inv X pins σ H s) (k:∀ b u,s.heap.get? b=some u→h'.get? b=some u):Inv X pins σ H { s with heap:=h',toks:=t' }:=I.un (Un.kept k) (I.hok.kept k)
theorem Inv.laid {a:Addr} {o:HO} {t':Nat} (I:Inv X pins σ H s) (k:∀ b u,s.heap.get? b=some u→h'.get? b=some u) (hp:s.heap.objs.size≤a) (new:ObjOk X.prog X.w (upd H a o) h' a o) :
    Inv X pins σ (upd H a o) { s with heap:=h',toks:=t' }:=I.un (Un.laid k hp (I.hok.fresh hp)) (I.hok.laid k hp new)
theorem Inv.write {x e:Addr} {o:HO} {t':Nat} (I:Inv X pins σ H s) (mu:Mut (H x)) (he:e=x∨H e=some (.own x)) (k:∀ b u,b≠e→s.heap.get? b=some u→h'.get? b=some u) (heo:∃ u,h'.get? e=some u)
    (new:ObjOk X.prog X.w (upd H x o) h' x o):Inv X pins σ (upd H x o) { s with heap:=h',toks:=t' }:=I.un (Un.write mu he k heo) (I.hok.write mu he k heo new)
theorem Inv.pins_of {pins':List (Addr×Obj)} (I:Inv X pins σ H s) (h:∀ p∈pins',s.heap.get? p.1=some p.2∧H p.1=none∧p.1≠X.env.locals∧p.1∉X.fs∧∀ v,p.2.data≠.cell v):Inv X pins' σ H s :=
  ⟨I.ok,I.os,I.bare,I.base,I.loc,I.cell,I.free,I.freeC,fun p hp=>(List.mem_append.mp hp).elim (fun z=>I.pin p (List.mem_append_left _ z)) (h p),I.hok,I.len⟩
theorem nodup_ix {N:List Str} (hN:N.Nodup) {i j:Nat} {x:Str} (a:N[i]?=some x) (b:N[j]?=some x):i=j:=by
  obtain ⟨h1,e1⟩:=List.getElem?_eq_some_iff.mp a
  obtain ⟨h2,e2⟩:=List.getElem?_eq_some_iff.mp b
  exact (List.getElem_inj hN).mp (e1.trans e2.symm)
theorem store_ok2 {M:Model} {A:Around} {E:Value→Shared→Prop} {i:Nat} {x:Str} {v:V} {u:Value} {Q:Unit→Shared→Prop} (I:Inv X pins σ H s) (hN:X.N.Nodup) (hi:X.N[i]?=some x) (hx:Loc X.env.scope x) (r:RelV v u)
    (h:∀ s',Inv X pins (σ.set i (some v)) H s'→(∃ a,Heap.SameBut a s.heap s'.heap∧(a=X.env.locals∨X.env.cells.lookup x=some a))→Q () s') (hf:X.fn x=true∨X.env.scope.names.lookup x=some .local:=by first | exact .inl rfl | exact .inr rfl | assumption):wpAny M A (storeName X.env x u) Q E s:=by
  obtain ⟨m,hn,hl⟩:=id I.loc
  have hcls:(X.env.scope.kind == .class || (X.env.scope.kind == .module && X.env.locals != X.env.globals))=false:=by rw [I.ok.kind];rfl
  have hiσ:i < σ.length:=by rw [I.len];exact (List.getElem?_eq_some_iff.mp hi).1
  have cne:=I.cne
  have tracked:∀ {a:Addr} {h':Heap},(∃ o,s.heap.get? a=some o∧H a=none)→Heap.SameBut a s.heap h'→HOk X.prog X.w H h':=fun {a h'} ha hs b ob e=>by
    obtain ⟨_,_,hfree⟩:=ha
    refine (I.hok b ob e).stay (fun c w' hc q=>(hs.2 c ?_).trans q) (fun _ q=>q) fun _ _ q=>q
    rintro rfl
    rcases hc with rfl | hc
    · rw [hfree] at e;cases e
    · rw [hfree] at hc;cases hc
  rcases hx with hk | hk
  · refine wpAny_storeName_local hk hn (fun h' hn' hs=>?_) hcls
    obtain ⟨oL,_,_,hoL,_⟩:=id hn
    refine h _ ⟨I.ok,I.os,I.bare,⟨fun b o e n hb hx=>?_,fun b o e n hb hx=>?_,I.base.free,fun b o e hx=>?_,I.base.tups,I.base.frzs,I.base.tbls⟩,⟨_,hn',fun j y v' e1 e2 e3=>?_⟩,fun y c e=>?_,I.free,I.freeC,fun p hp=>?_,tracked ⟨oL,hoL,I.free⟩ hs,by simpa using I.len⟩ ⟨_,hs,.inl rfl⟩
    · exact (hs.2 b (Nat.ne_of_lt (Nat.lt_of_lt_of_le (Heap.lt_size e) I.ok.above))).trans (I.base.keep b o e n hb hx)
    · obtain ⟨sl,e1⟩:=I.base.slot b o e n hb hx
      exact ⟨sl,(hs.2 b (Nat.ne_of_lt (Nat.lt_of_lt_of_le (Heap.lt_size e) I.ok.above))).trans e1⟩
    · obtain ⟨o',e1⟩:=I.base.there b o e hx
      exact ⟨o',(hs.2 b (Nat.ne_of_lt (Nat.lt_of_lt_of_le (Heap.lt_size e) I.ok.above))).trans e1⟩
    · by_cases hj:j=i
      · subst hj
        rw [hi] at e1;cases e1
        rw [List.getElem?_set_self hiσ] at e2
        cases e2
        exact ⟨u,r,.inl ⟨hk,by simp⟩⟩
      · rw [List.getElem?_set_ne (Ne.symm hj)] at e2
        obtain ⟨u',r',q⟩:=hl j y v' e1 e2 e3
        refine ⟨u',r',?_⟩
        rcases q with ⟨k,e⟩ | ⟨k,c,e,z⟩
        · refine .inl ⟨k,?_⟩
          have:y≠x:=fun e=>hj (nodup_ix hN e1 (e ▸ hi))
          simp [this,e]
        · exact .inr ⟨k,c,e,z.sameBut hs (cne y c e)⟩
    · obtain ⟨w',z⟩:=I.cell y c e
      exact ⟨w',z.sameBut hs (cne y c e)⟩
    · obtain ⟨e,n,ne,nf,d⟩:=I.pin p hp
      exact ⟨(hs.2 p.1 ne).trans e,n,ne,nf,d⟩
  · have hfn:X.fn x=true:=by
      rcases hf with z | z
      · exact z
      · rw [z] at hk;cases hk
    obtain ⟨c,hc⟩:=I.ok.has x (.inl hk)
    obtain ⟨w',z⟩:=I.cell x c hc
    refine wpAny_storeName_cell I.ok.kind hk hc z (fun h' hc' hs=>?_)
    obtain ⟨oc,hoc,hocd⟩:=id z
    refine h { s with heap:=h' } ⟨I.ok,I.os,I.bare,⟨fun b o e n hb hx=>?_,fun b o e n hb hx=>?_,I.base.free,fun b o e hx=>?_,I.base.tups,I.base.frzs,I.base.tbls⟩,⟨m,hn.sameBut hs (Ne.symm (cne x c hc)),fun j y v' e1 e2 e3=>?_⟩,fun y c' e=>?_,I.free,I.freeC,fun p hp=>?_,tracked ⟨oc,hoc,I.freeC x c hc⟩ hs,by simpa using I.len⟩ ⟨c,hs,.inr hc⟩
    · exact (hs.2 b (Nat.ne_of_lt (Nat.lt_of_lt_of_le (Heap.lt_size e) (I.ok.cab x c hfn hc)))).trans (I.base.keep b o e n hb hx)
    · obtain ⟨sl,e1⟩:=I.base.slot b o e n hb hx
      exact ⟨sl,(hs.2 b (Nat.ne_of_lt (Nat.lt_of_lt_of_le (Heap.lt_size e) (I.ok.cab x c hfn hc)))).trans e1⟩
    · obtain ⟨o',e1⟩:=I.base.there b o e hx
      exact ⟨o',(hs.2 b (Nat.ne_of_lt (Nat.lt_of_lt_of_le (Heap.lt_size e) (I.ok.cab x c hfn hc)))).trans e1⟩
    · by_cases hj:j=i
      · subst hj
        rw [hi] at e1;cases e1
        rw [List.getElem?_set_self hiσ] at e2
        cases e2
        exact ⟨u,r,.inr ⟨.inl hk,c,hc,hc'⟩⟩
      · rw [List.getElem?_set_ne (Ne.symm hj)] at e2
        obtain ⟨u',r',q⟩:=hl j y v' e1 e2 e3
        refine ⟨u',r',?_⟩
        rcases q with q | ⟨k,c',e,z'⟩
        · exact .inl q
        · refine .inr ⟨k,c',e,z'.sameBut hs ?_⟩
          rintro rfl
          exact hj (nodup_ix hN e1 (I.ok.inj _ _ _ e hc ▸ hi))
    · by_cases hcc:c'=c
      · subst hcc;exact ⟨_,hc'⟩
      · obtain ⟨w2,z2⟩:=I.cell y c' e
        exact ⟨w2,z2.sameBut hs hcc⟩
    · obtain ⟨e,n,ne,nf,d⟩:=I.pin p hp
      refine ⟨(hs.2 p.1 ?_).trans e,n,ne,nf,d⟩
      intro q
      rw [q,hoc] at e
      have q':oc=p.2:=Option.some.inj e
      exact d w' (by rw [← q'];exact hocd)
theorem store_ok {M:Model} {A:Around} {E:Value→Shared→Prop} {i:Nat} {x:Str} {v:V} {u:Value} {Q:Unit→Shared→Prop} (I:Inv X pins σ H s) (hN:X.N.Nodup) (hi:X.N[i]?=some x) (hx:Loc X.env.scope x) (r:RelV v u)
    (h:∀ s',Inv X pins (σ.set i (some v)) H s'→Q () s') (hf:X.fn x=true∨X.env.scope.names.lookup x=some .local:=by first | exact .inl rfl | exact .inr rfl | assumption):wpAny M A (storeName X.env x u) Q E s :=
  store_ok2 I hN hi hx r (fun s' I' _=>h s' I') hf
theorem Inv.call' {s':Shared} {ch:List Addr} (I:Inv X pins σ H s) (ho:s'.os=s.os) (u:Un (frs X.stack) ch H H' s.heap s'.heap) (hok:HOk X.prog X.w H' s'.heap) (hg:AllBare s'.gens)
    (hch:∀ b∈ch,(b∈X.ex∨X.s₀.heap.objs.size≤b)∧b≠X.env.locals∧(∀ x c,X.env.cells.lookup x=some c→c≠b)∧∀ p∈X.pn ++ pins,p.1≠b):Inv X pins σ H' s':=by
  obtain ⟨h',g',d',t',o'⟩:=s'
  have e:o'=s.os:=ho
  subst e
  exact I.call (g':=g') (t':=t') (d':=d') u hok hg hch
end
noncomputable abbrev XK:=Value→Option Addr→Hp→Prop
noncomputable abbrev St:=List (Option V)
noncomputable abbrev VK:=V→Hp→Prop
noncomputable abbrev TE:=St→Hp→VK→Prop
noncomputable abbrev TT:=St→Hp→(Bool→Hp→Prop)→Prop
noncomputable abbrev TA:=St→Hp→(List V→Hp→Prop)→Prop
structure Ends where
  nx:St→Hp→Prop
  rt:VK
  bk:St→Hp→Prop:=fun _ _=>False
  ct:St→Hp→Prop:=fun _ _=>False
noncomputable abbrev TS:=Ends→St→Hp→Prop
noncomputable def EP (X:Cx) (pins:List (Addr×Obj)) (σ:St) (Q:VK) (u:Value) (s':Shared):Prop:=∃ v H',Inv X pins σ H' s'∧RelV v u∧Q v H'
noncomputable def TP (X:Cx) (pins:List (Addr×Obj)) (σ:St) (Q:Bool→Hp→Prop) (b:Bool) (s':Shared):Prop:=∃ H',Inv X pins σ H' s'∧Q b H'
noncomputable def AP (X:Cx) (pins:List (Addr×Obj)) (σ:St) (Q:List V→Hp→Prop) (us:List Value) (s':Shared):Prop:=∃ vs H',Inv X pins σ H' s'∧Vals vs us∧Q vs H'
noncomputable def SP (X:Cx) (pins:List (Addr×Obj)) (D:Ends) (f:Flow) (s':Shared):Prop :=
  match f with
  | .next=>∃ σ' H',Inv X pins σ' H' s'∧D.nx σ' H'
  | .brk=>∃ σ' H',Inv X pins σ' H' s'∧D.bk σ' H'
  | .cont=>∃ σ' H',Inv X pins σ' H' s'∧D.ct σ' H'
  | .ret u=>∃ v σ' H',Inv X pins σ' H' s'∧RelV v u∧D.rt v H'
noncomputable def PE (X:Cx) (e:Expr) (t:TE):Prop :=
  ∀ (pins:List (Addr×Obj)) (s:Shared) (σ:St) (H:Hp) (Q:VK),Inv X pins σ H s→t σ H Q→wpAny (model X.prog X.w) X.A (eval e X.env) (EP X pins σ Q) X.xe s
noncomputable def PT (X:Cx) (e:Expr) (t:TT):Prop :=
  ∀ (pins:List (Addr×Obj)) (s:Shared) (σ:St) (H:Hp) (Q:Bool→Hp→Prop),Inv X pins σ H s→t σ H Q→wpAny (model X.prog X.w) X.A (isTrue e X.env (eval e X.env)) (TP X pins σ Q) X.xe s
noncomputable def PW (X:Cx) (e:Expr) (t:TT):Prop :=
  ∀ (whole:Sem Value) (pins:List (Addr×Obj)) (s:Shared) (σ:St) (H:Hp) (Q:Bool→Hp→Prop),Inv X pins σ H s→t σ H Q→wpAny (model X.prog X.w) X.A (isTrue e X.env whole) (TP X pins σ Q) X.xe s
theorem PW.pt {X:Cx} {e:Expr} {t:TT} (h:PW X e t):PT X e t:=h _
noncomputable def PA (X:Cx) (es:List Expr) (t:TA):Prop :=
  ∀ (pos:Pos) (pins:List (Addr×Obj)) (s:Shared) (σ:St) (H:Hp) (Q:List V→Hp→Prop),Inv X pins σ H s→t σ H Q→wpAny (model X.prog X.w) X.A (spliced (backTo pos (starEach es X.env))) (AP X pins σ Q) X.xe s
noncomputable def PS (X:Cx) (st:Stmt) (t:TS):Prop :=
  ∀ (pins:List (Addr×Obj)) (s:Shared) (σ:St) (H:Hp) (D:Ends),Inv X pins σ H s→t D σ H→wpAny (model X.prog X.w) X.A (exec st X.env) (SP X pins D) X.xe s
noncomputable def PSs (X:Cx) (st:List Stmt) (t:TS):Prop :=
  ∀ (pins:List (Addr×Obj)) (s:Shared) (σ:St) (H:Hp) (D:Ends),Inv X pins σ H s→t D σ H→wpAny (model X.prog X.w) X.A (execs st X.env) (SP X pins D) X.xe s
theorem thn {α:Type} {t:Sem α} {Q Q':α→Shared→Prop} {M:Model} {A:Around} {E:Value→Shared→Prop} {s:Shared} (h:wpAny M A t Q E s) (hQ:∀ a s,Q a s→Q' a s):wpAny M A t Q' E s:=wpAny_mono h hQ fun _ _ x=>x
end L2
namespace L2
open PySem PySem.Spec PyProof.Rows
section
variable {X:Cx}
noncomputable def exI (x:V) (k:Int→Prop):Prop:=match x with
  | .int i=>k i
  | x=>∃ i,x=.int i∧k i
noncomputable def exB (x:V) (k:Bool→Prop):Prop:=match x with
  | .bl i=>k i
  | x=>∃ i,x=.bl i∧k i
noncomputable def exR (x:V) (k:Addr→Prop):Prop:=match x with
  | .ref i=>k i
  | x=>∃ i,x=.ref i∧k i
theorem exI_lit {i:Int} {k:Int→Prop}:exI (.int i) k=k i:=rfl
theorem exB_lit {i:Bool} {k:Bool→Prop}:exB (.bl i) k=k i:=rfl
theorem exR_lit {i:Addr} {k:Addr→Prop}:exR (.ref i) k=k i:=rfl
theorem exI_ex {x:V} {k:Int→Prop}:exI x k=∃ i,x=.int i∧k i:=by
  cases x <;> first | rfl | exact propext ⟨fun h=>⟨_,rfl,h⟩,fun ⟨_,e,h⟩=>by cases e;exact h⟩
theorem exB_ex {x:V} {k:Bool→Prop}:exB x k=∃ i,x=.bl i∧k i:=by
  cases x <;> first | rfl | exact propext ⟨fun h=>⟨_,rfl,h⟩,fun ⟨_,e,h⟩=>by cases e;exact h⟩
theorem exR_ex {x:V} {k:Addr→Prop}:exR x k=∃ i,x=.ref i∧k i:=by
  cases x <;> first | rfl | exact propext ⟨fun h=>⟨_,rfl,h⟩,fun ⟨_,e,h⟩=>by cases e;exact h⟩
theorem exI_mono {x:V} {k k':Int→Prop} (h:exI x k) (m:∀ i,k i→k' i):exI x k':=by
  rw [exI_ex] at h ⊢
  obtain ⟨i,e,h⟩:=h
  exact ⟨i,e,m i h⟩
noncomputable def tVar (i:Nat):TE:=fun σ H Q=>match σ[i]? with | some (some v)=>Q v H | _=>False
noncomputable def tC (v:V):TE:=fun _ H Q=>Q v H
theorem pe_var {i:Nat} {x:Str} {pos:Pos} (hN:X.N[i]?=some x) (hv:Vis X.env.scope x) (hd:(x == ("__debug__" : Str))=false:=by decide) (hcd:(x == ("__classdict__" : Str))=false:=by decide):PE X (.Name x pos) (tVar i):=by
  intro pins s σ H Q I h
  have h:∃ v,σ[i]?=some (some v)∧Q v H:=by
    unfold tVar at h
    split at h
    · exact ⟨_,‹_›,h⟩
    · exact h.elim
  obtain ⟨v,e,h⟩:=h
  obtain ⟨m,hn,hl⟩:=I.loc
  obtain ⟨u,r,l⟩:=hl i x v hN e hv
  have fin:EP X pins σ Q u s:=⟨v,H,I,r,h⟩
  rcases l with ⟨hk,hm⟩ | ⟨hk,c,hc,hcell⟩
  · exact wpAny_Name (wpAny_loadName_local I.ok.kind hk hn hm fin) hd
  · rcases hk with hk | hk
    · exact wpAny_Name (wpAny_loadName_cell I.ok.kind hk hc hcell fin) hd
    · exact wpAny_Name (wpAny_loadName_free I.ok.kind hk hc hcell fin hcd) hd
theorem pe_int {i j pos}:PE X (.Constant (.int i) j pos) (tC (.int i)):=fun _ _ _ H _ I h=>wpAny_Constant_int ⟨.int i,H,I.tok _,⟨_,rfl⟩,h⟩
theorem pe_bl {b j pos}:PE X (.Constant (.bool b) j pos) (tC (.bl b)):=fun _ _ _ H _ I h=>Constant_bool ⟨.bl b,H,I,rfl,h⟩
theorem pe_non {j pos}:PE X (.Constant .none j pos) (tC .non):=fun _ _ _ H _ I h=>Constant_none ⟨.non,H,I,rfl,h⟩
theorem pe_str {x j pos}:PE X (.Constant (.str x) j pos) (tC (.str x)):=fun _ _ _ H _ I h=>Calls.Constant_str ⟨.str x,H,I.tok _,⟨_,rfl⟩,h⟩
noncomputable def Gl (X:Cx) (x:Str):Prop:=X.env.kindOf x=some .globalImplicit
theorem ld_glob {E:Value→Shared→Prop} {pins:List (Addr×Obj)} {s:Shared} {σ:St} {H:Hp} {x:Str} {u:Value} {pos:Pos} {Q:Value→Shared→Prop} (I:Inv X pins σ H s) (hg:Gl X x) (hm:X.mg x=some u) (h:Q u s)
    (hd:(x == ("__debug__" : Str))=false:=by decide):wpAny (model X.prog X.w) X.A (eval (.Name x pos) X.env) Q E s :=
  Calls.Name_function_global I.ok.kind hg (Calls.loadGlobal_global (by rw [I.ok.glob];exact I.mod.glob.keeps I.bk) hm h) hd
theorem ld_blt {E:Value→Shared→Prop} {pins:List (Addr×Obj)} {s:Shared} {σ:St} {H:Hp} {x:Str} {u:Value} {pos:Pos} {Q:Value→Shared→Prop} (I:Inv X pins σ H s) (hg:Gl X x) (hm:X.mg x=none) (hv:bootBuiltins x=some u) (h:Q u s)
    (hn:x ≠ "__name__":=by decide) (hd:(x == ("__debug__" : Str))=false:=by decide):wpAny (model X.prog X.w) X.A (eval (.Name x pos) X.env) Q E s:=by
  obtain ⟨mb,h1,h2⟩:=I.mod.blt
  exact Calls.Name_function_global I.ok.kind hg (Calls.loadGlobal_builtin (by rw [I.ok.glob];exact I.mod.glob.keeps I.bk) hm (by rw [I.ok.blt];exact h1.keeps I.bk) ((h2 x hn).trans hv) h) hd
theorem pe_glob {x:Str} {v:V} {u:Value} {pos:Pos} (hg:Gl X x) (hm:X.mg x=some u) (r:RelV v u) (hd:(x == ("__debug__" : Str))=false:=by decide):PE X (.Name x pos) (tC v) :=
  fun _ _ _ H _ I h=>ld_glob I hg hm ⟨v,H,I,r,h⟩ hd
theorem pe_bltn {x:Str} {v:V} {u:Value} {pos:Pos} (hg:Gl X x) (hm:X.mg x=none) (hv:bootBuiltins x=some u) (r:RelV v u) (hn:x ≠ "__name__":=by decide) (hd:(x == ("__debug__" : Str))=false:=by decide):PE X (.Name x pos) (tC v) :=
  fun _ _ _ H _ I h=>ld_blt I hg hm hv ⟨v,H,I,r,h⟩ hn hd
variable {a b:Expr} {ta tb:TE} {pos:Pos}
noncomputable def tB (t:TE):TT:=fun σ H Q=>t σ H fun x H1=>∃ c,x=.bl c∧Q c H1
theorem pt_val {e:Expr} {t:TE} (h:PE X e t) (he:∀ whole,isTrue e X.env whole=(do let v ← whole;standAt e.pos;holding [v] (truthy v)):=by intro _;rfl):PT X e (tB t):=by
  intro pins s σ H Q I hw
  refine isTrue_plain (thn (h pins s σ H _ I hw) fun v s1 ⟨x,H1,I1,r1,q1⟩=>?_) (he _)
  obtain ⟨d,rfl,q⟩:=q1
  cases r1
  exact wpAny_truthy_bool ⟨H1,I1,q⟩
variable {tA tB':TT} {rest:List Expr}
noncomputable def tAnd (t u:TT):TT:=fun σ H Q=>t σ H fun c H1=>if c=true then u σ H1 Q else Q false H1
noncomputable def tOr (t u:TT):TT:=fun σ H Q=>t σ H fun c H1=>if c=true then Q true H1 else u σ H1 Q
noncomputable def tNot (t:TT):TT:=fun σ H Q=>t σ H fun c H1=>Q (!c) H1
theorem pw_and1 (ha:PT X a tA):PW X (.BoolOp .And [a] pos) tA:=by
  intro wh pins s σ H Q I h
  refine isTrue_and (thn (ha pins s σ H Q I h) fun c s1 e=>?_)
  cases c with
  | true=>exact isTrue_and_nil e
  | false=>exact e
theorem pw_or1 (ha:PT X a tA):PW X (.BoolOp .Or [a] pos) tA:=by
  intro wh pins s σ H Q I h
  refine isTrue_or (thn (ha pins s σ H Q I h) fun c s1 e=>?_)
  cases c with
  | false=>exact isTrue_or_nil e
  | true=>exact e
theorem pw_and (ha:PT X a tA) (hb:PW X (.BoolOp .And (b :: rest) pos) tB'):PW X (.BoolOp .And (a :: b :: rest) pos) (tAnd tA tB'):=by
  intro wh pins s σ H Q I h
  refine isTrue_and (thn (ha pins s σ H _ I h) fun c s1 ⟨H1,I1,q1⟩=>?_)
  cases c with
  | true=>exact hb wh pins s1 σ H1 Q I1 q1
  | false=>exact ⟨H1,I1,q1⟩
theorem pw_or (ha:PT X a tA) (hb:PW X (.BoolOp .Or (b :: rest) pos) tB'):PW X (.BoolOp .Or (a :: b :: rest) pos) (tOr tA tB'):=by
  intro wh pins s σ H Q I h
  refine isTrue_or (thn (ha pins s σ H _ I h) fun c s1 ⟨H1,I1,q1⟩=>?_)
  cases c with
  | true=>exact ⟨H1,I1,q1⟩
  | false=>exact hb wh pins s1 σ H1 Q I1 q1
theorem pt_not (ha:PT X a tA):PT X (.UnaryOp .Not a pos) (tNot tA):=by
  intro pins s σ H Q I h
  exact isTrue_not (ha pins s σ H (fun c H1=>Q (!c) H1) I h)
noncomputable def tAndV (ta tb:TE):TE:=fun σ H Q=>ta σ H fun x H1=>∃ c,x=.bl c∧if c=true then tb σ H1 Q else Q (.bl false) H1
noncomputable def tOrV (ta tb:TE):TE:=fun σ H Q=>ta σ H fun x H1=>∃ c,x=.bl c∧if c=true then Q (.bl true) H1 else tb σ H1 Q
noncomputable def tNotV (ta:TE):TE:=fun σ H Q=>ta σ H fun x H1=>∃ c,x=.bl c∧Q (.bl (!c)) H1
theorem pe_one {op} {t:TE} (h:PE X a t):PE X (.BoolOp op [a] pos) t:=fun pins s σ H Q I hw=>BoolOp_one (h pins s σ H Q I hw)
theorem pe_and (ha:PE X a ta) (hb:PE X (.BoolOp .And (b :: rest) pos) tb):PE X (.BoolOp .And (a :: b :: rest) pos) (tAndV ta tb):=by
  intro pins s σ H Q I h
  refine BoolOp_and (thn (ha pins s σ H _ I h) fun v s1 ⟨x,H1,I1,r1,q1⟩=>?_)
  obtain ⟨c,rfl,q1⟩:=q1
  cases r1
  refine wpAny_truthy_bool ?_
  cases c with
  | true=>exact hb pins s1 σ H1 Q I1 q1
  | false=>exact ⟨.bl false,H1,I1,rfl,q1⟩
theorem pe_not (ha:PE X a ta):PE X (.UnaryOp .Not a pos) (tNotV ta):=by
  intro pins s σ H Q I h
  refine UnaryOp_ (thn (ha pins s σ H _ I h) fun v s1 ⟨x,H1,I1,r1,q1⟩=>?_)
  obtain ⟨c,rfl,q1⟩:=q1
  cases r1
  exact not_of (wpAny_truthy_bool ⟨.bl (!c),H1,I1,rfl,q1⟩)
noncomputable def tIf (t:TT) (ta tb:TE):TE:=fun σ H Q=>t σ H fun c H1=>if c=true then ta σ H1 Q else tb σ H1 Q
theorem pe_ifExp {c:Expr} (hc:PT X c tA) (ha:PE X a ta) (hb:PE X b tb):PE X (.IfExp c a b pos) (tIf tA ta tb):=by
  intro pins s σ H Q I h
  refine wpAny_IfExp (thn (hc pins s σ H _ I h) fun d s1 ⟨H1,I1,q1⟩=>?_)
  cases d with
  | true=>exact ha pins s1 σ H1 Q I1 q1
  | false=>exact hb pins s1 σ H1 Q I1 q1
end
end L2
namespace L2
open PySem PySem.Spec PyProof.Rows
noncomputable def SqL (K:PySem.W.Frag) (H:Hp) (a:Addr) (xs:List V):Prop :=
  Rd H a (.lst xs) ∨
    ∃ (o:Obj) (its:Array Value) (n:Nat),K.lookup a=some o∧o.cls=.type "list" ∧ o.dict=none∧o.data=.seq its n∧its.size≤sizeLine∧Vals xs its.toList
noncomputable def SqT (K:PySem.W.Frag) (H:Hp) (a:Addr) (xs:List V):Prop :=
  Rd H a (.tup xs) ∨
    ∃ (o:Obj) (its:Array Value) (n:Nat),K.lookup a=some o∧o.cls=.type "tuple" ∧ o.data=.seq its n∧its.size≤sizeLine∧Vals xs its.toList
noncomputable def absV:Value→Option V
  | .none=>some .non
  | .bool b=>some (.bl b)
  | .int i _=>some (.int i)
  | .str x _=>some (.str x)
  | .bytes b _=>some (.byt b)
  | .float b _=>some (.flt b)
  | .ref a=>some (.ref a)
  | .type n=>some (.ty n)
  | _=>none
theorem RelV.abs {x:V} {u:Value} (r:RelV x u):absV u=some x:=by
  cases x with
  | non=>cases r;rfl
  | bl _=>cases r;rfl
  | int _=>obtain ⟨t,rfl⟩:=r;rfl
  | str _=>obtain ⟨t,rfl⟩:=r;rfl
  | byt _=>obtain ⟨t,rfl⟩:=r;rfl
  | flt _=>obtain ⟨t,rfl⟩:=r;rfl
  | ref _=>cases r;rfl
  | ty _=>cases r;rfl
theorem RelV.inj {x y:V} {u:Value} (r:RelV x u) (q:RelV y u):x=y:=Option.some.inj (r.abs.symm.trans q.abs)
theorem Vals.inj:∀ {xs ys:List V} {us:List Value},Vals xs us→Vals ys us→xs=ys
  | _,_,_,.nil,.nil=>rfl
  | _,_,_,.cons r t,.cons r' t'=>by rw [r.inj r',Vals.inj t t']
section
variable {X:Cx} {pins:List (Addr×Obj)} {σ:St} {H:Hp} {s:Shared} {a:Addr} {xs ys:List V}
theorem SqL.of {K:PySem.W.Frag} (h:H a=some (.lst xs)):SqL K H a xs:=.inl (.inl h)
theorem SqT.of {K:PySem.W.Frag} (h:H a=some (.tup xs)):SqT K H a xs:=.inl (.inl h)
theorem Inv.list (I:Inv X pins σ H s) (h:SqL X.K H a xs):∃ its:List Value,Vals xs its∧PlainL s.heap a its.toArray∧xs.length≤sizeLine:=by
  rcases h with h | ⟨o,its,n,hk,hc,hd,hs,hz,r⟩
  · obtain ⟨z,its,n,r,e⟩:=h.ok I.hok
    exact ⟨its,r,⟨_,n,e,rfl,rfl,rfl⟩,z⟩
  · refine ⟨its.toList,r,⟨o,n,I.kIn a o hk,hc,hd,by simpa using hs⟩,?_⟩
    have e:=r.length
    simp only [Array.length_toList] at e
    omega
theorem Inv.tuple (I:Inv X pins σ H s) (h:SqT X.K H a xs):∃ its:List Value,Vals xs its∧IsTup s.heap a its.toArray∧xs.length≤sizeLine:=by
  rcases h with h | ⟨o,its,n,hk,hc,hs,hz,r⟩
  · obtain ⟨z,its,r,p⟩:=h.ok I.hok
    exact ⟨its,r,p,z⟩
  · refine ⟨its.toList,r,⟨o,I.kIn a o hk,hc,n,by simpa using hs⟩,?_⟩
    have e:=r.length
    simp only [Array.length_toList] at e
    omega
theorem Inv.list_inj (I:Inv X pins σ H s) (h:SqL X.K H a xs) (h':SqL X.K H a ys):xs=ys:=by
  obtain ⟨its,r,⟨o,n,e,_,_,d⟩,_⟩:=I.list h
  obtain ⟨its',r',⟨o',n',e',_,_,d'⟩,_⟩:=I.list h'
  rw [e] at e';cases e'
  rw [d] at d'
  injection d' with d1 _
  have:its=its':=by simpa using congrArg Array.toList d1
  subst this
  exact r.inj r'
end
noncomputable abbrev Cx.wish (X:Cx) (E:Value→Shared→Prop):Cx:={ X with xe:=E }
noncomputable abbrev Cx.nox (X:Cx):Cx:=X.wish fun _ _=>False
theorem Cx.Ok.wish {X:Cx} (ok:X.Ok) (E:Value→Shared→Prop):(X.wish E).Ok :=
  ⟨ok.mod,ok.kind,ok.glob,ok.blt,ok.above,ok.inj,ok.has,ok.cab,ok.hd,ok.frames,ok.stk,ok.exf,ok.bs,ok.bsz,ok.noex,ok.exfs,ok.funs,ok.frf⟩
theorem Cx.Ok.unwish {X:Cx} {E:Value→Shared→Prop} (ok:(X.wish E).Ok):X.Ok :=
  ⟨ok.mod,ok.kind,ok.glob,ok.blt,ok.above,ok.inj,ok.has,ok.cab,ok.hd,ok.frames,ok.stk,ok.exf,ok.bs,ok.bsz,ok.noex,ok.exfs,ok.funs,ok.frf⟩
section
variable {X:Cx} {pins:List (Addr×Obj)} {σ:St} {H:Hp} {s:Shared} {E:Value→Shared→Prop}
theorem Inv.wish (I:Inv X pins σ H s) (E:Value→Shared→Prop):Inv (X.wish E) pins σ H s:=⟨I.ok.wish E,I.os,I.bare,I.base,I.loc,I.cell,I.free,I.freeC,I.pin,I.hok,I.len⟩
theorem Inv.unwish (I:Inv (X.wish E) pins σ H s):Inv X pins σ H s:=⟨I.ok.unwish,I.os,I.bare,I.base,I.loc,I.cell,I.free,I.freeC,I.pin,I.hok,I.len⟩
theorem SP.unwish {D:Ends} {f:Flow} {s':Shared} (h:SP (X.wish E) pins D f s'):SP X pins D f s':=by
  cases f with
  | next=>obtain ⟨σ',H',I,q⟩:=h;exact ⟨σ',H',I.unwish,q⟩
  | brk=>obtain ⟨σ',H',I,q⟩:=h;exact ⟨σ',H',I.unwish,q⟩
  | cont=>obtain ⟨σ',H',I,q⟩:=h;exact ⟨σ',H',I.unwish,q⟩
  | ret u=>obtain ⟨v,σ',H',I,r,q⟩:=h;exact ⟨v,σ',H',I.unwish,r,q⟩
theorem PSs.nox {st:List Stmt} {t:TS} (h:PSs X.nox st t):PSs X st t:=fun pins s σ H D I hw =>
  wpAny_mono (h pins s σ H D (I.wish _) hw) (fun _ _ q=>q.unwish) fun _ _ z=>False.elim z
end
section
variable {X:Cx} {st:Stmt} {rest:List Stmt} {t u:TS} {e:Expr} {te:TE} {pos:Pos}
noncomputable def tNext:TS:=fun D σ H=>D.nx σ H
noncomputable def tSeq (t u:TS):TS:=fun D σ H=>t { D with nx:=u D } σ H
theorem pss_nil:PSs X [] tNext:=fun _ _ σ H _ I h=>wpAny_execs_nil ⟨σ,H,I,h⟩
theorem pss_cons (h1:PS X st t) (h2:PSs X rest u):PSs X (st :: rest) (tSeq t u):=by
  intro pins s σ H D I h
  refine wpAny_execs_cons (thn (h1 pins s σ H { D with nx:=u D } I h) fun f s1 q=>?_)
  cases f with
  | next =>
    obtain ⟨σ',H',I',q⟩:=q
    exact h2 pins s1 σ' H' D I' q
  | ret v=>exact q
  | brk=>exact q
  | cont=>exact q
theorem pss_one (h1:PS X st t):PSs X [st] t:=by
  intro pins s σ H D I h
  refine wpAny_execs_cons (thn (h1 pins s σ H D I h) fun f s1 q=>?_)
  cases f with
  | next=>exact wpAny_execs_nil q
  | ret v=>exact q
  | brk=>exact q
  | cont=>exact q
theorem Inv.quiet {pins:List (Addr×Obj)} {σ:St} {H:Hp} {s:Shared} (I:Inv X pins σ H s):interactive X.env=false:=by simp [interactive,I.ok.kind]
noncomputable def tDrop (te:TE):TS:=fun D σ H=>te σ H fun _ H1=>D.nx σ H1
theorem ps_expr (he:PE X e te) (hs:swapsWith e none pos.line X.env=pure false:=by rfl):PS X (.Expr e pos) (tDrop te):=by
  intro pins s σ H D I h
  exact wpAny_Expr_any (thn (he pins s σ H _ I h) fun v s1 ⟨x,H1,I1,r1,q1⟩=>⟨σ,H1,I1,q1⟩) I.quiet hs
noncomputable def tRet (te:TE):TS:=fun D σ H=>te σ H D.rt
theorem ps_ret (he:PE X e te):PS X (.Return (some e) pos) (tRet te):=by
  intro pins s σ H D I h
  exact wpAny_Return_some (thn (he pins s σ H _ I h) fun v s1 ⟨x,H1,I1,r1,q1⟩=>⟨x,σ,H1,I1,r1,q1⟩)
noncomputable def tIfS (c:TT) (t u:TS):TS:=fun D σ H=>c σ H fun b H1=>if b=true then t D σ H1 else u D σ H1
theorem ps_if {c:Expr} {a b:List Stmt} {tc:TT} (hc:PT X c tc) (ha:PSs X a t) (hb:PSs X b u):PS X (.If c a b pos) (tIfS tc t u):=by
  intro pins s σ H D I h
  refine wpAny_If (thn (hc pins s σ H _ I h) fun d s1 ⟨H1,I1,q1⟩=>?_)
  cases d with
  | true=>exact ha pins s1 σ H1 D I1 q1
  | false=>exact hb pins s1 σ H1 D I1 q1
noncomputable def tNever:TS:=fun _ _ _=>False
theorem ps_never:PS X st tNever:=fun _ _ _ _ _ _ h=>h.elim
end
noncomputable abbrev TG:=V→St→Hp→(St→Hp→Prop)→Prop
noncomputable abbrev TGs:=List V→St→Hp→(St→Hp→Prop)→Prop
noncomputable def PG (X:Cx) (target:Expr) (t:TG):Prop :=
  ∀ (pins:List (Addr×Obj)) (s:Shared) (σ:St) (H:Hp) (v:V) (u:Value) (Q:St→Hp→Prop),Inv X pins σ H s→RelV v u→t v σ H Q →
    wpAny (model X.prog X.w) X.A (assign target X.env u) (fun _ s'=>∃ σ' H',Inv X pins σ' H' s'∧Q σ' H') X.xe s
noncomputable def PGs (X:Cx) (ts:List Expr) (t:TGs):Prop :=
  ∀ (pins:List (Addr×Obj)) (s:Shared) (σ:St) (H:Hp) (vs:List V) (us:List Value) (Q:St→Hp→Prop),Inv X pins σ H s→Vals vs us→t vs σ H Q →
    wpAny (model X.prog X.w) X.A (assignInOrder ((assignEach ts X.env).map (·.2)) us) (fun _ s'=>∃ σ' H',Inv X pins σ' H' s'∧Q σ' H') X.xe s
noncomputable abbrev TSet:=V→V→V→Hp→(Hp→Prop)→Prop
noncomputable def PSet (X:Cx) (t:TSet):Prop :=
  ∀ (pins:List (Addr×Obj)) (s:Shared) (σ:St) (H:Hp) (o i v:V) (ov iv u:Value) (Q:Hp→Prop),Inv X pins σ H s→RelV o ov→RelV i iv→RelV v u→t o i v H Q →
    wpAny (model X.prog X.w) X.A (setItem ov iv u) (fun _ s'=>∃ H',Inv X pins σ H' s'∧Q H') X.xe s
section
variable {X:Cx} {pos:Pos}
noncomputable def gName (i:Nat):TG:=fun v σ H Q=>Q (σ.set i (some v)) H
theorem pg_name {i:Nat} {x:Str} (hN:X.N.Nodup) (hi:X.N[i]?=some x) (hx:Loc X.env.scope x) (hf:X.fn x=true∨X.env.scope.names.lookup x=some .local:=by first | exact .inl rfl | exact .inr rfl | assumption):PG X (.Name x pos) (gName i):=by
  intro pins s σ H v u Q I r h
  exact wpAny_assign_Name (store_ok I hN hi hx r (fun s' I'=>⟨_,H,I',h⟩) hf)
noncomputable def gNil:TGs:=fun vs σ H Q=>vs=[]∧Q σ H
noncomputable def gCons (t:TG) (u:TGs):TGs:=fun vs σ H Q=>∃ v r,vs=v :: r∧t v σ H fun σ' H'=>u r σ' H' Q
theorem pgs_nil:PGs X [] gNil:=by
  intro pins s σ H vs us Q I r h
  obtain ⟨e,h⟩:=h
  subst e
  cases r
  exact assignInOrder_nil ⟨σ,H,I,h⟩
theorem pgs_cons {e:Expr} {es:List Expr} {t:TG} {u:TGs} (h1:PG X e t) (h2:PGs X es u)
    (hs:(assignEach (e :: es) X.env).map (·.2)=assign e X.env :: (assignEach es X.env).map (·.2):=by rfl):PGs X (e :: es) (gCons t u):=by
  intro pins s σ H vs us Q I r h
  obtain ⟨v,vr,e1,h⟩:=h
  subst e1
  cases r with
  | cons r rr =>
    rw [hs]
    refine assignInOrder_cons (thn (h1 pins s σ H _ _ _ I r h) fun _ s1 ⟨σ1,H1,I1,q1⟩=>?_)
    exact h2 pins s1 σ1 H1 _ _ Q I1 rr q1
noncomputable def gTup (K:PySem.W.Frag) (n:Nat) (t:TGs):TG:=fun v σ H Q=>∃ a xs,v=.ref a∧SqT K H a xs∧xs.length=n∧t xs σ H Q
theorem pg_tup {es:List Expr} {k:Nat} {t:TGs} {n:Nat} (hc:X.calm=true) (h:PGs X es t)
    (hn:(assignEach es X.env).length=n:=by rfl) (hst:(assignEach es X.env).findIdx? (·.1)=none:=by rfl):PG X (.Tuple es k pos) (gTup X.K n t):=by
  intro pins s σ H v u Q I r hw
  obtain ⟨a,xs,e1,hq,hl,hw⟩:=hw
  subst e1
  cases r
  obtain ⟨its,rv,ht,hz⟩:=I.tuple hq
  refine assign_Tuple_tuple (I.ok.hd hc) ht (by simp [hn,← hl,rv.length]) hst fun h' hx=>?_
  have I1:Inv X pins σ H { s with heap:=h' }:=I.kept (t':=s.toks) fun b o e=>hx b o (Nat.ne_of_lt (Heap.lt_size e)) e
  exact h pins _ σ H xs _ Q I1 (by simpa using rv) hw
noncomputable def gSub (to ti:TE) (t:TSet):TG:=fun v σ H Q=>to σ H fun o H1=>ti σ H1 fun i H2=>t o i v H2 fun H3=>Q σ H3
theorem pg_sub {o i:Expr} {to ti:TE} {t:TSet} (ho:PE X o to) (hi:PE X i ti) (hs:PSet X t)
    (ha:∀ v,assign (.Subscript o i pos) X.env v=(do
      let ov ← holding [v] (eval o X.env)
      let iv ← holding [v,ov] (eval i X.env)
      standAt pos
      holding [v,ov,iv] (setItem ov iv v)
      release [v,ov,iv] []):=by intro _;rfl):PG X (.Subscript o i pos) (gSub to ti t):=by
  intro pins s σ H v u Q I r h
  rw [ha]
  refine wpAny_bind (wpAny_holding (thn (ho pins s σ H _ I h) fun ov s1 ⟨x,H1,I1,r1,q1⟩=>?_))
  refine wpAny_bind (wpAny_holding (thn (hi pins s1 σ H1 _ I1 q1) fun iv s2 ⟨y,H2,I2,r2,q2⟩=>?_))
  refine wpAny_bind (wpAny_standAt (wpAny_bind (wpAny_holding (thn (hs pins s2 σ H2 x y v ov iv u _ I2 r1 r2 r q2) fun _ s3 ⟨H3,I3,q3⟩=>?_))))
  exact wpAny_release ⟨σ,H3,I3,q3⟩
noncomputable def tAsg (te:TE) (g:TG):TS:=fun D σ H=>te σ H fun x H1=>g x σ H1 D.nx
theorem ps_asg {tg e:Expr} {te:TE} {g:TG} (he:PE X e te) (hg:PG X tg g) (hs:swapsWithSole [tg] e pos.line X.env=pure false:=by rfl) (hw:swappedStores [tg] e X.env=pure none:=by rfl)
    (h1:(assignEach [tg] X.env).map (·.2)=[assign tg X.env]:=by rfl):PS X (.Assign [tg] e pos) (tAsg te g):=by
  intro pins s σ H D I h
  refine wpAny_Assign_stores (thn (he pins s σ H _ I h) fun v s1 ⟨x,H1,I1,r1,q1⟩=>?_) hs hw
  rw [h1]
  exact thn (hg pins s1 σ H1 x v _ I1 r1 q1) fun _ s2 q=>q
theorem ps_set {i:Nat} {x:Str} {e:Expr} {te:TE} {pos':Pos} (hN:X.N.Nodup) (hi:X.N[i]?=some x) (hx:Loc X.env.scope x) (he:PE X e te) (hs:swapsWith e (some (.Name x pos')) pos.line X.env=pure false:=by rfl) (hf:X.fn x=true∨X.env.scope.names.lookup x=some .local:=by first | exact .inl rfl | exact .inr rfl | assumption) :
    PS X (.Assign [.Name x pos'] e pos) (tAsg te (gName i)):=by
  intro pins s σ H D I h
  refine wpAny_Assign_Name (thn (he pins s σ H _ I h) fun v s1 ⟨y,H1,I1,r1,q1⟩=>?_) hs
  exact store_ok I1 hN hi hx r1 (fun s2 I2=>⟨_,H1,I2,q1⟩) hf
noncomputable def tPar (i j:Nat) (ta:TA):TS:=fun D σ H=>ta σ H fun vs H1=>∃ v w,vs=[v,w]∧D.nx ((σ.set i (some v)).set j (some w)) H1
theorem ps_par {i j:Nat} {x y:Str} {a b:Expr} {ta:TA} {px py pt:Pos} {kt k2 pt2} (hc:X.calm=true) (hN:X.N.Nodup) (hi:X.N[i]?=some x) (hj:X.N[j]?=some y) (hij:i≠j)
    (hx:X.env.scope.names.lookup x=some .local) (hy:X.env.scope.names.lookup y=some .local) (ha:PA X [a,b] ta)
    (hw:swappedStores [.Tuple [.Name x px,.Name y py] kt pt] (.Tuple [a,b] k2 pt2) X.env=pure (some [x,y]))
    (hs:swapsWithSole [.Tuple [.Name x px,.Name y py] kt pt] (.Tuple [a,b] k2 pt2) pos.line X.env=pure false:=by rfl) :
    PS X (.Assign [.Tuple [.Name x px,.Name y py] kt pt] (.Tuple [a,b] k2 pt2) pos) (tPar i j ta):=by
  intro pins s σ H D I h
  rw [exec_Assign_arm]
  refine wpAny_bind (wpAny_standAt ?_)
  rw [hs]
  refine wpAny_bind (wpAny_pure ?_)
  rw [if_neg (by decide)]
  refine wpAny_bind (Tuple_ (thn (ha _ pins s σ H _ I h) fun us s1 ⟨vs,H1,I1,r1,q1⟩=>?_))
  obtain ⟨v,w,e1,q1⟩:=q1
  subst e1
  obtain ⟨u1,u2,rfl,rv,rw'⟩:∃ u1 u2,us=[u1,u2]∧RelV v u1∧RelV w u2:=by
    cases r1 with
    | cons p q =>
      cases q with
      | cons p' q' =>
        cases q'
        exact ⟨_,_,rfl,p,p'⟩
  refine wpAny_newObj_type ?_ (by show 2≤sizeLine;decide)
  have I2:Inv X pins σ H1 { s1 with heap:=s1.heap.push { cls:=.type "tuple",data:=.seq [u1,u2].toArray } }:=I1.kept (t':=s1.toks) fun b o e=>Heap.get?_push_of_some _ e
  rw [hw]
  refine wpAny_bind (wpAny_pure ?_)
  show wpAny (model X.prog X.w) X.A (do rule "assign.swapped-stores";let items ← unpackItems (.ref s1.heap.objs.size) 2 none;assignInOrder [fun v=>bindName X.env y v,fun v=>bindName X.env x v] items.reverse;pure Flow.next) _ _ _
  refine wpAny_bind (wpAny_rule (wpAny_bind (unpackItems_tuple (items:=#[u1,u2]) (I.ok.hd hc) (IsTup.new s1.heap _) fun h' hx'=>?_)))
  have I3:=I2.kept (h':=h') (t':=s1.toks) fun b o e=>hx' b o (Nat.ne_of_lt (Heap.lt_size e)) e
  show wpAny _ _ (assignInOrder [fun v=>bindName X.env y v,fun v=>bindName X.env x v] [u2,u1] >>= fun _=>pure Flow.next) _ _ _
  refine wpAny_bind (assignInOrder_cons (wpAny_bindName (store_ok I3 hN hj (.inl hy) rw' (fun s2 I4=>?_) (.inr hy))))
  refine assignInOrder_cons (wpAny_bindName (store_ok I4 hN hi (.inl hx) rv (fun s3 I5=>assignInOrder_nil (wpAny_pure ?_)) (.inr hx)))
  rw [List.set_comm _ _ (Ne.symm hij)] at I5
  exact ⟨_,H1,I5,q1⟩
end
section
variable {X:Cx} {pos:Pos}
noncomputable def tWhile (c:TT) (tb:TS):TS:=fun D σ H=>∃ W:Nat→St→Hp→Prop,(∃ m,W m σ H)∧∀ m σ H,W m σ H →
  c σ H fun b H1=>if b=true then ∃ N:St→Hp→Prop,(∀ σ' H',N σ' H'→∃ m',m' < m∧W m' σ' H')∧tb { D with nx:=N,ct:=N,bk:=D.nx } σ H1 else D.nx σ H1
theorem ps_while {c:Expr} {body:List Stmt} {tc:TT} {tb:TS} (hp:PassesOwn (model X.prog X.w) X.A X.env X.xe) (hc:PT X c tc) (hb:PSs X body tb):PS X (.While c body [] pos) (tWhile tc tb):=by
  intro pins s σ H D I h
  obtain ⟨W,⟨m0,w0⟩,turn⟩:=h
  refine wpAny_While (codeAny_whileLoop (fun n s'=>∃ σ' H',Inv X pins σ' H' s'∧W n σ' H') ?_ m0 ⟨σ,H,I,w0⟩)
  rintro n s1 ⟨σ1,H1,I1,w1⟩
  refine wpAny_passesOwn hp (thn (hc pins s1 σ1 H1 _ I1 (turn n σ1 H1 w1)) fun b s2 ⟨H2,I2,q2⟩=>?_)
  cases b with
  | true =>
    obtain ⟨N,hN,q2⟩:=q2
    rw [if_pos rfl]
    refine wpAny_passesOwn hp (thn (hb pins s2 σ1 H2 _ I2 q2) fun f s3 q3=>?_)
    cases f with
    | next =>
      obtain ⟨σ3,H3,I3,n3⟩:=q3
      obtain ⟨m',hm,w3⟩:=hN σ3 H3 n3
      exact ⟨m',hm,σ3,H3,I3,w3⟩
    | cont =>
      obtain ⟨σ3,H3,I3,n3⟩:=q3
      obtain ⟨m',hm,w3⟩:=hN σ3 H3 n3
      exact ⟨m',hm,σ3,H3,I3,w3⟩
    | brk=>exact q3
    | ret v=>exact q3
  | false =>
    rw [if_neg Bool.false_ne_true]
    exact wpAny_execs_nil ⟨σ1,H2,I2,q2⟩
end
structure It where
  go:Nat→Hp→Prop
  yld:Nat→Hp→V→Hp→Prop
  stop:Nat→Hp→Prop
noncomputable def FpOk (X:Cx) (pins:List (Addr×Obj)) (H:Hp) (b:Addr):Prop :=
  H b=none∧b≠X.env.locals∧b∉X.fs∧(b∈X.ex∨X.s₀.heap.objs.size≤b)∧(∀ x c,X.env.cells.lookup x=some c→c≠b)∧∀ p∈X.pn ++ pins,p.1≠b
theorem Inv.fpOk {X:Cx} {pins:List (Addr×Obj)} {σ:St} {H H':Hp} {s:Shared} {b:Addr} (I:Inv X pins σ H s) (hb:s.heap.objs.size≤b) (hn:H' b=none):FpOk X pins H' b:=by
  refine ⟨hn,Nat.ne_of_gt (Nat.lt_of_lt_of_le I.lt hb),I.nofs hb,.inr (Nat.le_trans I.sz hb),fun x c e z=>?_,fun p hp z=>?_⟩
  · obtain ⟨v,q⟩:=I.cell x c e
    exact absurd (Nat.lt_of_lt_of_le q.lt (by rw [z];exact hb)) (Nat.lt_irrefl _)
  · exact absurd (Nat.lt_of_lt_of_le (Heap.lt_size (I.pin p hp).1) (by rw [z];exact hb)) (Nat.lt_irrefl _)
structure Turn (P:Program) (w:World) (K:PySem.W.Frag) (tg:Expr) (J:It) (fp:List Addr) (it:Addr) (tn:Nat→Heap→Prop):Prop where
  mem:it∈fp
  obj:∀ i h,tn i h→∀ b∈fp,∃ o,h.get? b=some o∧∀ v,o.data≠.cell v
  keep:∀ i h h',tn i h→(∀ b∈fp,∀ o,h.get? b=some o→h'.get? b=some o)→tn i h'
  item:∀ (X:Cx),X.prog=P→X.w=w→X.K=K→X.calm=true→∀ (i:Nat) (pins:List (Addr×Obj)) (s:Shared) (σ:St) (H:Hp) (E:Value→Shared→Prop),Inv X pins σ H s→(∀ b∈fp,FpOk X pins H b)→tn i s.heap→J.go i H →
    wpAny (model P w) X.A (pyNext (.ref it)) (fun r s1=>∃ u,r=some u ∧
      wpAny (model P w) X.A (letOwnedTupleGo tg (.ref it) u) (fun _ s2=>∃ x H',Inv X pins σ H' s2∧RelV x u∧J.yld i H x H'∧tn (i+1) s2.heap∧∀ b∈fp,H' b=none) E s1) E s
  done:∀ (X:Cx),X.prog=P→X.w=w→X.K=K→X.calm=true→∀ (i:Nat) (pins:List (Addr×Obj)) (s:Shared) (σ:St) (H:Hp) (E:Value→Shared→Prop),Inv X pins σ H s→(∀ b∈fp,FpOk X pins H b)→tn i s.heap→J.stop i H →
    wpAny (model P w) X.A (pyNext (.ref it)) (fun r s1=>r=none∧Inv X pins σ H s1) E s
  self:∀ (A:Around) (i:Nat) (s:Shared) (Q:Value→Shared→Prop) (E:Value→Shared→Prop),tn i s.heap→Q (.ref it) s→wpAny (model P w) A (pyIter (.ref it)) Q E s
noncomputable abbrev TI:=St→Hp→(It→Hp→Prop)→Prop
noncomputable def PIE (X:Cx) (pins:List (Addr×Obj)) (σ:St) (tg:Expr) (R:It→Hp→Prop) (itv:Value) (s2:Shared):Prop :=
  ∃ (it:Addr) (fp:List Addr) (tn:Nat→Heap→Prop) (J:It) (H':Hp),itv=.ref it∧Inv X pins σ H' s2∧Turn X.prog X.w X.K tg J fp it tn∧tn 0 s2.heap∧(∀ b∈fp,FpOk X pins H' b)∧R J H'
noncomputable def PI (X:Cx) (tg iter:Expr) (wi:TI):Prop :=
  ∀ (pins:List (Addr×Obj)) (s:Shared) (σ:St) (H:Hp) (R:It→Hp→Prop),Inv X pins σ H s→wi σ H R →
    wpAny (model X.prog X.w) X.A (eval iter X.env) (fun v s1=>wpAny (model X.prog X.w) X.A (pyIter v) (PIE X pins σ tg R) X.xe s1) X.xe s
theorem go_of {M:Model} {A:Around} {E:Value→Shared→Prop} {s:Shared} {tg:Expr} {it:Addr} {u:Value} {o:Obj} {n:String} {vs:Array Value} {Q:Unit→Shared→Prop} (ho:s.heap.get? it=some o) (hc:o.cls=.type n) (hd:o.data=.fields vs)
    (hn:["enumerate", "zip", "dict_itemiterator", "dict_reverseitemiterator", "odict_iterator", "itertools.zip_longest", "itertools.pairwise"].contains n=false) (hQ:Q () s):wpAny M A (letOwnedTupleGo tg (.ref it) u) Q E s:=by
  unfold letOwnedTupleGo
  cases tg <;> first
    | exact wpAny_pure hQ
    | (cases u <;> first
        | exact wpAny_pure hQ
        | (refine wpAny_bind (wpAny_load ho ?_)
           rw [hc,hd]
           show wpAny M A (if (["enumerate", "zip", "dict_itemiterator", "dict_reverseitemiterator", "odict_iterator", "itertools.zip_longest", "itertools.pairwise"].contains n && vs[0]? == some (rawInt _))=true then _ else _) Q E s
           rw [if_neg (by intro h;rw [hn,Bool.false_and] at h;cases h)]
           exact wpAny_pure hQ))
noncomputable def Itl (K:PySem.W.Frag) (a:Addr):It :=
  ⟨fun i H=>∃ xs x,SqL K H a xs∧xs[i]?=some x,fun i H x H'=>H'=H∧∀ xs,SqL K H a xs→xs[i]?=some x,fun i H=>∃ xs,SqL K H a xs∧xs.length≤i⟩
noncomputable def Itr (lo:Int) (n:Nat):It:=⟨fun i _=>i < n,fun i H x H'=>H'=H∧x=.int (lo+i),fun i _=>n≤i⟩
theorem turn_list {P:Program} {w:World} {K:PySem.W.Frag} {tg:Expr} (a it:Addr):Turn P w K tg (Itl K a) [it] it (fun i h=>h.IsListIter it a i) where
  mem:=by simp
  obj:=fun i h st b hb=>by
    have e:b=it:=by simpa using hb
    subst e
    obtain ⟨o,e,c,d⟩:=st
    exact ⟨o,e,fun v z=>by rw [d] at z;cases z⟩
  keep:=fun i h h' st k=>st.at fun o e=>k it (by simp) o e
  item:=by
    intro X hP hw hK hc i pins s σ H E I hf st hg
    subst hP hw hK
    obtain ⟨xs,x,hq,hx⟩:=hg
    obtain ⟨its,rv,p,hz⟩:=I.list hq
    obtain ⟨u,hu,ru⟩:=rv.get hx
    obtain ⟨f0,f1,f2,f3,f4,f5⟩:=hf it (by simp)
    refine wpAny_pyNext_list_item st p.isList (x:=u) (by simpa using hu) fun h' st' sb=>?_
    have I1:Inv X pins σ H { s with heap:=h' }:=I.turned (t':=s.toks) (fun b o hb e=>(sb.2 b hb).trans e) f0 f1 f3 f4 f5
    obtain ⟨o,e,c,d⟩:=id st'
    exact ⟨u,rfl,go_of (s:={ s with heap:=h' }) e c d (by decide) ⟨x,H,I1,ru,⟨rfl,fun ys hy=>by rw [I.list_inj hy hq];exact hx⟩,st',fun b hb=>(hf b hb).1⟩⟩
  done:=by
    intro X hP hw hK hc i pins s σ H E I hf st hg
    subst hP hw hK
    obtain ⟨xs,hq,hx⟩:=hg
    obtain ⟨its,rv,p,hz⟩:=I.list hq
    obtain ⟨f0,f1,f2,f3,f4,f5⟩:=hf it (by simp)
    have hl:=rv.length
    exact wpAny_pyNext_list_end (I.ok.hd hc) st p.isList (by simp;omega) fun h' eb=>⟨rfl,I.turned (t':=s.toks) (fun b o hb e=>eb b o hb e) f0 f1 f3 f4 f5⟩
  self:=fun _ _ _ _ _ st h=>wpAny_pyIter_listiter st h
theorem turn_range {P:Program} {w:World} {K:PySem.W.Frag} {tg:Expr} (it:Addr) (lo:Int) (n:Nat):Turn P w K tg (Itr lo n) [it] it (fun i h=>IsRangeIter h it (lo+(i:Nat) * 1) ((n:Int) - (i:Nat)) 1) where
  mem:=by simp
  obj:=fun i h st b hb=>by
    have e:b=it:=by simpa using hb
    subst e
    exact ⟨_,st,fun v z=>by
      have z':Data.fields _=Data.cell v:=z
      cases z'⟩
  keep:=fun i h h' st k=>k it (by simp) _ st
  item:=by
    intro X hP hw hK hc i pins s σ H E I hf st hg
    subst hP hw hK
    obtain ⟨f0,f1,f2,f3,f4,f5⟩:=hf it (by simp)
    have W:=Walks.range (prog:=X.prog) (w:=X.w) (I.ok.hd hc) it lo 1 n
    refine W.item i s _ _ hg st fun v h' tk hv st' kk=>?_
    obtain ⟨t,rfl⟩:=hv
    have I1:Inv X pins σ H { s with heap:=h',toks:=tk }:=I.turned (fun b o hb e=>kk b o (by simpa using hb) e) f0 f1 f3 f4 f5
    refine ⟨_,rfl,go_of (s:={ s with heap:=h',toks:=tk }) (n:="range_iterator") st' rfl rfl (by decide) ⟨.int (lo+i),H,I1,⟨t,?_⟩,⟨rfl,rfl⟩,st',fun b hb=>(hf b hb).1⟩⟩
    rw [Int.mul_one]
  done:=by
    intro X hP hw hK hc i pins s σ H E I hf st hg
    subst hP hw hK
    obtain ⟨f0,f1,f2,f3,f4,f5⟩:=hf it (by simp)
    exact wpAny_pyNext_range_end (I.ok.hd hc) st (by have:n≤i:=hg;omega) fun h' eb=>⟨rfl,I.turned (t':=s.toks) (fun b o hb e=>eb b o hb e) f0 f1 f3 f4 f5⟩
  self:=fun _ _ _ _ _ st h=>wpAny_pyIter_rangeiter st h
end L2
namespace L2
open PySem PySem.Spec PyProof.Rows
section
variable {X:Cx} {tg:Expr}
noncomputable def iList (K:PySem.W.Frag) (tl:TE):TI:=fun σ H R=>tl σ H fun x H1=>exR x fun a=>(∃ xs,SqL K H1 a xs)∧R (Itl K a) H1
theorem pi_list {l:Expr} {tl:TE} (hl:PE X l tl):PI X tg l (iList X.K tl):=by
  intro pins s σ H R I h
  refine thn (hl pins s σ H _ I h) fun v s1 ⟨x,H1,I1,r1,q1⟩=>?_
  obtain ⟨a,e,⟨xs,hq⟩,q⟩:=Eq.mp exR_ex q1
  subst e
  cases r1
  obtain ⟨its,rv,p,hz⟩:=I1.list hq
  refine wpAny_pyIter_list p.isList ?_
  refine ⟨s1.heap.objs.size,[s1.heap.objs.size],_,_,H1,rfl,I1.kept (t':=s1.toks) fun b o e=>Heap.get?_push_of_some _ e,turn_list a _,⟨_,Heap.get?_push_size _ rfl,rfl,rfl⟩,fun b hb=>?_,q⟩
  have e:b=s1.heap.objs.size:=by simpa using hb
  subst e
  exact I1.fpOk (Nat.le_refl _) (I1.hok.fresh (Nat.le_refl _))
theorem range_it {pins:List (Addr×Obj)} {σ:St} {H:Hp} {s:Shared} {R:It→Hp→Prop} {E:Value→Shared→Prop} {lo hi:Int} {t u v:Tok} {tk:Nat} (I:Inv X pins σ H s) (h1:-(2 ^ 62)≤lo) (h2:lo < 2 ^ 62) (h3:-(2 ^ 62)≤hi) (h4:hi < 2 ^ 62)
    (q:R (Itr lo (hi - lo).toNat) H):wpAny (model X.prog X.w) X.A (pyIter (.ref s.heap.objs.size)) (PIE X pins σ tg R) E { s with heap:=s.heap.push { cls:=.type "range",data:=.fields #[.int lo t,.int hi u,.int 1 v] },toks:=tk }:=by
  refine wpAny_pyIter_range (IsRange.new ..) (small_one h1 h2 h3 h4) ?_
  have I1:Inv X pins σ H { s with heap:=s.heap.push { cls:=.type "range",data:=.fields #[.int lo t,.int hi u,.int 1 v] },toks:=tk }:=I.kept fun b o e=>Heap.get?_push_of_some _ e
  refine ⟨(s.heap.push { cls:=.type "range",data:=.fields #[.int lo t,.int hi u,.int 1 v] }).objs.size,[(s.heap.push { cls:=.type "range",data:=.fields #[.int lo t,.int hi u,.int 1 v] }).objs.size],_,_,H,rfl,
    I1.kept (t':=tk) fun b o e=>Heap.get?_push_of_some _ e,turn_range _ lo (hi - lo).toNat,?_,fun b hb=>?_,q⟩
  · have e1:lo+((0:Nat):Int) * 1=lo:=by simp
    have e2:(((hi - lo).toNat:Nat):Int) - ((0:Nat):Int)=Builtin.Range.rangeSize lo hi 1:=by rw [rangeSize_one];split <;> omega
    show IsRangeIter _ _ (lo+((0:Nat):Int) * 1) ((((hi - lo).toNat:Nat):Int) - ((0:Nat):Int)) 1
    rw [e1,e2]
    exact Heap.get?_push_size _ rfl
  · have e:b=(s.heap.push { cls:=.type "range",data:=.fields #[.int lo t,.int hi u,.int 1 v] }).objs.size:=by simpa using hb
    subst e
    exact I1.fpOk (Nat.le_refl _) (I1.hok.fresh (Nat.le_refl _))
noncomputable def iRng1 (ta:TA):TI:=fun σ H R=>ta σ H fun vs H1=>∃ j:Int,vs=[.int j]∧-(2 ^ 62)≤j∧j < 2 ^ 62∧R (Itr 0 j.toNat) H1
theorem pi_range1 {a:Expr} {ta:TA} {p pos:Pos} (hg:Gl X "range") (hm:X.mg "range" = none) (ha:PA X [a] ta) (hs:starEach [a] X.env=[(false,eval a X.env)]:=by rfl):PI X tg (.Call (.Name "range" p) [a] [] pos) (iRng1 ta):=by
  intro pins s σ H R I h
  refine Call_ (ld_blt I hg hm boot_range (PyProof.Rows.callWith_type1 (thn (ha pos pins s σ H _ I h) fun us s1 ⟨vs,H1,I1,r1,q1⟩=>?_) hs rfl))
  obtain ⟨j,e,q1,q2,q⟩:=q1
  subst e
  cases r1 with
  | cons r rr =>
    cases rr
    obtain ⟨t,rfl⟩:=r
    exact call_range_1 (range_it I1 (by omega) (by omega) q1 q2 (by simpa using q))
noncomputable def tFor (wi:TI) (g:TG) (tb:TS):TS:=fun D σ H=>wi σ H fun J H1=>∃ W:Nat→Nat→St→Hp→Prop,(∃ m,W 0 m σ H1)∧∀ i m σ H,W i m σ H →
  (J.stop i H∧D.nx σ H)∨(J.go i H∧∃ N:St→Hp→Prop,(∀ σ' H',N σ' H'→∃ m',m' < m∧W (i+1) m' σ' H')∧∀ x H',J.yld i H x H'→g x σ H' fun σ2 H2=>tb { D with nx:=N,ct:=N,bk:=D.nx } σ2 H2)
noncomputable def pinsAt (fp:List Addr) (h:Heap):List (Addr×Obj):=fp.filterMap fun b=>(h.get? b).map fun o=>(b,o)
theorem mem_pinsAt {fp:List Addr} {h:Heap} {b:Addr} {o:Obj} (hb:b∈fp) (e:h.get? b=some o):(b,o)∈pinsAt fp h:=List.mem_filterMap.mpr ⟨b,hb,by rw [e];rfl⟩
theorem of_pinsAt {fp:List Addr} {h:Heap} {p:Addr×Obj} (hp:p∈pinsAt fp h):p.1∈fp∧h.get? p.1=some p.2:=by
  obtain ⟨b,hb,e⟩:=List.mem_filterMap.mp hp
  cases q:h.get? b with
  | none=>rw [q] at e;cases e
  | some o =>
    rw [q] at e
    have e':(b,o)=p:=Option.some.inj e
    subst e'
    exact ⟨hb,q⟩
theorem Inv.pinned {pins:List (Addr×Obj)} {σ:St} {H:Hp} {s:Shared} {fp:List Addr} (I:Inv X pins σ H s) (hf:∀ b∈fp,FpOk X pins H b) (ho:∀ b∈fp,∃ o,s.heap.get? b=some o∧∀ v,o.data≠.cell v):Inv X (pins ++ pinsAt fp s.heap) σ H s :=
  I.pins_of fun p hp=>(List.mem_append.mp hp).elim (fun z=>I.pin p (List.mem_append_right _ z)) fun z=>by
    obtain ⟨hb,e⟩:=of_pinsAt z
    obtain ⟨f0,f1,f2,_⟩:=hf p.1 hb
    obtain ⟨o,e',d⟩:=ho p.1 hb
    rw [e] at e';cases e'
    exact ⟨e,f0,f1,f2,d⟩
theorem Inv.unpinned {pins pl:List (Addr×Obj)} {σ:St} {H:Hp} {s:Shared} (I:Inv X (pins ++ pl) σ H s):Inv X pins σ H s:=I.pins_of fun p hp=>I.pin p (List.mem_append_right _ (List.mem_append_left _ hp))
theorem ps_for {iter:Expr} {body:List Stmt} {wi:TI} {g:TG} {tb:TS} {pos:Pos} (hp:PassesOwn (model X.prog X.w) X.A X.env X.xe) (hc:X.calm=true) (hi:PI X tg iter wi) (hg:PG X tg g) (hb:PSs X body tb)
    (hs:∀ x,foldedSetIterable iter X.env x=pure x:=by intro _;rfl):PS X (.For tg iter body [] pos) (tFor wi g tb):=by
  intro pins s σ H D I h
  refine wpAny_For (thn (hi pins s σ H _ I h) fun v s1 h1=>thn h1 fun itv s2 h2=>?_) hs
  obtain ⟨it,fp,tn,J,H2,e,I2,T,st2,f2,W,⟨m0,w0⟩,turn⟩:=h2
  subst e
  -- what stays true of the iterator's objects through the loop
  have stat:∀ {H':Hp},(∀ b∈fp,H' b=none)→∀ b∈fp,FpOk X pins H' b:=fun hn b hb=>⟨hn b hb,(f2 b hb).2⟩
  refine codeAny_forLoop_any (fun n s'=>∃ i σ' H',Inv X pins σ' H' s'∧tn i s'.heap∧(∀ b∈fp,H' b=none)∧W i n σ' H') ?_ m0 ⟨0,σ,H2,I2,st2,fun b hb=>(f2 b hb).1,w0⟩
  rintro n s3 ⟨i,σ3,H3,I3,st3,fr3,w3⟩
  rcases turn i n σ3 H3 w3 with ⟨stop,qn⟩ | ⟨go,N,hN,step⟩
  · refine wpAny_passesOwn hp (thn (T.done X rfl rfl rfl hc i pins s3 σ3 H3 X.xe I3 (stat fr3) st3 stop) fun r s4 ⟨hr,I4⟩=>?_)
    subst hr
    exact wpAny_execs_nil ⟨σ3,H3,I4,qn⟩
  · refine wpAny_passesOwn hp (thn (T.item X rfl rfl rfl hc i pins s3 σ3 H3 X.xe I3 (stat fr3) st3 go) fun r s4 ⟨u,hr,h4⟩=>?_)
    subst hr
    refine wpAny_passesOwn hp (thn h4 fun _ s5 ⟨x,H5,I5,r5,y5,st5,fr5⟩=>?_)
    have I5':=I5.pinned (stat fr5) (T.obj _ _ st5)
    refine wpAny_passesOwn hp (thn (hg _ s5 σ3 H5 x u _ I5' r5 (step x H5 y5)) fun _ s6 ⟨σ6,H6,I6,q6⟩=>?_)
    refine wpAny_passesOwn hp (thn (hb _ s6 σ6 H6 _ I6 q6) fun f s7 q7=>?_)
    have again:∀ {σ7:St} {H7:Hp},Inv X (pins ++ pinsAt fp s5.heap) σ7 H7 s7→N σ7 H7→∃ m,m < n∧∃ i σ' H',Inv X pins σ' H' s7∧tn i s7.heap∧(∀ b∈fp,H' b=none)∧W i m σ' H':=fun {σ7 H7} I7 n7=>by
      obtain ⟨m',hm,w7⟩:=hN σ7 H7 n7
      refine ⟨m',hm,i+1,σ7,H7,I7.unpinned,T.keep _ _ _ st5 fun b hb o e=>(I7.pin (b,o) (List.mem_append_right _ (List.mem_append_right _ (mem_pinsAt hb e)))).1,fun b hb=>?_,w7⟩
      obtain ⟨o,e,d⟩:=T.obj _ _ st5 b hb
      exact (I7.pin (b,o) (List.mem_append_right _ (List.mem_append_right _ (mem_pinsAt hb e)))).2.1
    cases f with
    | next=>obtain ⟨σ7,H7,I7,n7⟩:=q7;exact again I7 n7
    | cont=>obtain ⟨σ7,H7,I7,n7⟩:=q7;exact again I7 n7
    | brk=>obtain ⟨σ7,H7,I7,q7⟩:=q7;exact ⟨σ7,H7,I7.unpinned,q7⟩
    | ret v=>obtain ⟨x7,σ7,H7,I7,r7,q7⟩:=q7;exact ⟨x7,σ7,H7,I7.unpinned,r7,q7⟩
end
theorem for_list {K:PySem.W.Frag} {a:Addr} {xs:List V} {g:TG} {tb:TS} {D:Ends} {σ:St} {H:Hp} (Pv:Nat→St→Hp→Prop) (h0:Pv 0 σ H) (hl:∀ i σ H,i≤xs.length→Pv i σ H→SqL K H a xs)
    (hs:∀ i x σ H,xs[i]?=some x→Pv i σ H→g x σ H fun σ2 H2=>tb { D with nx:=Pv (i+1),ct:=Pv (i+1),bk:=D.nx } σ2 H2) (hd:∀ σ H,Pv xs.length σ H→D.nx σ H) :
    ∃ W:Nat→Nat→St→Hp→Prop,(∃ m,W 0 m σ H)∧∀ i m σ H,W i m σ H →
      ((Itl K a).stop i H∧D.nx σ H)∨((Itl K a).go i H∧∃ N:St→Hp→Prop,(∀ σ' H',N σ' H'→∃ m',m' < m∧W (i+1) m' σ' H')∧∀ x H',(Itl K a).yld i H x H'→g x σ H' fun σ2 H2=>tb { D with nx:=N,ct:=N,bk:=D.nx } σ2 H2):=by
  refine ⟨fun i m σ H=>m=xs.length - i∧i≤xs.length∧Pv i σ H,⟨xs.length,by simp,Nat.zero_le _,h0⟩,?_⟩
  rintro i m σ H ⟨rfl,hi,p⟩
  have q:=hl i σ H hi p
  by_cases hlt:i < xs.length
  · refine .inr ⟨⟨xs,xs[i],q,by simp [hlt]⟩,Pv (i+1),fun σ' H' p'=>⟨xs.length - (i+1),by omega,rfl,hlt,p'⟩,fun x H' y=>?_⟩
    obtain ⟨e,y⟩:=y
    subst e
    exact hs i x σ _ (y xs q) p
  · have e:i=xs.length:=by omega
    subst e
    exact .inl ⟨⟨xs,q,Nat.le_refl _⟩,hd σ H p⟩
theorem for_range {lo:Int} {n:Nat} {g:TG} {tb:TS} {D:Ends} {σ:St} {H:Hp} (Pv:Nat→St→Hp→Prop) (h0:Pv 0 σ H)
    (hs:∀ i σ H,i < n→Pv i σ H→g (.int (lo+i)) σ H fun σ2 H2=>tb { D with nx:=Pv (i+1),ct:=Pv (i+1),bk:=D.nx } σ2 H2) (hd:∀ σ H,Pv n σ H→D.nx σ H) :
    ∃ W:Nat→Nat→St→Hp→Prop,(∃ m,W 0 m σ H)∧∀ i m σ H,W i m σ H →
      ((Itr lo n).stop i H∧D.nx σ H)∨((Itr lo n).go i H∧∃ N:St→Hp→Prop,(∀ σ' H',N σ' H'→∃ m',m' < m∧W (i+1) m' σ' H')∧∀ x H',(Itr lo n).yld i H x H'→g x σ H' fun σ2 H2=>tb { D with nx:=N,ct:=N,bk:=D.nx } σ2 H2):=by
  refine ⟨fun i m σ H=>m=n - i∧i≤n∧Pv i σ H,⟨n,by simp,Nat.zero_le _,h0⟩,?_⟩
  rintro i m σ H ⟨rfl,hi,p⟩
  by_cases hlt:i < n
  · refine .inr ⟨hlt,Pv (i+1),fun σ' H' p'=>⟨n - (i+1),by omega,rfl,hlt,p'⟩,fun x H' y=>?_⟩
    obtain ⟨e,y⟩:=y
    subst e y
    exact hs i σ _ hlt p
  · have e:i=n:=by omega
    subst e
    exact .inl ⟨Nat.le_refl _,hd σ H p⟩
theorem while_by {c:TT} {tb:TS} {D:Ends} {σ:St} {H:Hp} (Pv:St→Hp→Prop) (μ:St→Hp→Nat) (h0:Pv σ H)
    (hs:∀ σ H,Pv σ H→c σ H fun b H1=>if b=true then tb { D with nx:=fun σ' H'=>Pv σ' H'∧μ σ' H' < μ σ H,ct:=fun σ' H'=>Pv σ' H'∧μ σ' H' < μ σ H,bk:=D.nx } σ H1 else D.nx σ H1)
    (mono:∀ σ H Q Q',(∀ b H1,Q b H1→Q' b H1)→c σ H Q→c σ H Q'):tWhile c tb D σ H:=by
  refine ⟨fun m σ H=>m=μ σ H∧Pv σ H,⟨_,rfl,h0⟩,?_⟩
  rintro m σ H ⟨rfl,p⟩
  refine mono σ H _ _ (fun b H1 q=>?_) (hs σ H p)
  cases b with
  | true=>exact ⟨_,fun σ' H' ⟨p',l⟩=>⟨_,l,rfl,p'⟩,q⟩
  | false=>exact q
end L2
namespace L2
open PySem PySem.Spec PyProof.Rows
noncomputable abbrev R2:=V→V→Hp→VK→Prop
noncomputable def OpR (X:Cx) (f:Value→Value→Sem Value) (r:R2):Prop :=
  ∀ (pins:List (Addr×Obj)) (s:Shared) (σ:St) (H:Hp) (x y:V) (v u:Value) (Q:VK),Inv X pins σ H s→RelV x v→RelV y u→r x y H Q →
    wpAny (model X.prog X.w) X.A (f v u) (EP X pins σ Q) X.xe s
noncomputable def UnR (X:Cx) (f:Value→Sem Value) (r:V→Hp→VK→Prop):Prop :=
  ∀ (pins:List (Addr×Obj)) (s:Shared) (σ:St) (H:Hp) (x:V) (v:Value) (Q:VK),Inv X pins σ H s→RelV x v→r x H Q →
    wpAny (model X.prog X.w) X.A (f v) (EP X pins σ Q) X.xe s
noncomputable def CallR (X:Cx) (f:Value) (r:List V→Hp→VK→Prop):Prop :=
  ∀ (pins:List (Addr×Obj)) (s:Shared) (σ:St) (H:Hp) (xs:List V) (us:List Value) (Q:VK),Inv X pins σ H s→Vals xs us→r xs H Q →
    wpAny (model X.prog X.w) X.A (call f us) (EP X pins σ Q) X.xe s
noncomputable def TruR (X:Cx) (r:V→Hp→(Bool→Hp→Prop)→Prop):Prop :=
  ∀ (pins:List (Addr×Obj)) (s:Shared) (σ:St) (H:Hp) (x:V) (v:Value) (Q:Bool→Hp→Prop),Inv X pins σ H s→RelV x v→r x H Q →
    wpAny (model X.prog X.w) X.A (truthy v) (TP X pins σ Q) X.xe s
noncomputable def tOp (r:R2) (ta tb:TE):TE:=fun σ H Q=>ta σ H fun x H1=>tb σ H1 fun y H2=>r x y H2 Q
noncomputable def tUn (r:V→Hp→VK→Prop) (ta:TE):TE:=fun σ H Q=>ta σ H fun x H1=>r x H1 Q
noncomputable def rI (C:Int→Int→Prop) (g:Int→Int→V):R2:=fun x y H Q=>exI x fun i=>exI y fun j=>C i j∧Q (g i j) H
noncomputable def rI0 (g:Int→Int→V):R2:=fun x y H Q=>exI x fun i=>exI y fun j=>Q (g i j) H
noncomputable def rU (g:Int→V):V→Hp→VK→Prop:=fun x H Q=>exI x fun i=>Q (g i) H
section
variable {X:Cx} {a b c:Expr} {ta tb tc:TE} {pos:Pos}
theorem binT (ha:PE X a ta) (hb:PE X b tb) {pins:List (Addr×Obj)} {s:Shared} {σ:St} {H:Hp} {R:V→V→Hp→Prop} (I:Inv X pins σ H s)
    (h:ta σ H fun x H1=>tb σ H1 fun y H2=>R x y H2) {Q:Value→Shared→Prop} {f:Value→Value→Sem Value}
    (hf:∀ v u s2 x y H2,Inv X pins σ H2 s2→RelV x v→RelV y u→R x y H2→wpAny (model X.prog X.w) X.A (f v u) Q X.xe s2) :
    wpAny (model X.prog X.w) X.A (eval a X.env) (fun v s₁=>wpAny (model X.prog X.w) X.A (eval b X.env) (fun u s₂=>wpAny (model X.prog X.w) X.A (f v u) Q X.xe s₂) X.xe s₁) X.xe s:=by
  refine thn (ha pins s σ H _ I h) fun v s1 ⟨x,H1,I1,r1,q1⟩=>?_
  refine thn (hb pins s1 σ H1 _ I1 q1) fun u s2 ⟨y,H2,I2,r2,q2⟩=>?_
  exact hf v u s2 x y H2 I2 r1 r2 q2
theorem pe_op {op:Operator} {r:R2} (ho:OpR X (binaryOp op) r) (ha:PE X a ta) (hb:PE X b tb):PE X (.BinOp a op b pos) (tOp r ta tb):=by
  intro pins s σ H Q I h
  exact wpAny_BinOp (binT ha hb I h fun v u s2 x y H2 I2 rx ry q=>ho pins s2 σ H2 x y v u Q I2 rx ry q)
theorem pe_un {op:UnaryOp} {r:V→Hp→VK→Prop} (ho:UnR X (unaryOp op) r) (ha:PE X a ta):PE X (.UnaryOp op a pos) (tUn r ta):=by
  intro pins s σ H Q I h
  exact UnaryOp_ (thn (ha pins s σ H _ I h) fun v s1 ⟨x,H1,I1,r1,q1⟩=>ho pins s1 σ H1 x v Q I1 r1 q1)
theorem opI {f:Value→Value→Sem Value} {C:Int→Int→Prop} {g:Int→Int→Int}
    (rule:∀ (i j:Int) (t u:Tok) (s:Shared) (Q:Value→Shared→Prop) (E:Value→Shared→Prop),C i j→Q (.int (g i j) s.toks) { s with toks:=s.toks+1 }→wpAny (model X.prog X.w) X.A (f (.int i t) (.int j u)) Q E s) :
    OpR X f (rI C fun i j=>.int (g i j)):=by
  intro pins s σ H x y v u Q I rx ry h
  obtain ⟨i,rfl,h1⟩:=Eq.mp exI_ex h
  obtain ⟨j,rfl,hc,q⟩:=Eq.mp exI_ex h1
  obtain ⟨t,rfl⟩:=rx
  obtain ⟨t',rfl⟩:=ry
  exact rule i j t t' s _ _ hc ⟨.int (g i j),H,I.tok _,⟨_,rfl⟩,q⟩
theorem opI0 {f:Value→Value→Sem Value} {g:Int→Int→Int}
    (rule:∀ (i j:Int) (t u:Tok) (s:Shared) (Q:Value→Shared→Prop) (E:Value→Shared→Prop),Q (.int (g i j) s.toks) { s with toks:=s.toks+1 }→wpAny (model X.prog X.w) X.A (f (.int i t) (.int j u)) Q E s) :
    OpR X f (rI0 fun i j=>.int (g i j)):=by
  intro pins s σ H x y v u Q I rx ry h
  obtain ⟨i,rfl,h1⟩:=Eq.mp exI_ex h
  obtain ⟨j,rfl,q⟩:=Eq.mp exI_ex h1
  obtain ⟨t,rfl⟩:=rx
  obtain ⟨t',rfl⟩:=ry
  exact rule i j t t' s _ _ ⟨.int (g i j),H,I.tok _,⟨_,rfl⟩,q⟩
theorem opB0 {f:Value→Value→Sem Value} {g:Int→Int→Bool}
    (rule:∀ (i j:Int) (t u:Tok) (s:Shared) (Q:Value→Shared→Prop) (E:Value→Shared→Prop),Q (.bool (g i j)) s→wpAny (model X.prog X.w) X.A (f (.int i t) (.int j u)) Q E s) :
    OpR X f (rI0 fun i j=>.bl (g i j)):=by
  intro pins s σ H x y v u Q I rx ry h
  obtain ⟨i,rfl,h1⟩:=Eq.mp exI_ex h
  obtain ⟨j,rfl,q⟩:=Eq.mp exI_ex h1
  obtain ⟨t,rfl⟩:=rx
  obtain ⟨t',rfl⟩:=ry
  exact rule i j t t' s _ _ ⟨.bl (g i j),H,I,rfl,q⟩
noncomputable def CDiv (i j:Int):Prop:=0 < j∧j < 1073741824
noncomputable def CPow (i j:Int):Prop:=0≤j∧j≤1000000∧i.natAbs < 2 ^ 64
theorem op_add:OpR X (binaryOp .Add) (rI0 fun i j=>.int (i+j)):=opI0 fun _ _ _ _ _ _ _ q=>add_int q
theorem op_sub:OpR X (binaryOp .Sub) (rI0 fun i j=>.int (i - j)):=opI0 fun _ _ _ _ _ _ _ q=>sub_int q
theorem op_fdiv:OpR X (binaryOp .FloorDiv) (rI CDiv fun i j=>.int (i / j)):=opI fun i j _ _ _ _ _ hc q=>by
  have h1:(0:Int) < j:=hc.1
  have h2:j < 1073741824:=hc.2
  exact floordiv_int (by omega) (by rw [Int.fdiv_eq_ediv_of_nonneg i (by omega)];exact q) (.inl (PyProof.noPylong_small (by omega)))
theorem op_mod:OpR X (binaryOp .Mod) (rI (fun _ j=>0 < j) fun i j=>.int (i % j)):=opI fun i j _ _ _ _ _ hc q=>by
  have h1:(0:Int) < j:=hc
  exact mod_int' (by omega) (by rw [Int.fmod_eq_emod_of_nonneg i (by omega)];exact q)
theorem op_pow:OpR X (binaryOp .Pow) (rI CPow fun i j=>.int (i ^ j.toNat)):=opI fun _ _ _ _ _ _ _ hc q=>pow_int_small hc.1 hc.2.1 hc.2.2 q
theorem unI {f:Value→Sem Value} {g:Int→Int}
    (rule:∀ (i:Int) (t:Tok) (s:Shared) (Q:Value→Shared→Prop) (E:Value→Shared→Prop),Q (.int (g i) s.toks) { s with toks:=s.toks+1 }→wpAny (model X.prog X.w) X.A (f (.int i t)) Q E s) :
    UnR X f (rU fun i=>.int (g i)):=by
  intro pins s σ H x v Q I rx h
  obtain ⟨i,rfl,q⟩:=Eq.mp exI_ex h
  obtain ⟨t,rfl⟩:=rx
  exact rule i t s _ _ ⟨.int (g i),H,I.tok _,⟨_,rfl⟩,q⟩
theorem un_neg:UnR X (unaryOp .USub) (rU fun i=>.int (-i)):=unI fun _ _ _ _ _ q=>neg_int q
end
noncomputable def scal:V→V→Bool
  | .non,.non=>true | .non,.int _=>true | .int _,.non=>true | .non,.bl _=>true | .bl _,.non=>true | .non,.str _=>true | .str _,.non=>true
  | .int _,.int _=>true | .bl _,.bl _=>true | .str _,.str _=>true | .byt _,.byt _=>true
  | .int _,.str _=>true | .str _,.int _=>true | .bl _,.str _=>true | .str _,.bl _=>true
  | _,_=>false
noncomputable def rEq:R2:=fun x y H Q=>scal x y=true∧Q (.bl (decide (x=y))) H
theorem scal_ii {i j:Int}:scal (.int i) (.int j)=true:=rfl
noncomputable def rNe:R2:=fun x y H Q=>scal x y=true∧Q (.bl (!decide (x=y))) H
theorem dec_int {i j:Int}:decide (V.int i=V.int j)=(i == j):=by
  rw [Bool.eq_iff_iff]
  simp
theorem dec_bl {i j:Bool}:decide (V.bl i=V.bl j)=(i == j):=by
  rw [Bool.eq_iff_iff]
  simp
theorem dec_str {i j:Str}:decide (V.str i=V.str j)=(i == j):=by
  rw [Bool.eq_iff_iff]
  simp
theorem dec_byt {i j:Array UInt8}:decide (V.byt i=V.byt j)=(i.toList == j.toList):=by
  rw [Bool.eq_iff_iff]
  cases i
  cases j
  simp
section
variable {X:Cx} {a b c:Expr} {ta tb tc:TE} {pos:Pos}
theorem fin_bl {pins:List (Addr×Obj)} {σ:St} {H:Hp} {s:Shared} {Q:VK} {k k':Bool} (I:Inv X pins σ H s) (q:Q (.bl k) H) (e:k=k'):EP X pins σ Q (.bool k') s:=by
  subst e
  exact ⟨.bl k,H,I,rfl,q⟩
theorem op_eq:OpR X (compareOp .Eq) rEq:=by
  intro pins s σ H x y v u Q I rx ry h
  obtain ⟨hs,q⟩:=h
  cases x with
  | non =>
    cases rx
    cases y with
    | non=>cases ry;exact PySem.EqNone.eq_none_none (fin_bl I q (by simp))
    | bl j=>cases ry;exact PySem.EqNone.eq_none_bool (fin_bl I q (by simp))
    | int j=>obtain ⟨t',rfl⟩:=ry;exact PySem.EqNone.eq_none_int (fin_bl I q (by simp))
    | str j=>obtain ⟨t',rfl⟩:=ry;exact PySem.EqNone.eq_none_str (fin_bl I q (by simp))
    | _=>exact absurd (show false=true from hs) Bool.false_ne_true
  | bl i =>
    cases rx
    cases y with
    | non=>cases ry;exact PySem.EqNone.eq_bool_none (fin_bl I q (by simp))
    | bl j=>cases ry;exact eq_bool (fin_bl I q dec_bl)
    | str j=>obtain ⟨t',rfl⟩:=ry;exact PySem.EqMixed.eq_bool_str (fin_bl I q (by simp))
    | _=>exact absurd (show false=true from hs) Bool.false_ne_true
  | int i =>
    obtain ⟨t,rfl⟩:=rx
    cases y with
    | non=>cases ry;exact PySem.EqNone.eq_int_none (fin_bl I q (by simp))
    | int j=>obtain ⟨t',rfl⟩:=ry;exact eq_int (fin_bl I q dec_int)
    | str j=>obtain ⟨t',rfl⟩:=ry;exact PySem.EqMixed.eq_int_str (fin_bl I q (by simp))
    | _=>exact absurd (show false=true from hs) Bool.false_ne_true
  | str i =>
    obtain ⟨t,rfl⟩:=rx
    cases y with
    | non=>cases ry;exact PySem.EqNone.eq_str_none (fin_bl I q (by simp))
    | bl j=>cases ry;exact PySem.EqMixed.eq_str_bool (fin_bl I q (by simp))
    | int j=>obtain ⟨t',rfl⟩:=ry;exact PySem.EqMixed.eq_str_int (fin_bl I q (by simp))
    | str j=>obtain ⟨t',rfl⟩:=ry;exact eq_str (fin_bl I q dec_str)
    | _=>exact absurd (show false=true from hs) Bool.false_ne_true
  | byt i =>
    obtain ⟨t,rfl⟩:=rx
    cases y with
    | byt j=>obtain ⟨t',rfl⟩:=ry;exact PySem.W.eq_bytes (fin_bl I q dec_byt)
    | _=>exact absurd (show false=true from hs) Bool.false_ne_true
  | _=>cases y <;> exact absurd (show false=true from hs) Bool.false_ne_true
theorem op_ne:OpR X (compareOp .NotEq) rNe:=by
  intro pins s σ H x y v u Q I rx ry h
  obtain ⟨hs,q⟩:=h
  cases x with
  | non =>
    cases rx
    cases y with
    | non=>cases ry;exact PySem.EqNone.ne_none_none (fin_bl I q (by simp))
    | bl j=>cases ry;exact PySem.EqNone.ne_none_bool (fin_bl I q (by simp))
    | int j=>obtain ⟨t',rfl⟩:=ry;exact PySem.EqNone.ne_none_int (fin_bl I q (by simp))
    | str j=>obtain ⟨t',rfl⟩:=ry;exact PySem.EqNone.ne_none_str (fin_bl I q (by simp))
    | _=>exact absurd (show false=true from hs) Bool.false_ne_true
  | bl i =>
    cases rx
    cases y with
    | non=>cases ry;exact PySem.EqNone.ne_bool_none (fin_bl I q (by simp))
    | bl j=>cases ry;exact ne_bool (fin_bl I q (congrArg not dec_bl))
    | str j=>obtain ⟨t',rfl⟩:=ry;exact PySem.EqMixed.ne_bool_str (fin_bl I q (by simp))
    | _=>exact absurd (show false=true from hs) Bool.false_ne_true
  | int i =>
    obtain ⟨t,rfl⟩:=rx
    cases y with
    | non=>cases ry;exact PySem.EqNone.ne_int_none (fin_bl I q (by simp))
    | int j=>obtain ⟨t',rfl⟩:=ry;exact ne_int (fin_bl I q (congrArg not dec_int))
    | str j=>obtain ⟨t',rfl⟩:=ry;exact PySem.EqMixed.ne_int_str (fin_bl I q (by simp))
    | _=>exact absurd (show false=true from hs) Bool.false_ne_true
  | str i =>
    obtain ⟨t,rfl⟩:=rx
    cases y with
    | non=>cases ry;exact PySem.EqNone.ne_str_none (fin_bl I q (by simp))
    | bl j=>cases ry;exact PySem.EqMixed.ne_str_bool (fin_bl I q (by simp))
    | int j=>obtain ⟨t',rfl⟩:=ry;exact PySem.EqMixed.ne_str_int (fin_bl I q (by simp))
    | str j=>obtain ⟨t',rfl⟩:=ry;exact ne_str (fin_bl I q (congrArg not dec_str))
    | _=>exact absurd (show false=true from hs) Bool.false_ne_true
  | byt i =>
    obtain ⟨t,rfl⟩:=rx
    cases y with
    | byt j=>obtain ⟨t',rfl⟩:=ry;exact PySem.W.ne_bytes (fin_bl I q (congrArg not dec_byt))
    | _=>exact absurd (show false=true from hs) Bool.false_ne_true
  | _=>cases y <;> exact absurd (show false=true from hs) Bool.false_ne_true
theorem op_lt:OpR X (compareOp .Lt) (rI0 fun i j=>.bl (decide (i < j))):=opB0 fun _ _ _ _ _ _ _ q=>lt_int q
theorem op_le:OpR X (compareOp .LtE) (rI0 fun i j=>.bl (decide (i≤j))):=opB0 fun _ _ _ _ _ _ _ q=>le_int q
theorem op_gt:OpR X (compareOp .Gt) (rI0 fun i j=>.bl (decide (j < i))):=opB0 fun _ _ _ _ _ _ _ q=>gt_int q
theorem op_ge:OpR X (compareOp .GtE) (rI0 fun i j=>.bl (decide (j≤i))):=opB0 fun _ _ _ _ _ _ _ q=>ge_int q
theorem op_isN:OpR X (compareOp .Is) (fun x y H Q=>y=.non∧Q (.bl (decide (x=.non))) H):=by
  intro pins s σ H x y v u Q I rx ry h
  obtain ⟨rfl,q⟩:=h
  cases ry
  refine is_none_gen (fin_bl I q ?_)
  cases x <;> first
    | (cases rx;rfl)
    | (obtain ⟨t,rfl⟩:=rx;rfl)
theorem op_notN:OpR X (compareOp .IsNot) (fun x y H Q=>y=.non∧Q (.bl (!decide (x=.non))) H):=by
  intro pins s σ H x y v u Q I rx ry h
  obtain ⟨rfl,q⟩:=h
  cases ry
  refine isnot_none_gen (fin_bl I q ?_)
  cases x <;> first
    | (cases rx;rfl)
    | (obtain ⟨t,rfl⟩:=rx;rfl)
theorem nomark (b:Expr) {op:CmpOp} (h:op≠.In:=by decide) (h2:op≠.NotIn:=by decide):behindInMarks op b=false:=by
  have e1:(op == CmpOp.In)=false:=by cases op <;> first | rfl | exact absurd rfl h
  have e2:(op == CmpOp.NotIn)=false:=by cases op <;> first | rfl | exact absurd rfl h2
  cases b <;> simp [behindInMarks,e1,e2]
theorem pe_cmpR {op:CmpOp} {r:R2} (ho:OpR X (compareOp op) r) (ha:PE X a ta) (hb:PE X b tb) (hm:behindInMarks op b=false):PE X (.Compare a [op] [b] pos) (tOp r ta tb):=by
  intro pins s σ H Q I h
  exact wpAny_Compare1 (binT ha hb I h fun v u s2 x y H2 I2 rx ry q=>ho pins s2 σ H2 x y v u Q I2 rx ry q) hm
noncomputable def tTest (t:TE):TT:=fun σ H Q=>t σ H fun x H'=>exB x fun k=>Q k H'
theorem pt_cmpR {op:CmpOp} {r:R2} (ho:OpR X (compareOp op) r) (ha:PE X a ta) (hb:PE X b tb) (hm:behindInMarks op b=false):PT X (.Compare a [op] [b] pos) (tTest (tOp r ta tb)):=by
  intro pins s σ H Q I h
  refine wpAny_isTrue_Compare1 (thn (ha pins s σ H _ I h) fun v s1 ⟨x,H1,I1,r1,q1⟩=>thn (hb pins s1 σ H1 _ I1 q1) fun u s2 ⟨y,H2,I2,r2,q2⟩ =>
    thn (ho pins s2 σ H2 x y v u _ I2 r1 r2 q2) fun c s3 ⟨z,H3,I3,r3,q3⟩=>?_) hm
  obtain ⟨k,e,q3⟩:=Eq.mp exB_ex q3
  subst e
  cases r3
  exact wpAny_truthy_bool ⟨H3,I3,q3⟩
noncomputable def TruV (K:PySem.W.Frag) (x:V) (H:Hp) (k:Bool):Prop :=
  match x with
  | .non=>k=false
  | .bl b=>k=b
  | .int i=>k=(i != 0)
  | .str y=>y.length≤sizeLine∧k=((y.length:Int) != 0)
  | .byt y=>y.size≤sizeLine∧k=((y.size:Int) != 0)
  | .ref p=>(∃ xs,SqL K H p xs∧k = !xs.isEmpty)∨(∃ xs,SqT K H p xs∧k = !xs.isEmpty)∨∃ kvs,H p=some (.dK kvs)∧k = !kvs.isEmpty
  | _=>False
theorem isEmpty_kv {κ:Type} {kvs:List (κ×V)} {vs:List (κ×Value)} (r:KV kvs vs):(!vs.isEmpty) = !kvs.isEmpty:=by
  cases r <;> rfl
theorem isEmpty_of {xs:List V} {its:List Value} (r:Vals xs its):(!its.toArray.isEmpty) = !xs.isEmpty:=by
  cases r <;> simp
theorem line63:(sizeLine:Nat) < 2 ^ 63:=by rw [sizeLine_eq];decide
theorem tru_ok:TruR X (fun x H Q=>∃ k,TruV X.K x H k∧Q k H):=by
  intro pins s σ H x v Q I rx h
  obtain ⟨k,e,q⟩:=h
  have hl:=line63
  have hs:sizeLine=16777216:=sizeLine_eq
  cases x with
  | non =>
    cases rx
    have e':k=false:=e
    subst e'
    exact truthy_none ⟨H,I,q⟩
  | bl b =>
    cases rx
    have e':k=b:=e
    subst e'
    exact wpAny_truthy_bool ⟨H,I,q⟩
  | int i =>
    obtain ⟨t,rfl⟩:=rx
    have e':k=(i != 0):=e
    subst e'
    exact PySem.P.truthy_int ⟨H,I,q⟩
  | str y =>
    obtain ⟨t,rfl⟩:=rx
    obtain ⟨hy,e'⟩:y.length≤sizeLine∧k=((y.length:Int) != 0):=e
    subst e'
    exact PySem.P.truthy_str (by omega) ⟨H,I.tok _,q⟩
  | byt y =>
    obtain ⟨t,rfl⟩:=rx
    obtain ⟨hy,e'⟩:y.size≤sizeLine∧k=((y.size:Int) != 0):=e
    subst e'
    exact PySem.W.truthy_bytes (by omega) ⟨H,I.tok _,q⟩
  | ref p =>
    cases rx
    have e':(∃ xs,SqL X.K H p xs∧k = !xs.isEmpty)∨(∃ xs,SqT X.K H p xs∧k = !xs.isEmpty)∨∃ kvs,H p=some (.dK kvs)∧k = !kvs.isEmpty:=e
    rcases e' with ⟨xs,hx,e'⟩ | ⟨xs,hx,e'⟩ | ⟨kvs,hx,e'⟩
    · subst e'
      obtain ⟨its,r,pl,hz⟩:=I.list hx
      have hlen:=r.length
      exact wpAny_truthy_list pl.isList (by simp only [List.size_toArray];omega) ⟨H,I.tok _,by rw [isEmpty_of r];exact q⟩
    · subst e'
      obtain ⟨its,r,pl,hz⟩:=I.tuple hx
      have hlen:=r.length
      exact truthy_tuple pl (by simp only [List.size_toArray];omega) ⟨H,I.tok _,by rw [isEmpty_of r];exact q⟩
    · subst e'
      obtain ⟨hz,hS,vs,r,m⟩:kvs.length≤sizeLine∧(p == sysModules)=false∧∃ vs,KV kvs vs∧s.heap.DictOf (mixKind X.prog X.w) p vs:=I.hok p _ hx
      have hlen:kvs.length=vs.length:=Paired.length r
      exact wpAny_truthy_dict hS m (by omega) ⟨H,I.tok _,by rw [isEmpty_kv r];exact q⟩
  | _=>exact (show False from e).elim
theorem pt_truth (ha:PE X a ta) (he:∀ whole,isTrue a X.env whole=(do let v ← whole;standAt a.pos;holding [v] (truthy v))) :
    PT X a (fun σ H Q=>ta σ H fun x H'=>∃ k,TruV X.K x H' k∧Q k H'):=by
  intro pins s σ H Q I h
  exact isTrue_plain (thn (ha pins s σ H _ I h) fun v s1 ⟨x,H1,I1,r1,q1⟩=>tru_ok pins s1 σ H1 x v Q I1 r1 q1) (he _)
theorem vals1 {x:V} {us:List Value} (r:Vals [x] us):∃ u,us=[u]∧RelV x u:=by
  cases r with
  | cons r1 r2=>cases r2;exact ⟨_,rfl,r1⟩
theorem vals2 {x y:V} {us:List Value} (r:Vals [x,y] us):∃ u w',us=[u,w']∧RelV x u∧RelV y w':=by
  cases r with
  | cons r1 r2 =>
    cases r2 with
    | cons r3 r4=>cases r4;exact ⟨_,_,rfl,r1,r3⟩
theorem call_abs:CallR X (.builtin "abs") (fun xs H Q=>∃ i,xs=[.int i]∧Q (.int (if i < 0 then -i else i)) H):=by
  intro pins s σ H xs us Q I r h
  obtain ⟨i,rfl,q⟩:=h
  obtain ⟨u,rfl,t,rfl⟩:=vals1 r
  exact call_abs_int fun u tk=>⟨.int (if i < 0 then -i else i),H,I.tok _,⟨_,rfl⟩,q⟩
theorem call_max2 (hc:X.calm=true):CallR X (.builtin "max") (fun xs H Q=>∃ i j,xs=[.int i,.int j]∧Q (.int (if j > i then j else i)) H):=by
  intro pins s σ H xs us Q I r h
  obtain ⟨i,j,rfl,q⟩:=h
  obtain ⟨u,w',rfl,⟨t,rfl⟩,⟨t',rfl⟩⟩:=vals2 r
  refine max_two_ints (I.ok.hd hc) fun h' tk k=>⟨_,H,I.kept k,?_,q⟩
  by_cases hj:j > i
  · rw [if_pos hj,if_pos hj];exact ⟨_,rfl⟩
  · rw [if_neg hj,if_neg hj];exact ⟨_,rfl⟩
theorem call_min2 (hc:X.calm=true):CallR X (.builtin "min") (fun xs H Q=>∃ i j,xs=[.int i,.int j]∧Q (.int (if j < i then j else i)) H):=by
  intro pins s σ H xs us Q I r h
  obtain ⟨i,j,rfl,q⟩:=h
  obtain ⟨u,w',rfl,⟨t,rfl⟩,⟨t',rfl⟩⟩:=vals2 r
  refine min_two_ints (I.ok.hd hc) fun h' tk k=>⟨_,H,I.kept k,?_,q⟩
  by_cases hj:j < i
  · rw [if_pos hj,if_pos hj];exact ⟨_,rfl⟩
  · rw [if_neg hj,if_neg hj];exact ⟨_,rfl⟩
end
end L2
namespace L2
open PySem PySem.Spec PyProof.Rows
structure ObjM (h:Heap) (x dx C:Addr) (mA:Str→Option Value):Prop where
  obj:h.get? x=some (PySem.W.instObj C dx)
  ns:h.Ns1 dx mA
  ne:dx≠x
theorem lookIn_ns {h:Heap} {dx:Addr} {mA:Str→Option Value} (n:h.Ns1 dx mA):∃ od,h.get? dx=some od∧∀ name,PySem.W.lookIn name od=some (mA name):=by
  obtain ⟨o,es,ep,ho,hd,hk,_,hm⟩:=n
  refine ⟨o,ho,fun name=>?_⟩
  have e:=hm name
  unfold nsFind findBy at e
  rw [← Array.find?_toList] at e
  unfold PySem.W.lookIn
  rw [hd]
  dsimp only
  split
  · rename_i y q
    rw [q] at e
    exact congrArg some e
  · rename_i q
    rw [q] at e
    have a:es.toList.any (·.refKey)=false:=by
      rw [List.any_eq_false]
      intro y hy
      obtain ⟨z,t,hkey⟩:=hk y (Array.mem_toList_iff.mp hy)
      simp [DictEntry.refKey,hkey]
    have a':¬ es.toList.any (·.refKey)=true:=by rw [a];exact Bool.false_ne_true
    rw [if_neg a']
    exact congrArg some e
theorem ObjM.look {h:Heap} {x dx C:Addr} {mA:Str→Option Value} (I:ObjM h x dx C mA):∃ od,PySem.W.InstAt h x (PySem.W.instObj C dx) C (some od)∧∀ name,PySem.W.lookIn name od=some (mA name) :=
  let ⟨od,ho,hl⟩:=lookIn_ns I.ns
  ⟨od,⟨I.obj,rfl,rfl,ho⟩,hl⟩
section
variable {prog:Program} {w:World} {A:Around} {E:Value→Shared→Prop} {s:Shared} {K:PySem.W.Frag} {x dx C f:Addr} {mA:Str→Option Value} {name:Str} {v:Value}
theorem get_map {expr:Bool} {Q:Value→Shared→Prop} (X:K.In s.heap) (I:ObjM s.heap x dx C mA) (hg:PySem.W.plainGet K C name=true) (hh:PySem.W.hasDictIn K C=true)
    (ha:PySem.W.findIn K (.ref C) name=some none) (hv:mA name=some v) (hv':PySem.W.handedIn v=true) (h:Q v { s with toks:=s.toks+1 }) :
    wpAny (model prog w) A (getAttr (.ref x) name expr) Q E s:=by
  obtain ⟨od,J,hl⟩:=I.look
  exact PySem.W.get_value X J (PySem.W.plainGet_of hg).1 (PySem.W.findObj_own hh ha rfl (by rw [hl,hv])) hv' h
theorem get_meth {pl:Sem Bool} {Q:Value×List Value→Shared→Prop} (X:K.In s.heap) (I:ObjM s.heap x dx C mA) (hg:PySem.W.plainGet K C name=true)
    (hf:PySem.W.findIn K (.ref C) name=some (some (.ref f))) (ht:PySem.W.isFn K (.ref f)=true) (hv:mA name=none) (h:Q (.ref f,[.ref x]) s) :
    wpAny (model prog w) A (getMethod (.ref x) name pl) Q E s:=by
  obtain ⟨od,J,hl⟩:=I.look
  exact PySem.W.method_fn X J (PySem.W.plainGet_of hg).1 (PySem.W.plainGet_of hg).2 hf (beq_iff_eq.mp ht) (by show (PySem.W.lookIn name od).map (·.isSome)=some false;rw [hl,hv];rfl) h
theorem set_map {ns:List Str} {Q:Unit→Shared→Prop} (X:K.In s.heap) (I:ObjM s.heap x dx C mA)
    (hs:PySem.W.findIn K (.ref C) "__setattr__" = some (some (.builtin "object.__setattr__"))) (hp:PySem.W.plainOver K C=true) (ht:PySem.W.takerIn K C name=some none) (hh:PySem.W.hasDictIn K C=true)
    (hw:PySem.Within mA ns) (hsz:ns.length≤sizeLine)
    (h:∀ h',ObjM h' x dx C (fun y=>if y=name then some v else mA y)→Heap.SameBut dx s.heap h'→Q () { s with heap:=h',toks:=s.toks+2 }) :
    wpAny (model prog w) A (setAttr (.ref x) name v) Q E s:=by
  obtain ⟨od,J,hl⟩:=I.look
  refine PySem.W.set_plain X J hs (PySem.W.osa_open (s:={ s with toks:=s.toks+1 }) (r:=none) X J hp ht fun b=>?_)
  obtain ⟨cd,hc,hd'⟩:=PySem.W.any_some hh
  have hx:s.heap.get? x=some ⟨.ref C,some dx,.plain,#[]⟩:=I.obj
  refine wpAny_bind (wpAny_pure (wpAny_bind (wpAny_bind (wpAny_loadPart hx (wpAny_bind (PySem.W.Looks.here (s:={ s with toks:=s.toks+1 }) (PySem.W.looks_clsIn X hc) ?_))))))
  rw [hd']
  refine wpAny_pure (a:=some dx) (wpAny_bind (wpAny_pure (wpAny_bind ?_)))
  refine wpAny_nsSet1 (s:={ s with toks:=s.toks+1 }) I.ns fun h' hn2 hs2=>?_
  obtain ⟨oD,esD,epD,hoD,hdD,hcD⟩:=hn2.count (PySem.Within.cons name v hw)
  refine wpAny_bind (wpAny_lookBehind hoD (by rw [hdD];exact pastItsLine_dict (Nat.le_trans hcD (by rw [List.length_cons];omega))) ?_)
  exact wpAny_pure (h _ ⟨(hs2.2 _ (Ne.symm I.ne)).trans I.obj,hn2,I.ne⟩ hs2)
theorem make_map {R:Result→Shared→Prop} {vs:List Value} {kw:List (Str×Value)} (X:K.In s.heap) (hm:PySem.W.makesIn K C=true)
    (hi:PySem.W.findIn K (.ref C) "__init__" = some (some (.ref f))) (hf:PySem.W.typeIn K (.ref f)=some (.type "function"))
    (h:codeAny (model prog w) (A.under (.builtin "type.__call__" ⟨.ref C :: vs,kw⟩)) (.call (.ref f) ⟨.ref (s.heap.objs.size+1) :: vs,kw⟩) (PySem.W.InitBack (s.heap.objs.size+1) R)
      { s with heap:=(s.heap.push PySem.W.emptyDict).push (PySem.W.instObj C s.heap.objs.size) }) :
    codeAny (model prog w) A (.call (.ref C) ⟨vs,kw⟩) R s:=by
  obtain ⟨hh,g,d,t,os⟩:=s
  exact PySem.W.make_core (PySem.W.makes_of X hm) (PySem.W.looks_findIn X hi) (fun self=>PySem.W.bind_fn X self hf) (.inl rfl) h
end
noncomputable def putF (f:Str) (v:V):List (Str×V)→List (Str×V)
  | []=>[(f,v)]
  | (g,x) :: r=>if g=f then (g,v) :: r else (g,x) :: putF f v r
theorem lookup_putF (f g:Str) (v:V):∀ fs:List (Str×V),(putF f v fs).lookup g=if g=f then some v else fs.lookup g
  | []=>by
    show List.lookup g [(f,v)]=_
    by_cases h:g=f
    · have hb:(g == f)=true:=beq_iff_eq.mpr h
      simp only [List.lookup,hb,if_pos h]
    · have hb:(g == f)=false:=beq_eq_false_iff_ne.mpr h
      simp only [List.lookup,hb,if_neg h]
  | (k,x) :: r=>by
    have ih:=lookup_putF f g v r
    rw [show putF f v ((k,x) :: r)=(if k=f then (k,v) :: r else (k,x) :: putF f v r) from rfl]
    by_cases hk:k=f
    · rw [if_pos hk]
      by_cases h:g=k
      · have hb:(g == k)=true:=beq_iff_eq.mpr h
        simp only [List.lookup,hb,if_pos (h.trans hk)]
      · have hb:(g == k)=false:=beq_eq_false_iff_ne.mpr h
        simp only [List.lookup,hb,if_neg (fun e:g=f=>h (e.trans hk.symm))]
    · rw [if_neg hk]
      by_cases h:g=k
      · have hb:(g == k)=true:=beq_iff_eq.mpr h
        simp only [List.lookup,hb,if_neg (fun e:g=f=>hk (h.symm.trans e))]
      · have hb:(g == k)=false:=beq_eq_false_iff_ne.mpr h
        simp only [List.lookup,hb]
        exact ih
theorem keys_putF (f:Str) (v:V):∀ fs:List (Str×V),f∈(putF f v fs).map (·.1)∧∀ g,g∈fs.map (·.1)→g∈(putF f v fs).map (·.1)
  | []=>⟨by simp [putF],fun g h=>by simp at h⟩
  | (k,x) :: r=>by
    obtain ⟨i1,i2⟩:=keys_putF f v r
    rw [show putF f v ((k,x) :: r)=(if k=f then (k,v) :: r else (k,x) :: putF f v r) from rfl]
    by_cases hk:k=f
    · rw [if_pos hk]
      subst hk
      exact ⟨by simp,fun g h=>by simpa using h⟩
    · rw [if_neg hk]
      refine ⟨?_,fun g h=>?_⟩
      · rw [List.map_cons]
        exact List.mem_cons_of_mem _ i1
      · rw [List.map_cons] at h ⊢
        rcases List.mem_cons.mp h with e | e
        · exact List.mem_cons.mpr (.inl e)
        · exact List.mem_cons_of_mem _ (i2 g e)
theorem length_putF (f:Str) (v:V):∀ fs:List (Str×V),(putF f v fs).length≤fs.length+1
  | []=>by simp [putF]
  | (k,x) :: r=>by
    have ih:=length_putF f v r
    rw [show putF f v ((k,x) :: r)=(if k=f then (k,v) :: r else (k,x) :: putF f v r) from rfl]
    by_cases hk:k=f
    · rw [if_pos hk,List.length_cons,List.length_cons];omega
    · rw [if_neg hk,List.length_cons,List.length_cons];omega
theorem RelO.some_of {v:V} {o:Option Value} (r:RelO (some v) o):∃ u,o=some u∧RelV v u:=by
  cases o with
  | none=>exact (show False from r).elim
  | some u=>exact ⟨u,rfl,r⟩
theorem RelO.none_of {o:Option Value} (r:RelO none o):o=none:=by
  cases o with
  | none=>rfl
  | some u=>exact (show False from r).elim
theorem handed_of {v:V} {u:Value} (r:RelV v u):PySem.W.handedIn u=true:=by
  cases v with
  | non=>cases (show u=Value.none from r);rfl
  | bl b=>cases (show u=Value.bool b from r);rfl
  | int i=>obtain ⟨t,e⟩:=(show ∃ t,u=Value.int i t from r);cases e;rfl
  | str x=>obtain ⟨t,e⟩:=(show ∃ t,u=Value.str x t from r);cases e;rfl
  | byt b=>obtain ⟨t,e⟩:=(show ∃ t,u=Value.bytes b t from r);cases e;rfl
  | flt b=>obtain ⟨t,e⟩:=(show ∃ t,u=Value.float b t from r);cases e;rfl
  | ref a=>cases (show u=Value.ref a from r);rfl
  | ty n=>cases (show u=Value.type n from r);rfl
section
variable {P:Program} {w:World} {H H':Hp} {h h':Heap} {a C dx:Addr} {fs fs':List (Str×V)}
theorem ins_get (hok:HOk P w H h) (e:H a=some (.ins C dx fs)):∃ mA,ObjM h a dx C mA∧(∀ f,RelO (fs.lookup f) (mA f))∧PySem.Within mA (fs.map (·.1))∧fs.length≤1000∧H dx=some (.own a):=by
  obtain ⟨d,z,ne,ob,mA,n,r,q⟩:=(show ObjOk P w H h a (.ins C dx fs) from hok a _ e)
  exact ⟨mA,⟨ob,n,ne⟩,r,q,z,d⟩
end
structure Cls (K:PySem.W.Frag) (C:Addr):Prop where
  pg:PySem.W.plainGet K C Str.empty=true
  hd:PySem.W.hasDictIn K C=true
  po:PySem.W.plainOver K C=true
  sa:PySem.W.findIn K (.ref C) "__setattr__" = some (some (.builtin "object.__setattr__"))
theorem Cls.get {K:PySem.W.Frag} {C:Addr} (c:Cls K C) (f:Str):PySem.W.plainGet K C f=true:=c.pg
noncomputable def NoAttr (K:PySem.W.Frag) (C:Addr) (f:Str):Prop:=PySem.W.findIn K (.ref C) f=some none
theorem NoAttr.taker {K:PySem.W.Frag} {C:Addr} {f:Str} (n:NoAttr K C f):PySem.W.takerIn K C f=some none:=by
  unfold PySem.W.takerIn
  rw [show PySem.W.findIn K (.ref C) f=some none from n]
  rfl
structure Meth (K:PySem.W.Frag) (C:Addr) (m:Str) (f:Addr):Prop where
  at_:PySem.W.findIn K (.ref C) m=some (some (.ref f))
  fn:PySem.W.isFn K (.ref f)=true
  kp:PySem.W.keepIn K (.ref f)=true
section
variable {X:Cx} {pins:List (Addr×Obj)} {σ:St} {H:Hp} {s:Shared} {a C dx:Addr} {fs:List (Str×V)} {f:Str} {v:V} {A:Around} {E:Value→Shared→Prop}
theorem getattr_ok {b:Bool} {Q:Value→Shared→Prop} (I:Inv X pins σ H s) (e:H a=some (.ins C dx fs)) (c:Cls X.K C) (n:NoAttr X.K C f) (l:fs.lookup f=some v)
    (h:∀ u s',Inv X pins σ H s'→RelV v u→Q u s'):wpAny (model X.prog X.w) A (getAttr (.ref a) f b) Q E s:=by
  obtain ⟨mA,O,r,_,_,_⟩:=ins_get I.hok e
  obtain ⟨u,hu,ru⟩:=RelO.some_of (v:=v) (o:=mA f) (by rw [← l];exact r f)
  exact get_map I.kIn O (c.get f) c.hd n hu (handed_of ru) (h u _ (I.tok _) ru)
theorem getmeth_ok {m:Str} {g:Addr} {pl:Sem Bool} {Q:Value×List Value→Shared→Prop} (I:Inv X pins σ H s) (e:H a=some (.ins C dx fs)) (c:Cls X.K C) (k:Meth X.K C m g) (l:fs.lookup m=none)
    (h:Q (.ref g,[.ref a]) s):wpAny (model X.prog X.w) A (getMethod (.ref a) m pl) Q E s:=by
  obtain ⟨mA,O,r,_,_,_⟩:=ins_get I.hok e
  have hn:mA m=none:=RelO.none_of (by rw [← l];exact r m)
  exact get_meth I.kIn O (c.get m) k.at_ k.fn hn h
theorem setattr_ok {y:V} {u:Value} {Q:Unit→Shared→Prop} (I:Inv X pins σ H s) (e:H a=some (.ins C dx fs)) (c:Cls X.K C) (n:NoAttr X.K C f) (hl:fs.length < 1000) (ry:RelV y u)
    (h:∀ s',Inv X pins σ (upd H a (.ins C dx (putF f y fs))) s'→Q () s'):wpAny (model X.prog X.w) A (setAttr (.ref a) f u) Q E s:=by
  obtain ⟨mA,O,r,wi,_,ho⟩:=ins_get I.hok e
  have hz:(fs.map (·.1)).length≤sizeLine:=by rw [List.length_map,sizeLine_eq];omega
  refine set_map I.kIn O c.sa c.po n.taker c.hd wi hz fun h' O' sb=>h _ ?_
  have hd:∃ o,h'.get? dx=some o:=let ⟨o,_,_,e',_⟩:=O'.ns;⟨o,e'⟩
  refine I.write (x:=a) (e:=dx) (by rw [e];exact True.intro) (.inr ho) (fun b q hb z=>(sb.2 b hb).trans z) hd ?_
  refine ⟨by rw [upd_ne O.ne];exact ho,?_,O.ne,O'.obj,_,O'.ns,fun g=>?_,fun g hg=>?_⟩
  · have:=length_putF f y fs;omega
  · show RelO ((putF f y fs).lookup g) (if g=f then some u else mA g)
    rw [lookup_putF]
    by_cases q:g=f
    · rw [if_pos q,if_pos q];exact ry
    · rw [if_neg q,if_neg q];exact r g
  · by_cases q:g=f
    · rw [q];exact (keys_putF f y fs).1
    · refine (keys_putF f y fs).2 g (wi g fun z=>hg ?_)
      show (if g=f then some u else mA g)=none
      rw [if_neg q];exact z
theorem Inv.made (I:Inv X pins σ H s):Inv X pins σ (upd (upd H s.heap.objs.size (.own (s.heap.objs.size+1))) (s.heap.objs.size+1) (.ins C s.heap.objs.size []))
    { s with heap:=(s.heap.push PySem.W.emptyDict).push (PySem.W.instObj C s.heap.objs.size) }:=by
  have e1:(s.heap.push PySem.W.emptyDict).get? s.heap.objs.size=some PySem.W.emptyDict:=Heap.get?_push_size s.heap rfl
  have e2:((s.heap.push PySem.W.emptyDict).push (PySem.W.instObj C s.heap.objs.size)).get? (s.heap.objs.size+1)=some (PySem.W.instObj C s.heap.objs.size):=by
    have:=Heap.get?_push_size (s.heap.push PySem.W.emptyDict) (o:=PySem.W.instObj C s.heap.objs.size) rfl
    rwa [Heap.size_push] at this
  have e3:(s.heap.push PySem.W.emptyDict).Ns s.heap.objs.size (fun _=>none):=⟨PySem.W.emptyDict,#[],_,e1,rfl,(fun e he=>absurd he (by simp)),fun _=>rfl⟩
  have I1:=I.laid (a:=s.heap.objs.size) (o:=.own (s.heap.objs.size+1)) (h':=s.heap.push PySem.W.emptyDict) (t':=s.toks) (fun b u q=>Heap.get?_push_of_some _ q) (Nat.le_refl _) ⟨_,e1⟩
  refine I1.laid (a:=s.heap.objs.size+1) (o:=.ins C s.heap.objs.size []) (t':=s.toks) (fun b u q=>Heap.get?_push_of_some _ q) (Nat.le_of_eq (Heap.size_push _ _)) ?_
  have ne:s.heap.objs.size≠s.heap.objs.size+1:=Nat.ne_of_lt (Nat.lt_succ_self _)
  refine ⟨by rw [upd_ne ne,upd_same],Nat.zero_le _,ne,e2,fun _=>none,(Heap.Ns1.of_empty e3).at fun o q=>Heap.get?_push_of_some _ q,fun _=>True.intro,fun y hy=>absurd rfl hy⟩
theorem attr_of {prog:Program} {w:World} {env:Env} {e:Expr} {f:Str} {pos:Pos} {s:Shared} {Q:Value→Shared→Prop} (hb:attributeBase e f env (eval e env)=eval e env)
    (h:wpAny (model prog w) A (eval e env) (fun o s₁=>wpAny (model prog w) A (getAttr o f true) Q E s₁) E s):wpAny (model prog w) A (eval (.Attribute e f pos) env) Q E s :=
  Attribute_any_ h (by rw [arm_eval_Attribute,hb])
end
noncomputable def tFld (K:PySem.W.Frag) (ta:TE) (f:Str):TE:=fun σ H Q=>ta σ H fun x H1=>exR x fun a=>∃ C dx fs v,H1 a=some (.ins C dx fs)∧Cls K C∧NoAttr K C f∧fs.lookup f=some v∧Q v H1
noncomputable def sFld (K:PySem.W.Frag) (ta tv:TE) (f:Str):TS:=fun D σ H=>tv σ H fun y H1=>ta σ H1 fun x H2=>exR x fun a=>∃ C dx fs,H2 a=some (.ins C dx fs)∧Cls K C∧NoAttr K C f∧fs.length < 1000 ∧
  D.nx σ (upd H2 a (.ins C dx (putF f y fs)))
section
variable {X:Cx} {o e value:Expr} {f:Str} {pos pos' tpos:Pos} {ta tv:TE}
theorem pe_fld (he:PE X e ta) (hb:attributeBase e f X.env (eval e X.env)=eval e X.env):PE X (.Attribute e f pos) (tFld X.K ta f):=by
  intro pins s σ H Q I h
  refine attr_of hb (thn (he pins s σ H _ I h) fun u s1 ⟨x,H1,I1,rx,q0⟩=>?_)
  obtain ⟨a,ex,C,dx,fs,v,ea,c,n,l,q⟩:=Eq.mp exR_ex q0
  subst ex
  obtain rfl:u=Value.ref a:=rx
  exact getattr_ok I1 ea c n l fun u' s2 I2 ru=>⟨v,H1,I2,ru,q⟩
theorem ps_fld (ha:PE X o ta) (hv:PE X value tv) (hs:swapsWith value (some (.Attribute o f pos')) pos.line X.env=pure false):PS X (.Assign [.Attribute o f pos'] value pos) (sFld X.K ta tv f):=by
  intro pins s σ H D I h
  refine plainObj_wpAny_Assign_Attribute (thn (hv pins s σ H _ I h) fun u s1 ⟨y,H1,I1,ry,q⟩=>thn (ha pins s1 σ H1 _ I1 q) fun ov s2 ⟨x,H2,I2,rx,q0⟩=>?_) hs
  obtain ⟨a,ex,C,dx,fs,ea,c,n,l,q2⟩:=Eq.mp exR_ex q0
  subst ex
  obtain rfl:ov=Value.ref a:=rx
  exact setattr_ok I2 ea c n l ry fun s3 I3=>⟨σ,_,I3,q2⟩
end
section
variable {X:Cx} {pins:List (Addr×Obj)} {σ:St} {H:Hp} {s:Shared} {A:Around} {E:Value→Shared→Prop} {Q:Value→Shared→Prop} {c:Value} {b:Bool}
inductive TyOf (K:PySem.W.Frag) (H:Hp):V→Value→Prop where
  | non:TyOf K H .non (.type "NoneType")
  | bl (x:Bool):TyOf K H (.bl x) (.type "bool")
  | int (i:Int):TyOf K H (.int i) (.type "int")
  | str (x:Str):TyOf K H (.str x) (.type "str")
  | flt (x:UInt64):TyOf K H (.flt x) (.type "float")
  | lst {a:Addr} {xs:List V} (e:H a=some (.lst xs)):TyOf K H (.ref a) (.type "list")
  | frz {a:Addr} {o:Obj} {xs:List V} (e:H a=some (.frz o (.lst xs))):TyOf K H (.ref a) (.type "list")
  | tup {a:Addr} {xs:List V} (e:H a=some (.tup xs)):TyOf K H (.ref a) (.type "tuple")
  | dK {a:Addr} {kvs:List (Key×V)} (e:H a=some (.dK kvs)):TyOf K H (.ref a) (.type "dict")
  | dT {a:Addr} {kvs:List (List Key×V)} (e:H a=some (.dT kvs)):TyOf K H (.ref a) (.type "dict")
  | ins {a C dx:Addr} {fs:List (Str×V)} (e:H a=some (.ins C dx fs)) (cl:Cls K C) (ha:PySem.W.findIn K (.ref C) "__class__" = some (some (.builtin "object.__class__")))
      (hn:PySem.W.specialIn K (.builtin "object.__class__") "__get__" = some (some (.builtin "getset_descriptor.__get__"))) (htk:PySem.W.takesIn K (.builtin "object.__class__")=some true)
      (hm:PySem.W.mroIn K C (.type "object")=some true):TyOf K H (.ref a) (.ref C)
theorem isinst_ok {x:V} {u t:Value} (I:Inv X pins σ H s) (rx:RelV x u) (ty:TyOf X.K H x t) (e:PySem.W.kitOne X.K t c=some b) (h:∀ tk,Q (.bool b) { s with toks:=tk }) :
    wpAny (model X.prog X.w) A (call (.builtin "isinstance") [u,c]) Q E s:=by
  cases ty with
  | non=>cases (show u=Value.none from rx);exact PySem.W.kia_one PySem.W.kitx_none I.kIn True.intro e (fun z=>nomatch z) h
  | bl y=>cases (show u=Value.bool y from rx);exact PySem.W.kia_one PySem.W.kitx_bool I.kIn True.intro e (fun z=>nomatch z) h
  | int i=>obtain ⟨t,q⟩:=(show ∃ t,u=Value.int i t from rx);cases q;exact PySem.W.kia_one PySem.W.kitx_int I.kIn True.intro e (fun z=>nomatch z) h
  | str y=>obtain ⟨t,q⟩:=(show ∃ t,u=Value.str y t from rx);cases q;exact PySem.W.kia_one PySem.W.kitx_str I.kIn True.intro e (fun z=>nomatch z) h
  | flt y=>obtain ⟨t,q⟩:=(show ∃ t,u=Value.float y t from rx);cases q;exact PySem.W.kia_one PySem.W.kitx_float I.kIn True.intro e (fun z=>nomatch z) h
  | @lst a xs ea =>
    cases (show u=Value.ref a from rx)
    obtain ⟨_,_,n,_,h1⟩:=(show ObjOk X.prog X.w H s.heap a (.lst xs) from I.hok a _ ea)
    exact PySem.W.kia_one PySem.W.kitx_list I.kIn ⟨_,h1,rfl⟩ e (fun z=>nomatch z) h
  | @frz a ob xs ea =>
    cases (show u=Value.ref a from rx)
    obtain ⟨_,_,_,n,_,h1⟩:=(show ObjOk X.prog X.w H s.heap a (.frz ob (.lst xs)) from I.hok a _ ea)
    exact PySem.W.kia_one PySem.W.kitx_list I.kIn ⟨_,h1,rfl⟩ e (fun z=>nomatch z) h
  | @tup a xs ea =>
    cases (show u=Value.ref a from rx)
    obtain ⟨_,_,_,p⟩:=(show ObjOk X.prog X.w H s.heap a (.tup xs) from I.hok a _ ea)
    obtain ⟨o,h1,h2,_⟩:=p
    exact PySem.W.kia_one PySem.W.kitx_tuple I.kIn ⟨o,h1,h2⟩ e (fun z=>nomatch z) h
  | @dK a kvs ea =>
    cases (show u=Value.ref a from rx)
    obtain ⟨_,_,vs,_,p⟩:=(show ObjOk X.prog X.w H s.heap a (.dK kvs) from I.hok a _ ea)
    obtain ⟨o,es,ep,h1,h2,_⟩:=p
    exact PySem.W.kia_one PySem.W.kitx_dict I.kIn ⟨o,h1,h2.1⟩ e (fun z=>nomatch z) h
  | @dT a kvs ea =>
    cases (show u=Value.ref a from rx)
    obtain ⟨_,_,xs,_,o,es,ep,h1,h2,_⟩:=(show ObjOk X.prog X.w H s.heap a (.dT kvs) from I.hok a _ ea)
    exact PySem.W.kia_one PySem.W.kitx_dict I.kIn ⟨o,h1,h2.1⟩ e (fun z=>nomatch z) h
  | @ins a C dx fs ea cl ha hn htk hm =>
    cases (show u=Value.ref a from rx)
    obtain ⟨mA,O,_⟩:=ins_get I.hok ea
    obtain ⟨od,J,_⟩:=O.look
    exact PySem.W.kia_one (PySem.W.kitx_own (cl.get _) cl.hd ha hn htk hm) I.kIn J e (fun z=>nomatch z) h
end
end L2
namespace L2
open PySem PySem.Spec PyProof.Rows
structure Room (k:Nat) (A:Around):Prop where
  hd:A.handled=none
  dp:A.depth+3 * k+5 < recursionLimit
  un:A.units+16 * k+200 < cLine
theorem Room.mono {j k:Nat} {A:Around} (r:Room k A) (h:j≤k):Room j A:=⟨r.hd,by have:=r.dp;omega,by have:=r.un;omega⟩
theorem Room.deeper {k:Nat} {A:Around} (r:Room (k+1) A) (env:Env):Room k (A.deeper env) :=
  ⟨r.hd,by have:=r.dp;show A.depth+1+3 * k+5 < _;omega,by have:=r.un;show A.units+3+16 * k+200 < _;omega⟩
theorem make_depth {A:Around} {C:Addr} {us:List Value} {kw:List (Str×Value)}:(A.under (.builtin "type.__call__" ⟨.ref C :: us,kw⟩)).depth=A.depth+1:=by
  first | rfl | simp [Around.under,Code.weight,Code.isCreation,Code.isGuard,Code.isCaller,Code.frames,Code.isFrame,guardIds]
theorem make_units {A:Around} {C:Addr} {us:List Value} {kw:List (Str×Value)}:(A.under (.builtin "type.__call__" ⟨.ref C :: us,kw⟩)).units=A.units+1:=by
  first | rfl | simp [Around.under,Code.cUnits,Code.frames,Code.isFrame]
theorem Room.make {k:Nat} {A:Around} (r:Room (k+1) A) (C:Addr) (us:List Value) (kw:List (Str×Value)):Room k (A.under (.builtin "type.__call__" ⟨.ref C :: us,kw⟩)) :=
  ⟨r.hd,by have:=r.dp;rw [make_depth];omega,by have:=r.un;rw [make_units];omega⟩
theorem Room.depth {k:Nat} {A:Around} (r:Room k A):A.depth < recursionLimit:=by have:=r.dp;omega
theorem Room.units {k:Nat} {A:Around} (r:Room k A):A.units+64 < cLine:=by have:=r.un;omega
noncomputable def tNil:TA:=fun _ H Q=>Q [] H
noncomputable def tCons (ta:TE) (tr:TA):TA:=fun σ H Q=>ta σ H fun x H1=>tr σ H1 fun xs H2=>Q (x :: xs) H2
section
variable {X:Cx} {e:Expr} {es:List Expr} {te:TE} {t:TA} {pos:Pos}
theorem pa_nil:PA X [] tNil:=fun _ _ _ _ H Q I h=>Calls.spliced_nil ⟨[],H,I,.nil,h⟩
theorem pa_cons (ha:PE X e te) (hr:PA X es t) (hs:starEach (e :: es) X.env=(false,eval e X.env) :: starEach es X.env:=by rfl):PA X (e :: es) (tCons te t):=by
  intro pos pins s σ H Q I h
  rw [hs]
  show wpAny _ _ (spliced ((false,eval e X.env) :: backTo pos (starEach es X.env))) _ _ s
  refine Calls.spliced_cons (thn (ha pins s σ H _ I h) fun u s1 ⟨x,H1,I1,r1,q1⟩=>?_)
  exact thn (hr pos pins s1 σ H1 _ I1 q1) fun us s2 ⟨xs,H2,I2,r2,q2⟩=>⟨x :: xs,H2,I2,.cons r1 r2,q2⟩
noncomputable def tTup (t:TA):TE:=fun σ H Q=>t σ H fun xs H1=>xs.length≤sizeLine∧∀ p,H1 p=none→Q (.ref p) (upd H1 p (.tup xs))
noncomputable def tLst (t:TA):TE:=fun σ H Q=>t σ H fun xs H1=>xs.length≤sizeLine∧∀ p,H1 p=none→Q (.ref p) (upd H1 p (.lst xs))
theorem pe_tup {x1} (h:PA X es t):PE X (.Tuple es x1 pos) (tTup t):=by
  intro pins s σ H Q I hq
  refine wpAny_Tuple_spliced (thn (h pos pins s σ H _ I hq) fun us s1 ⟨xs,H1,I1,r,z,q⟩=>⟨by rw [← r.length];exact z,?_⟩)
  have hf:H1 s1.heap.objs.size=none:=I1.hok.fresh (Nat.le_refl _)
  refine ⟨.ref s1.heap.objs.size,upd H1 s1.heap.objs.size (.tup xs),I1.laid (t':=s1.toks) (fun b u e=>Heap.get?_push_of_some _ e) (Nat.le_refl _) ?_,rfl,q _ hf⟩
  exact ⟨z,us,r,⟨_,Heap.get?_push_size _ rfl,rfl,_,rfl⟩⟩
theorem pe_lst (h:PA X es t):PE X (.List es pos) (tLst t):=by
  intro pins s σ H Q I hq
  refine wpAny_List_spliced (thn (h pos pins s σ H _ I hq) fun us s1 ⟨xs,H1,I1,r,z,q⟩=>⟨by rw [← r.length];exact z,?_⟩)
  have hf:H1 s1.heap.objs.size=none:=I1.hok.fresh (Nat.le_refl _)
  refine ⟨.ref s1.heap.objs.size,upd H1 s1.heap.objs.size (.lst xs),I1.laid (t':=s1.toks) (fun b u e=>Heap.get?_push_of_some _ e) (Nat.le_refl _) ?_,rfl,q _ hf⟩
  exact ⟨z,us,0,r,Heap.get?_push_size _ rfl⟩
end
noncomputable abbrev Sp:=List V→Hp→VK→XK→Prop
noncomputable abbrev CXT:=List Env→Hp→Shared→XK→Value→Shared→Prop
structure Env0 (P:Program) (w:World) (K:PySem.W.Frag) (mg:Str→Option Value) (base:Heap) (A:Around) (outer:List Env) (s:Shared) (H:Hp):Prop where
  frames:A.frames=some outer
  mod:Mod K mg base
  bs:∀ b o,base.get? b=some o→s.heap.get? b=some o∧H b=none
  bsz:base.objs.size≤s.heap.objs.size
  funs:s.heap.FunFrames base outer
  frf:∀ b∈frs outer,H b=none
  hok:HOk P w H s.heap
  bare:AllBare s.gens
noncomputable def CE (outer:List Env) (P:Program) (w:World) (H:Hp) (s:Shared) (Q:VK) (u:Value) (s':Shared):Prop :=
  ∃ v H',s'.os=s.os∧AllBare s'.gens∧Un (frs outer) [] H H' s.heap s'.heap∧HOk P w H' s'.heap∧RelV v u∧Q v H'
noncomputable def CR (CX:CXT) (outer:List Env) (P:Program) (w:World) (H:Hp) (s:Shared) (Q:VK) (E:XK) (r:Result) (s':Shared):Prop :=
  match r with
  | .ok (.ret u)=>CE outer P w H s Q u s'
  | .ok _=>False
  | .error e=>CX outer H s E e s'
structure FnOk (P:Program) (w:World) (K:PySem.W.Frag) (mg:Str→Option Value) (base:Heap) (CX:CXT) (k:Nat) (f:Addr) (fd:FuncData) (ps:List Str) (sp:Sp):Prop where
  len:∀ vs H Q E,sp vs H Q E→vs.length=ps.length
  run:∀ (A:Around) (outer:List Env) (s:Shared) (H:Hp) (args:Args) (us:List Value) (vs:List V) (Q:VK) (E:XK),Room k A→Env0 P w K mg base A outer s H→BindsTo s fd args (ps.zip us)→Vals vs us→sp vs H Q E →
    codeAny (model P w) A (.call (.ref f) args) (CR CX outer P w H s Q E) s
theorem Env0.make {P:Program} {w:World} {K:PySem.W.Frag} {mg:Str→Option Value} {base:Heap} {A:Around} {outer:List Env} {s:Shared} {H:Hp} (e:Env0 P w K mg base A outer s H) (C:Addr) (us:List Value) (kw:List (Str×Value)) :
    Env0 P w K mg base (A.under (.builtin "type.__call__" ⟨.ref C :: us,kw⟩)) outer s H:=⟨by first | exact e.frames | (simpa [Around.under,Code.envs,Code.isFrame,pushEnvs] using e.frames),e.mod,e.bs,e.bsz,e.funs,e.frf,e.hok,e.bare⟩
section
variable {X:Cx} {pins:List (Addr×Obj)} {σ:St} {H:Hp} {s s':Shared}
theorem Inv.env0 (I:Inv X pins σ H s):Env0 X.prog X.w X.K X.mg X.base X.A X.stack s H :=
  ⟨I.ok.frames,I.ok.mod,I.bs,Nat.le_trans I.ok.bsz I.sz,I.stack,I.stkFree,I.hok,I.bare⟩
theorem Inv.after {Q:VK} {u:Value} (I:Inv X pins σ H s) (h:CE X.stack X.prog X.w H s Q u s'):EP X pins σ Q u s':=by
  obtain ⟨v,H',os,bare,un,hok,r,q⟩:=h
  obtain ⟨hh,g,d,t,os'⟩:=s'
  obtain rfl:os'=s.os:=os
  exact ⟨v,H',I.call (h':=hh) (g':=g) (d':=d) (t':=t) (ch:=[]) un hok bare (fun b z=>absurd z (by simp)),r,q⟩
end
noncomputable def tCall (sp:Sp) (dvs:List V) (E:XK) (t:TA):TE:=fun σ H Q=>t σ H fun vs H1=>sp (vs ++ dvs) H1 Q E
noncomputable def tMeth (C:Addr) (m:Str) (sp:Sp) (dvs:List V) (E:XK) (ta:TE) (t:TA):TE:=fun σ H Q=>ta σ H fun x H1=>exR x fun a=>∃ dx fs,H1 a=some (.ins C dx fs)∧fs.lookup m=none ∧
  t σ H1 fun vs H2=>sp (x :: (vs ++ dvs)) H2 Q E
noncomputable def tMake (C:Addr) (sp:Sp) (dvs:List V) (E:XK) (t:TA):TE:=fun σ H Q=>t σ H fun vs H1=>∀ x dx,H1 x=none→H1 dx=none→dx≠x →
  sp (.ref x :: (vs ++ dvs)) (upd (upd H1 dx (.own x)) x (.ins C dx [])) (fun v H2=>v=.non∧Q (.ref x) H2) E
noncomputable def Binds (K:PySem.W.Frag) (fd:FuncData) (ps:List Str) (ds:List Value):Prop :=
  ∀ (s:Shared) (us:List Value),K.In s.heap→(us ++ ds).length=ps.length→BindsTo s fd ⟨us,[]⟩ (ps.zip (us ++ ds))
theorem Binds.all {K:PySem.W.Frag} {fd:FuncData} {ps:List Str} (h:∀ us:List Value,us.length=ps.length→bindArgs fd ⟨us,[]⟩=pure (ps.zip us)):Binds K fd ps []:=fun s us _ hl=>by
  rw [List.append_nil] at hl ⊢
  exact .of_eq (h us hl)
noncomputable def Passes (CX:CXT) (X:Cx) (E:XK):Prop:=∀ (pins:List (Addr×Obj)) (σ:St) (H:Hp) (s:Shared) (e:Value) (s':Shared),Inv X pins σ H s→CX X.stack H s E e s'→X.xe e s'
section
variable {X:Cx} {CX:CXT} {k:Nat} {f C:Addr} {fd:FuncData} {ps:List Str} {sp:Sp} {dvs:List V} {ds:List Value} {E:XK} {x m:Str} {p pos apos:Pos} {e o:Expr} {es:List Expr} {ta:TE} {t:TA}
theorem run_fn {pins:List (Addr×Obj)} {σ:St} {H:Hp} {s:Shared} {Q:VK} {us:List Value} {vs:List V} (F:FnOk X.prog X.w X.K X.mg X.base CX k f fd ps sp) (hr:Room k X.A) (hb:Binds X.K fd ps ds) (hd:Vals dvs ds) (hx:Passes CX X E)
    (I:Inv X pins σ H s) (r:Vals vs us) (h:sp (vs ++ dvs) H Q E):wpAny (model X.prog X.w) X.A (call (.ref f) us) (EP X pins σ Q) X.xe s:=by
  have r2:Vals (vs ++ dvs) (us ++ ds):=r.append hd
  have hl:(us ++ ds).length=ps.length:=by rw [← r2.length];exact F.len _ _ _ _ h
  refine wpAny_call (codeAny_mono (F.run X.A X.stack s H ⟨us,[]⟩ (us ++ ds) (vs ++ dvs) Q E hr I.env0 (hb s us I.kIn hl) r2 h) fun r s' hq=>?_)
  cases r with
  | error e=>exact hx pins σ H s e s' I hq
  | ok fl =>
    cases fl with
    | ret u=>exact I.after hq
    | next=>exact False.elim hq
    | brk=>exact False.elim hq
    | cont=>exact False.elim hq
theorem pe_call (F:FnOk X.prog X.w X.K X.mg X.base CX k f fd ps sp) (hr:Room k X.A) (hg:Gl X x) (hm:X.mg x=some (.ref f)) (hk:PySem.W.keepIn X.K (.ref f)=true) (hb:Binds X.K fd ps ds) (hd:Vals dvs ds) (hx:Passes CX X E)
    (ha:PA X (e :: es) t) (hdb:(x == ("__debug__" : Str))=false:=by decide) (he:starEach (e :: es) X.env=(false,eval e X.env) :: starEach es X.env:=by rfl) (hpl:(backTo pos (starEach es X.env)).any (·.1)=false:=by rfl) :
    PE X (.Call (.Name x p) (e :: es) [] pos) (tCall sp dvs E t):=by
  intro pins s σ H Q I h
  refine wpAny_Call_Name_kw (ld_glob I hg hm ?_ hdb)
  refine PySem.W.callWith_K (h₀:=X.base) I.ok.mod.kin hk (thn (ha pos pins s σ H _ I h) fun us s1 ⟨vs,H1,I1,r,q⟩=>⟨I1.kIn,?_⟩) he hpl
  exact run_fn F hr hb hd hx I1 r q
theorem pe_meth {pl:Sem Bool} (he:PE X o ta) (c:Cls X.K C) (hm:Meth X.K C m f) (F:FnOk X.prog X.w X.K X.mg X.base CX k f fd ps sp) (hr:Room k X.A) (hb:Binds X.K fd ps ds) (hd:Vals dvs ds) (hx:Passes CX X E) (ha:PA X (e :: es) t)
    (hst:starEach (e :: es) X.env=(false,eval e X.env) :: starEach es X.env:=by rfl) (hpl:(backTo pos (starEach es X.env)).any (·.1)=false:=by rfl)
    (ht:eval (.Call (.Attribute o m apos) (e :: es) [] pos) X.env=(do
      let ov ← eval o X.env
      standAt apos.atName
      let (f,first) ← holding [ov] (getMethod ov m pl)
      callWith pos f first (backTo pos (starEach (e :: es) X.env)) (backToKw pos (keywordEach [] X.env))):=by rfl) :
    PE X (.Call (.Attribute o m apos) (e :: es) [] pos) (tMeth C m sp dvs E ta t):=by
  intro pins s σ H Q I h
  refine PySem.W.methodCall_KW (pl:=pl) (thn (he pins s σ H _ I h) fun u s1 ⟨x,H1,I1,rx,q0⟩=>?_) ht
  obtain ⟨a,ex,dx,fs,ea,l,q⟩:=Eq.mp exR_ex q0
  subst ex
  obtain rfl:u=Value.ref a:=rx
  refine getmeth_ok I1 ea c hm l ?_
  refine PySem.W.callWith_K (first:=[.ref a]) (h₀:=X.base) I.ok.mod.kin hm.kp (thn (ha pos pins s1 σ H1 _ I1 q) fun us s2 ⟨vs,H2,I2,r,q2⟩=>⟨I2.kIn,?_⟩) hst hpl
  exact run_fn (us:=.ref a :: us) (vs:=.ref a :: vs) F hr hb hd hx I2 (.cons rfl r) q2
theorem pe_meth0 {pl:Sem Bool} (he:PE X o ta) (c:Cls X.K C) (hm:Meth X.K C m f) (F:FnOk X.prog X.w X.K X.mg X.base CX k f fd ps sp) (hr:Room k X.A) (hb:Binds X.K fd ps ds) (hd:Vals dvs ds) (hx:Passes CX X E)
    (ht:eval (.Call (.Attribute o m apos) [] [] pos) X.env=(do
      let ov ← eval o X.env
      standAt apos.atName
      let (f,first) ← holding [ov] (getMethod ov m pl)
      callWith pos f first (backTo pos (starEach [] X.env)) (backToKw pos (keywordEach [] X.env))):=by rfl) :
    PE X (.Call (.Attribute o m apos) [] [] pos) (tMeth C m sp dvs E ta tNil):=by
  intro pins s σ H Q I h
  refine PySem.W.methodCall_KW (pl:=pl) (thn (he pins s σ H _ I h) fun u s1 ⟨x,H1,I1,rx,q0⟩=>?_) ht
  obtain ⟨a,ex,dx,fs,ea,l,q⟩:=Eq.mp exR_ex q0
  subst ex
  obtain rfl:u=Value.ref a:=rx
  refine getmeth_ok I1 ea c hm l ?_
  exact PySem.W.callWith_K0 (first:=[.ref a]) I1.kIn hm.kp (run_fn (us:=[.ref a]) (vs:=[.ref a]) F hr hb hd hx I1 (.cons rfl .nil) q)
structure Mk (K:PySem.W.Frag) (C f:Addr):Prop where
  makes:PySem.W.makesIn K C=true
  init:PySem.W.findIn K (.ref C) "__init__" = some (some (.ref f))
  fn:PySem.W.isFn K (.ref f)=true
  kp:PySem.W.keepIn K (.ref C)=true
theorem run_make {pins:List (Addr×Obj)} {σ:St} {H:Hp} {s:Shared} {Q:VK} {us:List Value} {vs:List V} (M:Mk X.K C f) (F:FnOk X.prog X.w X.K X.mg X.base CX k f fd ps sp) (hr:Room (k+1) X.A) (hb:Binds X.K fd ps ds) (hd:Vals dvs ds)
    (hx:Passes CX X E) (I:Inv X pins σ H s) (r:Vals vs us)
    (h:∀ x dx,H x=none→H dx=none→dx≠x→sp (.ref x :: (vs ++ dvs)) (upd (upd H dx (.own x)) x (.ins C dx [])) (fun v H2=>v=.non∧Q (.ref x) H2) E) :
    wpAny (model X.prog X.w) X.A (call (.ref C) us) (EP X pins σ Q) X.xe s:=by
  have hq:=h (s.heap.objs.size+1) s.heap.objs.size (I.hok.fresh (Nat.le_succ _)) (I.hok.fresh (Nat.le_refl _)) (Nat.ne_of_lt (Nat.lt_succ_self _))
  have I2:=Inv.made (C:=C) I
  have r2:Vals (V.ref (s.heap.objs.size+1) :: (vs ++ dvs)) (Value.ref (s.heap.objs.size+1) :: (us ++ ds)):=.cons rfl (r.append hd)
  have hl:(Value.ref (s.heap.objs.size+1) :: us ++ ds).length=ps.length:=by
    have e:=r2.length
    rw [F.len _ _ _ _ hq] at e
    exact e.symm
  refine wpAny_call (make_map (f:=f) I.kIn M.makes M.init (beq_iff_eq.mp M.fn) (codeAny_mono (F.run _ X.stack _ _ ⟨Value.ref (s.heap.objs.size+1) :: us,[]⟩ (Value.ref (s.heap.objs.size+1) :: (us ++ ds)) _ _ E (hr.make C us [])
    (I2.env0.make C us []) (hb _ (Value.ref (s.heap.objs.size+1) :: us) I2.kIn hl) r2 hq) fun r s' hq'=>?_))
  cases r with
  | error e=>exact hx pins σ _ _ e s' I2 hq'
  | ok fl =>
    cases fl with
    | ret u =>
      obtain ⟨v,H',I3,rv,ev,q3⟩:=I2.after hq'
      subst ev
      exact ⟨rv,⟨V.ref (s.heap.objs.size+1),H',I3,rfl,q3⟩⟩
    | next=>exact False.elim hq'
    | brk=>exact False.elim hq'
    | cont=>exact False.elim hq'
theorem pe_make (M:Mk X.K C f) (F:FnOk X.prog X.w X.K X.mg X.base CX k f fd ps sp) (hr:Room (k+1) X.A) (hg:Gl X x) (hm:X.mg x=some (.ref C)) (hb:Binds X.K fd ps ds) (hd:Vals dvs ds) (hx:Passes CX X E)
    (ha:PA X (e :: es) t) (hdb:(x == ("__debug__" : Str))=false:=by decide) (he:starEach (e :: es) X.env=(false,eval e X.env) :: starEach es X.env:=by rfl) (hpl:(backTo pos (starEach es X.env)).any (·.1)=false:=by rfl) :
    PE X (.Call (.Name x p) (e :: es) [] pos) (tMake C sp dvs E t):=by
  intro pins s σ H Q I h
  refine wpAny_Call_Name_kw (ld_glob I hg hm ?_ hdb)
  refine PySem.W.callWith_K (h₀:=X.base) I.ok.mod.kin M.kp (thn (ha pos pins s σ H _ I h) fun us s1 ⟨vs,H1,I1,r,q⟩=>⟨I1.kIn,?_⟩) he hpl
  exact run_make M F hr hb hd hx I1 r q
end
section
variable {X:Cx} {CX:CXT} {k:Nat} {f C:Addr} {fd:FuncData} {ps ks:List Str} {sp:Sp} {E:XK} {x m:Str} {p pos apos kpos:Pos} {e o:Expr} {es:List Expr} {kws:List Keyword} {te ta:TE} {t tk:TA} {nm:Option Str}
variable {g:List Value→List Value→List Value} {gV:List V→List V→List V}
end
structure FnScope (N P:List Str) (sc:Scope):Prop where
  kind:sc.kind=.function
  co:sc.isCoroutine=false
  gen:sc.isGenerator=false
  nd:N.Nodup
  pre:N.take P.length=P
  par:∀ x∈P,sc.names.lookup x=some .local∨sc.names.lookup x=some .cell
  nofree:∀ y∈sc.names,y.2≠.free
theorem bindL_out {kindOf:Str→Option NameKind} {x:Str}:∀ {binds:List (Str×Value)} {m:Str→Option Value},(∀ v,(x,v)∉binds)→bindL kindOf binds m x=m x
  | [],_,_=>rfl
  | (n,v) :: r,m,h=>by
    unfold bindL
    rw [bindL_out fun w hw=>h w (List.mem_cons_of_mem _ hw)]
    split
    · have:x≠n:=by rintro rfl;exact h v List.mem_cons_self
      simp [this]
    · rfl
theorem bindC_out {kindOf:Str→Option NameKind} {x:Str}:∀ {binds:List (Str×Value)} {m:Str→Option Value},(∀ v,(x,v)∉binds)→bindC kindOf binds m x=m x
  | [],_,_=>rfl
  | (n,v) :: r,m,h=>by
    unfold bindC
    rw [bindC_out fun w hw=>h w (List.mem_cons_of_mem _ hw)]
    split
    · rfl
    · have:x≠n:=by rintro rfl;exact h v List.mem_cons_self
      simp [this]
theorem bindL_get {kindOf:Str→Option NameKind} {x:Str} {v:Value}:∀ {P:List Str} {vs:List Value} {i:Nat} {m:Str→Option Value},P.Nodup→P[i]?=some x→vs[i]?=some v→kindOf x=some .local →
    bindL kindOf (P.zip vs) m x=some v
  | [],_,_,_,_,h,_,_=>by simp at h
  | _ :: _,[],_,_,_,_,h,_=>by simp at h
  | p :: P,w :: vs,0,m,nd,h1,h2,hk=>by
    simp at h1 h2;subst h1;subst h2
    show bindL kindOf ((p,w) :: P.zip vs) m p=_
    unfold bindL
    rw [bindL_out fun v hv=>(List.nodup_cons.mp nd).1 (List.of_mem_zip hv).1,if_pos hk]
    simp
  | p :: P,w :: vs,i+1,m,nd,h1,h2,hk=>by
    show bindL kindOf ((p,w) :: P.zip vs) m x=_
    unfold bindL
    exact bindL_get (i:=i) (List.nodup_cons.mp nd).2 (by simpa using h1) (by simpa using h2) hk
theorem bindC_get {kindOf:Str→Option NameKind} {x:Str} {v:Value}:∀ {P:List Str} {vs:List Value} {i:Nat} {m:Str→Option Value},P.Nodup→P[i]?=some x→vs[i]?=some v→kindOf x≠some .local →
    bindC kindOf (P.zip vs) m x=some v
  | [],_,_,_,_,h,_,_=>by simp at h
  | _ :: _,[],_,_,_,_,h,_=>by simp at h
  | p :: P,w :: vs,0,m,nd,h1,h2,hk=>by
    simp at h1 h2;subst h1;subst h2
    show bindC kindOf ((p,w) :: P.zip vs) m p=_
    unfold bindC
    rw [bindC_out fun v hv=>(List.nodup_cons.mp nd).1 (List.of_mem_zip hv).1,if_neg hk]
    simp
  | p :: P,w :: vs,i+1,m,nd,h1,h2,hk=>by
    show bindC kindOf ((p,w) :: P.zip vs) m x=_
    unfold bindC
    exact bindC_get (i:=i) (List.nodup_cons.mp nd).2 (by simpa using h1) (by simpa using h2) hk
noncomputable def start (N:List Str) (vs:List V):St:=vs.map some ++ List.replicate (N.length - vs.length) none
noncomputable def cxOf (CX:CXT) (P:Program) (w:World) (K:PySem.W.Frag) (mg:Str→Option Value) (base:Heap) (N:List Str) (qual:Str) (scope:Scope) (f:Addr) (cd:Value) (A:Around) (outer:List Env) (s:Shared) (H:Hp) (E:XK):Cx where
  prog:=P
  w:=w
  K:=K
  mg:=mg
  base:=base
  A:=A.deeper (envOfC qual scope s.heap.objs.size f cd)
  N:=N
  s₀:=s
  H₀:=H
  env:=envOfC qual scope s.heap.objs.size f cd
  outer:=outer
  stack:=envOfC qual scope s.heap.objs.size f cd :: outer
  ex:=[]
  calm:=true
  fn:=fun _=>true
  pn:=[]
  xe:=fun e s'=>wpAny (model P w) (A.deeper (envOfC qual scope s.heap.objs.size f cd)) (leaving (envOfC qual scope s.heap.objs.size f cd) e) (fun _ s''=>CX outer H s E e s'') (fun e' s''=>CX outer H s E e' s'') s'
theorem cell_has {sc:Scope} {n:Nat} {x:Str} (h:sc.names.lookup x=some .cell):∃ c,(cellsFrom n sc.names []).lookup x=some c:=by
  have q:=PySem.W.cellsFrom_some sc.names n [] (.inl h)
  exact Option.isSome_iff_exists.mp q
theorem inv_start {CX:CXT} {P:Program} {w:World} {K:PySem.W.Frag} {mg:Str→Option Value} {base:Heap} {N ps:List Str} {qual:Str} {scope:Scope} {f:Addr} {cd:Value} {A:Around} {outer:List Env} {s s1:Shared} {H:Hp} {E:XK} {us:List Value} {vs:List V}
    (S:FnScope N ps scope) (hd:A.handled=none) (e0:Env0 P w K mg base A outer s H) (hl:vs.length=ps.length) (r:Vals vs us)
    (x:InCallC s s.heap.objs.size (bindL (envOfC qual scope s.heap.objs.size f cd).kindOf (ps.zip us) fun _=>none) (cellsFrom (s.heap.objs.size+1) scope.names []) (bindC (envOfC qual scope s.heap.objs.size f cd).kindOf (ps.zip us) fun _=>none) s1) :
    Inv (cxOf CX P w K mg base N qual scope f cd A outer s H E) [] (start N vs) H s1:=by
  have hpl:ps.length≤N.length:=by have:=congrArg List.length S.pre;rw [List.length_take] at this;omega
  obtain ⟨h1,tk,rfl,hk⟩:=x.done
  have noA:∀ b:Addr,b∉(cxOf CX P w K mg base N qual scope f cd A outer s H E).ex:=fun b z=>absurd (show b∈([]:List Addr) from z) (by simp)
  refine ⟨⟨e0.mod,S.kind,rfl,rfl,Nat.le_refl _,fun y z c h1 h2=>?_,fun y hy=>?_,fun y c _ h=>?_,fun _=>hd,Around.frames_deeper e0.frames,.inr ⟨rfl,rfl⟩,fun b z=>absurd z (noA b),e0.bs,e0.bsz,fun b _ _=>noA b,fun b z=>absurd z (noA b),e0.funs,e0.frf⟩,
    rfl,e0.bare,Un.kept hk,⟨_,x.toInCall.ns,fun i y v h1 h2 h3=>?_⟩,fun y c h=>⟨_,x.cell y c h⟩,e0.hok.fresh (Nat.le_refl _),fun y c h=>?_,fun p hp=>absurd (show p∈([]:List (Addr×Obj)) from hp) (by simp),e0.hok.kept hk,?_⟩
  · exact name_of_addr x.apart (PySem.mem_of_lookup h1) (PySem.mem_of_lookup h2)
  · have hy:scope.names.lookup y=some .cell∨scope.names.lookup y=some .free:=hy
    rcases hy with hy | hy
    · exact cell_has hy
    · exact absurd rfl (S.nofree _ (PySem.mem_of_lookup hy))
  · exact Nat.le_of_lt (x.above y c (PySem.mem_of_lookup h))
  · have hi:i < vs.length:=by
      unfold start at h2
      by_cases hi:i < vs.length
      · exact hi
      · rw [List.getElem?_append_right (by simpa using hi)] at h2
        rw [List.getElem?_replicate] at h2
        split at h2 <;> cases h2
    have ha:vs[i]?=some v:=by
      unfold start at h2
      rw [List.getElem?_append_left (by simpa using hi),List.getElem?_map] at h2
      cases e:vs[i]? with
      | none=>rw [e] at h2;cases h2
      | some a=>rw [e] at h2;cases h2;rfl
    obtain ⟨u,hu,rv⟩:=r.get ha
    have hp:ps[i]?=some y:=by
      rw [← S.pre,List.getElem?_take_of_lt (by omega)];exact h1
    have ndP:ps.Nodup:=by rw [← S.pre];exact S.nd.sublist (List.take_sublist _ _)
    refine ⟨u,rv,?_⟩
    rcases S.par y (List.mem_of_getElem? hp) with k | k
    · exact .inl ⟨k,bindL_get ndP hp hu k⟩
    · obtain ⟨c,e⟩:=cell_has (n:=s.heap.objs.size+1) k
      refine .inr ⟨.inl k,c,e,?_⟩
      have q:=x.cell y c e
      rw [bindC_get ndP hp hu (by show scope.names.lookup y≠_;rw [k];decide)] at q
      exact q
  · exact e0.hok.fresh (Nat.le_of_lt (x.above y c (PySem.mem_of_lookup h)))
  · unfold start
    show _=N.length
    rw [List.length_append,List.length_map,List.length_replicate]
    omega
theorem fn_of {CX:CXT} {P:Program} {w:World} {K:PySem.W.Frag} {mg:Str→Option Value} {base:Heap} {k:Nat} {f:Addr} {name qual:Str} {params:Arguments} {body:List Stmt} {scope:Scope} {dV kV doc pm cdv ct oc:Value} {an od:Option Addr}
    {osl:Array (Option Value)} {N ps:List Str} {sp:Sp} (lk:K.lookup f=some ⟨oc,od,.func (PySem.W.fnOf name qual params body scope dV kV doc pm an cdv ct),osl⟩) (hcd:PySem.W.codeIn K cdv qual=true) (S:FnScope N ps scope)
    (len:∀ vs H Q E,sp vs H Q E→vs.length=ps.length)
    (hbody:∀ (A:Around) (outer:List Env) (s:Shared) (H:Hp) (vs:List V) (Q:VK) (E:XK),Room k (A.deeper (envOfC qual scope s.heap.objs.size f cdv))→sp vs H Q E →
      ∃ t,PSs (cxOf CX P w K mg base N qual scope f cdv A outer s H E) body t∧t { nx:=fun _ H'=>Q .non H',rt:=Q } (start N vs) H) :
    FnOk P w K mg base CX (k+1) f (PySem.W.fnOf name qual params body scope dV kV doc pm an cdv ct) ps sp:=by
  refine ⟨len,fun A outer s H args us vs Q E hr e0 hb r hsp=>?_⟩
  have hl:=len _ _ _ _ hsp
  have KX:K.In s.heap:=e0.mod.kin.keeps fun b o e=>(e0.bs b o e).1
  have lim:s.heap.NoLimit:=e0.mod.nolimit.keeps fun b o e=>(e0.bs b o e).1
  have hkind:∀ y∈ps.zip us,scope.names.lookup y.1=some .local∨(scope.names.lookup y.1=some .cell∧((cellsFrom (s.heap.objs.size+1) scope.names []).lookup y.1).isSome=true):=fun ⟨n,v⟩ hy=>by
    rcases S.par n (List.of_mem_zip hy).1 with q | q
    · exact .inl q
    · exact .inr ⟨q,PySem.W.cellsFrom_some _ _ _ (.inl q)⟩
  refine codeAny_call_function hr.depth (KX _ _ lk) rfl S.co S.gen rfl (PySem.W.codeRec_of KX hcd) (hb _ _ _ _ ?_)
  refine wpAny_newFunctionEnv_cells S.kind hkind fun env he s1 x=>?_
  subst he
  refine ⟨lim.keeps x.toInCall.keep,codeAny_func ?_⟩
  obtain ⟨t,ht,hq⟩:=hbody A outer s H vs Q E (hr.deeper _) hsp
  have I:Inv (cxOf CX P w K mg base N qual scope f cdv A outer s H E) [] (start N vs) H s1:=inv_start S hr.hd e0 hl r x
  refine wpAny_mono (ht [] s1 (start N vs) H _ I hq) (fun fl s' hs=>?_) fun e s' hs=>hs
  have fin:∀ {σ':St} {H':Hp} {v:V} {u:Value},Inv (cxOf CX P w K mg base N qual scope f cdv A outer s H E) [] σ' H' s'→RelV v u→Q v H'→CE outer P w H s Q u s' :=
    fun {σ' H' v u} J rv q=>⟨v,H',J.os,J.bare,J.base,J.hok,rv,q⟩
  cases fl with
  | ret u =>
    obtain ⟨v,σ',H',J,rv,q⟩:=hs
    exact fin J rv q
  | next =>
    obtain ⟨σ',H',J,q⟩:=hs
    exact fin (v:=V.non) (u:=Value.none) J rfl q
  | brk =>
    obtain ⟨_,_,_,q⟩:=hs
    exact False.elim q
  | cont =>
    obtain ⟨_,_,_,q⟩:=hs
    exact False.elim q
end L2
namespace L2
open PySem PySem.Spec PyProof.Rows
section
variable {X:Cx} {x:Str} {p pos:Pos} {e:Expr} {es:List Expr} {t:TA} {id T:String} {r:List V→Hp→VK→Prop}
noncomputable def tCB (r:List V→Hp→VK→Prop) (t:TA):TE:=fun σ H Q=>t σ H fun vs H1=>r vs H1 Q
theorem pe_callB (hc:CallR X (.builtin id) r) (hg:Gl X x) (hm:X.mg x=none) (hv:bootBuiltins x=some (.builtin id)) (ha:PA X (e :: es) t) (hn:x ≠ "__name__":=by decide) (hdb:(x == ("__debug__" : Str))=false:=by decide)
    (he:starEach (e :: es) X.env=(false,eval e X.env) :: starEach es X.env:=by rfl) (hpl:(backTo pos (starEach es X.env)).any (·.1)=false:=by rfl):PE X (.Call (.Name x p) (e :: es) [] pos) (tCB r t):=by
  intro pins s σ H Q I h
  refine wpAny_Call_Name_kw (ld_blt I hg hm hv ?_ hn hdb)
  exact PyProof.Rows.callWith_builtin1 (thn (ha pos pins s σ H _ I h) fun us s1 ⟨vs,H1,I1,r1,q1⟩=>hc pins s1 σ H1 vs us Q I1 r1 q1) he hpl
theorem pe_callTy (hc:CallR X (.type T) r) (hg:Gl X x) (hm:X.mg x=none) (hv:bootBuiltins x=some (.type T)) (ha:PA X (e :: es) t) (hn:x ≠ "__name__":=by decide) (hdb:(x == ("__debug__" : Str))=false:=by decide)
    (he:starEach (e :: es) X.env=(false,eval e X.env) :: starEach es X.env:=by rfl) (hpl:(backTo pos (starEach es X.env)).any (·.1)=false:=by rfl):PE X (.Call (.Name x p) (e :: es) [] pos) (tCB r t):=by
  intro pins s σ H Q I h
  refine wpAny_Call_Name_kw (ld_blt I hg hm hv ?_ hn hdb)
  exact PyProof.Rows.callWith_type1 (thn (ha pos pins s σ H _ I h) fun us s1 ⟨vs,H1,I1,r1,q1⟩=>hc pins s1 σ H1 vs us Q I1 r1 q1) he hpl
end
end L2
namespace HT
open PySem PyProof.Rows
section
open PySem.SeqAt
open PySem.AutoSeq1 (wpAny_loadPart')
open PySem.MeetsSeq PySem.MeetsSeq2 PySem.MeetsSeq3
end
section
variable {prog:Program} {w:World} {A:Around} {E:Value→Shared→Prop} {s:Shared}
noncomputable def sIx (n d:Nat):Option Int→Nat
  | none=>d
  | some v=>if v < 0 then (v+(n:Int)).toNat else min v.toNat n
theorem sIx_none (n d:Nat):sIx n d none=d:=rfl
end
end HT
namespace L2
open PySem PySem.Spec PyProof.Rows
noncomputable abbrev TO:=St→Hp→(Option Int→Hp→Prop)→Prop
noncomputable def PO (X:Cx) (e:Option Expr) (t:TO):Prop :=
  ∀ (pins:List (Addr×Obj)) (s:Shared) (σ:St) (H:Hp) (Q:Option Int→Hp→Prop),Inv X pins σ H s→t σ H Q →
    wpAny (model X.prog X.w) X.A (evalPart e X.env) (fun u s'=>∃ o H',Inv X pins σ H' s'∧IsPart u o∧Q o H') X.xe s
noncomputable def tNoPart:TO:=fun _ H Q=>Q none H
noncomputable def tPart (t:TE):TO:=fun σ H Q=>t σ H fun x H1=>∃ i,x=.int i∧Q (some i) H1
section
variable {X:Cx} {e:Expr} {te:TE} {lo hi:Option Expr} {tl th:TO} {pos p2:Pos}
theorem po_none:PO X none tNoPart:=by
  intro pins s σ H Q I h
  rw [evalPart_none]
  exact wpAny_pure ⟨none,H,I,.none,h⟩
theorem po_some (h:PE X e te):PO X (some e) (tPart te):=by
  intro pins s σ H Q I hw
  rw [evalPart_some]
  refine thn (h pins s σ H _ I hw) fun u s1 ⟨x,H1,I1,r1,q1⟩=>?_
  obtain ⟨i,rfl,q⟩:=q1
  obtain ⟨t,rfl⟩:=r1
  exact ⟨some i,H1,I1,.int i t,q⟩
noncomputable def SlR (X:Cx) (r:V→Option Int→Option Int→Hp→VK→Prop):Prop :=
  ∀ (pins:List (Addr×Obj)) (s:Shared) (σ:St) (H:Hp) (x:V) (v vl vu:Value) (lo hi:Option Int) (sl:Addr) (Q:VK),Inv X pins σ H s→RelV x v→s.heap.IsSliceOf sl vl vu .none→IsPart vl lo→IsPart vu hi→r x lo hi H Q →
    ∃ T id,typeLookup (.type T) "__getitem__" = pure (some (.builtin id))∧s.TypeIs v T∧wpAny (model X.prog X.w) X.A (getItem v (.ref sl)) (EP X pins σ Q) X.xe s
noncomputable def tSl (r:V→Option Int→Option Int→Hp→VK→Prop) (te:TE) (tl th:TO):TE:=fun σ H Q=>te σ H fun x H1=>tl σ H1 fun l H2=>th σ H2 fun u H3=>r x l u H3 Q
theorem pe_slice {r:V→Option Int→Option Int→Hp→VK→Prop} (hr:SlR X r) (he:PE X e te) (hl:PO X lo tl) (hu:PO X hi th):PE X (.Subscript e (.Slice lo hi none p2) pos) (tSl r te tl th):=by
  intro pins s σ H Q I h
  refine Subscript_ (thn (he pins s σ H _ I h) fun v s1 ⟨x,H1,I1,r1,q1⟩=>?_)
  refine wpAny_Slice (thn (hl pins s1 σ H1 _ I1 q1) fun vl s2 ⟨l,H2,I2,pl,q2⟩=>thn (hu pins s2 σ H2 _ I2 q2) fun vu s3 ⟨u,H3,I3,pu,q3⟩=>?_)
  rw [evalPart_none]
  refine wpAny_pure ?_
  have I4:Inv X pins σ H3 { s3 with heap:=s3.heap.push { cls:=.type "slice",data:=.fields #[vl,vu,.none] } }:=I3.kept (t':=s3.toks) fun b ob q=>Heap.get?_push_of_some _ q
  obtain ⟨T,id,hT,ht,hg⟩:=hr pins { s3 with heap:=s3.heap.push { cls:=.type "slice",data:=.fields #[vl,vu,.none] } } σ H3 x v vl vu l u s3.heap.objs.size Q I4 r1 (Heap.IsSliceOf.new ..) pl pu q3
  show wpAny (model X.prog X.w) X.A (subscriptTail e (.Slice lo hi none p2) v (.ref s3.heap.objs.size)) (EP X pins σ Q) X.xe { s3 with heap:=s3.heap.push { cls:=.type "slice",data:=.fields #[vl,vu,.none] } }
  exact tail_any (ops:=[.ref s3.heap.objs.size,v]) ht hT hg (by with_unfolding_all rfl)
noncomputable def cutV (xs:List V) (lo hi:Option Int):List V:=(xs.drop (HT.sIx xs.length 0 lo)).take (HT.sIx xs.length xs.length hi - HT.sIx xs.length 0 lo)
theorem cutV_length (xs:List V) (lo hi:Option Int):(cutV xs lo hi).length≤xs.length:=by
  unfold cutV
  rw [List.length_take,List.length_drop]
  omega
end
end L2
namespace L2
open PySem PySem.Spec PyProof.Rows
noncomputable def ixN (n:Nat) (i:Int):Option Nat:=if 0≤i then (if i < n then some i.toNat else none) else if -(n:Int)≤i then some (i+n).toNat else none
noncomputable def atI {α:Type} (xs:List α) (i:Int):Option α:=(ixN xs.length i).bind fun j=>xs[j]?
theorem ixN_seq {n:Nat} {i:Int} {j:Nat} (h:ixN n i=some j):seqIndex? i n=some j∧j < n∧-(n:Int)≤i∧i < n:=by
  unfold ixN at h
  by_cases h0:0≤i
  · rw [if_pos h0] at h
    by_cases h1:i < n
    · rw [if_pos h1] at h
      have e:i.toNat=j:=Option.some.inj h
      exact ⟨by rw [seqIndex_of h0 h1,e],by omega,by omega,h1⟩
    · rw [if_neg h1] at h;cases h
  · rw [if_neg h0] at h
    by_cases h1:-(n:Int)≤i
    · rw [if_pos h1] at h
      have e:(i+n).toNat=j:=Option.some.inj h
      exact ⟨by rw [seqIndex_neg (by omega) h1,e],by omega,h1,by omega⟩
    · rw [if_neg h1] at h;cases h
theorem atI_get {α:Type} {xs:List α} {i:Int} {v:α} (h:atI xs i=some v):∃ j,seqIndex? i xs.length=some j∧xs[j]?=some v∧j < xs.length∧-(xs.length:Int)≤i∧i < xs.length:=by
  unfold atI at h
  cases e:ixN xs.length i with
  | none=>rw [e] at h;cases h
  | some j =>
    rw [e] at h
    obtain ⟨h1,h2,h3,h4⟩:=ixN_seq e
    exact ⟨j,h1,h,h2,h3,h4⟩
theorem atI_nat {α:Type} {xs:List α} {j:Nat} {v:α} (h:xs[j]?=some v):atI xs (j:Int)=some v:=by
  have hj:j < xs.length:=(List.getElem?_eq_some_iff.mp h).1
  have e:ixN xs.length (j:Int)=some j:=by
    unfold ixN
    rw [if_pos (by omega),if_pos (by omega)];simp
  unfold atI;rw [e];exact h
noncomputable def PlainIx (b:Expr):Prop:=∀ o i,subscripted b false o i=operate [o,i] (getItem o i)
noncomputable def IxR (X:Cx) (r:R2):Prop :=
  ∀ (value slice:Expr) (pins:List (Addr×Obj)) (s:Shared) (σ:St) (H:Hp) (x y:V) (v u:Value) (Q:VK),Inv X pins σ H s→RelV x v→RelV y u→r x y H Q →
    subscripted slice false v u=operate [v,u] (getItem v u)→wpAny (model X.prog X.w) X.A (subscriptTail value slice v u) (EP X pins σ Q) X.xe s
noncomputable def MtR (X:Cx) (id:String) (r:V→List V→Hp→VK→Prop):Prop :=
  ∀ (pins:List (Addr×Obj)) (s:Shared) (σ:St) (H:Hp) (x:V) (xs:List V) (v:Value) (us:List Value) (Q:VK),Inv X pins σ H s→RelV x v→Vals xs us→r x xs H Q →
    wpAny (model X.prog X.w) X.A (call (.builtin id) (v :: us)) (EP X pins σ Q) X.xe s
section
variable {X:Cx} {a b:Expr} {ta tb:TE} {pos:Pos}
theorem pe_ix {r:R2} (hr:IxR X r) (ha:PE X a ta) (hb:PE X b tb) (hs:PlainIx b):PE X (.Subscript a b pos) (tOp r ta tb):=by
  intro pins s σ H Q I h
  exact Subscript_ (binT ha hb I h fun v u s2 x y H2 I2 rx ry q=>hr a b pins s2 σ H2 x y v u Q I2 rx ry q (hs _ _))
noncomputable def rIxL (K:PySem.W.Frag):R2:=fun x y H Q=>exR x fun p=>exI y fun i=>∃ xs,SqL K H p xs∧∃ v,atI xs i=some v∧Q v H
noncomputable def rIxT (K:PySem.W.Frag):R2:=fun x y H Q=>exR x fun p=>exI y fun i=>∃ xs,SqT K H p xs∧∃ v,atI xs i=some v∧Q v H
theorem ix_list:IxR X (rIxL X.K):=by
  intro value slice pins s σ H x y v u Q I rx ry h hs
  obtain ⟨p,rfl,h1⟩:=Eq.mp exR_ex h
  obtain ⟨i,rfl,xs,hq,z,he,q⟩:=Eq.mp exI_ex h1
  cases rx
  obtain ⟨t,rfl⟩:=ry
  obtain ⟨its,r,pl,hz⟩:=I.list hq
  obtain ⟨j,h1,h2,h3,h4,h5⟩:=atI_get he
  obtain ⟨w,ew,rw'⟩:=r.get h2
  have hl:=r.length
  have hn:=line63
  have fin:EP X pins σ Q w s:=⟨z,H,I,rw',q⟩
  by_cases h0:0≤i
  · have hj:i.toNat=j:=by
      rw [seqIndex_of h0 h5] at h1
      exact Option.some.inj h1
    exact item_listR pl.isList h0 (by omega) (by rw [hj];simpa using ew) fin hs
  · have hj:(i+(its.toArray.size:Int)).toNat=j:=by
      rw [seqIndex_neg (by omega) h4] at h1
      rw [List.size_toArray,← hl]
      exact Option.some.inj h1
    exact subscriptTail_builtinR (x:=w) pl.isList.typeIs slot_list_getitem.lookup
      (wpAny_getItem_list_neg (Q:=fun r s'=>r=w∧EP X pins σ Q r s') pl.isList (by omega) (by rw [List.size_toArray] <;> omega) (by omega) (by rw [hj];simpa using ew) ⟨rfl,fin⟩) hs
theorem ix_tup:IxR X (rIxT X.K):=by
  intro value slice pins s σ H x y v u Q I rx ry h hs
  obtain ⟨p,rfl,h1⟩:=Eq.mp exR_ex h
  obtain ⟨i,rfl,xs,hq,z,he,q⟩:=Eq.mp exI_ex h1
  cases rx
  obtain ⟨t,rfl⟩:=ry
  obtain ⟨its,r,pl,hz⟩:=I.tuple hq
  obtain ⟨j,h1,h2,h3,h4,h5⟩:=atI_get he
  obtain ⟨w,ew,rw'⟩:=r.get h2
  have hl:=r.length
  have hn:=line63
  have fin:EP X pins σ Q w s:=⟨z,H,I,rw',q⟩
  exact subscriptTail_builtinR (x:=w) pl.typeIs slot_tuple_getitem.lookup
    (getItem_tuple (j:=j) (Q:=fun r s'=>r=w∧EP X pins σ Q r s') pl (by omega) (by omega) (by rw [List.size_toArray,← hl];exact h1) (by simpa using ew) ⟨rfl,fin⟩) hs
theorem mapSeq_set (its:List Value) (n j:Nat) (u:Value):Obj.mapSeq (·.setIfInBounds j u) { cls:=.type "list",data:=.seq its.toArray n }={ cls:=.type "list",data:=.seq (its.set j u).toArray n }:=by
  simp [Obj.mapSeq]
theorem Inv.lst {pins:List (Addr×Obj)} {σ:St} {H:Hp} {s:Shared} {p:Addr} {xs:List V} (I:Inv X pins σ H s) (h:H p=some (.lst xs)) :
    ∃ (its:List Value) (n:Nat),Vals xs its∧s.heap.get? p=some { cls:=.type "list",data:=.seq its.toArray n }∧xs.length≤sizeLine:=by
  obtain ⟨z,its,n,r,e⟩:=I.hok p _ h
  exact ⟨its,n,r,e,z⟩
theorem Inv.lstUpd {pins:List (Addr×Obj)} {σ:St} {H:Hp} {s:Shared} {p:Addr} {xs ys:List V} {its its':List Value} {n n':Nat} {f:Obj→Obj} (I:Inv X pins σ H s) (h:H p=some (.lst xs))
    (ho:s.heap.get? p=some { cls:=.type "list",data:=.seq its.toArray n }) (hf:f { cls:=.type "list",data:=.seq its.toArray n }={ cls:=.type "list",data:=.seq its'.toArray n' }) (r:Vals ys its') (hz:ys.length≤sizeLine) (t:Nat) :
    Inv X pins σ (upd H p (.lst ys)) { s with heap:=s.heap.update p f,toks:=t }:=by
  have e:(s.heap.update p f).get? p=some { cls:=.type "list",data:=.seq its'.toArray n' }:=by
    rw [Heap.get?_update_self f ho (by rw [hf] <;> rfl),hf]
  refine I.write (x:=p) (e:=p) (by rw [h];trivial) (.inl rfl) (fun b u hb q=>(Heap.get?_update_other _ _ (Ne.symm hb)).trans q) ⟨_,e⟩ ?_
  exact ⟨hz,its',n',r,e⟩
noncomputable def rSetL:V→V→V→Hp→(Hp→Prop)→Prop:=fun o i v H Q=>∃ p xs k j,o=.ref p∧i=.int k∧H p=some (.lst xs)∧ixN xs.length k=some j∧Q (upd H p (.lst (xs.set j v)))
theorem set_list:PSet X rSetL:=by
  intro pins s σ H o i v ov iv u Q I ro ri rv h
  obtain ⟨p,xs,k,j,rfl,rfl,hp,hj,q⟩:=h
  cases ro
  obtain ⟨t,rfl⟩:=ri
  obtain ⟨its,n,r,ho,hz⟩:=I.lst hp
  obtain ⟨h1,h2,h3,h4⟩:=ixN_seq hj
  have hl:=r.length
  have hn:=line63
  have I':Inv X pins σ (upd H p (.lst (xs.set j v))) { s with heap:=s.heap.update p (Obj.mapSeq (·.setIfInBounds j u)) } :=
    I.lstUpd hp ho (mapSeq_set its n j u) (r.set rv j) (by rw [List.length_set];exact hz) s.toks
  by_cases h0:0≤k
  · have hk:k.toNat=j:=by
      rw [seqIndex_of h0 h4] at h1
      exact Option.some.inj h1
    exact PySem.W.ki_setAt ho h0 (by omega) (by rw [List.size_toArray,← hl];exact h4) (by rw [hk];exact ⟨_,I',q⟩)
  · have hk:(k+(its.toArray.size:Int)).toNat=j:=by
      rw [seqIndex_neg (by omega) h3] at h1
      rw [List.size_toArray,← hl]
      exact Option.some.inj h1
    exact PySem.W.ki_setBack ho (by omega) (by rw [List.size_toArray,← hl];exact h3) (by omega) (by rw [hk];exact ⟨_,I',q⟩)
theorem slice_bounds (lo hi:Option Int) (n:Nat):(sliceBounds lo hi none n).1=((HT.sIx n 0 lo:Nat):Int)∧(sliceBounds lo hi none n).2.1=((HT.sIx n n hi:Nat):Int)∧(sliceBounds lo hi none n).2.2=1:=by
  refine ⟨?_,?_,rfl⟩
  · cases lo with
    | none=>simp [sliceBounds,HT.sIx]
    | some i =>
      simp only [sliceBounds,HT.sIx,Option.getD_none,show (1:Int) > 0 by decide,if_true]
      by_cases h:i < 0
      · simp only [h,if_true] <;> omega
      · simp only [h,if_false] <;> omega
  · cases hi with
    | none=>simp [sliceBounds,HT.sIx]
    | some i =>
      simp only [sliceBounds,HT.sIx,Option.getD_none,show (1:Int) > 0 by decide,if_true]
      by_cases h:i < 0
      · simp only [h,if_true] <;> omega
      · simp only [h,if_false] <;> omega
theorem slicePick_cut (its:List Value) (lo hi:Option Int):slicePick its.toArray lo hi none=((its.drop (HT.sIx its.length 0 lo)).take (HT.sIx its.length its.length hi - HT.sIx its.length 0 lo)).toArray:=by
  obtain ⟨h1,h2,h3⟩:=slice_bounds lo hi its.toArray.size
  unfold slicePick
  rw [h1,h2,h3]
  simp only [sliceRange_one,pick_run,List.size_toArray] <;> rfl
noncomputable def rSlL (K:PySem.W.Frag):V→Option Int→Option Int→Hp→VK→Prop:=fun x lo hi H Q=>∃ a xs,x=.ref a∧SqL K H a xs∧∀ p,H p=none→Q (.ref p) (upd H p (.lst (cutV xs lo hi)))
theorem sl_list:SlR X (rSlL X.K):=by
  intro pins s σ H x v vl vu lo hi sl Q I rx hs pl pu h
  obtain ⟨a,xs,rfl,hx,q⟩:=h
  cases rx
  obtain ⟨its,r,ht,hz⟩:=I.list hx
  have hlen:=r.length
  refine ⟨"list",_,slot_list_getitem.lookup,ht.isList.typeIs,?_⟩
  refine wpAny_getItem_list_slice ht.isList hs pl pu .none (by simp) ?_ (by rw [List.size_toArray] <;> omega)
  rw [slicePick_cut,← hlen]
  refine ⟨.ref s.heap.objs.size,_,I.laid (t':=s.toks) (o:=.lst (cutV xs lo hi)) (fun b ob q=>Heap.get?_push_of_some _ q) (Nat.le_refl _) ?_,rfl,q _ (I.hok.fresh (Nat.le_refl _))⟩
  exact ⟨Nat.le_trans (cutV_length xs lo hi) hz,_,0,(r.drop (HT.sIx xs.length 0 lo)).take (HT.sIx xs.length xs.length hi - HT.sIx xs.length 0 lo),Heap.get?_push_size _ rfl⟩
noncomputable def flatV:V→Bool
  | .non=>true
  | .bl _=>true
  | .int _=>true
  | .str _=>true
  | _=>false
noncomputable def eqV:V→V→Bool
  | .non,.non=>true
  | .bl a,.bl b=>a == b
  | .bl a,.int b=>(if a then 1 else 0) == b
  | .int a,.bl b=>a == (if b then 1 else 0)
  | .int a,.int b=>a == b
  | .str a,.str b=>a == b
  | _,_=>false
theorem eqAt_V {A:Around} {s:Shared} {y x:V} {u v:Value} (ry:RelV y u) (rx:RelV x v) (fy:flatV y=true) (fx:flatV x=true):SeqAt.EqAt A s u v (eqV y x):=by
  cases y with
  | non =>
    cases ry
    cases x with
    | non=>cases rx;exact SeqAt.EqAt.same _
    | bl b=>cases rx;exact SeqAt.EqAt.none_bool b
    | int b=>obtain ⟨t,rfl⟩:=rx;exact SeqAt.EqAt.none_int b t
    | str b=>obtain ⟨t,rfl⟩:=rx;exact SeqAt.EqAt.none_str b t
    | _=>exact absurd (show false=true from fx) Bool.false_ne_true
  | bl a =>
    cases ry
    cases x with
    | non=>cases rx;exact SeqAt.EqAt.bool_none a
    | bl b=>cases rx;exact SeqAt.EqAt.bool_bool a b
    | int b=>obtain ⟨t,rfl⟩:=rx;exact SeqAt.EqAt.bool_int a b t
    | str b=>obtain ⟨t,rfl⟩:=rx;exact SeqAt.EqAt.bool_str a b t
    | _=>exact absurd (show false=true from fx) Bool.false_ne_true
  | int a =>
    obtain ⟨t',rfl⟩:=ry
    cases x with
    | non=>cases rx;exact SeqAt.EqAt.int_none a t'
    | bl b=>cases rx;exact SeqAt.EqAt.int_bool a t' b
    | int b=>obtain ⟨t,rfl⟩:=rx;exact SeqAt.EqAt.int_int a t' b t
    | str b=>obtain ⟨t,rfl⟩:=rx;exact SeqAt.EqAt.int_str a t' b t
    | _=>exact absurd (show false=true from fx) Bool.false_ne_true
  | str a =>
    obtain ⟨t',rfl⟩:=ry
    cases x with
    | non=>cases rx;exact SeqAt.EqAt.str_none a t'
    | bl b=>cases rx;exact SeqAt.EqAt.str_bool a t' b
    | int b=>obtain ⟨t,rfl⟩:=rx;exact SeqAt.EqAt.str_int a t' b t
    | str b=>obtain ⟨t,rfl⟩:=rx;exact SeqAt.EqAt.str_str a t' b t
    | _=>exact absurd (show false=true from fx) Bool.false_ne_true
  | _=>exact absurd (show false=true from fy) Bool.false_ne_true
noncomputable def eqU (x:V) (u:Value):Bool:=match u with
  | .none=>eqV .non x
  | .bool b=>eqV (.bl b) x
  | .int i _=>eqV (.int i) x
  | .str z _=>eqV (.str z) x
  | _=>false
theorem eqU_of {x y:V} {u:Value} (r:RelV y u) (f:flatV y=true):eqU x u=eqV y x:=by
  cases y with
  | non=>cases r;rfl
  | bl b=>cases r;rfl
  | int i=>obtain ⟨t,rfl⟩:=r;rfl
  | str z=>obtain ⟨t,rfl⟩:=r;rfl
  | _=>exact absurd (show false=true from f) Bool.false_ne_true
theorem any_eqU {x:V}:∀ {xs:List V} {us:List Value},Vals xs us→xs.all flatV=true→us.any (eqU x)=xs.any fun y=>eqV y x
  | _,_,.nil,_=>rfl
  | y :: xs,u :: us,.cons r t,f=>by
    rw [List.all_cons,Bool.and_eq_true] at f
    rw [List.any_cons,List.any_cons,eqU_of r f.1,any_eqU t f.2]
theorem mem_eqAt {A:Around} {s:Shared} {x:V} {v:Value} (rx:RelV x v) (fx:flatV x=true):∀ {xs:List V} {us:List Value},Vals xs us→xs.all flatV=true→∀ u∈us,SeqAt.EqAt A s u v (eqU x u)
  | _,_,.nil,_=>fun u hu=>by cases hu
  | y :: xs,u :: us,.cons r t,f=>fun u' hu=>by
    rw [List.all_cons,Bool.and_eq_true] at f
    rcases List.mem_cons.mp hu with rfl | hu
    · rw [eqU_of r f.1];exact eqAt_V r rx f.1 fx
    · exact mem_eqAt rx fx t f.2 u' hu
noncomputable def inV (x:V) (xs:List V):Bool:=xs.any fun y=>eqV y x
noncomputable def rIn (K:PySem.W.Frag) (neg:Bool):R2:=fun x y H Q=>∃ p xs,y=.ref p∧(SqL K H p xs∨SqT K H p xs)∧flatV x=true∧xs.all flatV=true∧Q (.bl (if neg then !inV x xs else inV x xs)) H
theorem op_notIn_seq:OpR X (compareOp .NotIn) (rIn X.K true):=by
  intro pins s σ H x y v u Q I rx ry h
  obtain ⟨p,xs,rfl,hq,fx,fs,q⟩:=h
  cases ry
  rcases hq with hq | hq
  · obtain ⟨its,r,pl,hz⟩:=I.list hq
    refine SeqAt.notIn_listAt (eqU x) pl.isList (fun w hw=>mem_eqAt rx fx r fs w (by simpa using hw)) ⟨.bl _,H,I,rfl,?_⟩
    rw [show its.toArray.any (eqU x)=its.any (eqU x) by simp,any_eqU r fs]
    exact q
  · obtain ⟨its,r,pl,hz⟩:=I.tuple hq
    refine SeqAt.notIn_tupleAt (eqU x) pl (fun w hw=>mem_eqAt rx fx r fs w (by simpa using hw)) ⟨.bl _,H,I,rfl,?_⟩
    rw [show its.toArray.any (eqU x)=its.any (eqU x) by simp,any_eqU r fs]
    exact q
theorem call_len_seq:CallR X (.builtin "len") (fun xs H Q=>∃ p ys,xs=[.ref p]∧(SqL X.K H p ys∨SqT X.K H p ys)∧Q (.int ys.length) H):=by
  intro pins s σ H xs us Q I r h
  obtain ⟨p,ys,rfl,hq,q⟩:=h
  obtain ⟨u,rfl,rx⟩:=vals1 r
  cases rx
  have hn:=line63
  rcases hq with hq | hq
  · obtain ⟨its,r',pl,hz⟩:=I.list hq
    have hlen:=r'.length
    exact Calls.call_len_list pl.isList (by simp only [List.size_toArray] <;> omega) ⟨.int ys.length,H,I.tok _,⟨s.toks+1,by rw [List.size_toArray,hlen]⟩,q⟩
  · obtain ⟨its,r',pl,hz⟩:=I.tuple hq
    have hlen:=r'.length
    exact len_tuple pl (by simp only [List.size_toArray] <;> omega) ⟨.int ys.length,H,I.tok _,⟨s.toks+1,by rw [List.size_toArray,hlen]⟩,q⟩
theorem call_list_of:CallR X (.type "list") (fun xs H Q=>∃ p ys,xs=[.ref p]∧(SqL X.K H p ys∨SqT X.K H p ys)∧∀ l,H l=none→Q (.ref l) (upd H l (.lst ys))):=by
  intro pins s σ H xs us Q I r h
  obtain ⟨p,ys,rfl,hq,q⟩:=h
  obtain ⟨u,rfl,rx⟩:=vals1 r
  cases rx
  have fin:∀ (its:List Value),Vals ys its→ys.length≤sizeLine→∀ (h':Heap) (c':Nat),(∀ b o',s.heap.get? b=some o'→h'.get? b=some o') →
      h'.get? s.heap.objs.size=some { cls:=.type "list",dict:=none,data:=.seq its.toArray c',slots:=#[] }→EP X pins σ Q (.ref s.heap.objs.size) { s with heap:=h' }:=fun its r' hz h' c' kp e =>
    ⟨.ref s.heap.objs.size,_,I.laid (t':=s.toks) kp (Nat.le_refl _) (show ObjOk X.prog X.w _ h' _ (.lst ys) from ⟨hz,its,c',r',e⟩),rfl,q _ (I.hok.fresh (Nat.le_refl _))⟩
  rcases hq with hq | hq
  · obtain ⟨its,r',pl,hz⟩:=I.list hq
    have hlen:=r'.length
    obtain ⟨o,ho,hc,n,hd⟩:=pl.isList
    exact call_list_seq p (.inl rfl) ho hc hd (fun h' c' kp e=>fin its r' hz h' c' kp e) (by simp only [List.size_toArray] <;> omega)
  · obtain ⟨its,r',pl,hz⟩:=I.tuple hq
    have hlen:=r'.length
    obtain ⟨o,ho,hc,n,hd⟩:=pl
    exact call_list_seq p (.inr rfl) ho hc hd (fun h' c' kp e=>fin its r' hz h' c' kp e) (by simp only [List.size_toArray] <;> omega)
noncomputable def tyV (K:PySem.W.Frag) (T:String) (x:V) (H:Hp):Prop:=match x with
  | .str _=>T="str"
  | .int _=>T="int"
  | .ref p=>(T="list" ∧ ∃ xs,SqL K H p xs)∨(T="tuple" ∧ ∃ o,K.lookup p=some o∧o.cls=.type "tuple" ∧ o.dict=none) ∨
      (T="dict" ∧ ((∃ kvs,H p=some (.dK kvs))∨∃ kvs,H p=some (.dT kvs)))∨(T="set" ∧ ∃ S n,H p=some (.set S n))
  | _=>False
theorem tyV_is {pins:List (Addr×Obj)} {σ:St} {H:Hp} {s:Shared} {T:String} {x:V} {v:Value} (I:Inv X pins σ H s) (r:RelV x v) (ty:tyV X.K T x H) :
    s.TypeIs v T∧∀ a,v=.ref a→∃ ob,s.heap.get? a=some ob∧ob.dict=none:=by
  cases x with
  | str z =>
    obtain ⟨t,rfl⟩:=r
    cases (show T="str" from ty)
    exact ⟨typeIs_str s z t,fun _ e=>nomatch e⟩
  | int i =>
    obtain ⟨t,rfl⟩:=r
    cases (show T="int" from ty)
    exact ⟨typeIs_int s i t,fun _ e=>nomatch e⟩
  | ref p =>
    cases r
    rcases ty with ⟨rfl,xs,hq⟩ | ⟨rfl,o,hk,hc,hd⟩ | ⟨rfl,hk⟩ | ⟨rfl,S,n,hk⟩
    · obtain ⟨its,_,pl,_⟩:=I.list hq
      refine ⟨pl.isList.typeIs,fun a e=>?_⟩
      cases e
      obtain ⟨o,n,e,c,hd,_⟩:=pl
      exact ⟨o,e,hd⟩
    · refine ⟨⟨o,I.kIn p o hk,hc⟩,fun a e=>?_⟩
      cases e
      exact ⟨o,I.kIn _ o hk,hd⟩
    · have z:∃ o,s.heap.get? p=some o∧o.ExactDict:=by
        rcases hk with ⟨kvs,hk⟩ | ⟨kvs,hk⟩
        · obtain ⟨_,_,_,_,o,_,_,e,ex,_⟩:=I.hok p _ hk
          exact ⟨o,e,ex⟩
        · obtain ⟨_,_,_,_,o,_,_,e,ex,_⟩:=I.hok p _ hk
          exact ⟨o,e,ex⟩
      obtain ⟨o,e,ex⟩:=z
      refine ⟨⟨o,e,ex.1⟩,fun a e2=>?_⟩
      cases e2
      exact ⟨o,e,ex.2.1⟩
    · obtain ⟨o,_,_,_,e,ex,_⟩:=I.hok p _ hk
      refine ⟨⟨o,e,ex.1⟩,fun a e2=>?_⟩
      cases e2
      exact ⟨o,e,ex.2.1⟩
  | _=>exact False.elim ty
noncomputable def tBM0 (K:PySem.W.Frag) (T:String) (r:V→List V→Hp→VK→Prop) (to:TE):TE:=fun σ H Q=>to σ H fun x H1=>tyV K T x H1∧r x [] H1 Q
noncomputable def tBM (K:PySem.W.Frag) (T:String) (r:V→List V→Hp→VK→Prop) (to:TE) (t:TA):TE:=fun σ H Q=>to σ H fun x H1=>tyV K T x H1∧t σ H1 fun xs H2=>r x xs H2 Q
variable {o e:Expr} {es:List Expr} {to:TE} {t:TA} {name:Str} {apos cpos:Pos} {T id:String} {r:V→List V→Hp→VK→Prop}
theorem pe_bm0 (pa:PlainAttrs T) (slot:Slot T name id) (hty:typeOf (.builtin id)=pure (.type "method_descriptor")) (hm:MtR X id r) (ho:PE X o to)
    (hbase:attributeBase o name X.env (eval o X.env)=eval o X.env:=by rfl) (hline:(apos.endLine == cpos.line)=true:=by rfl):PE X (.Call (.Attribute o name apos) [] [] cpos) (tBM0 X.K T r to):=by
  intro pins s σ H Q I h
  refine wpAny_Call_method0_late hbase hline (thn (ho pins s σ H _ I h) fun v s1 ⟨x,H1,I1,r1,ty,q1⟩=>?_)
  obtain ⟨h1,h2⟩:=tyV_is I1 r1 ty
  exact ⟨T,id,pa,slot,hty,h1,h2,Calls.callWith_builtin rfl (PySem.evalArgs_none (hm pins s1 σ H1 x [] v [] Q I1 r1 .nil q1))⟩
theorem pe_bm (pa:PlainAttrs T) (slot:Slot T name id) (hty:typeOf (.builtin id)=pure (.type "method_descriptor")) (hm:MtR X id r) (ho:PE X o to) (ha:PA X (e :: es) t)
    (hbase:attributeBase o name X.env (eval o X.env)=eval o X.env:=by rfl)
    (hfew:((backTo cpos (starEach (e :: es) X.env)).all (fun x=>!x.1) && (backToKw cpos (keywordEach [] X.env)).all (fun x=>x.1.isSome)
      && decide ((e :: es).length+([]:List Keyword).length+(if ([]:List Keyword).isEmpty then 0 else 1) < 30))=true:=by rfl)
    (hline:(apos.endLine == cpos.line)=true:=by rfl) (hs:starEach (e :: es) X.env=(false,eval e X.env) :: starEach es X.env:=by rfl) (hplain:(backTo cpos (starEach es X.env)).any (·.1)=false:=by rfl) :
    PE X (.Call (.Attribute o name apos) (e :: es) [] cpos) (tBM X.K T r to t):=by
  intro pins s σ H Q I h
  refine wpAny_Call_method_late hbase hfew hline rfl (thn (ho pins s σ H _ I h) fun v s1 ⟨x,H1,I1,r1,ty,q1⟩=>?_)
  obtain ⟨h1,h2⟩:=tyV_is I1 r1 ty
  refine ⟨T,id,pa,slot,hty,h1,h2,?_⟩
  have hA:=ha cpos pins s1 σ H1 _ I1 q1
  rw [hs] at hA ⊢
  refine Calls.callWith_builtin (by show (false || (backTo cpos (starEach es X.env)).any (·.1))=false;rw [hplain] <;> rfl) (Calls.evalArgs_plain ?_)
  exact thn hA fun us s2 ⟨vs,H2,I2,r2,q2⟩=>hm pins s2 σ H2 x vs v us Q I2 r1 r2 q2
end
end L2
namespace L2
open PySem PySem.Spec PyProof.Rows
noncomputable def MtM (X:Cx) (id:String) (r:V→List V→Hp→VK→Prop):Prop :=
  ∀ (pins:List (Addr×Obj)) (s:Shared) (σ:St) (H:Hp) (x:V) (xs:List V) (v:Value) (us:List Value) (Q:VK),Inv X pins σ H s→RelV x v→Vals xs us→r x xs H Q →
    wpAny (model X.prog X.w) X.A (call (.builtin id) (v :: us)) (EP X pins σ Q) X.xe s
theorem Vals.one:∀ {x:V} {us:List Value},Vals [x] us→∃ u,us=[u]∧RelV x u
  | _,_,.cons r .nil=>⟨_,rfl,r⟩
theorem Vals.eraseIdx:∀ {xs:List V} {us:List Value} (i:Nat),Vals xs us→Vals (xs.eraseIdx i) (us.eraseIdx i)
  | _,_,_,.nil=>.nil
  | _,_,0,.cons _ t=>t
  | _,_,i+1,.cons r t=>.cons r (Vals.eraseIdx i t)
theorem len_erase {α:Type}:∀ (l:List α) (i:Nat),(l.eraseIdx i).length≤l.length
  | [],_=>Nat.le_refl _
  | _ :: _,0=>Nat.le_succ _
  | _ :: r,i+1=>Nat.succ_le_succ (len_erase r i)
section
variable {X:Cx} {pins:List (Addr×Obj)} {σ:St} {H:Hp} {s:Shared} {l b:Addr} {xs ys zs:List V}
theorem Inv.lset {its its':List Value} {n:Nat} {f:Array Value→Array Value} {t':Nat} (I:Inv X pins σ H s) (hH:H l=some (.lst xs))
    (e:s.heap.get? l=some { cls:=.type "list",data:=.seq its.toArray n }) (hf:f its.toArray=its'.toArray) (hv:Vals ys its') (hz:ys.length≤sizeLine) :
    Inv X pins σ (upd H l (.lst ys)) { s with heap:=s.heap.update l (Obj.mapSeq f),toks:=t' }:=by
  have q:=PySem.IsL.update e f
  rw [hf] at q
  refine I.write (x:=l) (e:=l) (by rw [hH];exact trivial) (.inl rfl) (fun b' u hb hu=>(Heap.get?_update_other s.heap (Obj.mapSeq f) (Ne.symm hb)).trans hu) ⟨_,q⟩ ?_
  exact ⟨hz,its',_,hv,q⟩
theorem Inv.lnew {its:List Value} {t':Nat} (I:Inv X pins σ H s) (hv:Vals ys its) (hz:ys.length≤sizeLine) :
    Inv X pins σ (upd H s.heap.objs.size (.lst ys)) { s with heap:=s.heap.push { cls:=.type "list",data:=.seq its.toArray },toks:=t' } :=
  I.laid (fun _ _ q=>Heap.get?_push_of_some _ q) (Nat.le_refl _) ⟨hz,its,0,hv,Heap.get?_push_size _ rfl⟩
theorem Inv.fresh (I:Inv X pins σ H s):H s.heap.objs.size=none:=I.hok.fresh (Nat.le_refl _)
theorem Inv.lstM (I:Inv X pins σ H s) (hH:H l=some (.lst xs)):xs.length≤sizeLine∧∃ (its:List Value) (n:Nat),Vals xs its∧xs.length=its.length∧s.heap.get? l=some { cls:=.type "list",data:=.seq its.toArray n }:=by
  obtain ⟨z,its,n,r,e⟩:=I.hok l _ hH
  exact ⟨z,its,n,r,r.length,e⟩
end
section
variable {X:Cx}
noncomputable def rAppend:V→List V→Hp→VK→Prop:=fun x vs H Q=>∃ l xs y,x=.ref l∧vs=[y]∧H l=some (.lst xs)∧xs.length < sizeLine∧Q .non (upd H l (.lst (xs ++ [y])))
theorem mt_append:MtM X "list.append" rAppend:=by
  intro pins s σ H x vs v us Q I rx rv h
  obtain ⟨l,xs,y,rfl,rfl,hH,hz,q⟩:=h
  cases rx
  obtain ⟨u,rfl,ru⟩:=rv.one
  obtain ⟨z,its,n,r,hl,e⟩:=I.lstM hH
  refine call_meets F.slot_list_append ⟨_,e,rfl⟩ F.entry_list_append (F.args_list_append_2 _ _) (PySem.list_append l its.toArray n u (by rw [List.size_toArray];omega)) ⟨e,?_⟩
  refine ⟨.non,_,I.lset (its':=its ++ [u]) hH e (by simp) (r.append (.cons ru .nil)) ?_,rfl,q⟩
  rw [List.length_append,List.length_singleton]
  omega
noncomputable def rCat:R2:=fun x y H Q=>∃ l b xs zs,x=.ref l∧y=.ref b∧H l=some (.lst xs)∧H b=some (.lst zs)∧xs.length+zs.length≤sizeLine∧∀ p,H p=none→Q (.ref p) (upd H p (.lst (xs ++ zs)))
theorem op_cat:OpR X (binaryOp .Add) rCat:=by
  intro pins s σ H x y v u Q I rx ry h
  obtain ⟨l,b,xs,zs,rfl,rfl,hH,hB,hz,q⟩:=h
  cases rx
  cases ry
  obtain ⟨z,its,n,r,hl,e⟩:=I.lstM hH
  obtain ⟨z2,its2,n2,r2,hl2,e2⟩:=I.lstM hB
  refine PySem.P.add_list e e2 ?_ (by rw [List.size_toArray,List.size_toArray];omega)
  have ea:its.toArray ++ its2.toArray=(its ++ its2).toArray:=by simp
  rw [ea]
  exact ⟨.ref _,_,I.lnew (t':=s.toks) (r.append r2) (by rw [List.length_append];omega),rfl,q _ I.fresh⟩
end
section
variable {prog:Program} {w:World} {A:Around} {E:Value→Shared→Prop} {s:Shared}
end
section
variable {X:Cx}
end
end L2
namespace Att
open PySem PySem.W PySem.Calls PyProof.Rows
theorem ints_of_wellAll {P:Params} {h:Heap}:∀ (ns:List Int) (vs:List Value),WellAll P h vs (ns.map WData.int)→IntsAre vs ns:=by
  intro ns
  induction ns with
  | nil =>
    intro vs w
    rw [List.map_nil] at w
    cases w
    exact .nil
  | cons n ns ih =>
    intro vs w
    rw [List.map_cons] at w
    cases w with
    | cons a b =>
      cases a
      exact .cons _ _ (ih _ b)
theorem script_of {l:OpenLaw} {n:Nat} (hn:l.most=some n) {P:Params} {h:Heap} {args:List WData} {vals:List Value}
    (hpre:l.row.toRowW.claim.pre args=true) (hwl:WellAll P h vals args) :
    ∃ a vs ns,vals=[Value.ref a]∧args=[WData.list (ns.map WData.int)]∧h.get? a=some { cls:=.type "list",data:=.seq vs.toArray }∧IntsAre vs ns∧ns.length≤n:=by
  have hsh:WShape.hasAll [] args [.list .int]=true:=(pre_splitW hpre).1
  have hc:l.pre.holds [] { args:=args }=true:=(pre_splitW hpre).2
  obtain ⟨d,r,rfl,h1,h2⟩:=hasAllW_cons hsh
  obtain rfl:=hasAllW_nil h2
  obtain ⟨xs,rfl,h3⟩:=hasW_list h1
  obtain ⟨ns,rfl⟩:=items_int h3
  have hlen:ns.length≤n:=by
    unfold OpenLaw.pre at hc
    have h4:(WTm.not (.lt (.lit (.int (n:Int))) (.len (.arg 0)))).holds [] { args:=[.list (ns.map .int)] }=true:=by
      have h4:=(holds_andW hc).1
      rw [hn] at h4
      exact h4
    have h5:=condW_of h4 (w_not (w_lt w_lit (w_len_list (w_arg rfl))))
    rw [List.length_map] at h5
    refine Nat.le_of_not_lt fun q=>?_
    have q':(n:Int) < ((ns.length:Nat):Int):=by omega
    first
      | (rw [decide_eq_true q'] at h5;exact absurd h5 (by decide))
      | (simp at h5;omega)
  cases hwl with
  | cons w1 w2 =>
    cases w2
    cases w1 with
    | list ho hall=>exact ⟨_,_,ns,rfl,rfl,ho,ints_of_wellAll ns _ hall,hlen⟩
theorem post_true (l:OpenLaw) (args:List WData):l.row.toRowW.claim.post args (.bool true) args=true :=
  postW_of (r:=l.row.toRowW) (X:=(true == true))
    (show WShape.has [] (.bool true) .bool=true by first | rfl | decide | simp [WShape.has,WShape.arms,WShape.armsAll])
    (show (WTm.eq .res (.lit (.bool true))).value [] { args:=args,res:=some (.bool true),after:=args }=some (.bool (true == true)) from w_eq_bool (w_res rfl) w_lit) rfl
theorem attach_call {l:OpenLaw} {n:Nat} {q:Program} {loose:List Str} {XP:(Str→Option Value)→Heap→Prop} {YP:World→Heap→Prop} {d:DefRec}
    (hn:l.most=some n) (hdf:d.params.defaults=[])
    (call:∀ (w:World) (s₀ s₁:Shared) (mg mb:Str→Option Value) (fa:Addr) (o:Obj) (pm cd doc:Value) (a:Addr) (vs:List Value) (ns:List Int),
      Ground q loose [] XP w s₀ mg mb s₁.heap→YP w s₁.heap →
      s₁.heap.get? fa=some o→o.data=.func (docDef d.name d.params d.body d.scope pm cd doc)→s₁.heap.CodeRec cd d.name→mg d.name=some (.ref fa) →
      s₁.heap.get? a=some { cls:=.type "list",data:=.seq vs.toArray }→IntsAre vs ns→ns.length≤n→s₁.gens=#[] →
      codeAny (model l.prog w) callerA (.call (.ref fa) ⟨[.ref a],[]⟩) (fun r s'=>r=.ok (.ret (.bool true))∧OldK s₁.heap s'.heap∧s'.os=s₁.os∧AllBare s'.gens) s₁) :
    WalkO q loose XP YP l.row.toRowW d [] (fun f vs=>PySem.call f vs):=by
  intro w s₀ s₁ mg mb G Y fa o pm cd doc dV kV ho hd hcd hD hmg hg args vals as hpre hlay hrd hwl hlo
  obtain rfl:dV=.none:=Dflts.none hD hdf
  obtain rfl:kV=.none:=Dflts.noKw hD
  obtain ⟨a,vs,ns,rfl,rfl,hobj,hints,hlen⟩:=script_of hn hpre hwl
  refine enter_call (codeAny_mono (call w s₀ s₁ mg mb fa o pm cd doc a vs ns G Y ho (fd_plain hd) hcd hmg hobj hints hlen hg) fun r s' hq=>?_)
  obtain ⟨rfl,h2,h3,h4⟩:=hq
  exact ⟨.inl ⟨.bool true,.bool true,[],rfl,fun _=>rfl,.bool true,post_true l _,fun _=>⟨List.Pairwise.nil,fun _ hm=>(nomatch hm)⟩⟩,h2,h3,h4⟩
section
variable {prog:Program} {w:World} {A:Around} {E:Value→Shared→Prop} {s:Shared} {K:Frag}
end
end Att
namespace L2
open PySem PySem.Spec PyProof.Rows
theorem vals_ints:∀ {vs:List Value} {ns:List Int},IntsAre vs ns→Vals (ns.map V.int) vs
  | _,_,.nil=>.nil
  | _,_,.cons n t h=>.cons ⟨t,rfl⟩ (vals_ints h)
noncomputable def Only (H:Hp):Prop:=∀ b,H b=none∨∃ o xs,H b=some (.frz o (.lst xs))
theorem law_call {P:Program} {w:World} {K:PySem.W.Frag} {mg mb:Str→Option Value} {CX:CXT} {k:Nat} {fa a:Addr} {fd:FuncData} {x:Str} {sp:Sp} {s₁:Shared} {vs:List Value} {ns:List Int}
    (KX:K.In s₁.heap) (hns:s₁.heap.Ns mainGlobals mg) (hb:s₁.heap.Ns builtinsNs mb) (hbb:∀ x:Str,x ≠ "__name__" → mb x=bootBuiltins x) (hlim:s₁.heap.NoLimit) (hg:s₁.gens=#[])
    (ha:s₁.heap.get? a=some { cls:=.type "list",data:=.seq vs.toArray }) (hi:IntsAre vs ns) (hl:ns.length≤sizeLine) (hr:Room k callerA)
    (F:∀ base:Heap,K.In base→base.Ns mainGlobals mg→FnOk P w K mg base CX k fa fd [x] sp) (hbind:∀ (s:Shared) (u:Value),BindsTo s fd ⟨[u],[]⟩ [(x,u)])
    (hsp:∀ H:Hp,Only H→SqL K H a (ns.map V.int)→sp [.ref a] H (fun v _=>v=.bl true) fun _ _ _=>False)
    (hCX:∀ H e s',CX [] H s₁ (fun _ _ _=>False) e s'→False) :
    codeAny (model P w) callerA (.call (.ref fa) ⟨[.ref a],[]⟩) (fun r s'=>r=.ok (.ret (.bool true))∧OldK s₁.heap s'.heap∧s'.os=s₁.os∧AllBare s'.gens) s₁:=by
  have rv:=vals_ints hi
  have lenV:=hi.length
  -- from an abstract heap in which nothing but the script may be tracked
  have core:∀ H:Hp,Only H→SqL K H a (ns.map V.int)→HOk P w H s₁.heap→(∀ b,H b≠none→b=a)→(H a≠none→K.lookup a=none) →
      codeAny (model P w) callerA (.call (.ref fa) ⟨[.ref a],[]⟩) (fun r s'=>r=.ok (.ret (.bool true))∧OldK s₁.heap s'.heap∧s'.os=s₁.os∧AllBare s'.gens) s₁:=by
    intro H hO hS hok hA hK
    have base_of:∀ {b:Addr} {o:Obj},s₁.heap.get? b=some o→H b=none→(hidT s₁.heap H).get? b=some o:=fun e n=>hidT_get e n
    have noA:∀ {b:Addr} {o:Obj} {es:Array DictEntry} {ep:Nat},s₁.heap.get? b=some o→o.data=.dict es ep→H b=none:=fun {b o es ep} e d=>by
      cases q:H b with
      | none=>rfl
      | some u =>
        have e':b=a:=hA b (by rw [q];simp)
        subst e'
        rw [ha] at e;cases e
        have d':Data.seq vs.toArray _=Data.dict es ep:=d
        cases d'
    have nsK:∀ {b:Addr} {m:Str→Option Value},s₁.heap.Ns b m→(hidT s₁.heap H).Ns b m:=fun {b m} ⟨o,es,ep,e,d,r⟩=>⟨o,es,ep,base_of e (noA e d),d,r⟩
    have hKb:K.In (hidT s₁.heap H):=fun b o e=>base_of (KX b o e) (by
      cases q:H b with
      | none=>rfl
      | some u =>
        have e':b=a:=hA b (by rw [q];simp)
        subst e'
        rw [hK (by rw [q];simp)] at e;cases e)
    have hM:Mod K mg (hidT s₁.heap H):=⟨hKb,nsK hns,⟨mb,nsK hb,hbb⟩,let ⟨mc,h1,h2⟩:=hlim;⟨mc,nsK h1,h2⟩⟩
    have e0:Env0 P w K mg (hidT s₁.heap H) callerA [] s₁ H:=⟨rfl,hM,fun b o e=>of_hidT e,Nat.le_of_eq (hidT_size _ _),trivial,fun b hb=>absurd (show b∈([]:List Addr) from hb) (by simp),hok,.of_eq hg⟩
    refine codeAny_mono ((F _ hKb (nsK hns)).run callerA [] s₁ H ⟨[.ref a],[]⟩ [.ref a] [.ref a] _ _ hr e0 (hbind s₁ (.ref a)) (.cons rfl .nil) (hsp H hO hS)) fun r s' h=>?_
    cases r with
    | error e=>exact (hCX H e s' h).elim
    | ok fl =>
      cases fl with
      | next=>exact False.elim h
      | brk=>exact False.elim h
      | cont=>exact False.elim h
      | ret u =>
        obtain ⟨v,H',os,bare,un,hok',r',q⟩:=h
        have q':v=.bl true:=q
        subst q'
        obtain rfl:u=Value.bool true:=r'
        refine ⟨rfl,OldK.of_keep fun b o e=>?_,os,bare⟩
        cases q:H b with
        | none=>exact un.keep b o e q (by intro z;exact absurd (show b∈([]:List Addr) from z) (by simp)) (by simp)
        | some u =>
          rcases hO b with z | ⟨ob,xs,z⟩
          · rw [q] at z;cases z
          · have z2:=un.frzs b ob _ z
            obtain ⟨e1,_⟩:=hok b _ z
            obtain ⟨e2,_⟩:=hok' b _ z2
            rw [e] at e1;cases e1
            exact e2
  cases hk:K.lookup a with
  | some o =>
    -- the script is one of the module's own objects
    have e:=KX a o hk
    rw [ha] at e
    cases e
    refine core (fun _=>none) (fun _=>.inl rfl) (.inr ⟨_,vs.toArray,_,hk,rfl,rfl,rfl,by rw [List.size_toArray,lenV];exact hl,by simpa using rv⟩) (fun b u z=>by have z':(none:Option HO)=some u:=z;cases z') (fun b z=>absurd rfl z) fun z=>absurd rfl z
  | none =>
    refine core (fun b=>if b=a then some (.frz { cls:=.type "list",data:=.seq vs.toArray } (.lst (ns.map V.int))) else none) (fun b=>?_) (.inl (.inr ⟨{ cls:=.type "list",data:=.seq vs.toArray },if_pos rfl⟩)) (fun b u z=>?_) (fun b z=>?_) fun _=>hk
    · by_cases hb:b=a
      · exact .inr ⟨_,_,if_pos hb⟩
      · exact .inl (if_neg hb)
    · by_cases hb:b=a
      · have z':=(if_pos hb).symm.trans z
        cases z'
        subst hb
        exact ⟨ha,by rw [List.length_map];exact hl,vs,_,rv,ha⟩
      · have z':=(if_neg hb).symm.trans z
        cases z'
    · by_cases hb:b=a
      · exact hb
      · exact absurd (if_neg hb) z
end L2
namespace L2
open PySem PySem.Spec PyProof.Rows
theorem walk_of {l:PySem.W.OpenLaw} {n k:Nat} {q:Program} {loose:List Str} {XP:(Str→Option Value)→Heap→Prop} {YP:World→Heap→Prop} {d:DefRec} {K:Params→PySem.W.Frag} {CX:World→CXT} {sp:World→Sp} {x:Str}
    (hn:l.most=some n) (hn2:n≤sizeLine) (hdf:d.params.defaults=[]) (hr:Room k callerA)
    (hY:∀ (w:World) (h:Heap),YP w h→(K w.params).In h)
    (F:∀ (w:World) (mg:Str→Option Value) (fa:Addr) (h:Heap),(K w.params).In h→h.Ns mainGlobals mg→mg d.name=some (.ref fa) →
      ∃ fd:FuncData,(∀ (s:Shared) (u:Value),BindsTo s fd ⟨[u],[]⟩ [(x,u)]) ∧
        ∀ base:Heap,(K w.params).In base→base.Ns mainGlobals mg→FnOk l.prog w (K w.params) mg base (CX w) k fa fd [x] (sp w))
    (hsp:∀ (w:World) (H:Hp) (a:Addr) (ns:List Int),ns.length≤n→Only H→SqL (K w.params) H a (ns.map V.int)→sp w [.ref a] H (fun v _=>v=.bl true) fun _ _ _=>False)
    (hCX:∀ (w:World) (H:Hp) (s:Shared) (e:Value) (s':Shared),CX w [] H s (fun _ _ _=>False) e s'→False) :
    PySem.W.WalkO q loose XP YP l.row.toRowW d [] (fun f vs=>PySem.call f vs):=by
  refine Att.attach_call hn hdf fun w s₀ s₁ mg mb fa o pm cd doc a vs ns G Y ho hd hcd hmg hobj hints hlen hg=>?_
  have KX:=hY w _ Y
  obtain ⟨fd,hb,hF⟩:=F w mg fa _ KX G.T.g hmg
  exact law_call KX G.T.g G.T.b G.T.builtins G.T.nolimit hg hobj hints (Nat.le_trans hlen hn2) hr hF hb (fun H hO hS=>hsp w H a ns hlen hO hS) fun H e s'=>hCX w H s₁ e s'
end L2
namespace L2
open PySem PySem.Spec PyProof.Rows
noncomputable def inClass (s:Stmt) (j:Nat):Stmt:=match s with
  | .ClassDef _ _ _ body _ _ _ _ _ _ _=>body.getD j (.Pass ⟨0,0,0,0⟩)
  | _=>.Pass ⟨0,0,0,0⟩
noncomputable def defArgs (s:Stmt):Arguments:=match s with
  | .FunctionDef _ a _ _ _ _ _ _ _ _=>a
  | _=>{ posonlyargs:=[],args:=[],vararg:=none,kwonlyargs:=[],kw_defaults:=[],kwarg:=none,defaults:=[] }
noncomputable def defBody (s:Stmt):List Stmt:=match s with
  | .FunctionDef _ _ b _ _ _ _ _ _ _=>b
  | _=>[]
noncomputable def defScope (s:Stmt):Scope:=match s with
  | .FunctionDef _ _ _ _ _ _ sc _ _ _=>sc
  | _=>{ kind:=.function,names:=[],isGenerator:=false,isCoroutine:=false }
noncomputable abbrev CX0:CXT:=fun _ _ _ _ _ _=>False
noncomputable abbrev E0:XK:=fun _ _ _=>False
theorem pass0 {X:Cx}:Passes CX0 X E0:=fun _ _ _ _ _ _ _ h=>h.elim
structure Fun (K:PySem.W.Frag) (x qual:Str) (st:Stmt) (f:Addr) (fd:FuncData):Prop where
  ex:∃ (oc:Value) (od:Option Addr) (kV doc pm:Value) (an:Option Addr) (cdv ct:Value) (osl:Array (Option Value)),
    fd=PySem.W.fnOf x qual (defArgs st) (defBody st) (defScope st) .none kV doc pm an cdv ct∧K.lookup f=some ⟨oc,od,.func fd,osl⟩∧PySem.W.codeIn K cdv qual=true
  kp:PySem.W.keepIn K (.ref f)=true
section
variable {P:Program} {w:World} {K:PySem.W.Frag} {mg:Str→Option Value} {base:Heap}
theorem Fun.ok {x qual:Str} {st:Stmt} {f:Addr} {fd:FuncData} {N ps:List Str} {k:Nat} {sp:Sp} (F:Fun K x qual st f fd) (S:FnScope N ps (defScope st)) (len:∀ vs H Q E,sp vs H Q E→vs.length=ps.length)
    (hbody:∀ (cdv:Value) (A:Around) (outer:List Env) (s:Shared) (H:Hp) (vs:List V) (Q:VK) (E:XK),Room k (A.deeper (envOfC qual (defScope st) s.heap.objs.size f cdv))→sp vs H Q E →
      ∃ t,PSs (cxOf CX0 P w K mg base N qual (defScope st) f cdv A outer s H E).nox (defBody st) t∧t { nx:=fun _ H'=>Q .non H',rt:=Q } (start N vs) H):FnOk P w K mg base CX0 (k+1) f fd ps sp:=by
  obtain ⟨oc,od,kV,doc,pm,an,cdv,ct,osl,rfl,lk,hcd⟩:=F.ex
  refine fn_of lk hcd S len fun A outer s H vs Q E hr hsp=>?_
  obtain ⟨t,h,q⟩:=hbody cdv A outer s H vs Q E hr hsp
  exact ⟨t,h.nox,q⟩
theorem Fun.binds {x qual:Str} {st:Stmt} {f:Addr} {fd:FuncData} {ps:List Str} (F:Fun K x qual st f fd)
    (h:∀ (kV doc pm:Value) (an:Option Addr) (cdv ct:Value) (us:List Value),us.length=ps.length→bindArgs (PySem.W.fnOf x qual (defArgs st) (defBody st) (defScope st) .none kV doc pm an cdv ct) ⟨us,[]⟩=pure (ps.zip us)):Binds K fd ps []:=by
  obtain ⟨oc,od,kV,doc,pm,an,cdv,ct,osl,rfl,lk,hcd⟩:=F.ex
  exact .all (h kV doc pm an cdv ct)
theorem fun_mk {x qual:Str} {st:Stmt} {f:Addr} {oc:Value} {od an:Option Addr} {osl:Array (Option Value)} {kV doc pm cdv ct:Value} (l:K.lookup f=some ⟨oc,od,.func (PySem.W.fnOf x qual (defArgs st) (defBody st) (defScope st) .none kV doc pm an cdv ct),osl⟩)
    (c:PySem.W.codeIn K cdv qual=true) (k:PySem.W.keepIn K (.ref f)=true):Fun K x qual st f (PySem.W.fnOf x qual (defArgs st) (defBody st) (defScope st) .none kV doc pm an cdv ct):=⟨⟨oc,od,kV,doc,pm,an,cdv,ct,osl,rfl,l,c⟩,k⟩
end
section
variable {X:Cx}
theorem pv (i:Nat) {x:Str} {pos:Pos} (hN:X.N[i]?=some x:=by rfl) (hv:Vis X.env.scope x:=by first | exact Or.inl rfl | exact Or.inr (Or.inl rfl) | exact Or.inr (Or.inr rfl)) (hd:(x == ("__debug__" : Str))=false:=by decide)
    (hcd:(x == ("__classdict__" : Str))=false:=by decide):PE X (.Name x pos) (tVar i):=pe_var hN hv hd hcd
end
theorem iteF {A B:Prop} (h:B):if false=true then A else B:=by
  rw [if_neg Bool.false_ne_true]
  exact h
theorem iteT {A B:Prop} (h:A):if true=true then A else B:=by
  rw [if_pos rfl]
  exact h
theorem ite2 {c A B:Prop} [Decidable c] (h1:c→A) (h2:¬ c→B):if c then A else B:=by
  by_cases h:c
  · rw [if_pos h]
    exact h1 h
  · rw [if_neg h]
    exact h2 h
theorem iteNS {c A B:Prop} [Decidable c] (hc:c) (h:B):if (!decide c)=true then A else B:=by
  rw [decide_eq_true hc]
  exact iteF h
noncomputable def Same (H H':Hp):Prop:=∀ b o,H b=some o→H' b=some o
theorem Same.refl (H:Hp):Same H H:=fun _ _ h=>h
theorem Same.trans {H H1 H2:Hp} (a:Same H H1) (b:Same H1 H2):Same H H2:=fun c o h=>b c o (a c o h)
theorem Same.free {H H':Hp} (e:Same H H') {l:Addr} (h:H' l=Option.none):H l=Option.none:=by
  cases q:H l with
  | none=>rfl
  | some o =>
    rw [e l o q] at h
    cases h
theorem Same.seq {K:PySem.W.Frag} {H H':Hp} {a:Addr} {xs:List V} (e:Same H H') (h:SqL K H a xs):SqL K H' a xs:=by
  rcases h with (h | ⟨o,h⟩) | h
  · exact .inl (.inl (e _ _ h))
  · exact .inl (.inr ⟨o,e _ _ h⟩)
  · exact .inr h
end L2
set_option Elab.async false
set_option linter.all false
set_option maxRecDepth 100000
set_option maxHeartbeats 4000000
namespace L2
open PySem PySem.Spec PyProof.Rows
section
variable {κ:Type} [DecidableEq κ]
end
section
variable {P:Program} {w:World} {H:Hp} {h:Heap} {a:Addr}
end
section
variable {X:Cx} {pins:List (Addr×Obj)} {σ:St} {H:Hp} {s:Shared} {a:Addr} {y v:V} {u r:Value} {o:Option V} {A:Around} {E:Value→Shared→Prop}
end
section
variable {X:Cx} {pins:List (Addr×Obj)} {σ:St} {H:Hp} {s:Shared} {a:Addr} {kvs:List (Key×V)} {k:Key} {u:Value} {A:Around} {E:Value→Shared→Prop}
end
section
variable {X:Cx} {o i e value:Expr} {pos pos' tpos:Pos} {td ty tv:TE}
end
section
variable {X:Cx} {pos:Pos}
end
section
variable {X:Cx} {pins:List (Addr×Obj)} {σ:St} {H:Hp} {s:Shared} {a:Addr} {y d:V} {u r:Value} {o:Option V} {A:Around} {E:Value→Shared→Prop}
end
section
variable {X:Cx} {o e f:Expr} {apos cpos:Pos} {td ty tx:TE}
end
section
variable {X:Cx} {pins:List (Addr×Obj)} {σ:St} {H:Hp} {s:Shared} {a:Addr} {kvs:List (Key×V)} {A:Around} {E:Value→Shared→Prop}
end
section
variable {X:Cx} {pins:List (Addr×Obj)} {σ:St} {H:Hp} {s:Shared} {a:Addr} {y:V} {u:Value} {A:Around} {E:Value→Shared→Prop}
end
end L2
namespace L2
open PySem
noncomputable def BB (n:Nat) (i:Int):Prop:=i.natAbs < 2 ^ n
noncomputable def CMulB (i j:Int):Prop:=∃ m n,m+n≤100000000∧((BB m i∧BB n j)∨BB 64 i∨BB 64 j)
noncomputable def CDivB (_ j:Int):Prop:=j≠0∧BB 9000 j
noncomputable def rAddI:R2:=rI0 fun i j=>.int (i+j)
noncomputable def rSubI:R2:=rI0 fun i j=>.int (i - j)
noncomputable def rMulI:R2:=rI CMulB fun i j=>.int (i * j)
noncomputable def rDivI:R2:=rI CDivB fun i j=>.int (i.fdiv j)
noncomputable def rDivC:R2:=rI CDiv fun i j=>.int (i / j)
noncomputable def rModI:R2:=rI (fun _ j=>0 < j) fun i j=>.int (i % j)
noncomputable def rPowI:R2:=rI CPow fun i j=>.int (i ^ j.toNat)
noncomputable def rNegI:V→Hp→VK→Prop:=rU fun i=>.int (-i)
noncomputable def rLtI:R2:=rI0 fun i j=>.bl (decide (i < j))
noncomputable def rLeI:R2:=rI0 fun i j=>.bl (decide (i≤j))
noncomputable def rGtI:R2:=rI0 fun i j=>.bl (decide (j < i))
noncomputable def rGeI:R2:=rI0 fun i j=>.bl (decide (j≤i))
noncomputable def cAbs:List V→Hp→VK→Prop:=fun xs H Q=>∃ i,xs=[.int i]∧Q (.int (if i < 0 then -i else i)) H
noncomputable def cLen (K:PySem.W.Frag):List V→Hp→VK→Prop:=fun xs H Q=>∃ p ys,xs=[.ref p]∧(SqL K H p ys∨SqT K H p ys)∧Q (.int ys.length) H
noncomputable def isB (x:V) (H:Hp) (T:String) (b:Bool):Prop:=match x with
  | .int _=>(T="int" ∧ b=true)∨(T="bool" ∧ b=false)
  | .bl _=>T="bool" ∧ b=true
  | .ref p=>T="tuple" ∧ b=true∧∃ xs,H p=some (.tup xs)
  | _=>False
noncomputable def cIsB:List V→Hp→VK→Prop:=fun xs H Q=>∃ x T b,xs=[x,.ty T]∧isB x H T b∧Q (.bl b) H
theorem BB.mono {m n:Nat} {i:Int} (h:BB m i) (hm:m≤n):BB n i:=Nat.lt_of_lt_of_le h (Nat.pow_le_pow_right (by decide) hm)
theorem CMulB.l {i j:Int} (h:BB 64 i):CMulB i j:=⟨0,0,by decide,.inr (.inl h)⟩
theorem CMulB.r {i j:Int} (h:BB 64 j):CMulB i j:=⟨0,0,by decide,.inr (.inr h)⟩
theorem Same.tup {K:PySem.W.Frag} {H H':Hp} {a:Addr} {xs:List V} (e:Same H H') (h:SqT K H a xs):SqT K H' a xs:=by
  rcases h with (h | ⟨o,h⟩) | h
  · exact .inl (.inl (e _ _ h))
  · exact .inl (.inr ⟨o,e _ _ h⟩)
  · exact .inr h
theorem tVar_el {i:Nat} {σ:St} {H:Hp} {Q:VK} (h:tVar i σ H Q):∃ v,σ[i]?=some (some v)∧Q v H:=by
  first
  | exact h
  | (unfold tVar at h
     split at h
     · exact ⟨_,‹_›,h⟩
     · exact h.elim)
theorem tVar_in {i:Nat} {σ:St} {H:Hp} {Q:VK} {v:V} (e:σ[i]?=some (some v)) (q:Q v H):tVar i σ H Q:=by
  first
  | exact ⟨v,e,q⟩
  | (unfold tVar
     rw [e]
     exact q)
theorem Same.upd {H:Hp} {p:Addr} {o:HO} (h:H p=none):Same H (upd H p o):=fun b u e=>by
  rw [upd_ne (ne_of_none e h)];exact e
theorem BB.of_le {n:Nat} {i j:Int} (h:BB n j) (hl:i.natAbs≤j.natAbs):BB n i:=Nat.lt_of_le_of_lt hl h
theorem BB.mul {m n:Nat} {i j:Int} (hi:BB m i) (hj:BB n j):BB (m+n) (i * j):=by
  unfold BB at *
  rw [Int.natAbs_mul,Nat.pow_add]
  exact Nat.mul_lt_mul_of_lt_of_lt hi hj
theorem BB.add {n:Nat} {i j:Int} (hi:BB n i) (hj:BB n j):BB (n+1) (i+j):=by
  unfold BB at *
  rw [Nat.pow_succ]
  omega
theorem BB.gcd {n:Nat} {i j:Int} (hj:BB n j) (h0:j≠0):BB n (Int.gcd i j:Nat):=by
  refine hj.of_le ?_
  rw [Int.natAbs_natCast]
  exact Int.gcd_le_natAbs_right _ h0
theorem BB.neg {n:Nat} {i:Int} (h:BB n i):BB n (-i):=by unfold BB at *;rwa [Int.natAbs_neg]
theorem CMulB.b {m n:Nat} {i j:Int} (hi:BB m i) (hj:BB n j) (h:m+n≤100000000:=by decide):CMulB i j:=⟨m,n,h,.inl ⟨hi,hj⟩⟩
noncomputable def caught (σ:St) (caps:List Nat):St:=caps.map fun j=>(σ[j]?).join
noncomputable def CompRd (J:It) (σ:St) (caps:List Nat) (te:TE) (H1:Hp) (fin:List V→Hp→Prop):Prop :=
  ∃ (n:Nat) (W:Nat→List V→Hp→Prop),n≤sizeLine∧W 0 [] H1∧∀ i ys H2,i≤n→ys.length=i→W i ys H2 →
    (J.stop i H2∧fin ys H2)∨(i < n∧J.go i H2∧∀ x H3,J.yld i H2 x H3→te (some x :: caught σ caps) H3 fun y H4=>W (i+1) (ys ++ [y]) H4)
noncomputable def tComp (wi:TI) (caps:List Nat) (te:TE):TE:=fun σ H Q=>wi σ H fun J H1=>CompRd J σ caps te H1 fun ys H2=>∀ p,H2 p=none→Q (.ref p) (upd H2 p (.lst ys))
noncomputable def Ite (K:PySem.W.Frag) (a:Addr):It :=
  ⟨fun i H=>∃ xs x,SqL K H a xs∧xs[i]?=some x,fun i H v H'=>∃ p x,v=.ref p∧H p=none∧H'=upd H p (.tup [.int i,x])∧∀ xs,SqL K H a xs→xs[i]?=some x,fun i H=>∃ xs,SqL K H a xs∧xs.length≤i⟩
noncomputable def iEnum (K:PySem.W.Frag) (tl:TE):TI:=fun σ H R=>tl σ H fun x H1=>∃ a,x=.ref a∧(∃ xs,SqL K H1 a xs)∧R (Ite K a) H1
theorem for_enum {K:PySem.W.Frag} {a:Addr} {xs:List V} {g:TG} {tb:TS} {D:Ends} {σ:St} {H:Hp} (Pv:Nat→St→Hp→Prop) (h0:Pv 0 σ H) (hl:∀ i σ H,i≤xs.length→Pv i σ H→SqL K H a xs)
    (hs:∀ i x p σ H,xs[i]?=some x→Pv i σ H→H p=none→g (.ref p) σ (upd H p (.tup [.int i,x])) fun σ2 H2=>tb { D with nx:=Pv (i+1),ct:=Pv (i+1),bk:=D.nx } σ2 H2) (hd:∀ σ H,Pv xs.length σ H→D.nx σ H) :
    ∃ W:Nat→Nat→St→Hp→Prop,(∃ m,W 0 m σ H)∧∀ i m σ H,W i m σ H →
      ((Ite K a).stop i H∧D.nx σ H)∨((Ite K a).go i H∧∃ N:St→Hp→Prop,(∀ σ' H',N σ' H'→∃ m',m' < m∧W (i+1) m' σ' H')∧∀ x H',(Ite K a).yld i H x H'→g x σ H' fun σ2 H2=>tb { D with nx:=N,ct:=N,bk:=D.nx } σ2 H2):=by
  refine ⟨fun i m σ H=>m=xs.length - i∧i≤xs.length∧Pv i σ H,⟨xs.length,by simp,Nat.zero_le _,h0⟩,?_⟩
  rintro i m σ H ⟨rfl,hi,p⟩
  have q:=hl i σ H hi p
  by_cases hlt:i < xs.length
  · refine .inr ⟨⟨xs,xs[i],q,by simp [hlt]⟩,Pv (i+1),fun σ' H' p'=>⟨xs.length - (i+1),by omega,rfl,hlt,p'⟩,fun x H' y=>?_⟩
    obtain ⟨pp,z,e1,e2,e3,y⟩:=y
    subst e1 e3
    exact hs i z pp σ _ (y xs q) p e2
  · have e:i=xs.length:=by omega
    subst e
    exact .inl ⟨⟨xs,q,Nat.le_refl _⟩,hd σ H p⟩
theorem comp_list {K:PySem.W.Frag} {a:Addr} {xs:List V} {σ:St} {caps:List Nat} {te:TE} {H1:Hp} {fin:List V→Hp→Prop} (W:Nat→List V→Hp→Prop) (hz:xs.length≤sizeLine) (h0:W 0 [] H1) (hl:∀ i ys H,i≤xs.length→W i ys H→SqL K H a xs)
    (hs:∀ i x ys H,xs[i]?=some x→ys.length=i→W i ys H→te (some x :: caught σ caps) H fun y H4=>W (i+1) (ys ++ [y]) H4) (hd:∀ ys H,ys.length=xs.length→W xs.length ys H→fin ys H):CompRd (Itl K a) σ caps te H1 fin:=by
  refine ⟨xs.length,W,hz,h0,fun i ys H2 hi hy hw=>?_⟩
  have q:=hl i ys H2 hi hw
  by_cases hlt:i < xs.length
  · refine .inr ⟨hlt,⟨xs,xs[i],q,by simp [hlt]⟩,fun x H3 y=>?_⟩
    obtain ⟨e,y⟩:=y
    subst e
    exact hs i x ys _ (y xs q) hy hw
  · have e:i=xs.length:=by omega
    subst e
    exact .inl ⟨⟨xs,q,Nat.le_refl _⟩,hd ys H2 hy hw⟩
theorem comp_range {lo:Int} {n:Nat} {σ:St} {caps:List Nat} {te:TE} {H1:Hp} {fin:List V→Hp→Prop} (W:Nat→List V→Hp→Prop) (hz:n≤sizeLine) (h0:W 0 [] H1)
    (hs:∀ i ys H,i < n→ys.length=i→W i ys H→te (some (.int (lo+i)) :: caught σ caps) H fun y H4=>W (i+1) (ys ++ [y]) H4) (hd:∀ ys H,ys.length=n→W n ys H→fin ys H):CompRd (Itr lo n) σ caps te H1 fin:=by
  refine ⟨n,W,hz,h0,fun i ys H2 hi hy hw=>?_⟩
  by_cases hlt:i < n
  · refine .inr ⟨hlt,hlt,fun x H3 y=>?_⟩
    obtain ⟨e1,e2⟩:=y
    subst e1 e2
    exact hs i ys _ hlt hy hw
  · have e:i=n:=by omega
    subst e
    exact .inl ⟨Nat.le_refl _,hd ys H2 hy hw⟩
noncomputable def cSum (K:PySem.W.Frag):List V→Hp→VK→Prop:=fun xs H Q=>∃ p ns,xs=[.ref p]∧SqL K H p (List.map V.int ns)∧Q (.int ns.sum) H
noncomputable def cMax:List V→Hp→VK→Prop:=fun xs H Q=>∃ i j,xs=[.int i,.int j]∧Q (.int (if j > i then j else i)) H
noncomputable def cMin:List V→Hp→VK→Prop:=fun xs H Q=>∃ i j,xs=[.int i,.int j]∧Q (.int (if j < i then j else i)) H
noncomputable def cList (K:PySem.W.Frag):List V→Hp→VK→Prop:=fun xs H Q=>∃ p ys,xs=[.ref p]∧(SqL K H p ys∨SqT K H p ys)∧∀ l,H l=none→Q (.ref l) (upd H l (.lst ys))
theorem Same.put {H H':Hp} {p:Addr} {o:HO} (s:Same H H') (h:H p=none):Same H (L2.upd H' p o):=fun b u e=>by
  rw [upd_ne (ne_of_none e h)];exact s b u e
theorem SqT.off {K:PySem.W.Frag} {H:Hp} {p r:Addr} {xs ys zs:List V} (h:SqT K H p xs) (hr:H r=some (.lst ys)):SqT K (upd H r (.lst zs)) p xs:=by
  rcases h with (h | ⟨o,h⟩) | h
  · exact .inl (.inl (by rw [upd_ne (ne_of h hr (by intro z;cases z))];exact h))
  · exact .inl (.inr ⟨o,by rw [upd_ne (ne_of h hr (by intro z;cases z))];exact h⟩)
  · exact .inr h
end L2
namespace L2
open PySem PySem.Spec PyProof.Rows
theorem bt_int:bootBuiltins "int" = some (.type "int"):=by decide +kernel
theorem bt_bool:bootBuiltins "bool" = some (.type "bool"):=by decide +kernel
theorem bt_tuple:bootBuiltins "tuple" = some (.type "tuple"):=by decide +kernel
theorem bt_list:bootBuiltins "list" = some (.type "list"):=by decide +kernel
theorem bt_abs:bootBuiltins "abs" = some (.builtin "abs"):=by decide +kernel
theorem bt_len:bootBuiltins "len" = some (.builtin "len"):=by decide +kernel
theorem bt_isinstance:bootBuiltins "isinstance" = some (.builtin "isinstance"):=by decide +kernel
theorem bt_max:bootBuiltins "max" = some (.builtin "max"):=by decide +kernel
theorem bt_min:bootBuiltins "min" = some (.builtin "min"):=by decide +kernel
theorem bt_sum:bootBuiltins "sum" = some (.builtin "sum"):=by decide +kernel
theorem intBits_leB {n:Nat} {k:Int} (h:BB n k):Builtin.Int.intBits k≤n:=by
  unfold Builtin.Int.intBits
  split
  · exact Nat.zero_le _
  · rename_i h0
    have hp:k.natAbs≠0:=by simpa using h0
    have h2:=(Nat.log2_lt hp).mpr h
    omega
theorem CMulB.ok {i j:Int} (h:CMulB i j):IntMulOk i j:=by
  obtain ⟨m,n,hz,⟨h1,h2⟩ | h1 | h1⟩:=h
  · exact IntMulOk.of_le (intBits_leB h1) (intBits_leB h2) (by omega)
  · exact .of_left (intBits_leB h1)
  · exact .of_right (intBits_leB h1)
theorem noPyB {i j:Int} (h:BB 9000 j):Builtin.divisionGoesByPylong i j=false:=by
  refine PyProof.noPylong_of_log2 ?_
  by_cases h0:j.natAbs=0
  · rw [h0];decide +kernel
  · exact (Nat.log2_lt h0).mpr h
section
variable {X:Cx}
theorem op_mulB:OpR X (binaryOp .Mult) rMulI:=opI fun _ _ _ _ _ _ _ hc q=>mul_int q hc.ok
theorem op_fdivB:OpR X (binaryOp .FloorDiv) rDivI:=opI fun _ _ _ _ _ _ _ hc q=>floordiv_int hc.1 q (.inl (noPyB hc.2))
theorem kit_ii (K:PySem.W.Frag):PySem.W.kitOne K (.type "int") (.type "int")=some true:=by rfl
theorem kit_ib (K:PySem.W.Frag):PySem.W.kitOne K (.type "int") (.type "bool")=some false:=by rfl
theorem kit_bb (K:PySem.W.Frag):PySem.W.kitOne K (.type "bool") (.type "bool")=some true:=by rfl
theorem kit_tt (K:PySem.W.Frag):PySem.W.kitOne K (.type "tuple") (.type "tuple")=some true:=by rfl
theorem call_isB:CallR X (.builtin "isinstance") cIsB:=by
  intro pins s σ H xs us Q I r h
  obtain ⟨x,T,b,rfl,hb,q⟩:=h
  obtain ⟨u,c,rfl,ru,rc⟩:=vals2 r
  obtain rfl:c=Value.type T:=rc
  have fin:∀ tk,EP X pins σ Q (.bool b) { s with toks:=tk }:=fun tk=>⟨.bl b,H,I.tok _,rfl,q⟩
  cases x with
  | int i =>
    rcases hb with ⟨rfl,rfl⟩ | ⟨rfl,rfl⟩
    · exact isinst_ok I ru (.int i) (kit_ii _) fin
    · exact isinst_ok I ru (.int i) (kit_ib _) fin
  | bl i =>
    obtain ⟨rfl,rfl⟩:=hb
    exact isinst_ok I ru (.bl i) (kit_bb _) fin
  | ref p =>
    obtain ⟨rfl,rfl,xs,hp⟩:=hb
    exact isinst_ok I ru (.tup hp) (kit_tt _) fin
  | _=>exact (show False from hb).elim
end
end L2
namespace L2
open PySem PySem.Spec PyProof.Rows
noncomputable def closOf (env:Env):List (Str×NameKind)→List (Str×Addr)→List (Str×Addr)
  | [],cs=>cs
  | (n,k) :: r,cs=>closOf env r (if (k == NameKind.free)=true then (n,(env.cells.lookup n).getD 0) :: cs else cs)
theorem closureFor_eq {scope:Scope} {env:Env} (h:∀ p∈scope.names,p.2=.free→∃ c,env.cells.lookup p.1=some c):closureFor scope env=pure (closOf env scope.names []):=by
  have go:∀ (f:Str×NameKind→List (Str×Addr)→Sem (ForInStep (List (Str×Addr)))),(∀ n k cs,f (n,k) cs=if (k == NameKind.free)=true then (cellOf env n >>= fun a=>pure (ForInStep.yield ((n,a) :: cs))) else pure (ForInStep.yield cs)) →
      ∀ (l:List (Str×NameKind)) (cs:List (Str×Addr)),(∀ p∈l,p.2=.free→∃ c,env.cells.lookup p.1=some c)→(forIn l cs f:Sem _)=pure (closOf env l cs):=by
    intro f hf l
    induction l with
    | nil=>intro cs _;rfl
    | cons p r ih =>
      intro cs hl
      obtain ⟨n,k⟩:=p
      have hr:∀ p∈r,p.2=.free→∃ c,env.cells.lookup p.1=some c:=fun p hp=>hl p (List.mem_cons_of_mem _ hp)
      rw [List.forIn_cons,hf]
      by_cases hk:(k == NameKind.free)=true
      · obtain ⟨c,hc⟩:=hl (n,k) List.mem_cons_self (by simpa using hk)
        have hc':env.cells.lookup n=some c:=hc
        have e:cellOf env n=pure c:=by unfold cellOf;rw [hc']
        rw [if_pos hk,e,pure_bind,pure_bind]
        dsimp only
        rw [ih _ hr]
        have e2:closOf env ((n,k) :: r) cs=closOf env r ((n,c) :: cs):=by
          show closOf env r (if (k == NameKind.free)=true then (n,(env.cells.lookup n).getD 0) :: cs else cs)=_
          rw [if_pos hk,hc'];rfl
        rw [e2]
      · rw [if_neg hk,pure_bind]
        dsimp only
        rw [ih _ hr]
        have e2:closOf env ((n,k) :: r) cs=closOf env r cs:=by
          show closOf env r (if (k == NameKind.free)=true then (n,(env.cells.lookup n).getD 0) :: cs else cs)=_
          rw [if_neg hk]
        rw [e2]
  unfold closureFor
  show (forIn scope.names [] _ >>= fun s=>pure s)=_
  rw [go _ (fun n k cs=>by rfl) scope.names [] h,pure_bind]
theorem closOf_all {env:Env}:∀ {l:List (Str×NameKind)} {cs:List (Str×Addr)},(∀ p∈l,p.2=.free→∃ c,env.cells.lookup p.1=some c)→(∀ p∈cs,env.cells.lookup p.1=some p.2)→∀ p∈closOf env l cs,env.cells.lookup p.1=some p.2
  | [],_,_,h,p,hp=>h p hp
  | (n,k) :: r,cs,hl,h,p,hp=>by
    refine closOf_all (l:=r) (fun q hq=>hl q (List.mem_cons_of_mem _ hq)) (fun q hq=>?_) p hp
    by_cases hk:(k == NameKind.free)=true
    · rw [if_pos hk] at hq
      rcases List.mem_cons.mp hq with rfl | hq
      · obtain ⟨c,hc⟩:=hl (n,k) List.mem_cons_self (by simpa using hk)
        have hc':env.cells.lookup n=some c:=hc
        show env.cells.lookup n=some ((env.cells.lookup n).getD 0)
        rw [hc'];rfl
      · exact h q hq
    · rw [if_neg hk] at hq
      exact h q hq
theorem closOf_mono {env:Env} {y:Str}:∀ {l:List (Str×NameKind)} {cs:List (Str×Addr)},y∈cs.map (·.1)→y∈(closOf env l cs).map (·.1)
  | [],_,h=>h
  | (n,k) :: r,cs,h=>by
    refine closOf_mono (l:=r) ?_
    by_cases hk:(k == NameKind.free)=true
    · rw [if_pos hk];exact List.mem_cons_of_mem _ h
    · rw [if_neg hk];exact h
theorem closOf_has {env:Env} {y:Str}:∀ {l:List (Str×NameKind)} {cs:List (Str×Addr)},(y,NameKind.free)∈l→y∈(closOf env l cs).map (·.1)
  | [],_,h=>nomatch h
  | (n,k) :: r,cs,h=>by
    rcases List.mem_cons.mp h with e | h
    · cases e
      refine closOf_mono (l:=r) ?_
      rw [if_pos (by rfl)]
      exact List.mem_cons_self
    · exact closOf_has (l:=r) h
theorem lookup_of_key {α:Type} {y:Str}:∀ {l:List (Str×α)},y∈l.map (·.1)→∃ c,l.lookup y=some c
  | [],h=>nomatch h
  | (n,c) :: r,h=>by
    cases hx:y == n with
    | true=>exact ⟨c,by simp only [List.lookup_cons,hx]⟩
    | false =>
      have h':y∈r.map (·.1):=by
        rcases List.mem_cons.mp h with e | h
        · have e':y=n:=e
          rw [e'] at hx;simp at hx
        · exact h
      obtain ⟨c',e⟩:=lookup_of_key h'
      exact ⟨c',by simp only [List.lookup_cons,hx];exact e⟩
theorem relabel_cell {env:Env} (hk:env.scope.kind=.function):∀ {names:List (Str×NameKind)} {y:Str},names.lookup y=some .free→env.kindOf y=some .cell →
    (names.map fun (n,k)=>if (k == NameKind.free && env.scope.kind == .function && env.kindOf n == some .cell) then (n,NameKind.cell) else (n,k)).lookup y=some .cell
  | [],_,h,_=>by simp at h
  | (n,k) :: r,y,h,hc=>by
    have ih:=@relabel_cell env hk r y
    show List.lookup y ((if (k == NameKind.free && env.scope.kind == .function && env.kindOf n == some .cell)=true then (n,NameKind.cell) else (n,k)) :: _)=_
    cases hx:y == n with
    | true =>
      simp only [List.lookup_cons,hx] at h
      cases h
      have e:y=n:=by simpa using hx
      subst e
      have ht:(NameKind.free == NameKind.free && env.scope.kind == .function && env.kindOf y == some .cell)=true:=by rw [hk,hc];rfl
      rw [if_pos ht];simp only [List.lookup_cons,hx]
    | false =>
      simp only [List.lookup_cons,hx] at h
      by_cases hc':(k == NameKind.free && env.scope.kind == .function && env.kindOf n == some .cell)=true
      · rw [if_pos hc'];simp only [List.lookup_cons,hx];exact ih h hc
      · rw [if_neg hc'];simp only [List.lookup_cons,hx];exact ih h hc
theorem relabel_of {env:Env}:∀ {names:List (Str×NameKind)} {y:Str},(∀ p∈names,p.2≠.cell) →
    (∃ k,(names.map fun (n,k)=>if (k == NameKind.free && env.scope.kind == .function && env.kindOf n == some .cell) then (n,NameKind.cell) else (n,k)).lookup y=some k∧(k=.cell∨k=.free))→(y,NameKind.free)∈names
  | [],_,_,⟨_,h,_⟩=>by simp at h
  | (n,k) :: r,y,hn,⟨kk,h,hkk⟩=>by
    have h:List.lookup y ((if (k == NameKind.free && env.scope.kind == .function && env.kindOf n == some .cell)=true then (n,NameKind.cell) else (n,k)) :: r.map fun (n,k)=>if (k == NameKind.free && env.scope.kind == .function && env.kindOf n == some .cell) then (n,NameKind.cell) else (n,k))=some kk:=h
    have ih:=@relabel_of env r y fun p hp=>hn p (List.mem_cons_of_mem _ hp)
    cases hx:y == n with
    | true =>
      have e:y=n:=by simpa using hx
      subst e
      by_cases hc':(k == NameKind.free && env.scope.kind == .function && env.kindOf y == some .cell)=true
      · have hf:k=.free:=by
          rw [Bool.and_eq_true,Bool.and_eq_true] at hc'
          simpa using hc'.1.1
        rw [hf];exact List.mem_cons_self
      · rw [if_neg hc'] at h
        simp only [List.lookup_cons,hx] at h
        have e2:k=kk:=Option.some.inj h
        subst e2
        rcases hkk with z | z
        · exact absurd z (hn (y,k) List.mem_cons_self)
        · rw [z];exact List.mem_cons_self
    | false =>
      have h2:(r.map fun (n,k)=>if (k == NameKind.free && env.scope.kind == .function && env.kindOf n == some .cell) then (n,NameKind.cell) else (n,k)).lookup y=some kk:=by
        by_cases hc':(k == NameKind.free && env.scope.kind == .function && env.kindOf n == some .cell)=true
        · rw [if_pos hc'] at h;simp only [List.lookup_cons,hx] at h;exact h
        · rw [if_neg hc'] at h;simp only [List.lookup_cons,hx] at h;exact h
      exact List.mem_cons_of_mem _ (ih ⟨kk,h2,hkk⟩)
structure CompSt (FS scope:Scope) (N:List Str) (x:Str) (ys:List Str) (caps:List Nat):Prop where
  ncell:∀ y∈scope.names,y.2≠.cell
  kind:scope.kind=.function
  names:∀ y∈scope.names,y.2=.local→scope.names.lookup y.1=some .local
  loc:scope.names.lookup x=some .local
  fr:∀ p∈scope.names,p.2=.free→FS.names.lookup p.1=some .cell
  fk:FS.kind=.function
  cap:∀ p∈ys.zip caps,N[p.2]?=some p.1∧scope.names.lookup p.1=some .free
  len:ys.length=caps.length
  nd:(x :: ys).Nodup
noncomputable abbrev clsOf (X:Cx) (scope:Scope):List (Str×Addr):=closOf X.env scope.names []
noncomputable def cxComp (X:Cx) (scope:Scope) (NY:List Str) (s:Shared) (H:Hp) (ex:List Addr) (pn:List (Addr×Obj)):Cx :=
  { X with N:=NY,s₀:=s,H₀:=H,env:=compEnvC scope (clsOf X scope) s.heap.objs.size X.env,outer:=X.stack,stack:=X.stack,ex:=ex,fn:=fun _=>false,pn:=pn,xe:=fun _ _=>False }
section
variable {X:Cx} {pins:List (Addr×Obj)} {σ:St} {H:Hp} {s:Shared}
theorem Inv.adopt {D:Addr} {o:HO} (I:Inv X pins σ H s) (hn:H D=none) (hs:X.s₀.heap.objs.size≤D) (hL:D≠X.env.locals) (hc:∀ x c,X.env.cells.lookup x=some c→c≠D) (hp:∀ p∈X.pn ++ pins,p.1≠D)
    (new:ObjOk X.prog X.w (upd H D o) s.heap D o):Inv X pins σ (upd H D o) s:=by
  have u:Un X.fs X.ex H (upd H D o) s.heap s.heap→True:=fun _=>trivial
  refine ⟨I.ok,I.os,I.bare,⟨I.base.keep,I.base.slot,fun b ob e n hx=>?_,I.base.there,fun b xs e=>?_,fun b ob xs e=>?_,fun b ps e=>?_⟩,I.loc,I.cell,?_,fun x c e=>?_,fun p h=>?_,fun b ob e=>?_,I.len⟩
  · rw [upd_ne (Nat.ne_of_lt (Nat.lt_of_lt_of_le (Heap.lt_size e) hs))];exact I.base.free b ob e n hx
  · have q:=I.base.tups b xs e
    rw [upd_ne (ne_of_none q hn)];exact q
  · have q:=I.base.frzs b ob xs e
    rw [upd_ne (ne_of_none q hn)];exact q
  · obtain ⟨more,q⟩:=I.base.tbls b ps e
    exact ⟨more,by rw [upd_ne (ne_of_none q hn)];exact q⟩
  · rw [upd_ne (Ne.symm hL)];exact I.free
  · rw [upd_ne (hc x c e)];exact I.freeC x c e
  · obtain ⟨a1,a2,a3⟩:=I.pin p h
    exact ⟨a1,by rw [upd_ne (hp p h)];exact a2,a3⟩
  · by_cases hb:b=D
    · subst hb;rw [upd_same] at e;cases e;exact new
    · rw [upd_ne hb] at e
      exact (I.hok b ob e).stay (fun c v _ q=>q) (fun c q=>by rw [upd_ne (ne_of_none q hn)];exact q) fun c xs q=>by rw [upd_ne (ne_of_none q hn)];exact q
end
section
variable {X:Cx} {scope:Scope} {x:Str} {ys:List Str} {caps:List Nat}
end
section
variable {X:Cx} {scope:Scope} {x:Str} {ys:List Str} {caps:List Nat} {elt iter:Expr} {te:TE} {px pos:Pos}
theorem nxE {α:Type} {t:Sem α} {Q Q':α→Shared→Prop} {M:Model} {A:Around} {F E:Value→Shared→Prop} {s:Shared} (hF:F=fun _ _=>False) (h:wpAny M A t Q F s) (hQ:∀ a s,Q a s→Q' a s):wpAny M A t Q' E s :=
  wpAny_mono h hQ fun e s' z=>by
    rw [hF] at z
    exact z.elim
noncomputable abbrev lstO (its:List Value) (n:Nat):Obj:={ cls:=.type "list",data:=.seq its.toArray n }
end
end L2
namespace L2
open PySem PySem.Spec PyProof.Rows
theorem bt_enumerate:bootBuiltins "enumerate" = some (.type "enumerate"):=by decide +kernel
section
variable {X:Cx} {pins:List (Addr×Obj)} {σ:St} {H:Hp} {s:Shared} {h':Heap}
theorem Inv.turnedL {t':Nat} {ch:List Addr} (I:Inv X pins σ H s) (k:∀ b o,b∉ch→s.heap.get? b=some o→h'.get? b=some o) (hf:∀ b∈ch,FpOk X pins H b):Inv X pins σ H { s with heap:=h',toks:=t' }:=by
  have nit:∀ b u,H b=some u→b∉ch:=fun b u e z=>by rw [(hf b z).1] at e;cases e
  refine I.step (g':=s.gens) (d':=s.drawn) (ch:=ch) (fun b hb=>?_) (fun b o _ _ hc e _=>k b o hc e) (fun b o _ _ hc e _=>⟨o.slots,k b o hc e⟩) (fun _ _ _ _ n=>n)
    (fun b o hc e=>⟨o,k b o hc e⟩) (fun _ _ e=>e) (fun _ _ _ e=>e) (fun b ps e=>⟨#[],by rw [e];simp⟩) (fun m hm=>?_) (fun b u e=>?_) I.bare
  · obtain ⟨a1,a2,a3,a4,a5,a6⟩:=hf b hb
    exact ⟨a4,a2,a5,a6⟩
  · obtain ⟨o,es,ep,ho,r⟩:=hm
    exact ⟨o,es,ep,k _ o (fun z=>(hf _ z).2.1 rfl) ho,r⟩
  · refine (I.hok b u e).stay (fun c v hc q=>k c v ?_ q) (fun _ q=>q) fun _ _ q=>q
    rcases hc with z | z
    · rw [z];exact nit b u e
    · exact nit c _ z
end
theorem turn_enum {P:Program} {w:World} {K:PySem.W.Frag} {elts:List Expr} {k:Nat} {tp:Pos} (a e it:Addr) (hne:e≠it) :
    Turn P w K (.Tuple elts k tp) (Ite K a) [e,it] e (fun i h=>(∃ old,IsEnum h e it i old)∧h.IsListIter it a i) where
  mem:=by simp
  obj:=fun i h st b hb=>by
    obtain ⟨⟨old,he⟩,hit⟩:=st
    have z:b=e∨b=it:=by simpa using hb
    rcases z with rfl | rfl
    · exact ⟨_,he,fun v z=>by
        have z':Data.fields _=Data.cell v:=z
        cases z'⟩
    · obtain ⟨o,e,c,d⟩:=hit
      exact ⟨o,e,fun v z=>by rw [d] at z;cases z⟩
  keep:=fun i h h' st k=>by
    obtain ⟨⟨old,he⟩,hit⟩:=st
    exact ⟨⟨old,k e (by simp) _ he⟩,hit.at fun o q=>k it (by simp) o q⟩
  item:=by
    intro X hP hw hK hc i pins s σ H E I hf st hg
    subst hP hw hK
    obtain ⟨xs,x,hq,hx⟩:=hg
    obtain ⟨its,rv,p,hz⟩:=I.list hq
    obtain ⟨u,hu,ru⟩:=rv.get hx
    obtain ⟨⟨old,he⟩,hit⟩:=st
    refine wpAny_pyNext_enum_item he hit p.isList (x:=u) (by simpa using hu) hne fun h1 out hit1 tup sz kp=>⟨_,rfl,?_⟩
    refine wpAny_letOwnedTupleGo_enum (s:={ s with heap:=h1,toks:=s.toks+1 }) out fun h2 en sb=>?_
    have hel:e < s.heap.objs.size:=Heap.lt_size he
    have hTe:s.heap.objs.size≠e:=Nat.ne_of_gt hel
    have sb':Heap.SameBut e h1 h2:=sb
    have I1:Inv X pins σ H { s with heap:=h2,toks:=s.toks+1 }:=I.turnedL (ch:=[e,it]) (fun b o hb q=>by
      have hb':b≠e∧b≠it:=by simpa using hb
      exact (sb'.2 b hb'.1).trans (kp b o hb'.1 hb'.2 q)) hf
    have hTn:H s.heap.objs.size=none:=I.hok.fresh (Nat.le_refl _)
    have tup2:h2.get? s.heap.objs.size=some { cls:=.type "tuple",data:=.seq #[.int i s.toks,u] }:=(sb'.2 _ hTe).trans tup
    have I2:Inv X pins σ (upd H s.heap.objs.size (.tup [.int i,x])) { s with heap:=h2,toks:=s.toks+1 }:=I1.adopt hTn I.sz (Nat.ne_of_gt I.lt) (fun y c q=>by
      obtain ⟨v,z⟩:=I.cell y c q
      exact Nat.ne_of_lt z.lt) (fun q hq=>Nat.ne_of_lt (Heap.lt_size (I.pin q hq).1)) ⟨by show 2≤sizeLine;decide,[.int i s.toks,u],.cons ⟨_,rfl⟩ (.cons ru .nil),⟨_,tup2,rfl,_,rfl⟩⟩
    refine ⟨.ref s.heap.objs.size,_,I2,rfl,⟨_,x,rfl,hTn,rfl,fun ys hy=>by rw [I.list_inj hy hq];exact hx⟩,⟨⟨_,by have:=en;exact_mod_cast this⟩,?_⟩,fun b hb=>?_⟩
    · obtain ⟨o,q,r⟩:=hit1
      exact ⟨o,(sb'.2 it (Ne.symm hne)).trans q,r⟩
    · have hb0:=(hf b hb).1
      have z:b=e∨b=it:=by simpa using hb
      have hlt:b < s.heap.objs.size:=by
        rcases z with rfl | rfl
        · exact hel
        · obtain ⟨o,q,_⟩:=hit
          exact Heap.lt_size q
      rw [upd_ne (Nat.ne_of_lt hlt)]
      exact hb0
  done:=by
    intro X hP hw hK hc i pins s σ H E I hf st hg
    subst hP hw hK
    obtain ⟨xs,hq,hx⟩:=hg
    obtain ⟨its,rv,p,hz⟩:=I.list hq
    obtain ⟨⟨old,he⟩,hit⟩:=st
    obtain ⟨f0,f1,f2,f3,f4,f5⟩:=hf it (by simp)
    have hl:=rv.length
    exact wpAny_pyNext_enum_end (I.ok.hd hc) he hit p.isList (by simp;omega) fun h' eb=>⟨rfl,I.turned (t':=s.toks) (fun b o hb e=>eb b o hb e) f0 f1 f3 f4 f5⟩
  self:=fun _ _ _ _ _ st h=>by
    obtain ⟨⟨old,he⟩,hit⟩:=st
    exact wpAny_pyIter_enum he h
section
variable {X:Cx}
theorem pi_enum {elts:List Expr} {k:Nat} {tp:Pos} {a:Expr} {tl:TE} {p pos:Pos} (hg:Gl X "enumerate") (hm:X.mg "enumerate" = none) (hl:PE X a tl) (hs:starEach [a] X.env=[(false,eval a X.env)]:=by rfl):PI X (.Tuple elts k tp) (.Call (.Name "enumerate" p) [a] [] pos) (iEnum X.K tl):=by
  intro pins s σ H R I h
  have hA:PA X [a] (tCons tl tNil):=pa_cons hl pa_nil (by rw [hs];rfl)
  refine Call_ (ld_blt I hg hm bt_enumerate (PyProof.Rows.callWith_type1 (thn (hA pos pins s σ H (fun vs H1=>∃ x,vs=[x]∧∃ a,x=.ref a∧(∃ xs,SqL X.K H1 a xs)∧R (Ite X.K a) H1) I ?_) fun us s1 ⟨vs,H1,I1,r1,q1⟩=>?_) hs rfl))
  · show tl σ H fun x H1=>∃ y,[x]=[y]∧_
    have e:(fun (x:V) (H1:Hp)=>∃ y,[x]=[y]∧∃ a,y=V.ref a∧(∃ xs,SqL X.K H1 a xs)∧R (Ite X.K a) H1)=fun x H1=>∃ a,x=V.ref a∧(∃ xs,SqL X.K H1 a xs)∧R (Ite X.K a) H1:=by
      funext x H1
      exact propext ⟨fun ⟨y,e,r⟩=>by cases e;exact r,fun r=>⟨x,rfl,r⟩⟩
    have h':tl σ H fun x H1=>∃ a,x=V.ref a∧(∃ xs,SqL X.K H1 a xs)∧R (Ite X.K a) H1:=h
    rw [← e] at h'
    exact h'
  · obtain ⟨x,e1,b,e2,⟨xs,hq⟩,q⟩:=q1
    subst e1 e2
    obtain ⟨u,rfl,ru⟩:=vals1 r1
    cases ru
    obtain ⟨its,rv,pl,hz⟩:=I1.list hq
    refine call_enumerate_list pl.isList fun h1 he hit hsz hk=>?_
    refine wpAny_pyIter_enum he ?_
    have I2:Inv X pins σ H1 { s1 with heap:=h1 }:=I1.kept (t':=s1.toks) hk
    refine ⟨s1.heap.objs.size+1,[s1.heap.objs.size+1,s1.heap.objs.size],_,Ite X.K b,H1,rfl,I2,turn_enum b _ _ (Nat.succ_ne_self _),⟨⟨_,he⟩,hit⟩,fun c hc=>?_,q⟩
    have z:c=s1.heap.objs.size+1∨c=s1.heap.objs.size:=by simpa using hc
    have hle:s1.heap.objs.size≤c:=by rcases z with rfl | rfl <;> omega
    exact I1.fpOk hle (I1.hok.fresh hle)
theorem preSum_take (ns:List Int):∀ n,n≤ns.length→preSum (fun i=>ns.getD i 0) n=(ns.take n).sum
  | 0,_=>by simp [preSum]
  | n+1,h=>by
    show preSum _ n+ns.getD n 0=_
    have hn:n < ns.length:=by omega
    rw [preSum_take ns n (by omega),List.take_succ,List.sum_append,List.getD_eq_getElem?_getD,List.getElem?_eq_getElem hn]
    simp
theorem call_sumL (hc:X.calm=true):CallR X (.builtin "sum") (cSum X.K):=by
  intro pins s σ H xs us Q I r h
  obtain ⟨p,ns,rfl,hq,q⟩:=h
  obtain ⟨u,rfl,ru⟩:=vals1 r
  cases ru
  obtain ⟨its,rv,pl,hz⟩:=I.list hq
  have hl:=rv.length
  rw [List.length_map] at hl
  have hpl:p < s.heap.objs.size:=by obtain ⟨o,e,_⟩:=pl.isList;exact Heap.lt_size e
  refine call_sum_walkG (wpAny_pyIter_list pl.isList ⟨s.heap.objs.size,_,_,_,_,_,fun i=>ns.getD i 0,rfl,Walks.list (A:=X.A.in1) (I.ok.hd hc) s.heap.objs.size p (Nat.ne_of_lt hpl) its.toArray,⟨⟨_,Heap.get?_push_size _ rfl,rfl,rfl⟩,pl.isList.push _⟩,fun b hb=>?_,fun i v hv=>?_,fun h' tk t' hk=>?_⟩)
  · show b < (s.heap.push _).objs.size
    rw [Heap.size_push]
    have z:b=s.heap.objs.size∨b=p:=by simpa using hb
    rcases z with rfl | rfl
    · exact Nat.lt_succ_self _
    · exact Nat.lt_succ_of_lt hpl
  · have hv':its[i]?=some v:=by simpa using hv
    obtain ⟨x,ex,rx⟩:∃ x,(List.map V.int ns)[i]?=some x∧RelV x v:=by
      have hi:i < its.length:=(List.getElem?_eq_some_iff.mp hv').1
      have hi2:i < (List.map V.int ns).length:=by rw [List.length_map];omega
      obtain ⟨u,eu,ru⟩:=rv.get (i:=i) (x:=(List.map V.int ns)[i]) (List.getElem?_eq_getElem hi2)
      rw [hv'] at eu;cases eu
      exact ⟨_,List.getElem?_eq_getElem hi2,ru⟩
    rw [List.getElem?_map] at ex
    cases e:ns[i]? with
    | none=>rw [e] at ex;cases ex
    | some z =>
      rw [e] at ex
      have:V.int z=x:=Option.some.inj ex
      subst this
      obtain ⟨t,rfl⟩:=rx
      exact ⟨t,by show Value.int z t=Value.int (ns.getD i 0) t;rw [List.getD_eq_getElem?_getD,e];rfl⟩
  · have e:preSum (fun i=>ns.getD i 0) its.toArray.size=ns.sum:=by
      rw [List.size_toArray,← hl,preSum_take ns _ (Nat.le_refl _),List.take_length]
    rw [e]
    refine ⟨.int ns.sum,H,I.kept fun b o q=>?_,⟨_,rfl⟩,q⟩
    exact hk b o (by
      intro z
      have z':b=s.heap.objs.size:=by simpa using z
      exact absurd (Heap.lt_size q) (by rw [z'];exact Nat.lt_irrefl _)) (Heap.get?_push_of_some _ q)
theorem eqAt_ints {A:Around} {s:Shared} {i j:Int} {u v:Value} (r1:RelV (.int i) u) (r2:RelV (.int j) v):SeqAt.EqAt A s u v (i == j):=by
  obtain ⟨t,rfl⟩:=r1
  obtain ⟨t',rfl⟩:=r2
  exact fun prog w E Q hq=>wpAny_eqBool_int hq
end
end L2
namespace L2
open PySem PySem.Spec PyProof.Rows
section
variable {X:Cx} {pins:List (Addr×Obj)} {σ:St} {H H':Hp} {s s':Shared} {cls:Value} {a:Addr} {B:Heap}
end
section
variable {P:Program} {w:World} {K:PySem.W.Frag} {mg:Str→Option Value} {base:Heap} {N ps:List Str} {qual:Str} {scope:Scope} {f:Addr} {cd:Value} {A:Around} {outer:List Env} {s:Shared} {H:Hp} {E:XK}
end
section
variable {X:Cx} {pins:List (Addr×Obj)} {σ:St} {H H':Hp} {s s':Shared} {cls:Value} {a:Addr} {B:Heap}
end
section
variable {X:Cx} {k:Nat} {f C:Addr} {fd:FuncData} {ps:List Str} {sp:Sp} {dvs:List V} {ds:List Value} {x m:Str} {p pos apos:Pos} {e o:Expr} {es:List Expr} {ta:TE} {t:TA}
end
end L2
namespace L2
open PySem PySem.Spec PyProof.Rows
noncomputable def gadr (K:PySem.W.Frag) (x:Str):Addr:=match PySem.W.nsIn K mainGlobals x with
  | some (some (.ref C))=>C
  | _=>0
theorem gadr_of {K:PySem.W.Frag} {x:Str} {C:Addr} (h:PySem.W.nsIn K mainGlobals x=some (some (.ref C))):gadr K x=C:=by unfold gadr;rw [h]
section
variable {X:Cx}
end
section
open PySem.W Builtin Builtin.ObjectAttr Builtin.Getset_descriptor
end
end L2
namespace L2
end L2
namespace L2
open PySem PySem.Spec PyProof.Rows
noncomputable def REq (K:PySem.W.Frag) (H:Hp) (D:V→V→Bool→Prop) (x y:V) (b:Bool):Prop:=∃ a c xs ys,x=.ref a∧y=.ref c ∧
  ((SqL K H a xs∧SqL K H c ys∧((xs.length≠ys.length∧b=false)∨(xs.length=ys.length∧∃ e:Nat→Bool,(∀ (j:Nat) x' y',xs[j]?=some x'→ys[j]?=some y'→D x' y' (e j))∧b=(List.range xs.length).all e))) ∨
   (SqT K H a xs∧SqT K H c ys∧∃ e:Nat→Bool,(∀ (j:Nat) x' y',xs[j]?=some x'→ys[j]?=some y'→D x' y' (e j))∧b=((List.range (min xs.length ys.length)).all e && xs.length == ys.length)))
noncomputable def DEq (K:PySem.W.Frag) (H:Hp):Nat→V→V→Bool→Prop
  | 0,x,y,b=>(x=y∧(∃ a,x=.ref a)∧b=true)∨∃ i j,x=.int i∧y=.int j∧b=(i == j)
  | n+1,x,y,b=>((x=y∧(∃ a,x=.ref a)∧b=true)∨∃ i j,x=.int i∧y=.int j∧b=(i == j))∨(x≠y∧REq K H (DEq K H n) x y b)
noncomputable def rNeD (K:PySem.W.Frag) (n:Nat):R2:=fun x y H Q=>∃ b,REq K H (DEq K H n) x y b∧Q (.bl (!b)) H
theorem Vals.ix {xs:List V} {us:List Value} (r:Vals xs us) {j:Nat} (h:j < us.toArray.size):∃ x,xs[j]?=some x∧RelV x us.toArray[j]:=by
  have hl:=r.length
  have h1:j < us.length:=by simpa using h
  have h2:j < xs.length:=by omega
  obtain ⟨u,e,q⟩:=r.get (i:=j) (x:=xs[j]) (List.getElem?_eq_getElem h2)
  refine ⟨xs[j],List.getElem?_eq_getElem h2,?_⟩
  have e2:us.toArray[j]=u:=by
    obtain ⟨_,z⟩:=List.getElem?_eq_some_iff.mp e
    simpa using z
  rw [e2];exact q
section
variable {X:Cx} {pins:List (Addr×Obj)} {σ:St} {H:Hp} {s:Shared}
theorem rc_of {A:Around} {D:V→V→Bool→Prop} (I:Inv X pins σ H s) (hu:A.units < cLine) (hD:∀ x y u v b,RelV x u→RelV y v→D x y b→SeqAt.EqAt A.in1 s u v b) {x y:V} {u v:Value} {b:Bool} (rx:RelV x u) (ry:RelV y v) (h:REq X.K H D x y b):SeqAt.RcAt A s u v b:=by
  obtain ⟨a,c,xs,ys,rfl,rfl,h⟩:=h
  cases rx
  cases ry
  rcases h with ⟨ha,hc,h⟩ | ⟨ha,hc,e,he,rfl⟩
  · obtain ⟨i1,r1,p1,_⟩:=I.list ha
    obtain ⟨i2,r2,p2,_⟩:=I.list hc
    have l1:=r1.length
    have l2:=r2.length
    rcases h with ⟨hn,rfl⟩ | ⟨hl,e,he,rfl⟩
    · exact SeqAt.RcAt.lists_lengths p1.isList p2.isList (by rw [List.size_toArray,List.size_toArray];simp;omega) hu
    · have q:=SeqAt.RcAt.lists (e:=e) p1.isList p2.isList (by rw [List.size_toArray,List.size_toArray];omega) hu fun j h1 h2=>by
        obtain ⟨x',ex,rx'⟩:=r1.ix h1
        obtain ⟨y',ey,ry'⟩:=r2.ix h2
        exact hD _ _ _ _ _ rx' ry' (he j x' y' ex ey)
      rw [List.size_toArray,← l1] at q
      exact q
  · obtain ⟨i1,r1,p1,_⟩:=I.tuple ha
    obtain ⟨i2,r2,p2,_⟩:=I.tuple hc
    have l1:=r1.length
    have l2:=r2.length
    have q:=SeqAt.RcAt.tuples (e:=e) p1 p2 hu fun j h1 h2=>by
      obtain ⟨x',ex,rx'⟩:=r1.ix h1
      obtain ⟨y',ey,ry'⟩:=r2.ix h2
      exact hD _ _ _ _ _ rx' ry' (he j x' y' ex ey)
    rw [List.size_toArray,List.size_toArray,← l1,← l2] at q
    exact q
theorem eq_leaf {A:Around} {x y:V} {u v:Value} {b:Bool} (rx:RelV x u) (ry:RelV y v) (h:(x=y∧(∃ a,x=.ref a)∧b=true)∨∃ i j,x=.int i∧y=.int j∧b=(i == j)):SeqAt.EqAt A s u v b:=by
  rcases h with ⟨rfl,⟨a,rfl⟩,rfl⟩ | ⟨i,j,rfl,rfl,rfl⟩
  · cases rx
    cases ry
    exact SeqAt.EqAt.same _
  · exact eqAt_ints rx ry
theorem eq_of_deq (I:Inv X pins σ H s):∀ (n:Nat) (A:Around),A.units+n < cLine→∀ x y u v b,RelV x u→RelV y v→DEq X.K H n x y b→SeqAt.EqAt A s u v b
  | 0,_,_,_,_,_,_,_,rx,ry,h=>eq_leaf rx ry h
  | n+1,A,hu,x,y,u,v,b,rx,ry,h=>by
    rcases h with h | ⟨hne,h⟩
    · exact eq_leaf rx ry h
    · have q:=rc_of I (A:=A) (by omega) (fun x y u v b rx ry d=>eq_of_deq I n A.in1 (by show A.units+1+n < cLine;omega) x y u v b rx ry d) rx ry h
      obtain ⟨a,c,xs,ys,rfl,rfl,_⟩:=h
      cases rx
      cases ry
      exact SeqAt.EqAt.of_refs (fun z=>hne (by rw [z])) q
end
section
variable {X:Cx}
theorem op_neD (n:Nat) (hu:X.A.units+(n+1) < cLine):OpR X (compareOp .NotEq) (rNeD X.K n):=by
  intro pins s σ H x y v u Q I rx ry h
  obtain ⟨b,⟨a,c,xs,ys,rfl,rfl,h⟩,q⟩:=h
  cases rx
  cases ry
  have hD:=eq_of_deq I n X.A.in1 (by show X.A.units+1+n < cLine;omega)
  have hu':X.A.units < cLine:=by omega
  have fin:EP X pins σ Q (.bool (!b)) s:=⟨.bl (!b),H,I,rfl,q⟩
  rcases h with ⟨ha,hc,h⟩ | ⟨ha,hc,e,he,rfl⟩
  · obtain ⟨i1,r1,p1,_⟩:=I.list ha
    obtain ⟨i2,r2,p2,_⟩:=I.list hc
    have l1:=r1.length
    have l2:=r2.length
    rcases h with ⟨hn,rfl⟩ | ⟨hl,e,he,rfl⟩
    · exact SeqAt.RcNeAt.lists_lengths p1.isList p2.isList (by rw [List.size_toArray,List.size_toArray];simp;omega) hu' _ _ _ _ fin
    · have z:=SeqAt.RcNeAt.lists (A:=X.A) (e:=e) p1.isList p2.isList (by rw [List.size_toArray,List.size_toArray];omega) hu' fun j h1 h2=>by
        obtain ⟨x',ex,rx'⟩:=r1.ix h1
        obtain ⟨y',ey,ry'⟩:=r2.ix h2
        exact hD _ _ _ _ _ rx' ry' (he j x' y' ex ey)
      rw [List.size_toArray,← l1] at z
      exact z _ _ _ _ fin
  · obtain ⟨i1,r1,p1,_⟩:=I.tuple ha
    obtain ⟨i2,r2,p2,_⟩:=I.tuple hc
    have l1:=r1.length
    have l2:=r2.length
    have z:=SeqAt.RcNeAt.tuples (A:=X.A) (e:=e) p1 p2 hu' fun j h1 h2=>by
      obtain ⟨x',ex,rx'⟩:=r1.ix h1
      obtain ⟨y',ey,ry'⟩:=r2.ix h2
      exact hD _ _ _ _ _ rx' ry' (he j x' y' ex ey)
    rw [List.size_toArray,List.size_toArray,← l1,← l2] at z
    exact z _ _ _ _ fin
end
theorem REq.refs {K:PySem.W.Frag} {H:Hp} {n:Nat} {a c:Addr} {ps:List Addr} (h1:SqL K H a (List.map V.ref ps)) (h2:SqL K H c (List.map V.ref ps)):REq K H (DEq K H n) (.ref a) (.ref c) true:=by
  refine ⟨a,c,_,_,rfl,rfl,.inl ⟨h1,h2,.inr ⟨rfl,fun _=>true,fun j x y ex ey=>?_,by simp⟩⟩⟩
  rw [ex] at ey
  have e:=Option.some.inj ey
  rw [List.getElem?_map] at ex
  cases e1:ps[j]? with
  | none=>rw [e1] at ex;cases ex
  | some p =>
    rw [e1] at ex
    have x1:=Option.some.inj ex
    have leaf:(x=y∧(∃ a,x=V.ref a)∧true=true)∨∃ i k,x=V.int i∧y=V.int k∧true=(i == k):=.inl ⟨e,⟨p,x1.symm⟩,rfl⟩
    cases n with
    | zero=>exact leaf
    | succ n=>exact .inl leaf
section
variable {X:Cx}
end
end L2
namespace L2
open PySem PySem.Spec PyProof.Rows
section
variable {prog:Program} {w:World} {A:Around} {E:Value→Shared→Prop} {s:Shared}
end
section
variable {X:Cx}
end
section
variable {X:Cx}
end
end L2
namespace L2
open PySem PySem.Spec PyProof.Rows
section
variable {X:Cx} {scope:Scope} {x:Str} {ys:List Str} {caps:List Nat}
theorem CompSt.cells {pins:List (Addr×Obj)} {σ:St} {H:Hp} {s:Shared} (S:CompSt X.env.scope scope X.N x ys caps) (I:Inv X pins σ H s):∀ p∈scope.names,p.2=.free→∃ c,X.env.cells.lookup p.1=some c:=fun p hp hf =>
  I.ok.has p.1 (.inl (S.fr p hp hf))
theorem CompSt.sub {pins:List (Addr×Obj)} {σ:St} {H:Hp} {s:Shared} (S:CompSt X.env.scope scope X.N x ys caps) (I:Inv X pins σ H s) {y:Str} {c:Addr} (e:(clsOf X scope).lookup y=some c):X.env.cells.lookup y=some c :=
  closOf_all (S.cells I) (fun p hp=>absurd hp (by simp)) (y,c) (PySem.mem_of_lookup e)
theorem Inv.enter {pins:List (Addr×Obj)} {σ:St} {H:Hp} {s:Shared} {h₁:Heap} {ex:List Addr} {tk:Nat} {pl:List (Addr×Obj)} (S:CompSt X.env.scope scope X.N x ys caps) (hcalm:X.calm=true) (I:Inv X pins σ H s)
    (hn:h₁.Ns s.heap.objs.size (fun _=>none)) (keep:∀ b o,s.heap.get? b=some o→h₁.get? b=some o)
    (hex:∀ b∈ex,b < s.heap.objs.size∧b∉frs X.stack∧(∀ y c,X.env.cells.lookup y=some c→c≠b)∧X.base.get? b=none)
    (hpl:∀ p∈pl,s.heap.get? p.1=some p.2∧H p.1=none∧p.1∉frs X.stack∧∀ v,p.2.data≠.cell v) :
    Inv (cxComp X scope (x :: ys) s H ex (X.pn ++ pins)) pl (none :: caught σ caps) H { s with heap:=h₁,toks:=tk }:=by
  have hL:s.heap.objs.size≠X.env.locals:=Nat.ne_of_gt I.lt
  have hCn:∀ b o,s.heap.get? b=some o→b≠s.heap.objs.size:=fun b o e=>Nat.ne_of_lt (Heap.lt_size e)
  have cellLt:∀ y c,X.env.cells.lookup y=some c→c < s.heap.objs.size:=fun y c e=>by
    obtain ⟨v,z⟩:=I.cell y c e
    exact z.lt
  have cellUp:∀ {c:Addr} {v:Option Value},s.heap.IsCell c v→h₁.IsCell c v:=fun {c v} ⟨o,ho,hd⟩=>⟨o,keep c o ho,hd⟩
  refine ⟨⟨I.ok.mod,S.kind,I.ok.glob,I.ok.blt,Nat.le_refl _,fun y z c h1 h2=>I.ok.inj y z c (S.sub I h1) (S.sub I h2),fun y hy=>?_,fun y c hf _=>?_,fun _=>I.ok.hd hcalm,I.ok.frames,.inl rfl,fun b hb=>?_,I.bs,Nat.le_trans I.ok.bsz I.sz,fun b o e hb=>?_,fun b hb=>(hex b hb).2.1,I.stack,I.stkFree⟩,
    rfl,I.bare,Un.kept keep,⟨_,hn,fun i y v e1 e2 e3=>?_⟩,fun y c e=>?_,I.hok.fresh (Nat.le_refl _),fun y c e=>I.freeC y c (S.sub I e),fun p hp=>?_,I.hok.kept keep,?_⟩
  · have hy':(y,NameKind.free)∈scope.names:=relabel_of (env:=X.env) S.ncell (by
      rcases hy with hy | hy
      · exact ⟨_,hy,.inl rfl⟩
      · exact ⟨_,hy,.inr rfl⟩)
    exact lookup_of_key (closOf_has hy')
  · exact absurd (show false=true from hf) Bool.false_ne_true
  · exact ⟨Nat.ne_of_lt (hex b hb).1,fun y c e=>(hex b hb).2.2.1 y c (S.sub I e)⟩
  · have z:=(hex b hb).2.2.2
    have e':X.base.get? b=some o:=e
    rw [z] at e';cases e'
  · cases i with
    | zero=>cases e2
    | succ i =>
      have e1':(x :: ys)[i+1]?=some y:=e1
      have e1:ys[i]?=some y:=by simpa using e1'
      have e2:(caught σ caps)[i]?=some (some v):=by simpa using e2
      obtain ⟨j,hj,hv⟩:∃ j,caps[i]?=some j∧σ[j]?=some (some v):=by
        unfold caught at e2
        rw [List.getElem?_map] at e2
        cases q:caps[i]? with
        | none=>rw [q] at e2;cases e2
        | some j =>
          rw [q] at e2
          have e3:(σ[j]?).join=some v:=Option.some.inj e2
          cases q2:σ[j]? with
          | none=>rw [q2] at e3;cases e3
          | some w'=>rw [q2] at e3;exact ⟨j,rfl,by rw [show w'=some v from e3] at q2;exact q2⟩
      have hz:(y,j)∈ys.zip caps:=List.mem_of_getElem? (i:=i) (by rw [List.getElem?_zip_eq_some];exact ⟨e1,hj⟩)
      obtain ⟨hN,hf⟩:=S.cap (y,j) hz
      have hcellX:X.env.kindOf y=some .cell:=S.fr (y,.free) (PySem.mem_of_lookup hf) rfl
      obtain ⟨m,hm,hl⟩:=I.loc
      obtain ⟨u,r,l⟩:=hl j y v hN hv (.inr (.inl hcellX))
      refine ⟨u,r,?_⟩
      rcases l with ⟨hk,_⟩ | ⟨_,c,hc,hcell⟩
      · rw [hcellX] at hk;cases hk
      · obtain ⟨c',hc'⟩:=lookup_of_key (closOf_has (env:=X.env) (cs:=[]) (PySem.mem_of_lookup hf))
        have:=S.sub I hc'
        rw [hc] at this
        cases this
        exact .inr ⟨.inl (relabel_cell S.fk hf hcellX),c,hc',cellUp hcell⟩
  · obtain ⟨v,z⟩:=I.cell y c (S.sub I e)
    exact ⟨v,cellUp z⟩
  · rcases List.mem_append.mp hp with hp | hp
    · obtain ⟨a1,a2,a3,a4,a5⟩:=I.pin p hp
      exact ⟨keep _ _ a1,a2,hCn _ _ a1,fun z=>(List.mem_cons.mp (I.stkSub p.1 z)).elim a3 a4,a5⟩
    · obtain ⟨a1,a2,a4,a5⟩:=hpl p hp
      exact ⟨keep _ _ a1,a2,hCn _ _ a1,a4,a5⟩
  · show (none :: caught σ caps).length=(x :: ys).length
    rw [List.length_cons,List.length_cons,caught,List.length_map,S.len]
end
end L2
namespace L2
open PySem PySem.Spec PyProof.Rows
noncomputable def CompRdI (J:It) (σ:St) (caps:List Nat) (tt:TT) (te:TE) (H1:Hp) (fin:List V→Hp→Prop):Prop :=
  ∃ (n:Nat) (W:Nat→List V→Hp→Prop),n≤sizeLine∧W 0 [] H1∧∀ i ys H2,i≤n→ys.length≤i→W i ys H2 →
    (J.stop i H2∧fin ys H2)∨(i < n∧J.go i H2∧∀ x H3,J.yld i H2 x H3→tt (some x :: caught σ caps) H3 fun b H4=>if b=true then te (some x :: caught σ caps) H4 fun y H5=>W (i+1) (ys ++ [y]) H5 else W (i+1) ys H4)
noncomputable def tCompI (wi:TI) (caps:List Nat) (tt:TT) (te:TE):TE:=fun σ H Q=>wi σ H fun J H1=>CompRdI J σ caps tt te H1 fun ys H2=>∀ p,H2 p=none→Q (.ref p) (upd H2 p (.lst ys))
section
variable {X:Cx} {scope:Scope} {x:Str} {ys:List Str} {caps:List Nat} {elt iter tst:Expr} {te:TE} {tt:TT} {px pos:Pos}
theorem compI_run {pins:List (Addr×Obj)} {σ:St} {H2:Hp} {s2:Shared} {J:It} {fp:List Addr} {it:Addr} {tn:Nat→Heap→Prop} {E:Value→Shared→Prop} {fin:List V→Hp→Prop} {RR:Value→Addr→Result→Shared→Prop}
    (hcalm:X.calm=true) (S:CompSt X.env.scope scope X.N x ys caps) (hT:∀ s H ex pn,PT (cxComp X scope (x :: ys) s H ex pn) tst tt) (he:∀ s H ex pn,PE (cxComp X scope (x :: ys) s H ex pn) elt te)
    (I2:Inv X pins σ H2 s2) (T:Turn X.prog X.w X.K (.Name x px) J fp it tn) (st2:tn 0 s2.heap) (f2:∀ b∈fp,FpOk X pins H2 b) (rd:CompRdI J σ caps tt te H2 fin)
    (hRR:∀ (C:Addr) (ysV:List V) (its:List Value) (n:Nat) (H8:Hp) (s8:Shared) (m:Str→Option Value),C=s2.heap.objs.size+1→Inv X pins σ H8 s8→H8 s2.heap.objs.size=none→H8 C=none→Vals ysV its→ysV.length≤sizeLine →
      s8.heap.get? s2.heap.objs.size=some (lstO its n)→s8.heap.Ns C m→fin ysV H8→RR (.ref s2.heap.objs.size) C (.ok .next) s8) :
    wpAny (model X.prog X.w) X.A (newList []) (fun acc s₃=>wpAny (model X.prog X.w) X.A (newFunctionEnv scope X.env.globals (clsOf X scope) [] X.env.qual none .none (some X.env)) (fun cenv s₄ =>
      codeAny (model X.prog X.w) X.A (.compStart (.ListComp elt [⟨.Name x px,iter,[tst],0⟩] scope pos) 0 (.ref it) acc { cenv with scope:=relabel scope X.env }) (RR acc cenv.locals) s₄) E s₃) E s2:=by
  obtain ⟨n0,W,hn0,w0,turn⟩:=rd
  refine wpAny_newObj_type (wpAny_newFunctionEnv S.ncell (by intro y hy;simp at hy) (fun h₁ hns hsb=>?_) S.kind)
  dsimp only at hns hsb ⊢
  generalize hg3:s2.heap.push { cls:=.type "list",dict:=none,data:=.seq ([]:List Value).toArray }=g3 at hns hsb ⊢
  have hC:g3.objs.size=s2.heap.objs.size+1:=by rw [← hg3,Heap.size_push]
  have up3:∀ b o,s2.heap.get? b=some o→g3.get? b=some o:=fun b o e=>hg3 ▸ Heap.get?_push_of_some _ e
  have I3:Inv X pins σ H2 { s2 with heap:=g3 }:=I2.kept (t':=s2.toks) up3
  have keep:∀ b o,g3.get? b=some o→h₁.get? b=some o:=fun b o e=>hsb.extBut b o (Nat.ne_of_lt (Heap.lt_size e)) (Heap.get?_push_of_some _ e)
  have objD:g3.get? s2.heap.objs.size=some (lstO [] 0):=hg3 ▸ Heap.get?_push_size _ rfl
  have hDL:s2.heap.objs.size≠X.env.locals:=Nat.ne_of_gt I2.lt
  have hDfs:s2.heap.objs.size∉X.fs:=I2.nofs (Nat.le_refl _)
  have hDst:s2.heap.objs.size∉frs X.stack:=fun z=>(List.mem_cons.mp (I2.stkSub _ z)).elim hDL hDfs
  have hDc:∀ y c,X.env.cells.lookup y=some c→c≠s2.heap.objs.size:=fun y c e=>by
    obtain ⟨v,z⟩:=I2.cell y c e
    exact Nat.ne_of_lt z.lt
  have hDp:∀ p∈X.pn ++ pins,p.1≠s2.heap.objs.size:=fun p hp=>Nat.ne_of_lt (Heap.lt_size (I2.pin p hp).1)
  have hfl:∀ b∈fp,b < s2.heap.objs.size:=fun b hb=>by
    obtain ⟨o,e,_⟩:=T.obj _ _ st2 b hb
    exact Heap.lt_size e
  have hbz:X.base.objs.size≤X.s₀.heap.objs.size:=I2.ok.bsz
  have hch:∀ b∈s2.heap.objs.size :: fp,(b∈X.ex∨X.s₀.heap.objs.size≤b)∧b≠X.env.locals∧(∀ y c,X.env.cells.lookup y=some c→c≠b)∧∀ p∈X.pn ++ pins,p.1≠b:=fun b hb=>by
    rcases List.mem_cons.mp hb with rfl | hb
    · exact ⟨.inr I2.sz,hDL,hDc,hDp⟩
    · obtain ⟨a1,a2,a3,a4,a5,a6⟩:=f2 b hb
      exact ⟨a4,a2,a5,a6⟩
  have hex:∀ b∈s2.heap.objs.size :: fp,b < g3.objs.size∧b∉frs X.stack∧(∀ y c,X.env.cells.lookup y=some c→c≠b)∧X.base.get? b=none:=fun b hb=>by
    have hst:b∉frs X.stack:=by
      rcases List.mem_cons.mp hb with rfl | hb
      · exact hDst
      · obtain ⟨a1,a2,a3,a4,a5,a6⟩:=f2 b hb
        exact fun z=>(List.mem_cons.mp (I2.stkSub _ z)).elim a2 a3
    have hlt:b < g3.objs.size:=by
      rw [hC]
      rcases List.mem_cons.mp hb with rfl | hb
      · exact Nat.lt_succ_self _
      · exact Nat.lt_succ_of_lt (hfl b hb)
    refine ⟨hlt,hst,(hch b hb).2.2.1,?_⟩
    cases q:X.base.get? b with
    | none=>rfl
    | some o =>
      rcases (hch b hb).1 with z | z
      · exact absurd z (I2.ok.noex b o q)
      · exact absurd (Nat.lt_of_lt_of_le (Heap.lt_size q) (Nat.le_trans hbz z)) (Nat.lt_irrefl _)
  have hD2:H2 s2.heap.objs.size=none:=I2.hok.fresh (Nat.le_refl _)
  have I4:Inv (cxComp X scope (x :: ys) { s2 with heap:=g3 } H2 (s2.heap.objs.size :: fp) (X.pn ++ pins)) [(s2.heap.objs.size,lstO [] 0)] (none :: caught σ caps) H2 { s2 with heap:=h₁,toks:=s2.toks+([]:List (Str×Value)).length } :=
    Inv.enter S hcalm I3 hns keep hex fun p hp=>by
      have e:p=(s2.heap.objs.size,lstO [] 0):=by simpa using hp
      subst e
      exact ⟨objD,hD2,hDst,fun v z=>nomatch z⟩
  have st4:tn 0 h₁:=T.keep _ _ _ st2 fun b hb o e=>keep b o (up3 b o e)
  generalize hY:cxComp X scope (x :: ys) { s2 with heap:=g3 } H2 (s2.heap.objs.size :: fp) (X.pn ++ pins)=Y at I4
  have yP:Y.prog=X.prog:=by rw [← hY];rfl
  have yW:Y.w=X.w:=by rw [← hY];rfl
  have yK:Y.K=X.K:=by rw [← hY];rfl
  have yA:Y.A=X.A:=by rw [← hY];rfl
  have yC:Y.calm=true:=by rw [← hY];exact hcalm
  have yX:Y.xe=fun _ _=>False:=by rw [← hY];rfl
  have yN:Y.N=x :: ys:=by rw [← hY];rfl
  have yE:Y.env=compEnvC scope (clsOf X scope) g3.objs.size X.env:=by rw [← hY];rfl
  have yex:Y.ex=s2.heap.objs.size :: fp:=by rw [← hY];rfl
  have ypn:Y.pn=X.pn ++ pins:=by rw [← hY];rfl
  have yfs:Y.fs=frs X.stack:=by rw [← hY];rfl
  have ybase:∀ {pl σ' H' s'},Inv Y pl σ' H' s'→Un (frs X.stack) (s2.heap.objs.size :: fp) H2 H' g3 s'.heap∧s'.os=s2.os:=by
    intro pl σ' H' s' I
    rw [← hY] at I
    exact ⟨I.base,I.os⟩
  have yhe:PE Y elt te:=by rw [← hY];exact he _ _ _ _
  have yht:PT Y tst tt:=by rw [← hY];exact hT _ _ _ _
  have ycl:∀ y c,Y.env.cells.lookup y=some c→X.env.cells.lookup y=some c:=fun y c e=>by
    rw [yE] at e
    exact S.sub I2 e
  have yfp:∀ {H':Hp} {o:Obj},(∀ b∈fp,H' b=none)→∀ b∈fp,FpOk Y [(s2.heap.objs.size,o)] H' b:=fun {H' o} hn b hb=>by
    obtain ⟨a1,a2,a3,a4,a5,a6⟩:=f2 b hb
    refine ⟨hn b hb,?_,?_,?_,fun y c e=>a5 y c (ycl y c e),fun p hp=>?_⟩
    · rw [yE];exact Nat.ne_of_lt (hex b (List.mem_cons_of_mem _ hb)).1
    · rw [yfs];exact (hex b (List.mem_cons_of_mem _ hb)).2.1
    · rw [yex];exact .inl (List.mem_cons_of_mem _ hb)
    · rw [ypn] at hp
      rcases List.mem_append.mp hp with hp | hp
      · exact a6 p hp
      · have e:p=(s2.heap.objs.size,o):=by simpa using hp
        subst e
        exact Nat.ne_of_gt (hfl b hb)
  have loop:∀ s₃:Shared,s₃={ s2 with heap:=h₁,toks:=s2.toks+([]:List (Str×Value)).length } →
      codeAny (model X.prog X.w) X.A (.compLoop (.ListComp elt [⟨.Name x px,iter,[tst],0⟩] scope pos) 0 (.ref it) (.ref s2.heap.objs.size) (compEnvC scope (clsOf X scope) g3.objs.size X.env)) (RR (.ref s2.heap.objs.size) g3.objs.size) s₃:=by
    rintro s₃ rfl
    refine codeAny_loop rfl (fun k s'=>∃ i ysV its cnt H' o,k=n0+1 - i∧Inv Y [(s2.heap.objs.size,lstO its cnt)] (o :: caught σ caps) H' s'∧tn i s'.heap∧(∀ b∈fp,H' b=none)∧Vals ysV its∧ysV.length≤i∧i≤n0∧W i ysV H') ?_ (n0+1)
      ⟨0,[],[],0,H2,none,rfl,I4,st4,fun b hb=>(f2 b hb).1,.nil,Nat.le_refl _,Nat.zero_le _,w0⟩
    rintro k s' ⟨i,ysV,its,cnt,H',o,rfl,I',tni,frn,vv,hlen,hin,hw⟩
    show wpAny _ _ ((compTurn (.ListComp elt [⟨.Name x px,iter,[tst],0⟩] scope pos) 0 (.ref it) (.ref s2.heap.objs.size) (compEnvC scope (clsOf X scope) g3.objs.size X.env)).onRaise (fun x=>do noteFrame x (compEnvC scope (clsOf X scope) g3.objs.size X.env);theTreesLotGoes x)) _ _ s'
    refine wpAny_noted ?_
    rw [compTurn_list]
    have fpok:=yfp (o:=lstO its cnt) frn
    rcases turn i ysV H' hin hlen hw with ⟨stop,hfin⟩ | ⟨hlt,go,step⟩
    · refine wpAny_bind (wpAny_standAt (wpAny_bind (thn (Q:=fun r s1=>r=none∧Inv Y [(s2.heap.objs.size,lstO its cnt)] (o :: caught σ caps) H' s1) ?_ fun r s1 ⟨hr,I1⟩=>?_)))
      · have:=T.done Y yP yW yK yC i _ s' _ H' (notedBy (model X.prog X.w) X.A (compEnvC scope (clsOf X scope) g3.objs.size X.env) fun e s'=>RR (.ref s2.heap.objs.size) g3.objs.size (.error e) s') I' fpok tni stop
        rw [yA] at this
        exact this
      · subst hr
        refine wpAny_pure ?_
        obtain ⟨ub,uo⟩:=ybase I1
        obtain ⟨m,hm,_⟩:=I1.loc
        obtain ⟨p1,p2,_⟩:=I1.pin (s2.heap.objs.size,lstO its cnt) (List.mem_append_right _ List.mem_cons_self)
        have hok:HOk X.prog X.w H' s1.heap:=by have:=I1.hok;rw [yP,yW] at this;exact this
        have hCf:=I1.free
        rw [yE] at hm hCf
        refine hRR g3.objs.size ysV its cnt H' s1 m hC (I3.call' uo ub hok I1.bare hch) p2 hCf vv (by omega) p1 hm hfin
    · refine wpAny_bind (wpAny_standAt (wpAny_bind (thn (Q:=fun r s1=>∃ u,r=some u∧wpAny (model X.prog X.w) X.A (letOwnedTupleGo (.Name x px) (.ref it) u) (fun _ s5=>∃ x H5,Inv Y [(s2.heap.objs.size,lstO its cnt)] (o :: caught σ caps) H5 s5∧RelV x u∧J.yld i H' x H5∧tn (i+1) s5.heap∧∀ b∈fp,H5 b=none)
          (notedBy (model X.prog X.w) X.A (compEnvC scope (clsOf X scope) g3.objs.size X.env) fun e s'=>RR (.ref s2.heap.objs.size) g3.objs.size (.error e) s') s1) ?_ fun r s1 ⟨u,hr,h4⟩=>?_)))
      · have:=T.item Y yP yW yK yC i _ s' _ H' (notedBy (model X.prog X.w) X.A (compEnvC scope (clsOf X scope) g3.objs.size X.env) fun e s'=>RR (.ref s2.heap.objs.size) g3.objs.size (.error e) s') I' fpok tni go
        rw [yA] at this
        exact this
      · subst hr
        refine wpAny_bind (thn h4 fun _ s5 ⟨xv,H5,I5,r5,y5,st5,fr5⟩=>?_)
        have I5':=I5.pinned (yfp fr5) (T.obj _ _ st5)
        have hloc:Y.env.scope.names.lookup x=some .local:=by rw [yE];exact lookup_relabel_local S.loc
        have sto:=fun (Q:Unit→Shared→Prop) (k:∀ s6,Inv Y _ ((o :: caught σ caps).set 0 (some xv)) H5 s6→Q () s6)=>store_ok (M:=model X.prog X.w) (A:=X.A) (E:=notedBy (model X.prog X.w) X.A (compEnvC scope (clsOf X scope) g3.objs.size X.env) fun e s'=>RR (.ref s2.heap.objs.size) g3.objs.size (.error e) s') (i:=0) (x:=x) I5' (by rw [yN];exact S.nd) (by rw [yN];rfl) (.inl hloc) r5 k (.inr hloc)
        rw [yE] at sto
        refine wpAny_bind (wpAny_assign_Name (sto _ fun s6 I6=>?_))
        have tv:=yht _ s6 _ H5 _ I6 (step xv H5 y5)
        rw [yP,yW,yA,yE] at tv
        refine wpAny_bind (wpAny_tests_one (nxE yX tv fun ok s6' ⟨H6,I6',w6⟩=>?_))
        have hil:=vv.length
        cases ok with
        | false =>
          rw [if_neg Bool.false_ne_true] at w6
          rw [if_neg Bool.false_ne_true]
          obtain ⟨zD,hD7,hDl7,hDf7,_⟩:=I6'.pin (s2.heap.objs.size,lstO its cnt) (List.mem_append_right _ (List.mem_append_left _ List.mem_cons_self))
          have I9:Inv Y [(s2.heap.objs.size,lstO its cnt)] (some xv :: caught σ caps) H6 s6':=I6'.pins_of fun p hp=>by
            have e:p=(s2.heap.objs.size,lstO its cnt):=by simpa using hp
            subst e
            exact ⟨zD,hD7,hDl7,hDf7,(fun v z=>nomatch z)⟩
          refine wpAny_pure ⟨rfl,n0+1 - (i+1),by omega,i+1,ysV,its,cnt,H6,some xv,rfl,I9,?_,?_,vv,by omega,hlt,w6⟩
          · refine T.keep _ _ _ st5 fun b hb ob e=>?_
            exact (I6'.pin (b,ob) (List.mem_append_right _ (List.mem_append_right _ (mem_pinsAt hb e)))).1
          · intro b hb
            obtain ⟨ob,e,_⟩:=T.obj _ _ st5 b hb
            exact (I6'.pin (b,ob) (List.mem_append_right _ (List.mem_append_right _ (mem_pinsAt hb e)))).2.1
        | true =>
          rw [if_pos rfl] at w6
          rw [if_pos rfl]
          have ev:=yhe _ s6' _ H6 _ I6' w6
          rw [yP,yW,yA,yE] at ev
          refine wpAny_bind (wpAny_bind (nxE yX ev fun yv s7 ⟨y,H7,I7,r7,w7⟩=>?_))
          obtain ⟨zD,hD7,hDl7,hDf7,_⟩:=I7.pin (s2.heap.objs.size,lstO its cnt) (List.mem_append_right _ (List.mem_append_left _ List.mem_cons_self))
          refine wpAny_bind (append_at zD (fun h8 sb8 d8=>wpAny_pure (wpAny_pure ⟨rfl,?_⟩)) (by rw [List.size_toArray];omega))
          have I7':Inv Y [] (some xv :: caught σ caps) H7 s7:=I7.pins_of fun p hp=>nomatch hp
          have I8:Inv Y [] (some xv :: caught σ caps) H7 { s7 with heap:=h8 }:=I7'.turned (t':=s7.toks) (fun b ob hb e=>(sb8.2 b hb).trans e) hD7 hDl7 (.inl (by rw [yex];exact List.mem_cons_self)) (fun y c e=>hDc y c (ycl y c e)) (fun p hp=>by
            rw [ypn,List.append_nil] at hp
            exact hDp p hp)
          have I9:Inv Y [(s2.heap.objs.size,lstO (its ++ [yv]) (cnt+1))] (some xv :: caught σ caps) H7 { s7 with heap:=h8 }:=I8.pins_of fun p hp=>by
            have e:p=(s2.heap.objs.size,lstO (its ++ [yv]) (cnt+1)):=by simpa using hp
            subst e
            refine ⟨?_,hD7,hDl7,hDf7,fun v z=>nomatch z⟩
            show h8.get? s2.heap.objs.size=some { cls:=.type "list",data:=.seq (its ++ [yv]).toArray (cnt+1) }
            rw [d8,List.push_toArray]
          refine ⟨n0+1 - (i+1),by omega,i+1,ysV ++ [y],its ++ [yv],cnt+1,H7,some xv,rfl,I9,?_,?_,vv.append (.cons r7 .nil),by rw [List.length_append];show ysV.length+1≤i+1;omega,hlt,w7⟩
          · refine T.keep _ _ _ st5 fun b hb ob e=>(sb8.2 b (Nat.ne_of_lt (hfl b hb))).trans ?_
            exact (I7.pin (b,ob) (List.mem_append_right _ (List.mem_append_right _ (mem_pinsAt hb e)))).1
          · intro b hb
            obtain ⟨ob,e,_⟩:=T.obj _ _ st5 b hb
            exact (I7.pin (b,ob) (List.mem_append_right _ (List.mem_append_right _ (mem_pinsAt hb e)))).2.1
  exact codeAny_compStart_list (loop _ rfl) (T.self _ 0 _ _ _ st4 (loop _ rfl))
theorem pe_compI {wi:TI} {FS:Scope} {N:List Str} (S0:CompSt FS scope N x ys caps) (hFS:X.env.scope=FS) (hN0:X.N=N) (hcalm:X.calm=true) (hi:PI X (.Name x px) iter wi) (hT:∀ s H ex pn,PT (cxComp X scope (x :: ys) s H ex pn) tst tt) (he:∀ s H ex pn,PE (cxComp X scope (x :: ys) s H ex pn) elt te)
    (hs:∀ v,foldedSetIterable iter X.env v=pure v:=by intro _;rfl):PE X (.ListComp elt [⟨.Name x px,iter,[tst],0⟩] scope pos) (tCompI wi caps tt te):=by
  have S:CompSt X.env.scope scope X.N x ys caps:=by rw [hFS,hN0];exact S0
  intro pins s σ H Q I h
  rw [eval_ListComp]
  refine wpAny_comprehension_free (use:=none) rfl hs (closureFor_eq (S.cells I)) S.kind S.names (thn (hi pins s σ H _ I h) fun v s1 h1=>thn h1 fun itv s2 h2=>?_)
  obtain ⟨it,fp,tn,J,H2,rfl,I2,T,st2,f2,rd⟩:=h2
  refine compI_run (RR:=fun acc C=>compPost (model X.prog X.w) X.A X.xe none (EP X pins σ Q) acc C) hcalm S hT he I2 T st2 f2 rd ?_
  intro C ysV its n H8 s8 m hC I8 hD hC8 vv hz oD hn fin
  refine ⟨m,hn,fun h' sb=>?_⟩
  have sz:=I2.sz
  have lt:=I2.lt
  have ap:∀ b:Addr,b < s2.heap.objs.size→b≠C∧C≠b:=fun b hb=>by
    subst hC
    exact ⟨Nat.ne_of_lt (Nat.lt_succ_of_lt hb),Nat.ne_of_gt (Nat.lt_succ_of_lt hb)⟩
  have szC:X.s₀.heap.objs.size≤C:=by subst hC;exact Nat.le_succ_of_le sz
  have DC:s2.heap.objs.size≠C:=by subst hC;exact Nat.ne_of_lt (Nat.lt_succ_self _)
  have cl:∀ y c,X.env.cells.lookup y=some c→c < s2.heap.objs.size:=fun y c e=>by
    obtain ⟨w',z⟩:=I2.cell y c e
    exact z.lt
  have pl:∀ p∈X.pn ++ pins,p.1 < s2.heap.objs.size:=fun p hp=>Heap.lt_size (I2.pin p hp).1
  have I9:Inv X pins σ H8 { s8 with heap:=h' }:=I8.turned (t':=s8.toks) (fun b o hb e=>(sb.2 b hb).trans e) hC8 (ap _ lt).2 (.inr szC) (fun y c e=>(ap c (cl y c e)).1) (fun p hp=>(ap p.1 (pl p hp)).1)
  have oD':h'.get? s2.heap.objs.size=some (lstO its n):=(sb.2 _ DC).trans oD
  exact ⟨.ref s2.heap.objs.size,upd H8 s2.heap.objs.size (.lst ysV),I9.adopt hD sz (Nat.ne_of_gt lt) (fun y c e=>Nat.ne_of_lt (cl y c e)) (fun p hp=>Nat.ne_of_lt (pl p hp)) ⟨hz,its,n,vv,oD'⟩,rfl,fin _ hD⟩
theorem ps_setCompI {wi:TI} {FS:Scope} {N:List Str} {i:Nat} {y:Str} {py spos:Pos} (S0:CompSt FS scope N x ys caps) (hFS:X.env.scope=FS) (hN0:X.N=N) (hcalm:X.calm=true) (hN:X.N.Nodup) (hy:X.N[i]?=some y) (hl:Loc X.env.scope y) (hi:PI X (.Name x px) iter wi) (hT:∀ s H ex pn,PT (cxComp X scope (x :: ys) s H ex pn) tst tt) (he:∀ s H ex pn,PE (cxComp X scope (x :: ys) s H ex pn) elt te)
    (hsw:swapsWith (.ListComp elt [⟨.Name x px,iter,[tst],0⟩] scope pos) (some (.Name y py)) spos.line X.env=pure true:=by rfl)
    (hs:∀ v,foldedSetIterable iter X.env v=pure v:=by intro _;rfl) (hf:X.fn y=true∨X.env.scope.names.lookup y=some .local:=by first | exact .inl rfl | exact .inr rfl | assumption) :
    PS X (.Assign [.Name y py] (.ListComp elt [⟨.Name x px,iter,[tst],0⟩] scope pos) spos) (tAsg (tCompI wi caps tt te) (gName i)):=by
  have S:CompSt X.env.scope scope X.N x ys caps:=by rw [hFS,hN0];exact S0
  intro pins s σ H D I h
  rw [exec_Assign_Name_used _ _ _ _ hsw]
  refine wpAny_bind (wpAny_standAt (wpAny_bind ?_))
  show wpAny _ X.A (do let _ ← comprehension (.ListComp elt [⟨.Name x px,iter,[tst],0⟩] scope pos) scope X.env _ (newList []) false (eval iter X.env) (some (assign (.Name y py) X.env))) _ _ s
  refine wpAny_bind (wpAny_mono (wpAny_comprehension_free (use:=some (assign (.Name y py) X.env)) (Q:=fun _ s'=>SP X pins D .next s') rfl hs (closureFor_eq (S.cells I)) S.kind S.names
    (thn (hi pins s σ H _ I h) fun v s1 h1=>thn h1 fun itv s2 h2=>?_)) (fun _ s' hq=>wpAny_pure (wpAny_pure hq)) fun _ _ e=>e)
  obtain ⟨it,fp,tn,J,H2,rfl,I2,T,st2,f2,rd⟩:=h2
  refine compI_run (RR:=fun acc C=>compPost (model X.prog X.w) X.A X.xe (some (assign (.Name y py) X.env)) (fun _ s'=>SP X pins D .next s') acc C) hcalm S hT he I2 T st2 f2 rd ?_
  intro C ysV its n H8 s8 m hC I8 hD hC8 vv hz oD hn fin
  have sz:=I2.sz
  have lt:=I2.lt
  have ap:∀ b:Addr,b < s2.heap.objs.size→b≠C∧C≠b:=fun b hb=>by
    subst hC
    exact ⟨Nat.ne_of_lt (Nat.lt_succ_of_lt hb),Nat.ne_of_gt (Nat.lt_succ_of_lt hb)⟩
  have szC:X.s₀.heap.objs.size≤C:=by subst hC;exact Nat.le_succ_of_le sz
  have DC:C≠s2.heap.objs.size:=by subst hC;exact Nat.ne_of_gt (Nat.lt_succ_self _)
  have cl:∀ y c,X.env.cells.lookup y=some c→c < s2.heap.objs.size:=fun y c e=>by
    obtain ⟨w',z⟩:=I2.cell y c e
    exact z.lt
  have pl:∀ p∈X.pn ++ pins,p.1 < s2.heap.objs.size:=fun p hp=>Heap.lt_size (I2.pin p hp).1
  have I9:Inv X pins σ (upd H8 s2.heap.objs.size (.lst ysV)) s8:=I8.adopt hD sz (Nat.ne_of_gt lt) (fun y c e=>Nat.ne_of_lt (cl y c e)) (fun p hp=>Nat.ne_of_lt (pl p hp)) ⟨hz,its,n,vv,oD⟩
  show wpAny (model X.prog X.w) X.A (assign (.Name y py) X.env (.ref s2.heap.objs.size)) _ _ s8
  refine wpAny_assign_Name (store_ok2 (v:=.ref s2.heap.objs.size) I9 hN hy hl rfl (fun s9 I10 ⟨a,sa,ha⟩=>?_) hf)
  have hCa:C≠a:=by
    rcases ha with rfl | e
    · exact (ap _ lt).2
    · exact (ap _ (cl _ _ e)).2
  refine ⟨m,hn.sameBut sa hCa,fun h' sb=>⟨_,_,I10.turned (t':=s9.toks) (fun b o hb e=>(sb.2 b hb).trans e) ?_ (ap _ lt).2 (.inr szC) (fun y c e=>(ap c (cl y c e)).1) (fun p hp=>(ap p.1 (pl p hp)).1),fin _ hD⟩⟩
  rw [upd_ne DC]
  exact hC8
end
end L2
namespace L2
open PySem PySem.Spec PyProof.Rows
section
variable {X:Cx}
noncomputable def isB2 (x:V) (H:Hp) (T:String) (b:Bool):Prop:=isB x H T b∨(∃ p xs,x=.ref p∧H p=some (.lst xs)∧T="list" ∧ b=true)
noncomputable def cIsB2:List V→Hp→VK→Prop:=fun xs H Q=>∃ x T b,xs=[x,.ty T]∧isB2 x H T b∧Q (.bl b) H
theorem kit_ll (K:PySem.W.Frag):PySem.W.kitOne K (.type "list") (.type "list")=some true:=by rfl
theorem call_isB2:CallR X (.builtin "isinstance") cIsB2:=by
  intro pins s σ H xs us Q I r h
  obtain ⟨x,T,b,rfl,hb,q⟩:=h
  rcases hb with hb | ⟨p,ys,rfl,hp,rfl,rfl⟩
  · exact call_isB pins s σ H _ us Q I r ⟨x,T,b,rfl,hb,q⟩
  · obtain ⟨u,c,rfl,ru,rc⟩:=vals2 r
    obtain rfl:c=Value.type "list":=rc
    exact isinst_ok I ru (.lst hp) (kit_ll _) fun tk=>⟨.bl true,H,I.tok _,rfl,q⟩
end
section
variable {prog:Program} {w:World} {A:Around} {E:Value→Shared→Prop} {s:Shared}
variable {R:Result→Shared→Prop} {I:Addr} {fp wr:List Addr} {G:Array GenState→Array GenState→Prop} {n:Nat} {P:Nat→Value→Prop} {St:Nat→Shared→Prop}
end
section
variable {X:Cx}
end
end L2
namespace L2
open PySem PySem.Spec PyProof.Rows
theorem bt_zip:bootBuiltins "zip" = some (.type "zip"):=by decide +kernel
noncomputable def Itz (K:PySem.W.Frag) (a b:Addr):It :=
  ⟨fun i H=>∃ xs x ys y,SqL K H a xs∧xs[i]?=some x∧SqL K H b ys∧ys[i]?=some y,
   fun i H v H'=>∃ p x y,v=.ref p∧H p=none∧H'=upd H p (.tup [x,y])∧(∀ xs,SqL K H a xs→xs[i]?=some x)∧(∀ ys,SqL K H b ys→ys[i]?=some y),
   fun i H=>∃ xs ys,SqL K H a xs∧SqL K H b ys∧(xs.length≤i∨ys.length≤i)⟩
noncomputable def iZip (K:PySem.W.Frag) (t:TA):TI:=fun σ H R=>t σ H fun vs H1=>∃ a b,vs=[.ref a,.ref b]∧(∃ xs,SqL K H1 a xs)∧(∃ ys,SqL K H1 b ys)∧R (Itz K a b) H1
theorem turn_zip {P:Program} {w:World} {K:PySem.W.Frag} {elts:List Expr} {k:Nat} {tp:Pos} (a b z TI TO i1 i2:Addr) (D:ZipApart z TI TO i1 i2 a b) :
    Turn P w K (.Tuple elts k tp) (Itz K a b) [z,TI,TO,i1,i2] z (fun i h=>IsZip h z TI TO .none∧IsPair h TI (.ref i1) (.ref i2)∧(∃ u v,IsPair h TO u v)∧h.IsListIter i1 a i∧h.IsListIter i2 b i) where
  mem:=by simp
  obj:=fun i h st c hc=>by
    obtain ⟨hz,hTI,⟨u,v,hTO⟩,⟨o1,e1,c1,d1⟩,⟨o2,e2,c2,d2⟩⟩:=st
    have q:c=z∨c=TI∨c=TO∨c=i1∨c=i2:=by simpa using hc
    rcases q with rfl | rfl | rfl | rfl | rfl
    · exact ⟨_,hz,fun v z=>nomatch z⟩
    · exact ⟨_,hTI,fun v z=>nomatch z⟩
    · exact ⟨_,hTO,fun v z=>nomatch z⟩
    · exact ⟨o1,e1,fun v z=>by rw [d1] at z;cases z⟩
    · exact ⟨o2,e2,fun v z=>by rw [d2] at z;cases z⟩
  keep:=fun i h h' st kp=>by
    obtain ⟨hz,hTI,⟨u,v,hTO⟩,h1,h2⟩:=st
    exact ⟨kp z (by simp) _ hz,kp TI (by simp) _ hTI,⟨u,v,kp TO (by simp) _ hTO⟩,h1.at fun o q=>kp i1 (by simp) o q,h2.at fun o q=>kp i2 (by simp) o q⟩
  item:=by
    intro X hP hw hK hc i pins s σ H E I hf st hg
    subst hP hw hK
    obtain ⟨xs,x,ys,y,hq,hx,hr,hy⟩:=hg
    obtain ⟨its,rv,p,hz'⟩:=I.list hq
    obtain ⟨jts,sv,r,hw'⟩:=I.list hr
    obtain ⟨u,hu,ru⟩:=rv.get hx
    obtain ⟨v,hv,rw'⟩:=sv.get hy
    obtain ⟨hz,hTI,⟨u0,v0,hTO⟩,h1,h2⟩:=st
    refine wpAny_pyNext_zip_item D hz hTI hTO h1 h2 p.isList r.isList (x:=u) (y:=v) (by simpa using hu) (by simpa using hv) fun g a1 a2 a3 a4 a5 a6 kp=>⟨_,rfl,?_⟩
    refine wpAny_letOwnedTupleGo_zip (s:={ s with heap:=g }) a1 fun g2 en sb=>?_
    have sb':Heap.SameBut z g g2:=sb
    have lt:∀ {c:Addr} {o:Obj},s.heap.get? c=some o→c < s.heap.objs.size:=fun e=>Heap.lt_size e
    have lz:=lt hz
    have lTI:=lt hTI
    have lTO:=lt hTO
    have l1:i1 < s.heap.objs.size:=by obtain ⟨_,e,_⟩:=h1;exact lt e
    have l2:i2 < s.heap.objs.size:=by obtain ⟨_,e,_⟩:=h2;exact lt e
    have I1:Inv X pins σ H { s with heap:=g2,toks:=s.toks }:=I.turnedL (ch:=[z,TI,TO,i1,i2]) (fun c o hb q=>by
      have hb':c≠z∧c≠TI∧c≠TO∧c≠i1∧c≠i2:=by simpa using hb
      exact (sb'.2 c hb'.1).trans (kp c o hb'.1 hb'.2.2.1 hb'.2.2.2.1 hb'.2.2.2.2 q)) hf
    have hTn:H s.heap.objs.size=none:=I.hok.fresh (Nat.le_refl _)
    have tup2:g2.get? s.heap.objs.size=some { cls:=.type "tuple",data:=.seq #[u,v] }:=(sb'.2 _ (Nat.ne_of_gt lz)).trans a5
    have I2:Inv X pins σ (upd H s.heap.objs.size (.tup [x,y])) { s with heap:=g2,toks:=s.toks }:=I1.adopt hTn I.sz (Nat.ne_of_gt I.lt) (fun n c q=>by
      obtain ⟨v,z⟩:=I.cell n c q
      exact Nat.ne_of_lt z.lt) (fun q hq=>Nat.ne_of_lt (Heap.lt_size (I.pin q hq).1)) ⟨by show 2≤sizeLine;decide,[u,v],.cons ru (.cons rw' .nil),⟨_,tup2,rfl,_,rfl⟩⟩
    refine ⟨.ref s.heap.objs.size,_,I2,rfl,⟨_,x,y,rfl,hTn,rfl,fun zs hy'=>by rw [I.list_inj hy' hq];exact hx,fun zs hy'=>by rw [I.list_inj hy' hr];exact hy⟩,⟨en,?_,⟨_,_,(sb'.2 _ D.TOz).trans a2⟩,?_,?_⟩,fun c hb=>?_⟩
    · exact (sb'.2 _ D.TIz).trans (kp _ _ D.TIz D.TITO D.TIi1 D.TIi2 hTI)
    · obtain ⟨o,q,t⟩:=a3
      exact ⟨o,(sb'.2 _ D.i1z).trans q,t⟩
    · obtain ⟨o,q,t⟩:=a4
      exact ⟨o,(sb'.2 _ D.i2z).trans q,t⟩
    · have hb0:=(hf c hb).1
      have q:c=z∨c=TI∨c=TO∨c=i1∨c=i2:=by simpa using hb
      have hlt:c < s.heap.objs.size:=by rcases q with rfl | rfl | rfl | rfl | rfl <;> assumption
      rw [upd_ne (Nat.ne_of_lt hlt)]
      exact hb0
  done:=by
    intro X hP hw hK hc i pins s σ H E I hf st hg
    subst hP hw hK
    obtain ⟨xs,ys,hq,hr,hx⟩:=hg
    obtain ⟨its,rv,p,hz'⟩:=I.list hq
    obtain ⟨jts,sv,r,hw'⟩:=I.list hr
    obtain ⟨hz,hTI,⟨u0,v0,hTO⟩,h1,h2⟩:=st
    have l1:=rv.length
    have l2:=sv.length
    refine wpAny_pyNext_zip_end (I.ok.hd hc) D hz hTI hTO h1 h2 p.isList r.isList (by simp;omega) fun g kp=>⟨rfl,?_⟩
    exact I.turnedL (t':=s.toks) (ch:=[z,TI,TO,i1,i2]) (fun c o hb q=>by
      have hb':c≠z∧c≠TI∧c≠TO∧c≠i1∧c≠i2:=by simpa using hb
      exact kp c o hb'.1 hb'.2.2.1 hb'.2.2.2.1 hb'.2.2.2.2 q) hf
  self:=fun _ _ _ _ _ st h=>wpAny_pyIter_zip st.1 h
theorem zip_apart {n l1 l2:Nat} (h1:l1 < n) (h2:l2 < n):ZipApart (n+4) (n+2) (n+3) n (n+1) l1 l2:=by
  constructor <;> (intro e;have e2:(_:Nat)=_:=e;omega)
section
variable {X:Cx}
theorem pi_zip {elts:List Expr} {k:Nat} {tp:Pos} {a b:Expr} {t:TA} {p pos:Pos} (hg:Gl X "zip") (hm:X.mg "zip" = none) (hl:PA X [a,b] t)
    (he:starEach (a :: [b]) X.env=(false,eval a X.env) :: starEach [b] X.env:=by rfl) (hpl:(backTo pos (starEach [b] X.env)).any (·.1)=false:=by rfl):PI X (.Tuple elts k tp) (.Call (.Name "zip" p) [a,b] [] pos) (iZip X.K t):=by
  intro pins s σ H R I h
  refine wpAny_Call_Name_kw (ld_blt I hg hm bt_zip ?_)
  refine PyProof.Rows.callWith_type1 (thn (hl pos pins s σ H _ I h) fun us s1 ⟨vs,H1,I1,r1,q1⟩=>?_) he hpl
  obtain ⟨l1,l2,e0,⟨xs,hq⟩,⟨ys,hr⟩,q⟩:=q1
  subst e0
  cases r1 with
  | cons ra r1 =>
  cases r1 with
  | cons rb r1 =>
  cases r1
  cases ra
  cases rb
  obtain ⟨its,rv,pl,hz'⟩:=I1.list hq
  obtain ⟨jts,sv,pm,hw'⟩:=I1.list hr
  have lt1:l1 < s1.heap.objs.size:=by obtain ⟨o,e,_⟩:=pl.isList;exact Heap.lt_size e
  have lt2:l2 < s1.heap.objs.size:=by obtain ⟨o,e,_⟩:=pm.isList;exact Heap.lt_size e
  refine call_zip_2 pl.isList pm.isList fun g hz hTI hTO h1 h2 hsz hk=>?_
  refine wpAny_pyIter_zip hz ?_
  have I2:Inv X pins σ H1 { s1 with heap:=g }:=I1.kept (t':=s1.toks) hk
  refine ⟨s1.heap.objs.size+4,[s1.heap.objs.size+4,s1.heap.objs.size+2,s1.heap.objs.size+3,s1.heap.objs.size,s1.heap.objs.size+1],_,Itz X.K l1 l2,H1,rfl,I2,turn_zip l1 l2 _ _ _ _ _ (zip_apart lt1 lt2),⟨hz,hTI,⟨_,_,hTO⟩,h1,h2⟩,fun c hc=>?_,q⟩
  have z:c=s1.heap.objs.size+4∨c=s1.heap.objs.size+2∨c=s1.heap.objs.size+3∨c=s1.heap.objs.size∨c=s1.heap.objs.size+1:=by simpa using hc
  have hle:s1.heap.objs.size≤c:=by rcases z with rfl | rfl | rfl | rfl | rfl <;> omega
  exact I1.fpOk hle (I1.hok.fresh hle)
end
theorem for_zip {K:PySem.W.Frag} {a b:Addr} {xs ys:List V} {g:TG} {tb:TS} {D:Ends} {σ:St} {H:Hp} (Pv:Nat→St→Hp→Prop) (h0:Pv 0 σ H) (hl:∀ i σ H,i≤xs.length→Pv i σ H→SqL K H a xs∧SqL K H b ys) (he:xs.length=ys.length)
    (hs:∀ i x y p σ H,xs[i]?=some x→ys[i]?=some y→Pv i σ H→H p=none→g (.ref p) σ (upd H p (.tup [x,y])) fun σ2 H2=>tb { D with nx:=Pv (i+1),ct:=Pv (i+1),bk:=D.nx } σ2 H2) (hd:∀ σ H,Pv xs.length σ H→D.nx σ H) :
    ∃ W:Nat→Nat→St→Hp→Prop,(∃ m,W 0 m σ H)∧∀ i m σ H,W i m σ H →
      ((Itz K a b).stop i H∧D.nx σ H)∨((Itz K a b).go i H∧∃ N:St→Hp→Prop,(∀ σ' H',N σ' H'→∃ m',m' < m∧W (i+1) m' σ' H')∧∀ x H',(Itz K a b).yld i H x H'→g x σ H' fun σ2 H2=>tb { D with nx:=N,ct:=N,bk:=D.nx } σ2 H2):=by
  refine ⟨fun i m σ H=>m=xs.length - i∧i≤xs.length∧Pv i σ H,⟨xs.length,by simp,Nat.zero_le _,h0⟩,?_⟩
  rintro i m σ H ⟨rfl,hi,p⟩
  obtain ⟨q,r⟩:=hl i σ H hi p
  by_cases hlt:i < xs.length
  · have hlt2:i < ys.length:=by omega
    refine .inr ⟨⟨xs,xs[i],ys,ys[i],q,by simp [hlt],r,by simp [hlt2]⟩,Pv (i+1),fun σ' H' p'=>⟨xs.length - (i+1),by omega,rfl,hlt,p'⟩,fun x H' y=>?_⟩
    obtain ⟨pp,x',y',e1,e2,e3,y1,y2⟩:=y
    subst e1 e3
    exact hs i x' y' pp σ _ (y1 xs q) (y2 ys r) p e2
  · have e:i=xs.length:=by omega
    subst e
    exact .inl ⟨⟨xs,ys,q,r,.inl (Nat.le_refl _)⟩,hd σ H p⟩
end L2
namespace L2
open PySem PySem.Spec PyProof.Rows
structure CompStG (FS scope:Scope) (N:List Str) (xs ys:List Str) (caps:List Nat):Prop where
  ncell:∀ y∈scope.names,y.2≠.cell
  kind:scope.kind=.function
  names:∀ y∈scope.names,y.2=.local→scope.names.lookup y.1=some .local
  fr:∀ p∈scope.names,p.2=.free→FS.names.lookup p.1=some .cell
  fk:FS.kind=.function
  cap:∀ p∈ys.zip caps,N[p.2]?=some p.1∧scope.names.lookup p.1=some .free
  len:ys.length=caps.length
noncomputable def CompRdG (J:It) (σ:St) (k:Nat) (caps:List Nat) (g:TG) (te:TE) (H1:Hp) (fin:List V→Hp→Prop):Prop :=
  ∃ (n:Nat) (W:Nat→List V→Hp→Prop),n≤sizeLine∧W 0 [] H1∧∀ i ys H2,i≤n→ys.length=i→W i ys H2 →
    (J.stop i H2∧fin ys H2)∨(i < n∧J.go i H2∧∀ x H3,J.yld i H2 x H3→∀ os:St,os.length=k→g x (os ++ caught σ caps) H3 fun σ2 H4=>(∃ os':St,os'.length=k∧σ2=os' ++ caught σ caps)∧te σ2 H4 fun y H5=>W (i+1) (ys ++ [y]) H5)
noncomputable def tCompG (wi:TI) (k:Nat) (caps:List Nat) (g:TG) (te:TE):TE:=fun σ H Q=>wi σ H fun J H1=>CompRdG J σ k caps g te H1 fun ys H2=>∀ p,H2 p=none→Q (.ref p) (upd H2 p (.lst ys))
section
variable {X:Cx} {scope:Scope} {xs ys:List Str} {caps:List Nat}
theorem CompStG.cells {pins:List (Addr×Obj)} {σ:St} {H:Hp} {s:Shared} (S:CompStG X.env.scope scope X.N xs ys caps) (I:Inv X pins σ H s):∀ p∈scope.names,p.2=.free→∃ c,X.env.cells.lookup p.1=some c:=fun p hp hf =>
  I.ok.has p.1 (.inl (S.fr p hp hf))
theorem CompStG.sub {pins:List (Addr×Obj)} {σ:St} {H:Hp} {s:Shared} (S:CompStG X.env.scope scope X.N xs ys caps) (I:Inv X pins σ H s) {y:Str} {c:Addr} (e:(clsOf X scope).lookup y=some c):X.env.cells.lookup y=some c :=
  closOf_all (S.cells I) (fun p hp=>absurd hp (by simp)) (y,c) (PySem.mem_of_lookup e)
theorem Inv.enterG {pins:List (Addr×Obj)} {σ:St} {H:Hp} {s:Shared} {h₁:Heap} {ex:List Addr} {tk:Nat} {pl:List (Addr×Obj)} (S:CompStG X.env.scope scope X.N xs ys caps) (hcalm:X.calm=true) (I:Inv X pins σ H s)
    (hn:h₁.Ns s.heap.objs.size (fun _=>none)) (keep:∀ b o,s.heap.get? b=some o→h₁.get? b=some o)
    (hex:∀ b∈ex,b < s.heap.objs.size∧b∉frs X.stack∧(∀ y c,X.env.cells.lookup y=some c→c≠b)∧X.base.get? b=none)
    (hpl:∀ p∈pl,s.heap.get? p.1=some p.2∧H p.1=none∧p.1∉frs X.stack∧∀ v,p.2.data≠.cell v) :
    Inv (cxComp X scope (xs ++ ys) s H ex (X.pn ++ pins)) pl (xs.map (fun _=>none) ++ caught σ caps) H { s with heap:=h₁,toks:=tk }:=by
  have hL:s.heap.objs.size≠X.env.locals:=Nat.ne_of_gt I.lt
  have hCn:∀ b o,s.heap.get? b=some o→b≠s.heap.objs.size:=fun b o e=>Nat.ne_of_lt (Heap.lt_size e)
  have cellLt:∀ y c,X.env.cells.lookup y=some c→c < s.heap.objs.size:=fun y c e=>by
    obtain ⟨v,z⟩:=I.cell y c e
    exact z.lt
  have cellUp:∀ {c:Addr} {v:Option Value},s.heap.IsCell c v→h₁.IsCell c v:=fun {c v} ⟨o,ho,hd⟩=>⟨o,keep c o ho,hd⟩
  refine ⟨⟨I.ok.mod,S.kind,I.ok.glob,I.ok.blt,Nat.le_refl _,fun y z c h1 h2=>I.ok.inj y z c (S.sub I h1) (S.sub I h2),fun y hy=>?_,fun y c hf _=>?_,fun _=>I.ok.hd hcalm,I.ok.frames,.inl rfl,fun b hb=>?_,I.bs,Nat.le_trans I.ok.bsz I.sz,fun b o e hb=>?_,fun b hb=>(hex b hb).2.1,I.stack,I.stkFree⟩,
    rfl,I.bare,Un.kept keep,⟨_,hn,fun i y v e1 e2 e3=>?_⟩,fun y c e=>?_,I.hok.fresh (Nat.le_refl _),fun y c e=>I.freeC y c (S.sub I e),fun p hp=>?_,I.hok.kept keep,?_⟩
  · have hy':(y,NameKind.free)∈scope.names:=relabel_of (env:=X.env) S.ncell (by
      rcases hy with hy | hy
      · exact ⟨_,hy,.inl rfl⟩
      · exact ⟨_,hy,.inr rfl⟩)
    exact lookup_of_key (closOf_has hy')
  · exact absurd (show false=true from hf) Bool.false_ne_true
  · exact ⟨Nat.ne_of_lt (hex b hb).1,fun y c e=>(hex b hb).2.2.1 y c (S.sub I e)⟩
  · have z:=(hex b hb).2.2.2
    have e':X.base.get? b=some o:=e
    rw [z] at e';cases e'
  · have e1':(xs ++ ys)[i]?=some y:=e1
    obtain ⟨i,e1,e2⟩:∃ i',ys[i']?=some y∧(caught σ caps)[i']?=some (some v):=by
      by_cases hi:i < xs.length
      · rw [List.getElem?_append_left (by rw [List.length_map];exact hi),List.getElem?_map,List.getElem?_eq_getElem hi] at e2
        cases e2
      · rw [List.getElem?_append_right (by omega)] at e1'
        rw [List.getElem?_append_right (by rw [List.length_map];omega),List.length_map] at e2
        exact ⟨_,e1',e2⟩
    obtain ⟨j,hj,hv⟩:∃ j,caps[i]?=some j∧σ[j]?=some (some v):=by
      unfold caught at e2
      rw [List.getElem?_map] at e2
      cases q:caps[i]? with
      | none=>rw [q] at e2;cases e2
      | some j =>
        rw [q] at e2
        have e3:(σ[j]?).join=some v:=Option.some.inj e2
        cases q2:σ[j]? with
        | none=>rw [q2] at e3;cases e3
        | some w'=>rw [q2] at e3;exact ⟨j,rfl,by rw [show w'=some v from e3] at q2;exact q2⟩
    have hz:(y,j)∈ys.zip caps:=List.mem_of_getElem? (i:=i) (by rw [List.getElem?_zip_eq_some];exact ⟨e1,hj⟩)
    obtain ⟨hN,hf⟩:=S.cap (y,j) hz
    have hcellX:X.env.kindOf y=some .cell:=S.fr (y,.free) (PySem.mem_of_lookup hf) rfl
    obtain ⟨m,hm,hl⟩:=I.loc
    obtain ⟨u,r,l⟩:=hl j y v hN hv (.inr (.inl hcellX))
    refine ⟨u,r,?_⟩
    rcases l with ⟨hk,_⟩ | ⟨_,c,hc,hcell⟩
    · rw [hcellX] at hk;cases hk
    · obtain ⟨c',hc'⟩:=lookup_of_key (closOf_has (env:=X.env) (cs:=[]) (PySem.mem_of_lookup hf))
      have:=S.sub I hc'
      rw [hc] at this
      cases this
      exact .inr ⟨.inl (relabel_cell S.fk hf hcellX),c,hc',cellUp hcell⟩
  · obtain ⟨v,z⟩:=I.cell y c (S.sub I e)
    exact ⟨v,cellUp z⟩
  · rcases List.mem_append.mp hp with hp | hp
    · obtain ⟨a1,a2,a3,a4,a5⟩:=I.pin p hp
      exact ⟨keep _ _ a1,a2,hCn _ _ a1,fun z=>(List.mem_cons.mp (I.stkSub p.1 z)).elim a3 a4,a5⟩
    · obtain ⟨a1,a2,a4,a5⟩:=hpl p hp
      exact ⟨keep _ _ a1,a2,hCn _ _ a1,a4,a5⟩
  · show (xs.map (fun _=>none) ++ caught σ caps).length=(xs ++ ys).length
    rw [List.length_append,List.length_append,List.length_map,caught,List.length_map,S.len]
end
section
variable {X:Cx} {scope:Scope} {xs ys:List Str} {caps:List Nat} {elt iter tg:Expr} {te:TE} {g:TG} {pos:Pos}
theorem compG_run {pins:List (Addr×Obj)} {σ:St} {H2:Hp} {s2:Shared} {J:It} {fp:List Addr} {it:Addr} {tn:Nat→Heap→Prop} {E:Value→Shared→Prop} {fin:List V→Hp→Prop} {RR:Value→Addr→Result→Shared→Prop}
    (hcalm:X.calm=true) (S:CompStG X.env.scope scope X.N xs ys caps) (hg:∀ s H ex pn,PG (cxComp X scope (xs ++ ys) s H ex pn) tg g) (he:∀ s H ex pn,PE (cxComp X scope (xs ++ ys) s H ex pn) elt te)
    (I2:Inv X pins σ H2 s2) (T:Turn X.prog X.w X.K tg J fp it tn) (st2:tn 0 s2.heap) (f2:∀ b∈fp,FpOk X pins H2 b) (rd:CompRdG J σ xs.length caps g te H2 fin)
    (hRR:∀ (C:Addr) (ysV:List V) (its:List Value) (n:Nat) (H8:Hp) (s8:Shared) (m:Str→Option Value),C=s2.heap.objs.size+1→Inv X pins σ H8 s8→H8 s2.heap.objs.size=none→H8 C=none→Vals ysV its→ysV.length≤sizeLine →
      s8.heap.get? s2.heap.objs.size=some (lstO its n)→s8.heap.Ns C m→fin ysV H8→RR (.ref s2.heap.objs.size) C (.ok .next) s8) :
    wpAny (model X.prog X.w) X.A (newList []) (fun acc s₃=>wpAny (model X.prog X.w) X.A (newFunctionEnv scope X.env.globals (clsOf X scope) [] X.env.qual none .none (some X.env)) (fun cenv s₄ =>
      codeAny (model X.prog X.w) X.A (.compStart (.ListComp elt [⟨tg,iter,[],0⟩] scope pos) 0 (.ref it) acc { cenv with scope:=relabel scope X.env }) (RR acc cenv.locals) s₄) E s₃) E s2:=by
  obtain ⟨n0,W,hn0,w0,turn⟩:=rd
  refine wpAny_newObj_type (wpAny_newFunctionEnv S.ncell (by intro y hy;simp at hy) (fun h₁ hns hsb=>?_) S.kind)
  dsimp only at hns hsb ⊢
  generalize hg3:s2.heap.push { cls:=.type "list",dict:=none,data:=.seq ([]:List Value).toArray }=g3 at hns hsb ⊢
  have hC:g3.objs.size=s2.heap.objs.size+1:=by rw [← hg3,Heap.size_push]
  have up3:∀ b o,s2.heap.get? b=some o→g3.get? b=some o:=fun b o e=>hg3 ▸ Heap.get?_push_of_some _ e
  have I3:Inv X pins σ H2 { s2 with heap:=g3 }:=I2.kept (t':=s2.toks) up3
  have keep:∀ b o,g3.get? b=some o→h₁.get? b=some o:=fun b o e=>hsb.extBut b o (Nat.ne_of_lt (Heap.lt_size e)) (Heap.get?_push_of_some _ e)
  have objD:g3.get? s2.heap.objs.size=some (lstO [] 0):=hg3 ▸ Heap.get?_push_size _ rfl
  have hDL:s2.heap.objs.size≠X.env.locals:=Nat.ne_of_gt I2.lt
  have hDfs:s2.heap.objs.size∉X.fs:=I2.nofs (Nat.le_refl _)
  have hDst:s2.heap.objs.size∉frs X.stack:=fun z=>(List.mem_cons.mp (I2.stkSub _ z)).elim hDL hDfs
  have hDc:∀ y c,X.env.cells.lookup y=some c→c≠s2.heap.objs.size:=fun y c e=>by
    obtain ⟨v,z⟩:=I2.cell y c e
    exact Nat.ne_of_lt z.lt
  have hDp:∀ p∈X.pn ++ pins,p.1≠s2.heap.objs.size:=fun p hp=>Nat.ne_of_lt (Heap.lt_size (I2.pin p hp).1)
  have hfl:∀ b∈fp,b < s2.heap.objs.size:=fun b hb=>by
    obtain ⟨o,e,_⟩:=T.obj _ _ st2 b hb
    exact Heap.lt_size e
  have hbz:X.base.objs.size≤X.s₀.heap.objs.size:=I2.ok.bsz
  have hch:∀ b∈s2.heap.objs.size :: fp,(b∈X.ex∨X.s₀.heap.objs.size≤b)∧b≠X.env.locals∧(∀ y c,X.env.cells.lookup y=some c→c≠b)∧∀ p∈X.pn ++ pins,p.1≠b:=fun b hb=>by
    rcases List.mem_cons.mp hb with rfl | hb
    · exact ⟨.inr I2.sz,hDL,hDc,hDp⟩
    · obtain ⟨a1,a2,a3,a4,a5,a6⟩:=f2 b hb
      exact ⟨a4,a2,a5,a6⟩
  have hex:∀ b∈s2.heap.objs.size :: fp,b < g3.objs.size∧b∉frs X.stack∧(∀ y c,X.env.cells.lookup y=some c→c≠b)∧X.base.get? b=none:=fun b hb=>by
    have hst:b∉frs X.stack:=by
      rcases List.mem_cons.mp hb with rfl | hb
      · exact hDst
      · obtain ⟨a1,a2,a3,a4,a5,a6⟩:=f2 b hb
        exact fun z=>(List.mem_cons.mp (I2.stkSub _ z)).elim a2 a3
    have hlt:b < g3.objs.size:=by
      rw [hC]
      rcases List.mem_cons.mp hb with rfl | hb
      · exact Nat.lt_succ_self _
      · exact Nat.lt_succ_of_lt (hfl b hb)
    refine ⟨hlt,hst,(hch b hb).2.2.1,?_⟩
    cases q:X.base.get? b with
    | none=>rfl
    | some o =>
      rcases (hch b hb).1 with z | z
      · exact absurd z (I2.ok.noex b o q)
      · exact absurd (Nat.lt_of_lt_of_le (Heap.lt_size q) (Nat.le_trans hbz z)) (Nat.lt_irrefl _)
  have hD2:H2 s2.heap.objs.size=none:=I2.hok.fresh (Nat.le_refl _)
  have I4:Inv (cxComp X scope (xs ++ ys) { s2 with heap:=g3 } H2 (s2.heap.objs.size :: fp) (X.pn ++ pins)) [(s2.heap.objs.size,lstO [] 0)] (xs.map (fun _=>none) ++ caught σ caps) H2 { s2 with heap:=h₁,toks:=s2.toks+([]:List (Str×Value)).length } :=
    Inv.enterG S hcalm I3 hns keep hex fun p hp=>by
      have e:p=(s2.heap.objs.size,lstO [] 0):=by simpa using hp
      subst e
      exact ⟨objD,hD2,hDst,fun v z=>nomatch z⟩
  have st4:tn 0 h₁:=T.keep _ _ _ st2 fun b hb o e=>keep b o (up3 b o e)
  generalize hY:cxComp X scope (xs ++ ys) { s2 with heap:=g3 } H2 (s2.heap.objs.size :: fp) (X.pn ++ pins)=Y at I4
  have yP:Y.prog=X.prog:=by rw [← hY];rfl
  have yW:Y.w=X.w:=by rw [← hY];rfl
  have yK:Y.K=X.K:=by rw [← hY];rfl
  have yA:Y.A=X.A:=by rw [← hY];rfl
  have yC:Y.calm=true:=by rw [← hY];exact hcalm
  have yX:Y.xe=fun _ _=>False:=by rw [← hY];rfl
  have yN:Y.N=xs ++ ys:=by rw [← hY];rfl
  have yE:Y.env=compEnvC scope (clsOf X scope) g3.objs.size X.env:=by rw [← hY];rfl
  have yex:Y.ex=s2.heap.objs.size :: fp:=by rw [← hY];rfl
  have ypn:Y.pn=X.pn ++ pins:=by rw [← hY];rfl
  have yfs:Y.fs=frs X.stack:=by rw [← hY];rfl
  have ybase:∀ {pl σ' H' s'},Inv Y pl σ' H' s'→Un (frs X.stack) (s2.heap.objs.size :: fp) H2 H' g3 s'.heap∧s'.os=s2.os:=by
    intro pl σ' H' s' I
    rw [← hY] at I
    exact ⟨I.base,I.os⟩
  have yhg:PG Y tg g:=by rw [← hY];exact hg _ _ _ _
  have yhe:PE Y elt te:=by rw [← hY];exact he _ _ _ _
  have ycl:∀ y c,Y.env.cells.lookup y=some c→X.env.cells.lookup y=some c:=fun y c e=>by
    rw [yE] at e
    exact S.sub I2 e
  have yfp:∀ {H':Hp} {o:Obj},(∀ b∈fp,H' b=none)→∀ b∈fp,FpOk Y [(s2.heap.objs.size,o)] H' b:=fun {H' o} hn b hb=>by
    obtain ⟨a1,a2,a3,a4,a5,a6⟩:=f2 b hb
    refine ⟨hn b hb,?_,?_,?_,fun y c e=>a5 y c (ycl y c e),fun p hp=>?_⟩
    · rw [yE];exact Nat.ne_of_lt (hex b (List.mem_cons_of_mem _ hb)).1
    · rw [yfs];exact (hex b (List.mem_cons_of_mem _ hb)).2.1
    · rw [yex];exact .inl (List.mem_cons_of_mem _ hb)
    · rw [ypn] at hp
      rcases List.mem_append.mp hp with hp | hp
      · exact a6 p hp
      · have e:p=(s2.heap.objs.size,o):=by simpa using hp
        subst e
        exact Nat.ne_of_gt (hfl b hb)
  have loop:∀ s₃:Shared,s₃={ s2 with heap:=h₁,toks:=s2.toks+([]:List (Str×Value)).length } →
      codeAny (model X.prog X.w) X.A (.compLoop (.ListComp elt [⟨tg,iter,[],0⟩] scope pos) 0 (.ref it) (.ref s2.heap.objs.size) (compEnvC scope (clsOf X scope) g3.objs.size X.env)) (RR (.ref s2.heap.objs.size) g3.objs.size) s₃:=by
    rintro s₃ rfl
    refine codeAny_loop rfl (fun k s'=>∃ i ysV its cnt H' os,os.length=xs.length∧k=n0+1 - i∧Inv Y [(s2.heap.objs.size,lstO its cnt)] (os ++ caught σ caps) H' s'∧tn i s'.heap∧(∀ b∈fp,H' b=none)∧Vals ysV its∧ysV.length=i∧i≤n0∧W i ysV H') ?_ (n0+1)
      ⟨0,[],[],0,H2,xs.map (fun _=>none),by rw [List.length_map],rfl,I4,st4,fun b hb=>(f2 b hb).1,.nil,rfl,Nat.zero_le _,w0⟩
    rintro k s' ⟨i,ysV,its,cnt,H',os,hos,rfl,I',tni,frn,vv,hlen,hin,hw⟩
    show wpAny _ _ ((compTurn (.ListComp elt [⟨tg,iter,[],0⟩] scope pos) 0 (.ref it) (.ref s2.heap.objs.size) (compEnvC scope (clsOf X scope) g3.objs.size X.env)).onRaise (fun x=>do noteFrame x (compEnvC scope (clsOf X scope) g3.objs.size X.env);theTreesLotGoes x)) _ _ s'
    refine wpAny_noted ?_
    rw [compTurn_list1]
    have fpok:=yfp (o:=lstO its cnt) frn
    rcases turn i ysV H' hin hlen hw with ⟨stop,hfin⟩ | ⟨hlt,go,step⟩
    · refine wpAny_bind (wpAny_standAt (wpAny_bind (thn (Q:=fun r s1=>r=none∧Inv Y [(s2.heap.objs.size,lstO its cnt)] (os ++ caught σ caps) H' s1) ?_ fun r s1 ⟨hr,I1⟩=>?_)))
      · have:=T.done Y yP yW yK yC i _ s' _ H' (notedBy (model X.prog X.w) X.A (compEnvC scope (clsOf X scope) g3.objs.size X.env) fun e s'=>RR (.ref s2.heap.objs.size) g3.objs.size (.error e) s') I' fpok tni stop
        rw [yA] at this
        exact this
      · subst hr
        refine wpAny_pure ?_
        obtain ⟨ub,uo⟩:=ybase I1
        obtain ⟨m,hm,_⟩:=I1.loc
        obtain ⟨p1,p2,_⟩:=I1.pin (s2.heap.objs.size,lstO its cnt) (List.mem_append_right _ List.mem_cons_self)
        have hok:HOk X.prog X.w H' s1.heap:=by have:=I1.hok;rw [yP,yW] at this;exact this
        have hCf:=I1.free
        rw [yE] at hm hCf
        refine hRR g3.objs.size ysV its cnt H' s1 m hC (I3.call' uo ub hok I1.bare hch) p2 hCf vv (by omega) p1 hm hfin
    · refine wpAny_bind (wpAny_standAt (wpAny_bind (thn (Q:=fun r s1=>∃ u,r=some u∧wpAny (model X.prog X.w) X.A (letOwnedTupleGo tg (.ref it) u) (fun _ s5=>∃ x H5,Inv Y [(s2.heap.objs.size,lstO its cnt)] (os ++ caught σ caps) H5 s5∧RelV x u∧J.yld i H' x H5∧tn (i+1) s5.heap∧∀ b∈fp,H5 b=none)
          (notedBy (model X.prog X.w) X.A (compEnvC scope (clsOf X scope) g3.objs.size X.env) fun e s'=>RR (.ref s2.heap.objs.size) g3.objs.size (.error e) s') s1) ?_ fun r s1 ⟨u,hr,h4⟩=>?_)))
      · have:=T.item Y yP yW yK yC i _ s' _ H' (notedBy (model X.prog X.w) X.A (compEnvC scope (clsOf X scope) g3.objs.size X.env) fun e s'=>RR (.ref s2.heap.objs.size) g3.objs.size (.error e) s') I' fpok tni go
        rw [yA] at this
        exact this
      · subst hr
        refine wpAny_bind (thn h4 fun _ s5 ⟨xv,H5,I5,r5,y5,st5,fr5⟩=>?_)
        have I5':=I5.pinned (yfp fr5) (T.obj _ _ st5)
        have sto:=yhg _ s5 _ H5 xv u _ I5' r5 (step xv H5 y5 os hos)
        rw [yP,yW,yA,yE] at sto
        refine wpAny_bind (nxE yX sto fun _ s6 ⟨σ6,H6,I6,⟨os',hos',e6⟩,t6⟩=>?_)
        subst e6
        have ev:=yhe _ s6 _ H6 _ I6 t6
        rw [yP,yW,yA,yE] at ev
        refine wpAny_bind (wpAny_bind (nxE yX ev fun yv s7 ⟨y,H7,I7,r7,w7⟩=>?_))
        obtain ⟨zD,hD7,hDl7,hDf7,_⟩:=I7.pin (s2.heap.objs.size,lstO its cnt) (List.mem_append_right _ (List.mem_append_left _ List.mem_cons_self))
        have hil:=vv.length
        refine wpAny_bind (append_at zD (fun h8 sb8 d8=>wpAny_pure (wpAny_pure ⟨rfl,?_⟩)) (by rw [List.size_toArray];omega))
        have I7':Inv Y [] (os' ++ caught σ caps) H7 s7:=I7.pins_of fun p hp=>nomatch hp
        have I8:Inv Y [] (os' ++ caught σ caps) H7 { s7 with heap:=h8 }:=I7'.turned (t':=s7.toks) (fun b ob hb e=>(sb8.2 b hb).trans e) hD7 hDl7 (.inl (by rw [yex];exact List.mem_cons_self)) (fun y c e=>hDc y c (ycl y c e)) (fun p hp=>by
          rw [ypn,List.append_nil] at hp
          exact hDp p hp)
        have I9:Inv Y [(s2.heap.objs.size,lstO (its ++ [yv]) (cnt+1))] (os' ++ caught σ caps) H7 { s7 with heap:=h8 }:=I8.pins_of fun p hp=>by
          have e:p=(s2.heap.objs.size,lstO (its ++ [yv]) (cnt+1)):=by simpa using hp
          subst e
          refine ⟨?_,hD7,hDl7,hDf7,fun v z=>nomatch z⟩
          show h8.get? s2.heap.objs.size=some { cls:=.type "list",data:=.seq (its ++ [yv]).toArray (cnt+1) }
          rw [d8,List.push_toArray]
        refine ⟨n0+1 - (i+1),by omega,i+1,ysV ++ [y],its ++ [yv],cnt+1,H7,os',hos',rfl,I9,?_,?_,vv.append (.cons r7 .nil),by rw [List.length_append,hlen];rfl,hlt,w7⟩
        · refine T.keep _ _ _ st5 fun b hb ob e=>(sb8.2 b (Nat.ne_of_lt (hfl b hb))).trans ?_
          exact (I7.pin (b,ob) (List.mem_append_right _ (List.mem_append_right _ (mem_pinsAt hb e)))).1
        · intro b hb
          obtain ⟨ob,e,_⟩:=T.obj _ _ st5 b hb
          exact (I7.pin (b,ob) (List.mem_append_right _ (List.mem_append_right _ (mem_pinsAt hb e)))).2.1
  exact codeAny_compStart_list (loop _ rfl) (T.self _ 0 _ _ _ st4 (loop _ rfl))
theorem pe_compH {wi:TI} {RD:St→VK→It→Hp→Prop} (hRD:∀ σ Q J H1,RD σ Q J H1→CompRdG J σ xs.length caps g te H1 fun ys H2=>∀ p,H2 p=none→Q (.ref p) (upd H2 p (.lst ys))) {FS:Scope} {N:List Str} (S0:CompStG FS scope N xs ys caps) (hFS:X.env.scope=FS) (hN0:X.N=N) (hcalm:X.calm=true) (hi:PI X tg iter wi) (hg:∀ s H ex pn,PG (cxComp X scope (xs ++ ys) s H ex pn) tg g) (he:∀ s H ex pn,PE (cxComp X scope (xs ++ ys) s H ex pn) elt te)
    (hs:∀ v,foldedSetIterable iter X.env v=pure v:=by intro _;rfl):PE X (.ListComp elt [⟨tg,iter,[],0⟩] scope pos) (fun σ H Q=>wi σ H (RD σ Q)):=by
  have S:CompStG X.env.scope scope X.N xs ys caps:=by rw [hFS,hN0];exact S0
  intro pins s σ H Q I h
  rw [eval_ListComp]
  refine wpAny_comprehension_free (use:=none) rfl hs (closureFor_eq (S.cells I)) S.kind S.names (thn (hi pins s σ H _ I h) fun v s1 h1=>thn h1 fun itv s2 h2=>?_)
  obtain ⟨it,fp,tn,J,H2,rfl,I2,T,st2,f2,rd⟩:=h2
  refine compG_run (RR:=fun acc C=>compPost (model X.prog X.w) X.A X.xe none (EP X pins σ Q) acc C) hcalm S hg he I2 T st2 f2 (hRD _ _ _ _ rd) ?_
  intro C ysV its n H8 s8 m hC I8 hD hC8 vv hz oD hn fin
  refine ⟨m,hn,fun h' sb=>?_⟩
  have sz:=I2.sz
  have lt:=I2.lt
  have ap:∀ b:Addr,b < s2.heap.objs.size→b≠C∧C≠b:=fun b hb=>by
    subst hC
    exact ⟨Nat.ne_of_lt (Nat.lt_succ_of_lt hb),Nat.ne_of_gt (Nat.lt_succ_of_lt hb)⟩
  have szC:X.s₀.heap.objs.size≤C:=by subst hC;exact Nat.le_succ_of_le sz
  have DC:s2.heap.objs.size≠C:=by subst hC;exact Nat.ne_of_lt (Nat.lt_succ_self _)
  have cl:∀ y c,X.env.cells.lookup y=some c→c < s2.heap.objs.size:=fun y c e=>by
    obtain ⟨w',z⟩:=I2.cell y c e
    exact z.lt
  have pl:∀ p∈X.pn ++ pins,p.1 < s2.heap.objs.size:=fun p hp=>Heap.lt_size (I2.pin p hp).1
  have I9:Inv X pins σ H8 { s8 with heap:=h' }:=I8.turned (t':=s8.toks) (fun b o hb e=>(sb.2 b hb).trans e) hC8 (ap _ lt).2 (.inr szC) (fun y c e=>(ap c (cl y c e)).1) (fun p hp=>(ap p.1 (pl p hp)).1)
  have oD':h'.get? s2.heap.objs.size=some (lstO its n):=(sb.2 _ DC).trans oD
  exact ⟨.ref s2.heap.objs.size,upd H8 s2.heap.objs.size (.lst ysV),I9.adopt hD sz (Nat.ne_of_gt lt) (fun y c e=>Nat.ne_of_lt (cl y c e)) (fun p hp=>Nat.ne_of_lt (pl p hp)) ⟨hz,its,n,vv,oD'⟩,rfl,fin _ hD⟩
theorem ps_setCompH {wi:TI} {RD:St→VK→It→Hp→Prop} (hRD:∀ σ Q J H1,RD σ Q J H1→CompRdG J σ xs.length caps g te H1 fun ys H2=>∀ p,H2 p=none→Q (.ref p) (upd H2 p (.lst ys))) {FS:Scope} {N:List Str} {i:Nat} {y:Str} {py spos:Pos} (S0:CompStG FS scope N xs ys caps) (hFS:X.env.scope=FS) (hN0:X.N=N) (hcalm:X.calm=true) (hN:X.N.Nodup) (hy:X.N[i]?=some y) (hl:Loc X.env.scope y) (hi:PI X tg iter wi) (hg:∀ s H ex pn,PG (cxComp X scope (xs ++ ys) s H ex pn) tg g) (he:∀ s H ex pn,PE (cxComp X scope (xs ++ ys) s H ex pn) elt te)
    (hsw:swapsWith (.ListComp elt [⟨tg,iter,[],0⟩] scope pos) (some (.Name y py)) spos.line X.env=pure true:=by rfl)
    (hs:∀ v,foldedSetIterable iter X.env v=pure v:=by intro _;rfl) (hf:X.fn y=true∨X.env.scope.names.lookup y=some .local:=by first | exact .inl rfl | exact .inr rfl | assumption) :
    PS X (.Assign [.Name y py] (.ListComp elt [⟨tg,iter,[],0⟩] scope pos) spos) (tAsg (fun σ H Q=>wi σ H (RD σ Q)) (gName i)):=by
  have S:CompStG X.env.scope scope X.N xs ys caps:=by rw [hFS,hN0];exact S0
  intro pins s σ H D I h
  rw [exec_Assign_Name_used _ _ _ _ hsw]
  refine wpAny_bind (wpAny_standAt (wpAny_bind ?_))
  show wpAny _ X.A (do let _ ← comprehension (.ListComp elt [⟨tg,iter,[],0⟩] scope pos) scope X.env _ (newList []) false (eval iter X.env) (some (assign (.Name y py) X.env))) _ _ s
  refine wpAny_bind (wpAny_mono (wpAny_comprehension_free (use:=some (assign (.Name y py) X.env)) (Q:=fun _ s'=>SP X pins D .next s') rfl hs (closureFor_eq (S.cells I)) S.kind S.names
    (thn (hi pins s σ H _ I h) fun v s1 h1=>thn h1 fun itv s2 h2=>?_)) (fun _ s' hq=>wpAny_pure (wpAny_pure hq)) fun _ _ e=>e)
  obtain ⟨it,fp,tn,J,H2,rfl,I2,T,st2,f2,rd⟩:=h2
  refine compG_run (RR:=fun acc C=>compPost (model X.prog X.w) X.A X.xe (some (assign (.Name y py) X.env)) (fun _ s'=>SP X pins D .next s') acc C) hcalm S hg he I2 T st2 f2 (hRD _ _ _ _ rd) ?_
  intro C ysV its n H8 s8 m hC I8 hD hC8 vv hz oD hn fin
  have sz:=I2.sz
  have lt:=I2.lt
  have ap:∀ b:Addr,b < s2.heap.objs.size→b≠C∧C≠b:=fun b hb=>by
    subst hC
    exact ⟨Nat.ne_of_lt (Nat.lt_succ_of_lt hb),Nat.ne_of_gt (Nat.lt_succ_of_lt hb)⟩
  have szC:X.s₀.heap.objs.size≤C:=by subst hC;exact Nat.le_succ_of_le sz
  have DC:C≠s2.heap.objs.size:=by subst hC;exact Nat.ne_of_gt (Nat.lt_succ_self _)
  have cl:∀ y c,X.env.cells.lookup y=some c→c < s2.heap.objs.size:=fun y c e=>by
    obtain ⟨w',z⟩:=I2.cell y c e
    exact z.lt
  have pl:∀ p∈X.pn ++ pins,p.1 < s2.heap.objs.size:=fun p hp=>Heap.lt_size (I2.pin p hp).1
  have I9:Inv X pins σ (upd H8 s2.heap.objs.size (.lst ysV)) s8:=I8.adopt hD sz (Nat.ne_of_gt lt) (fun y c e=>Nat.ne_of_lt (cl y c e)) (fun p hp=>Nat.ne_of_lt (pl p hp)) ⟨hz,its,n,vv,oD⟩
  show wpAny (model X.prog X.w) X.A (assign (.Name y py) X.env (.ref s2.heap.objs.size)) _ _ s8
  refine wpAny_assign_Name (store_ok2 (v:=.ref s2.heap.objs.size) I9 hN hy hl rfl (fun s9 I10 ⟨a,sa,ha⟩=>?_) hf)
  have hCa:C≠a:=by
    rcases ha with rfl | e
    · exact (ap _ lt).2
    · exact (ap _ (cl _ _ e)).2
  refine ⟨m,hn.sameBut sa hCa,fun h' sb=>⟨_,_,I10.turned (t':=s9.toks) (fun b o hb e=>(sb.2 b hb).trans e) ?_ (ap _ lt).2 (.inr szC) (fun y c e=>(ap c (cl y c e)).1) (fun p hp=>(ap p.1 (pl p hp)).1),fin _ hD⟩⟩
  rw [upd_ne DC]
  exact hC8
theorem pgc_name {X:Cx} {scope:Scope} {NY:List Str} {s:Shared} {H:Hp} {ex:List Addr} {pn:List (Addr×Obj)} {i:Nat} {x:Str} {px:Pos} (hN:NY.Nodup) (hi:NY[i]?=some x) (hx:scope.names.lookup x=some .local):PG (cxComp X scope NY s H ex pn) (.Name x px) (gName i) :=
  pg_name (X:=cxComp X scope NY s H ex pn) hN hi (.inl (lookup_relabel_local hx)) (.inr (lookup_relabel_local hx))
theorem CompSt.toG {FS:Scope} {N:List Str} {x:Str} (S:CompSt FS scope N x ys caps):CompStG FS scope N [x] ys caps:=⟨S.ncell,S.kind,S.names,S.fr,S.fk,S.cap,S.len⟩
theorem CompRd.toG {J:It} {σ:St} {te:TE} {H1:Hp} {fin:List V→Hp→Prop}:CompRd J σ caps te H1 fin→CompRdG J σ 1 caps (gName 0) te H1 fin:=by
  rintro ⟨n,W,hn,h0,h⟩
  refine ⟨n,W,hn,h0,fun i ys H2 hi hy hw=>?_⟩
  rcases h i ys H2 hi hy hw with z | ⟨z1,z2,z3⟩
  · exact .inl z
  · refine .inr ⟨z1,z2,fun x H3 y os ho=>?_⟩
    match os,ho with
    | [o],_=>exact ⟨⟨[some x],rfl,rfl⟩,z3 x H3 y⟩
theorem pe_compG {wi:TI} {FS:Scope} {N:List Str} (S0:CompStG FS scope N xs ys caps) (hFS:X.env.scope=FS) (hN0:X.N=N) (hcalm:X.calm=true) (hi:PI X tg iter wi) (hg:∀ s H ex pn,PG (cxComp X scope (xs ++ ys) s H ex pn) tg g) (he:∀ s H ex pn,PE (cxComp X scope (xs ++ ys) s H ex pn) elt te)
    (hs:∀ v,foldedSetIterable iter X.env v=pure v:=by intro _;rfl):PE X (.ListComp elt [⟨tg,iter,[],0⟩] scope pos) (tCompG wi xs.length caps g te):=pe_compH (fun _ _ _ _ h=>h) S0 hFS hN0 hcalm hi hg he hs
theorem ps_setCompG {wi:TI} {FS:Scope} {N:List Str} {i:Nat} {y:Str} {py spos:Pos} (S0:CompStG FS scope N xs ys caps) (hFS:X.env.scope=FS) (hN0:X.N=N) (hcalm:X.calm=true) (hN:X.N.Nodup) (hy:X.N[i]?=some y) (hl:Loc X.env.scope y) (hi:PI X tg iter wi) (hg:∀ s H ex pn,PG (cxComp X scope (xs ++ ys) s H ex pn) tg g) (he:∀ s H ex pn,PE (cxComp X scope (xs ++ ys) s H ex pn) elt te)
    (hsw:swapsWith (.ListComp elt [⟨tg,iter,[],0⟩] scope pos) (some (.Name y py)) spos.line X.env=pure true:=by rfl)
    (hs:∀ v,foldedSetIterable iter X.env v=pure v:=by intro _;rfl) (hf:X.fn y=true∨X.env.scope.names.lookup y=some .local:=by first | exact .inl rfl | exact .inr rfl | assumption) :
    PS X (.Assign [.Name y py] (.ListComp elt [⟨tg,iter,[],0⟩] scope pos) spos) (tAsg (tCompG wi xs.length caps g te) (gName i)):=ps_setCompH (RD:=fun σ Q J H1=>CompRdG J σ xs.length caps g te H1 fun ys H2=>∀ p,H2 p=none→Q (.ref p) (upd H2 p (.lst ys))) (fun _ _ _ _ h=>h) S0 hFS hN0 hcalm hN hy hl hi hg he hsw hs hf
end
section
variable {X:Cx} {scope:Scope} {x:Str} {ys:List Str} {caps:List Nat} {elt iter:Expr} {te:TE} {px pos:Pos}
theorem pe_comp {wi:TI} {FS:Scope} {N:List Str} (S0:CompSt FS scope N x ys caps) (hFS:X.env.scope=FS) (hN0:X.N=N) (hcalm:X.calm=true) (hi:PI X (.Name x px) iter wi) (he:∀ s H ex pn,PE (cxComp X scope (x :: ys) s H ex pn) elt te)
    (hs:∀ v,foldedSetIterable iter X.env v=pure v:=by intro _;rfl):PE X (.ListComp elt [⟨.Name x px,iter,[],0⟩] scope pos) (tComp wi caps te):=pe_compH (xs:=[x]) (g:=gName 0) (fun _ _ _ _ h=>CompRd.toG h) S0.toG hFS hN0 hcalm hi (fun _ _ _ _=>pgc_name S0.nd rfl S0.loc) he hs
theorem ps_setComp {wi:TI} {FS:Scope} {N:List Str} {i:Nat} {y:Str} {py spos:Pos} (S0:CompSt FS scope N x ys caps) (hFS:X.env.scope=FS) (hN0:X.N=N) (hcalm:X.calm=true) (hN:X.N.Nodup) (hy:X.N[i]?=some y) (hl:Loc X.env.scope y) (hi:PI X (.Name x px) iter wi) (he:∀ s H ex pn,PE (cxComp X scope (x :: ys) s H ex pn) elt te)
    (hsw:swapsWith (.ListComp elt [⟨.Name x px,iter,[],0⟩] scope pos) (some (.Name y py)) spos.line X.env=pure true:=by rfl)
    (hs:∀ v,foldedSetIterable iter X.env v=pure v:=by intro _;rfl) (hf:X.fn y=true∨X.env.scope.names.lookup y=some .local:=by first | exact .inl rfl | exact .inr rfl | assumption) :
    PS X (.Assign [.Name y py] (.ListComp elt [⟨.Name x px,iter,[],0⟩] scope pos) spos) (tAsg (tComp wi caps te) (gName i)):=ps_setCompH (RD:=fun σ Q J H1=>CompRd J σ caps te H1 fun ys H2=>∀ p,H2 p=none→Q (.ref p) (upd H2 p (.lst ys))) (xs:=[x]) (g:=gName 0) (fun _ _ _ _ h=>CompRd.toG h) S0.toG hFS hN0 hcalm hN hy hl hi (fun _ _ _ _=>pgc_name S0.nd rfl S0.loc) he hsw hs hf
end
end L2
namespace L2
open PySem PySem.Spec PyProof.Rows
noncomputable def cMaxL (K:PySem.W.Frag):List V→Hp→VK→Prop:=fun xs H Q=>∃ p ns,xs=[.ref p]∧SqL K H p (List.map V.int ns)∧ns≠[]∧∀ M,M∈ns→(∀ a∈ns,a≤M)→Q (.int M) H
noncomputable def cMinL (K:PySem.W.Frag):List V→Hp→VK→Prop:=fun xs H Q=>∃ p ns,xs=[.ref p]∧SqL K H p (List.map V.int ns)∧ns≠[]∧∀ M,M∈ns→(∀ a∈ns,M≤a)→Q (.int M) H
theorem Vals.ints:∀ {ns:List Int} {us:List Value},Vals (List.map V.int ns) us→∃ xs:List (Int×Tok),us=xs.map (fun p=>Value.int p.1 p.2)∧xs.map (·.1)=ns
  | [],_,h=>by cases h;exact ⟨[],rfl,rfl⟩
  | n :: ns,_,h=>by
    cases h with
    | cons r t =>
      obtain ⟨tk,rfl⟩:=r
      obtain ⟨xs,e1,e2⟩:=Vals.ints t
      exact ⟨(n,tk) :: xs,by rw [e1];rfl,by rw [List.map_cons,e2]⟩
theorem numAt_of {xs:List (Int×Tok)} {ns:List Int} (e:xs.map (·.1)=ns) (i:Nat) (h:i < ns.length):∃ n,ns[i]?=some n∧numAt xs.toArray i=n:=by
  have hx:i < xs.length:=by rw [← e,List.length_map] at h;exact h
  refine ⟨xs[i].1,by rw [← e,List.getElem?_map,List.getElem?_eq_getElem hx];rfl,?_⟩
  unfold numAt
  rw [List.getElem?_toArray,List.getElem?_eq_getElem hx]
  rfl
section
variable {X:Cx}
theorem call_maxL (hc:X.calm=true):CallR X (.builtin "max") (cMaxL X.K):=by
  intro pins s σ H xs us Q I r h
  obtain ⟨p,ns,rfl,hq,hne,q⟩:=h
  obtain ⟨u,rfl,ru⟩:=vals1 r
  cases ru
  obtain ⟨its,rv,pl,hz⟩:=I.list hq
  obtain ⟨ps,e1,e2⟩:=rv.ints
  have hl:ps.length=ns.length:=by rw [← e2,List.length_map]
  have hn0:0 < ns.length:=List.length_pos_iff.mpr hne
  have ei:its.toArray=intItems ps.toArray:=by rw [e1];unfold intItems;simp
  have pl':=pl.isList
  rw [ei] at pl'
  refine max_intList (I.ok.hd hc) pl' (by rw [List.size_toArray];omega) fun v h' tk hv hk=>?_
  obtain ⟨t,rfl⟩:=intItems_at hv
  obtain ⟨g1,g2⟩:=argBest_gt (numAt ps.toArray) (ps.toArray.size - 1)
  rw [List.size_toArray] at g1 g2 ⊢
  obtain ⟨M,m1,m2⟩:=numAt_of e2 (argBest (fun i j=>decide (numAt ps.toArray i > numAt ps.toArray j)) (ps.length - 1)) (by omega)
  rw [m2] at g2 ⊢
  refine ⟨.int M,H,I.kept hk,⟨_,rfl⟩,q M (List.mem_of_getElem? m1) fun a ha=>?_⟩
  obtain ⟨j,hj,ej⟩:=List.getElem_of_mem ha
  obtain ⟨n,n1,n2⟩:=numAt_of e2 j hj
  rw [List.getElem?_eq_getElem hj,ej] at n1
  cases n1
  rw [← n2]
  exact g2 j (by omega)
theorem call_minL (hc:X.calm=true):CallR X (.builtin "min") (cMinL X.K):=by
  intro pins s σ H xs us Q I r h
  obtain ⟨p,ns,rfl,hq,hne,q⟩:=h
  obtain ⟨u,rfl,ru⟩:=vals1 r
  cases ru
  obtain ⟨its,rv,pl,hz⟩:=I.list hq
  obtain ⟨ps,e1,e2⟩:=rv.ints
  have hl:ps.length=ns.length:=by rw [← e2,List.length_map]
  have hn0:0 < ns.length:=List.length_pos_iff.mpr hne
  have ei:its.toArray=intItems ps.toArray:=by rw [e1];unfold intItems;simp
  have pl':=pl.isList
  rw [ei] at pl'
  refine min_intList (I.ok.hd hc) pl' (by rw [List.size_toArray];omega) fun v h' tk hv hk=>?_
  obtain ⟨t,rfl⟩:=intItems_at hv
  obtain ⟨g1,g2⟩:=argBest_lt (numAt ps.toArray) (ps.toArray.size - 1)
  rw [List.size_toArray] at g1 g2 ⊢
  obtain ⟨M,m1,m2⟩:=numAt_of e2 (argBest (fun i j=>decide (numAt ps.toArray i < numAt ps.toArray j)) (ps.length - 1)) (by omega)
  rw [m2] at g2 ⊢
  refine ⟨.int M,H,I.kept hk,⟨_,rfl⟩,q M (List.mem_of_getElem? m1) fun a ha=>?_⟩
  obtain ⟨j,hj,ej⟩:=List.getElem_of_mem ha
  obtain ⟨n,n1,n2⟩:=numAt_of e2 j hj
  rw [List.getElem?_eq_getElem hj,ej] at n1
  cases n1
  rw [← n2]
  exact g2 j (by omega)
end
theorem comp_listI {K:PySem.W.Frag} {a:Addr} {xs:List V} {σ:St} {caps:List Nat} {tt:TT} {te:TE} {H1:Hp} {fin:List V→Hp→Prop} (W:Nat→List V→Hp→Prop) (hz:xs.length≤sizeLine) (h0:W 0 [] H1) (hl:∀ i ys H,i≤xs.length→W i ys H→SqL K H a xs)
    (hs:∀ i x ys H,xs[i]?=some x→ys.length≤i→W i ys H→tt (some x :: caught σ caps) H fun b H4=>if b=true then te (some x :: caught σ caps) H4 fun y H5=>W (i+1) (ys ++ [y]) H5 else W (i+1) ys H4) (hd:∀ ys H,W xs.length ys H→fin ys H):CompRdI (Itl K a) σ caps tt te H1 fin:=by
  refine ⟨xs.length,W,hz,h0,fun i ys H2 hi hy hw=>?_⟩
  have q:=hl i ys H2 hi hw
  by_cases hlt:i < xs.length
  · refine .inr ⟨hlt,⟨xs,xs[i],q,by simp [hlt]⟩,fun x H3 y=>?_⟩
    obtain ⟨e,y⟩:=y
    subst e
    exact hs i x ys _ (y xs q) hy hw
  · have e:i=xs.length:=by omega
    subst e
    exact .inl ⟨⟨xs,q,Nat.le_refl _⟩,hd ys H2 hw⟩
end L2
namespace L2
open PySem PySem.Spec PyProof.Rows
noncomputable def eqN (n:Int):Value→Bool
  | .int a _=>a == n
  | _=>false
section
variable {X:Cx}
end
end L2
namespace L2
open PySem PySem.Spec PyProof.Rows
theorem compG_zip {K:PySem.W.Frag} {a b:Addr} {xs ys:List V} {σ:St} {k:Nat} {caps:List Nat} {g:TG} {te:TE} {H1:Hp} {fin:List V→Hp→Prop} (W:Nat→List V→Hp→Prop) (hz:xs.length≤sizeLine) (he:xs.length=ys.length) (h0:W 0 [] H1) (hl:∀ i zs H,i≤xs.length→W i zs H→SqL K H a xs∧SqL K H b ys)
    (hs:∀ i x y p zs H,xs[i]?=some x→ys[i]?=some y→zs.length=i→W i zs H→H p=none→∀ os:St,os.length=k→g (.ref p) (os ++ caught σ caps) (upd H p (.tup [x,y])) fun σ2 H4=>(∃ os':St,os'.length=k∧σ2=os' ++ caught σ caps)∧te σ2 H4 fun z H5=>W (i+1) (zs ++ [z]) H5)
    (hd:∀ zs H,zs.length=xs.length→W xs.length zs H→fin zs H):CompRdG (Itz K a b) σ k caps g te H1 fin:=by
  refine ⟨xs.length,W,hz,h0,fun i zs H2 hi hy hw=>?_⟩
  obtain ⟨q,r⟩:=hl i zs H2 hi hw
  by_cases hlt:i < xs.length
  · have hlt2:i < ys.length:=by omega
    refine .inr ⟨hlt,⟨xs,xs[i],ys,ys[i],q,by simp [hlt],r,by simp [hlt2]⟩,fun x H3 y os ho=>?_⟩
    obtain ⟨pp,x',y',e1,e2,e3,y1,y2⟩:=y
    subst e1 e3
    exact hs i x' y' pp zs _ (y1 xs q) (y2 ys r) hy hw e2 os ho
  · have e:i=xs.length:=by omega
    subst e
    exact .inl ⟨⟨xs,ys,q,r,.inl (Nat.le_refl _)⟩,hd zs H2 hy hw⟩
theorem compG_enum {K:PySem.W.Frag} {a:Addr} {xs:List V} {σ:St} {k:Nat} {caps:List Nat} {g:TG} {te:TE} {H1:Hp} {fin:List V→Hp→Prop} (W:Nat→List V→Hp→Prop) (hz:xs.length≤sizeLine) (h0:W 0 [] H1) (hl:∀ i zs H,i≤xs.length→W i zs H→SqL K H a xs)
    (hs:∀ i x p zs H,xs[i]?=some x→zs.length=i→W i zs H→H p=none→∀ os:St,os.length=k→g (.ref p) (os ++ caught σ caps) (upd H p (.tup [.int i,x])) fun σ2 H4=>(∃ os':St,os'.length=k∧σ2=os' ++ caught σ caps)∧te σ2 H4 fun z H5=>W (i+1) (zs ++ [z]) H5)
    (hd:∀ zs H,zs.length=xs.length→W xs.length zs H→fin zs H):CompRdG (Ite K a) σ k caps g te H1 fin:=by
  refine ⟨xs.length,W,hz,h0,fun i zs H2 hi hy hw=>?_⟩
  have q:=hl i zs H2 hi hw
  by_cases hlt:i < xs.length
  · refine .inr ⟨hlt,⟨xs,xs[i],q,by simp [hlt]⟩,fun x H3 y os ho=>?_⟩
    obtain ⟨pp,z,e1,e2,e3,y⟩:=y
    subst e1 e3
    exact hs i z pp zs _ (y xs q) hy hw e2 os ho
  · have e:i=xs.length:=by omega
    subst e
    exact .inl ⟨⟨xs,q,Nat.le_refl _⟩,hd zs H2 hy hw⟩
end L2
namespace L2
open PySem PySem.Spec PyProof.Rows
noncomputable def rIsN:R2:=fun x y H Q=>y=.non∧Q (.bl (decide (x=.non))) H
noncomputable def rNotN:R2:=fun x y H Q=>y=.non∧Q (.bl (!decide (x=.non))) H
section
variable {X:Cx}
end
end L2
namespace L2
open PySem PySem.Spec PyProof.Rows
noncomputable def rngL (n:Nat):List Int:=(List.range n).map Int.ofNat
theorem rngL_get {n k:Nat} (h:k < n):(rngL n)[k]?=some (k:Int):=by
  unfold rngL;rw [List.getElem?_map,List.getElem?_range h];rfl
theorem rngL_length (n:Nat):(rngL n).length=n:=by unfold rngL;rw [List.length_map,List.length_range]
noncomputable def tLRng (ta:TE):TE:=fun σ H Q=>ta σ H fun x H1=>∃ n:Nat,x=.int n∧n≤10000∧∀ p,H1 p=none→Q (.ref p) (upd H1 p (.lst (List.map V.int (rngL n))))
theorem vals_of_get:∀ {xs:List V} {us:List Value},xs.length=us.length→(∀ (i:Nat) (x:V) (u:Value),xs[i]?=some x→us[i]?=some u→RelV x u)→Vals xs us
  | [],[],_,_=>.nil
  | [],_ :: _,h,_=>by simp at h
  | _ :: _,[],h,_=>by simp at h
  | x :: xs,u :: us,h,k=>.cons (k 0 x u rfl rfl) (vals_of_get (by simpa using h) fun i x u h1 h2=>k (i+1) x u (by simpa using h1) (by simpa using h2))
section
variable {X:Cx}
theorem pe_lrng {a:Expr} {tl:TE} {p1 p2 pos1 pos2:Pos} (hg1:Gl X "list") (hm1:X.mg "list" = none) (hg2:Gl X "range") (hm2:X.mg "range" = none) (hc:X.calm=true) (hl:PE X a tl)
    (hs1:starEach [.Call (.Name "range" p2) [a] [] pos2] X.env=[(false,eval (.Call (.Name "range" p2) [a] [] pos2) X.env)]:=by rfl) (hs2:starEach [a] X.env=[(false,eval a X.env)]:=by rfl) :
    PE X (.Call (.Name "list" p1) [.Call (.Name "range" p2) [a] [] pos2] [] pos1) (tLRng tl):=by
  intro pins s σ H Q I h
  have hA:PA X [a] (tCons tl tNil):=pa_cons hl pa_nil (by rw [hs2];rfl)
  refine Call_ (ld_blt I hg1 hm1 bt_list (PyProof.Rows.callWith_type1 (spliced_more ?_ (by rw [hs1];rfl)) hs1 rfl))
  refine Call_ (ld_blt I hg2 hm2 boot_range (PyProof.Rows.callWith_type1 (thn (hA pos2 pins s σ H (fun vs H1=>∃ x,vs=[x]∧∃ n:Nat,x=.int n∧n≤10000∧∀ p,H1 p=none→Q (.ref p) (upd H1 p (.lst (List.map V.int (rngL n))))) I ?_) fun us s1 ⟨vs,H1,I1,r1,q1⟩=>?_) hs2 rfl))
  · show tl σ H fun x H1=>∃ y,[x]=[y]∧_
    have e:(fun (x:V) (H1:Hp)=>∃ y,[x]=[y]∧∃ n:Nat,y=V.int n∧n≤10000∧∀ p,H1 p=none→Q (.ref p) (upd H1 p (.lst (List.map V.int (rngL n)))))=fun x H1=>∃ n:Nat,x=V.int n∧n≤10000∧∀ p,H1 p=none→Q (.ref p) (upd H1 p (.lst (List.map V.int (rngL n)))):=by
      funext x H1
      exact propext ⟨fun ⟨y,e,r⟩=>by cases e;exact r,fun r=>⟨x,rfl,r⟩⟩
    have h':tl σ H fun x H1=>∃ n:Nat,x=V.int n∧n≤10000∧∀ p,H1 p=none→Q (.ref p) (upd H1 p (.lst (List.map V.int (rngL n)))):=h
    rw [← e] at h'
    exact h'
  · obtain ⟨x,e1,n,e2,hn,q⟩:=q1
    subst e1 e2
    obtain ⟨u,rfl,ru⟩:=vals1 r1
    obtain ⟨t,rfl⟩:=ru
    refine call_range_1 (spliced_none ?_)
    have hz:Builtin.Range.rangeSize 0 (n:Int) 1=(n:Int):=by rw [rangeSize_one];split <;> omega
    refine call_list_range (I1.ok.hd hc) (IsRange.new ..) (small_one (by decide) (by decide) (by omega) (by omega)) hz (by omega) fun h2 tk acc c' hk hS hacc=>?_
    have kp:∀ c o,s1.heap.get? c=some o→h2.get? c=some o:=fun c o e=>hk c o (Heap.get?_push_of_some _ e)
    have gsz:(s1.heap.push { cls:=.type "range",data:=.fields #[.int 0 s1.toks,.int (n:Int) t,.int 1 (s1.toks+1)] }).objs.size=s1.heap.objs.size+1:=Heap.size_push ..
    have lt:s1.heap.objs.size≤(s1.heap.push { cls:=.type "range",data:=.fields #[.int 0 s1.toks,.int (n:Int) t,.int 1 (s1.toks+1)] }).objs.size:=by rw [gsz];exact Nat.le_succ _
    refine ⟨.ref _,_,I1.laid (t':=tk) (o:=.lst (List.map V.int (rngL n))) kp lt ⟨by rw [List.length_map,rngL_length,sizeLine_eq];omega,acc.toList,c',vals_of_get (by rw [List.length_map,rngL_length,Array.length_toList,hacc.1]) fun i x u h1 h3=>?_,by simpa using hS⟩,rfl,q _ (I1.hok.fresh lt)⟩
    have hi:i < n:=by
      have:=(List.getElem?_eq_some_iff.mp h1).1
      rwa [List.length_map,rngL_length] at this
    rw [List.getElem?_map,rngL_get hi] at h1
    cases h1
    obtain ⟨tk',e⟩:=hacc.2 i u (by simpa using h3)
    rw [e]
    exact ⟨tk',by simp⟩
end
end L2
namespace L2
open PySem PySem.Spec PyProof.Rows
theorem for_zipN {K:PySem.W.Frag} {a b:Addr} {xs ys:List V} {g:TG} {tb:TS} {D:Ends} {σ:St} {H:Hp} (n:Nat) (Pv:Nat→St→Hp→Prop) (h0:Pv 0 σ H) (hl:∀ i σ H,i≤n→Pv i σ H→SqL K H a xs∧SqL K H b ys) (hx:n≤xs.length) (hy:n≤ys.length) (he:xs.length≤n∨ys.length≤n)
    (hs:∀ i x y p σ H,xs[i]?=some x→ys[i]?=some y→i < n→Pv i σ H→H p=none→g (.ref p) σ (upd H p (.tup [x,y])) fun σ2 H2=>tb { D with nx:=Pv (i+1),ct:=Pv (i+1),bk:=D.nx } σ2 H2) (hd:∀ σ H,Pv n σ H→D.nx σ H) :
    ∃ W:Nat→Nat→St→Hp→Prop,(∃ m,W 0 m σ H)∧∀ i m σ H,W i m σ H →
      ((Itz K a b).stop i H∧D.nx σ H)∨((Itz K a b).go i H∧∃ N:St→Hp→Prop,(∀ σ' H',N σ' H'→∃ m',m' < m∧W (i+1) m' σ' H')∧∀ x H',(Itz K a b).yld i H x H'→g x σ H' fun σ2 H2=>tb { D with nx:=N,ct:=N,bk:=D.nx } σ2 H2):=by
  refine ⟨fun i m σ H=>m=n - i∧i≤n∧Pv i σ H,⟨n,by simp,Nat.zero_le _,h0⟩,?_⟩
  rintro i m σ H ⟨rfl,hi,p⟩
  obtain ⟨q,r⟩:=hl i σ H hi p
  by_cases hlt:i < n
  · have h1:i < xs.length:=by omega
    have h2:i < ys.length:=by omega
    refine .inr ⟨⟨xs,xs[i],ys,ys[i],q,by simp [h1],r,by simp [h2]⟩,Pv (i+1),fun σ' H' p'=>⟨n - (i+1),by omega,rfl,hlt,p'⟩,fun x H' y=>?_⟩
    obtain ⟨pp,x',y',e1,e2,e3,y1,y2⟩:=y
    subst e1 e3
    exact hs i x' y' pp σ _ (y1 xs q) (y2 ys r) hlt p e2
  · have e:i=n:=by omega
    subst e
    exact .inl ⟨⟨xs,ys,q,r,he⟩,hd σ H p⟩
theorem compG_zipN {K:PySem.W.Frag} {a b:Addr} {xs ys:List V} {σ:St} {k:Nat} {caps:List Nat} {g:TG} {te:TE} {H1:Hp} {fin:List V→Hp→Prop} (n:Nat) (W:Nat→List V→Hp→Prop) (hz:n≤sizeLine) (hx:n≤xs.length) (hy:n≤ys.length) (he:xs.length≤n∨ys.length≤n) (h0:W 0 [] H1) (hl:∀ i zs H,i≤n→W i zs H→SqL K H a xs∧SqL K H b ys)
    (hs:∀ i x y p zs H,xs[i]?=some x→ys[i]?=some y→i < n→zs.length=i→W i zs H→H p=none→∀ os:St,os.length=k→g (.ref p) (os ++ caught σ caps) (upd H p (.tup [x,y])) fun σ2 H4=>(∃ os':St,os'.length=k∧σ2=os' ++ caught σ caps)∧te σ2 H4 fun z H5=>W (i+1) (zs ++ [z]) H5)
    (hd:∀ zs H,zs.length=n→W n zs H→fin zs H):CompRdG (Itz K a b) σ k caps g te H1 fin:=by
  refine ⟨n,W,hz,h0,fun i zs H2 hi hyy hw=>?_⟩
  obtain ⟨q,r⟩:=hl i zs H2 hi hw
  by_cases hlt:i < n
  · have h1:i < xs.length:=by omega
    have h2:i < ys.length:=by omega
    refine .inr ⟨hlt,⟨xs,xs[i],ys,ys[i],q,by simp [h1],r,by simp [h2]⟩,fun x H3 y os ho=>?_⟩
    obtain ⟨pp,x',y',e1,e2,e3,y1,y2⟩:=y
    subst e1 e3
    exact hs i x' y' pp zs _ (y1 xs q) (y2 ys r) hlt hyy hw e2 os ho
  · have e:i=n:=by omega
    subst e
    exact .inl ⟨⟨xs,ys,q,r,he⟩,hd zs H2 hyy hw⟩
structure CorK (K:PySem.W.Frag):Prop where
  cl:Cls K (gadr K "Corner")
  nb:NoAttr K (gadr K "Corner") "begun"
  ns:NoAttr K (gadr K "Corner") "spans"
  nk:NoAttr K (gadr K "Corner") "kept"
  ni:NoAttr K (gadr K "Corner") "inside"
end L2
namespace L2
open PySem PySem.Spec PyProof.Rows
noncomputable def rEqX (K:PySem.W.Frag):R2:=fun x y H Q=>∃ a c xs ys,x=.ref a∧y=.ref c∧SqT K H a xs∧SqT K H c ys∧xs.length=ys.length ∧
  (∀ (j:Nat) x' y',xs[j]?=some x'→ys[j]?=some y'→(x'=y'∧∃ s,x'=.str s)∨DEq K H 1 x' y' true)∧Q (.bl true) H
section
variable {X:Cx}
theorem op_eqX (hu:X.A.units+2 < cLine):OpR X (compareOp .Eq) (rEqX X.K):=by
  intro pins s σ H x y v u Q I rx ry h
  obtain ⟨a,c,xs,ys,rfl,rfl,ha,hc,hl,hd,q⟩:=h
  have r:REq X.K H (fun x y b=>b=true∧((x=y∧∃ s,x=.str s)∨DEq X.K H 1 x y true)) (.ref a) (.ref c) true:=by
    refine ⟨a,c,xs,ys,rfl,rfl,.inr ⟨ha,hc,fun _=>true,fun j x' y' h1 h2=>⟨rfl,hd j x' y' h1 h2⟩,?_⟩⟩
    rw [hl,Nat.min_self]
    have:(List.range ys.length).all (fun _=>true)=true:=by rw [List.all_eq_true];intro _ _;rfl
    rw [this];simp
  refine rc_of I (A:=X.A) (by omega) (fun x y u v b rx ry d=>?_) rx ry r _ _ _ _ ⟨.bl true,H,I,rfl,q⟩
  obtain ⟨rfl,d⟩:=d
  rcases d with ⟨rfl,t,rfl⟩ | d
  · obtain ⟨t1,rfl⟩:=rx
    obtain ⟨t2,rfl⟩:=ry
    have:=SeqAt.EqAt.str_str (A:=X.A.in1) (s:=s) t t1 t t2
    rwa [show (t == t)=true by simp] at this
  · exact eq_of_deq I 1 X.A.in1 (by show X.A.units+1+1 < cLine;omega) x y u v true rx ry d
noncomputable def cIsT (K:PySem.W.Frag):List V→Hp→VK→Prop:=fun xs H Q=>∃ p ys,xs=[.ref p,.ty "tuple"]∧SqT K H p ys∧Q (.bl true) H
theorem call_isT:CallR X (.builtin "isinstance") (cIsT X.K):=by
  intro pins s σ H xs us Q I r h
  obtain ⟨p,ys,rfl,hq,q⟩:=h
  obtain ⟨u,c,rfl,ru,rc⟩:=vals2 r
  obtain rfl:c=Value.type "tuple":=rc
  obtain rfl:u=Value.ref p:=ru
  obtain ⟨its,r',⟨o,h1,h2,_⟩,hz⟩:=I.tuple hq
  exact PySem.W.kia_one PySem.W.kitx_tuple I.kIn ⟨o,h1,h2⟩ (kit_tt _) (fun z=>nomatch z) fun tk=>⟨.bl true,H,I.tok _,rfl,q⟩
end
end L2
namespace L2
open PySem PySem.Spec PyProof.Rows
noncomputable def rBits:V→List V→Hp→VK→Prop:=fun x vs H Q=>∃ n:Int,x=.int n∧vs=[]∧Q (.int ((Builtin.Int.intBits n:Nat):Int)) H
noncomputable def CShl (i n:Int):Prop:=0≤n∧((Builtin.Int.intBits i:Nat):Int)+n≤2 ^ 27
noncomputable def rShl:R2:=rI CShl fun i n=>.int (i * 2 ^ n.toNat)
noncomputable def rShr:R2:=rI (fun _ n=>0≤n) fun i n=>.int (i.fdiv (2 ^ n.toNat))
section
variable {X:Cx}
theorem mt_bits:MtR X "int.bit_length" rBits:=by
  intro pins s σ H x xs v us Q I rx rv h
  obtain ⟨n,rfl,rfl,q⟩:=h
  obtain ⟨t,rfl⟩:=rx
  cases rv
  exact call_int_bit_length ⟨.int _,H,I.tok _,⟨_,rfl⟩,q⟩
theorem op_shlB:OpR X (binaryOp .LShift) rShl:=opI fun _ _ _ _ _ _ _ hc q=>lshift_int hc.1 hc.2 q
theorem op_shrB:OpR X (binaryOp .RShift) rShr:=opI fun _ _ _ _ _ _ _ hc q=>rshift_int hc q
end
theorem plain_removeL:plainId "list.remove.loop" = true:=by decide +kernel
theorem entry_removeL:entryFor table "list.remove.loop" = some Builtin.«list.remove.loop»:=entryFor_of_fast (by kernel_rfl)
theorem remove_loop (l:Addr) (zs:Array Value) (c:Nat) (x:Value) (q:Value→Bool) (j:Nat) (hj:j < zs.size) (hit:q zs[j]=true) (hz:zs.size≤sizeLine):∀ (d i:Nat),j=i+d→(∀ m (hm:m < zs.size),m < j→q zs[m]=false) →
    Meets (Builtin.«list.remove.loop» ⟨[.ref l,x,rawInt i],[]⟩)
      (fun A R s=>s.heap.get? l=some { cls:=.type "list",data:=.seq zs c }∧(∀ y,y∈zs→SeqAt.EqAt A.in1 s y x (q y))∧R (.ok (.ret .none)) { s with heap:=s.heap.update l (Obj.mapSeq fun a=>a.eraseIdxIfInBounds j) }):=by
  intro d
  induction d with
  | zero =>
    intro i ei no prog w A R s h
    obtain ⟨hp,g,dd,tk,os⟩:=s
    obtain ⟨hl,he,h⟩:=h
    obtain rfl:j=i:=ei
    wp_walk using wpAny_loadPart' hl
    have e:zs[((j:Nat):Int).toNat]?=some zs[j]:=by simp [hj]
    rw [e]
    refine wpAny_bind (he _ (Array.getElem_mem hj) prog w _ _ ?_)
    rw [hit]
    have hz2:(zs.eraseIdxIfInBounds j).size≤sizeLine+1:=Nat.le_trans (PySem.MeetsSeq.size_erased zs _) (Nat.le_succ_of_le hz)
    wp_walk using (wpAny_updateSeq hl rfl (hz:=hz) (_hz':=hz2)),wpAny_loadPart' hl
    exact h
  | succ d ih =>
    intro i ei no prog w A R s h
    obtain ⟨hp,g,dd,tk,os⟩:=s
    obtain ⟨hl,he,h⟩:=h
    have il:i < zs.size:=by omega
    wp_walk using wpAny_loadPart' hl
    have e:zs[((i:Nat):Int).toNat]?=some zs[i]:=by simp [il]
    have e1:((i:Int)+1)=((i+1:Nat):Int):=by omega
    rw [e]
    refine wpAny_bind (he _ (Array.getElem_mem il) prog w _ _ ?_)
    rw [no i il (by omega)]
    wp_walk
    rw [e1]
    refine ⟨plainId_quiet plain_removeL _,codeAny_builtin entry_removeL ?_⟩
    rw [Around.under_plainId plain_removeL _]
    exact ih (i+1) (by omega) no prog w A R _ ⟨hl,he,h⟩
theorem remove_at (l:Addr) (zs:Array Value) (c:Nat) (x:Value) (q:Value→Bool) (j:Nat) (hj:j < zs.size) (hit:q zs[j]=true) (hz:zs.size≤sizeLine) (no:∀ m (hm:m < zs.size),m < j→q zs[m]=false) :
    Meets (Builtin.«list.remove» ⟨[.ref l,x],[]⟩)
      (fun A R s=>s.heap.get? l=some { cls:=.type "list",data:=.seq zs c }∧(∀ y,y∈zs→SeqAt.EqAt A.in1 s y x (q y))∧R (.ok (.ret .none)) { s with heap:=s.heap.update l (Obj.mapSeq fun a=>a.eraseIdxIfInBounds j) }):=by
  intro prog w A R s h
  obtain ⟨hp,g,dd,tk,os⟩:=s
  wp_walk
  refine ⟨plainId_quiet plain_removeL _,codeAny_builtin entry_removeL ?_⟩
  rw [Around.under_plainId plain_removeL _]
  exact remove_loop l zs c x q j hj hit hz j 0 (by omega) no prog w A R _ h
noncomputable def rRemove:V→List V→Hp→VK→Prop:=fun x vs H Q=>∃ l ns n j,x=.ref l∧vs=[.int n]∧H l=some (.lst (List.map V.int ns))∧ns[j]?=some n∧(∀ m,m < j→ns[m]?≠some n)∧Q .non (upd H l (.lst (List.map V.int (ns.eraseIdx j))))
theorem eraseM {α β:Type} (f:α→β):∀ (l:List α) (i:Nat),(l.eraseIdx i).map f=(l.map f).eraseIdx i
  | [],i=>by simp
  | a :: r,0=>rfl
  | a :: r,i+1=>by show f a :: (r.eraseIdx i).map f=f a :: (r.map f).eraseIdx i;rw [eraseM f r i]
theorem mt_remove {X:Cx}:MtM X "list.remove" rRemove:=by
  intro pins s σ H x vs v us Q I rx rv h
  obtain ⟨l,ns,n,j,rfl,rfl,hH,hj,hno,q⟩:=h
  cases rx
  obtain ⟨u,rfl,ru⟩:=rv.one
  obtain ⟨z,its,c,r,hl,e⟩:=I.lstM hH
  have hjl:j < ns.length:=(List.getElem?_eq_some_iff.mp hj).1
  have len:=r.length
  rw [List.length_map] at len
  have at_:∀ m (hm:m < its.toArray.size),∃ a t,ns[m]?=some a∧its.toArray[m]=.int a t:=fun m hm=>by
    have h1:m < its.length:=by simpa using hm
    have h2:m < ns.length:=by omega
    obtain ⟨w,e1,e2⟩:=r.get (i:=m) (x:=.int ns[m]) (by rw [List.getElem?_map,List.getElem?_eq_getElem h2];rfl)
    obtain ⟨t,rfl⟩:=e2
    refine ⟨ns[m],t,List.getElem?_eq_getElem h2,?_⟩
    obtain ⟨_,e3⟩:=List.getElem?_eq_some_iff.mp e1
    simpa using e3
  refine call_meets F.slot_list_remove ⟨_,e,rfl⟩ F.entry_list_remove (F.args_list_remove_2 _ _) (remove_at l its.toArray c u (eqN n) j (by rw [List.size_toArray];omega) ?_ (by rw [List.size_toArray,← hl];exact z) fun m hm hmj=>?_) ⟨e,fun y hy=>?_,?_⟩
  · obtain ⟨a,t,e1,e2⟩:=at_ j (by rw [List.size_toArray];omega)
    rw [hj] at e1
    cases e1
    rw [e2]
    show (n == n)=true
    simp
  · obtain ⟨a,t,e1,e2⟩:=at_ m hm
    rw [e2]
    show (a == n)=false
    have:a≠n:=fun z=>hno m hmj (by rw [e1,z])
    simpa using this
  · obtain ⟨m,hm,e1⟩:=Array.getElem_of_mem hy
    obtain ⟨a,t,_,e2⟩:=at_ m hm
    rw [← e1,e2]
    exact eqAt_ints (i:=a) (j:=n) ⟨t,rfl⟩ ru
  · refine ⟨.non,_,I.lset (its':=its.eraseIdx j) hH e ?_ ?_ ?_,rfl,q⟩
    · show its.toArray.eraseIdxIfInBounds j=(its.eraseIdx j).toArray
      rw [List.eraseIdxIfInBounds_toArray]
    · rw [eraseM];exact r.eraseIdx j
    · have:=len_erase (List.map V.int ns) j
      rw [eraseM]
      omega
section
variable {prog:Program} {w:World} {A:Around} {R:Result→Shared→Prop} {it:Addr} {fp wr:List Addr} {n:Nat} {P:Nat→Value→Prop} {St:Nat→Heap→Prop}
theorem max_goD (W:Walks prog w A.in1 it fp wr n P St) (bt:Nat→Nat→Bool) (cmp:CmpOf prog w A.in1 .Gt P bt) (B:Addr) (out:B∉fp) (kw:List (Str×Value)):∀ (k j:Nat) (s:Shared) (vb:Value) (c:Nat),n=j+1+k→St (j+1) s.heap→P (argBest bt j) vb →
    s.heap.get? B=some { cls:=.type "list",dict:=none,data:=.seq #[vb,vb] c,slots:=#[] } →
    (∀ v h' tk,P (argBest bt (n - 1)) v→(∀ b o,b∉wr→b≠B→s.heap.get? b=some o→h'.get? b=some o)→R (.ok (.ret v)) { s with heap:=h',toks:=tk }) →
    codeAny (model prog w) A (.builtin "max.loop" ⟨[.ref it,.none,.ref B],kw⟩) R s:=by
  have outw:B∉wr:=fun z=>out (W.sub _ z)
  have nm:(toString "max" ++ toString ".loop" : String)="max.loop":=by decide
  intro k
  induction k with
  | zero =>
    intro j s vb c en st pb hB fin
    refine codeAny_builtin PySem.F.entry_max_loop ?_;rw [Around.under_plainId PySem.F.plain_max_loop _]
    show wpAny _ A.in1 (seqItems? (.ref B) >>= _) _ _ s
    refine wpAny_bind (wpAny_seqItems hB rfl ?_);show wpAny _ A.in1 (tryCatch (pyNext (.ref it)) _ >>= _) _ _ s
    have en':n=j+1:=en
    refine wpAny_bind (wpAny_tryCatch (W.done s _ _ (en' ▸ st) fun h' tk keep=>?_))
    have hB':=keep B _ outw hB
    show wpAny _ A.in1 (updateSeq B (fun _=>#[]) >>= _) _ _ _
    refine wpAny_bind ?_;refine wpAny_updateSeq hB' rfl (wpAny_bind (wpAny_letGo (wpAny_pure ?_)))
    refine fin vb _ tk (by rw [en'];exact pb) fun b o bw bB e=>(Heap.get?_update_other _ _ (Ne.symm bB)).trans (keep b o bw e)
  | succ k ih =>
    intro j s vb c en st pb hB fin
    refine codeAny_builtin PySem.F.entry_max_loop ?_;rw [Around.under_plainId PySem.F.plain_max_loop _]
    show wpAny _ A.in1 (seqItems? (.ref B) >>= _) _ _ s
    refine wpAny_bind (wpAny_seqItems hB rfl ?_);show wpAny _ A.in1 (tryCatch (pyNext (.ref it)) _ >>= _) _ _ s
    refine wpAny_bind (wpAny_tryCatch (W.item (j+1) s _ _ (by omega) st fun v h' tk pv st' keep=>?_))
    have hB':=keep B _ outw hB
    show wpAny _ A.in1 (tryCatch (holding [v,v] (richCompare .Gt v vb >>= _)) _ >>= _) _ _ { s with heap:=h',toks:=tk }
    refine wpAny_bind (wpAny_tryCatch (wpAny_holding (wpAny_bind (cmp (j+1) (argBest bt j) v vb _ _ _ pv pb (wpAny_bind (wpAny_holding (wpAny_truthy_bool (wpAny_bind (wpAny_letGo (wpAny_pure ?_))))))))))
    cases better:bt (j+1) (argBest bt j) with
    | true =>
      simp only [if_true]
      refine wpAny_bind ?_;refine wpAny_updateSeq hB' rfl (wpAny_bind (wpAny_letGo ?_));rw [nm]
      refine wpAny_pure ⟨plainId_quiet PySem.F.plain_max_loop _,ih (j+1) _ v _ (by omega) (W.frame _ _ _ st' fun b bf o e=>?_) (by simp only [argBest,better,if_true];exact pv) (Heap.get?_update_self _ hB' rfl) fun v' g tk' pv' keep'=>?_⟩
      · exact (Heap.get?_update_other _ _ (fun z:B=b=>out (by rw [z];exact bf))).trans e
      · exact fin v' g tk' pv' fun b o bw bB e=>keep' b o bw bB ((Heap.get?_update_other _ _ (Ne.symm bB)).trans (keep b o bw e))
    | false =>
      simp only [Bool.false_eq_true,if_false]
      refine wpAny_bind (wpAny_letGo ?_);rw [nm]
      refine wpAny_pure ⟨plainId_quiet PySem.F.plain_max_loop _,ih (j+1) _ vb c (by omega) st' (by simp only [argBest,better,Bool.false_eq_true,if_false];exact pb) hB' fun v' g tk' pv' keep'=>?_⟩
      exact fin v' g tk' pv' fun b o bw bB e=>keep' b o bw bB (keep b o bw e)
theorem max_startD (W:Walks prog w A.in1 it fp wr n P St) (bt:Nat→Nat→Bool) (cmp:CmpOf prog w A.in1 .Gt P bt) (B:Addr) (out:B∉fp) (d:Value) {s:Shared} {c:Nat} (st:St 0 s.heap) (hB:s.heap.get? B=some { cls:=.type "list",dict:=none,data:=.seq #[] c,slots:=#[] })
    (f0:n=0→∀ h' tk,(∀ b o,b∉wr→b≠B→s.heap.get? b=some o→h'.get? b=some o)→R (.ok (.ret d)) { s with heap:=h',toks:=tk })
    (f1:0 < n→∀ v h' tk,P (argBest bt (n - 1)) v→(∀ b o,b∉wr→b≠B→s.heap.get? b=some o→h'.get? b=some o)→R (.ok (.ret v)) { s with heap:=h',toks:=tk }) :
    codeAny (model prog w) A (.builtin "max.loop" ⟨[.ref it,.none,.ref B],[("default",d)]⟩) R s:=by
  have outw:B∉wr:=fun z=>out (W.sub _ z)
  have nm:(toString "max" ++ toString ".loop" : String)="max.loop":=by decide
  refine codeAny_builtin PySem.F.entry_max_loop ?_;rw [Around.under_plainId PySem.F.plain_max_loop _]
  show wpAny _ A.in1 (seqItems? (.ref B) >>= _) _ _ s
  refine wpAny_bind (wpAny_seqItems hB rfl ?_);show wpAny _ A.in1 (tryCatch (pyNext (.ref it)) _ >>= _) _ _ s
  rcases Nat.eq_zero_or_pos n with n0 | n1
  · refine wpAny_bind (wpAny_tryCatch (W.done s _ _ (n0 ▸ st) fun h' tk keep=>?_))
    wp_walk
    exact f0 n0 h' tk fun b o bw _ e=>keep b o bw e
  · refine wpAny_bind (wpAny_tryCatch (W.item 0 s _ _ n1 st fun v h' tk pv st' keep=>?_))
    have hB':=keep B _ outw hB
    show wpAny _ A.in1 (updateSeq B (fun _=>#[v,v]) >>= _) _ _ { s with heap:=h',toks:=tk }
    refine wpAny_bind ?_;refine wpAny_updateSeq hB' rfl ?_;rw [nm]
    refine wpAny_pure ⟨plainId_quiet PySem.F.plain_max_loop _,max_goD W bt cmp B out _ (n - 1) 0 _ v _ (by omega) (W.frame _ _ _ st' fun b bf o e=>?_) pv (Heap.get?_update_self _ hB' rfl) fun v' g tk' pv' keep'=>?_⟩
    · exact (Heap.get?_update_other _ _ (fun z:B=b=>out (by rw [z];exact bf))).trans e
    · exact f1 n1 v' g tk' pv' fun b o bw bB e=>keep' b o bw bB ((Heap.get?_update_other _ _ (Ne.symm bB)).trans (keep b o bw e))
end
end L2
namespace L2
open PySem PySem.Spec PyProof.Rows
noncomputable def CompRdGI (J:It) (σ:St) (k:Nat) (caps:List Nat) (g:TG) (tt:TT) (te:TE) (H1:Hp) (fin:List V→Hp→Prop):Prop :=
  ∃ (n:Nat) (W:Nat→List V→Hp→Prop),n≤sizeLine∧W 0 [] H1∧∀ i ys H2,i≤n→ys.length≤i→W i ys H2 →
    (J.stop i H2∧fin ys H2)∨(i < n∧J.go i H2∧∀ x H3,J.yld i H2 x H3→∀ os:St,os.length=k→g x (os ++ caught σ caps) H3 fun σ2 H4=>(∃ os':St,os'.length=k∧σ2=os' ++ caught σ caps)∧tt σ2 H4 fun b H5=>if b=true then te σ2 H5 fun y H6=>W (i+1) (ys ++ [y]) H6 else W (i+1) ys H5)
noncomputable def tCompGI (wi:TI) (k:Nat) (caps:List Nat) (g:TG) (tt:TT) (te:TE):TE:=fun σ H Q=>wi σ H fun J H1=>CompRdGI J σ k caps g tt te H1 fun ys H2=>∀ p,H2 p=none→Q (.ref p) (upd H2 p (.lst ys))
section
variable {X:Cx} {scope:Scope} {xs ys:List Str} {caps:List Nat} {elt iter tg tst:Expr} {te:TE} {tt:TT} {g:TG} {pos:Pos}
theorem compGI_run {pins:List (Addr×Obj)} {σ:St} {H2:Hp} {s2:Shared} {J:It} {fp:List Addr} {it:Addr} {tn:Nat→Heap→Prop} {E:Value→Shared→Prop} {fin:List V→Hp→Prop} {RR:Value→Addr→Result→Shared→Prop}
    (hcalm:X.calm=true) (S:CompStG X.env.scope scope X.N xs ys caps) (hg:∀ s H ex pn,PG (cxComp X scope (xs ++ ys) s H ex pn) tg g) (hT:∀ s H ex pn,PT (cxComp X scope (xs ++ ys) s H ex pn) tst tt) (he:∀ s H ex pn,PE (cxComp X scope (xs ++ ys) s H ex pn) elt te)
    (I2:Inv X pins σ H2 s2) (T:Turn X.prog X.w X.K tg J fp it tn) (st2:tn 0 s2.heap) (f2:∀ b∈fp,FpOk X pins H2 b) (rd:CompRdGI J σ xs.length caps g tt te H2 fin)
    (hRR:∀ (C:Addr) (ysV:List V) (its:List Value) (n:Nat) (H8:Hp) (s8:Shared) (m:Str→Option Value),C=s2.heap.objs.size+1→Inv X pins σ H8 s8→H8 s2.heap.objs.size=none→H8 C=none→Vals ysV its→ysV.length≤sizeLine →
      s8.heap.get? s2.heap.objs.size=some (lstO its n)→s8.heap.Ns C m→fin ysV H8→RR (.ref s2.heap.objs.size) C (.ok .next) s8) :
    wpAny (model X.prog X.w) X.A (newList []) (fun acc s₃=>wpAny (model X.prog X.w) X.A (newFunctionEnv scope X.env.globals (clsOf X scope) [] X.env.qual none .none (some X.env)) (fun cenv s₄ =>
      codeAny (model X.prog X.w) X.A (.compStart (.ListComp elt [⟨tg,iter,[tst],0⟩] scope pos) 0 (.ref it) acc { cenv with scope:=relabel scope X.env }) (RR acc cenv.locals) s₄) E s₃) E s2:=by
  obtain ⟨n0,W,hn0,w0,turn⟩:=rd
  refine wpAny_newObj_type (wpAny_newFunctionEnv S.ncell (by intro y hy;simp at hy) (fun h₁ hns hsb=>?_) S.kind)
  dsimp only at hns hsb ⊢
  generalize hg3:s2.heap.push { cls:=.type "list",dict:=none,data:=.seq ([]:List Value).toArray }=g3 at hns hsb ⊢
  have hC:g3.objs.size=s2.heap.objs.size+1:=by rw [← hg3,Heap.size_push]
  have up3:∀ b o,s2.heap.get? b=some o→g3.get? b=some o:=fun b o e=>hg3 ▸ Heap.get?_push_of_some _ e
  have I3:Inv X pins σ H2 { s2 with heap:=g3 }:=I2.kept (t':=s2.toks) up3
  have keep:∀ b o,g3.get? b=some o→h₁.get? b=some o:=fun b o e=>hsb.extBut b o (Nat.ne_of_lt (Heap.lt_size e)) (Heap.get?_push_of_some _ e)
  have objD:g3.get? s2.heap.objs.size=some (lstO [] 0):=hg3 ▸ Heap.get?_push_size _ rfl
  have hDL:s2.heap.objs.size≠X.env.locals:=Nat.ne_of_gt I2.lt
  have hDfs:s2.heap.objs.size∉X.fs:=I2.nofs (Nat.le_refl _)
  have hDst:s2.heap.objs.size∉frs X.stack:=fun z=>(List.mem_cons.mp (I2.stkSub _ z)).elim hDL hDfs
  have hDc:∀ y c,X.env.cells.lookup y=some c→c≠s2.heap.objs.size:=fun y c e=>by
    obtain ⟨v,z⟩:=I2.cell y c e
    exact Nat.ne_of_lt z.lt
  have hDp:∀ p∈X.pn ++ pins,p.1≠s2.heap.objs.size:=fun p hp=>Nat.ne_of_lt (Heap.lt_size (I2.pin p hp).1)
  have hfl:∀ b∈fp,b < s2.heap.objs.size:=fun b hb=>by
    obtain ⟨o,e,_⟩:=T.obj _ _ st2 b hb
    exact Heap.lt_size e
  have hbz:X.base.objs.size≤X.s₀.heap.objs.size:=I2.ok.bsz
  have hch:∀ b∈s2.heap.objs.size :: fp,(b∈X.ex∨X.s₀.heap.objs.size≤b)∧b≠X.env.locals∧(∀ y c,X.env.cells.lookup y=some c→c≠b)∧∀ p∈X.pn ++ pins,p.1≠b:=fun b hb=>by
    rcases List.mem_cons.mp hb with rfl | hb
    · exact ⟨.inr I2.sz,hDL,hDc,hDp⟩
    · obtain ⟨a1,a2,a3,a4,a5,a6⟩:=f2 b hb
      exact ⟨a4,a2,a5,a6⟩
  have hex:∀ b∈s2.heap.objs.size :: fp,b < g3.objs.size∧b∉frs X.stack∧(∀ y c,X.env.cells.lookup y=some c→c≠b)∧X.base.get? b=none:=fun b hb=>by
    have hst:b∉frs X.stack:=by
      rcases List.mem_cons.mp hb with rfl | hb
      · exact hDst
      · obtain ⟨a1,a2,a3,a4,a5,a6⟩:=f2 b hb
        exact fun z=>(List.mem_cons.mp (I2.stkSub _ z)).elim a2 a3
    have hlt:b < g3.objs.size:=by
      rw [hC]
      rcases List.mem_cons.mp hb with rfl | hb
      · exact Nat.lt_succ_self _
      · exact Nat.lt_succ_of_lt (hfl b hb)
    refine ⟨hlt,hst,(hch b hb).2.2.1,?_⟩
    cases q:X.base.get? b with
    | none=>rfl
    | some o =>
      rcases (hch b hb).1 with z | z
      · exact absurd z (I2.ok.noex b o q)
      · exact absurd (Nat.lt_of_lt_of_le (Heap.lt_size q) (Nat.le_trans hbz z)) (Nat.lt_irrefl _)
  have hD2:H2 s2.heap.objs.size=none:=I2.hok.fresh (Nat.le_refl _)
  have I4:Inv (cxComp X scope (xs ++ ys) { s2 with heap:=g3 } H2 (s2.heap.objs.size :: fp) (X.pn ++ pins)) [(s2.heap.objs.size,lstO [] 0)] (xs.map (fun _=>none) ++ caught σ caps) H2 { s2 with heap:=h₁,toks:=s2.toks+([]:List (Str×Value)).length } :=
    Inv.enterG S hcalm I3 hns keep hex fun p hp=>by
      have e:p=(s2.heap.objs.size,lstO [] 0):=by simpa using hp
      subst e
      exact ⟨objD,hD2,hDst,fun v z=>nomatch z⟩
  have st4:tn 0 h₁:=T.keep _ _ _ st2 fun b hb o e=>keep b o (up3 b o e)
  generalize hY:cxComp X scope (xs ++ ys) { s2 with heap:=g3 } H2 (s2.heap.objs.size :: fp) (X.pn ++ pins)=Y at I4
  have yP:Y.prog=X.prog:=by rw [← hY];rfl
  have yW:Y.w=X.w:=by rw [← hY];rfl
  have yK:Y.K=X.K:=by rw [← hY];rfl
  have yA:Y.A=X.A:=by rw [← hY];rfl
  have yC:Y.calm=true:=by rw [← hY];exact hcalm
  have yX:Y.xe=fun _ _=>False:=by rw [← hY];rfl
  have yN:Y.N=xs ++ ys:=by rw [← hY];rfl
  have yE:Y.env=compEnvC scope (clsOf X scope) g3.objs.size X.env:=by rw [← hY];rfl
  have yex:Y.ex=s2.heap.objs.size :: fp:=by rw [← hY];rfl
  have ypn:Y.pn=X.pn ++ pins:=by rw [← hY];rfl
  have yfs:Y.fs=frs X.stack:=by rw [← hY];rfl
  have ybase:∀ {pl σ' H' s'},Inv Y pl σ' H' s'→Un (frs X.stack) (s2.heap.objs.size :: fp) H2 H' g3 s'.heap∧s'.os=s2.os:=by
    intro pl σ' H' s' I
    rw [← hY] at I
    exact ⟨I.base,I.os⟩
  have yhg:PG Y tg g:=by rw [← hY];exact hg _ _ _ _
  have yhe:PE Y elt te:=by rw [← hY];exact he _ _ _ _
  have yht:PT Y tst tt:=by rw [← hY];exact hT _ _ _ _
  have ycl:∀ y c,Y.env.cells.lookup y=some c→X.env.cells.lookup y=some c:=fun y c e=>by
    rw [yE] at e
    exact S.sub I2 e
  have yfp:∀ {H':Hp} {o:Obj},(∀ b∈fp,H' b=none)→∀ b∈fp,FpOk Y [(s2.heap.objs.size,o)] H' b:=fun {H' o} hn b hb=>by
    obtain ⟨a1,a2,a3,a4,a5,a6⟩:=f2 b hb
    refine ⟨hn b hb,?_,?_,?_,fun y c e=>a5 y c (ycl y c e),fun p hp=>?_⟩
    · rw [yE];exact Nat.ne_of_lt (hex b (List.mem_cons_of_mem _ hb)).1
    · rw [yfs];exact (hex b (List.mem_cons_of_mem _ hb)).2.1
    · rw [yex];exact .inl (List.mem_cons_of_mem _ hb)
    · rw [ypn] at hp
      rcases List.mem_append.mp hp with hp | hp
      · exact a6 p hp
      · have e:p=(s2.heap.objs.size,o):=by simpa using hp
        subst e
        exact Nat.ne_of_gt (hfl b hb)
  have loop:∀ s₃:Shared,s₃={ s2 with heap:=h₁,toks:=s2.toks+([]:List (Str×Value)).length } →
      codeAny (model X.prog X.w) X.A (.compLoop (.ListComp elt [⟨tg,iter,[tst],0⟩] scope pos) 0 (.ref it) (.ref s2.heap.objs.size) (compEnvC scope (clsOf X scope) g3.objs.size X.env)) (RR (.ref s2.heap.objs.size) g3.objs.size) s₃:=by
    rintro s₃ rfl
    refine codeAny_loop rfl (fun k s'=>∃ i ysV its cnt H' os,os.length=xs.length∧k=n0+1 - i∧Inv Y [(s2.heap.objs.size,lstO its cnt)] (os ++ caught σ caps) H' s'∧tn i s'.heap∧(∀ b∈fp,H' b=none)∧Vals ysV its∧ysV.length≤i∧i≤n0∧W i ysV H') ?_ (n0+1)
      ⟨0,[],[],0,H2,xs.map (fun _=>none),by rw [List.length_map],rfl,I4,st4,fun b hb=>(f2 b hb).1,.nil,Nat.le_refl _,Nat.zero_le _,w0⟩
    rintro k s' ⟨i,ysV,its,cnt,H',os,hos,rfl,I',tni,frn,vv,hlen,hin,hw⟩
    show wpAny _ _ ((compTurn (.ListComp elt [⟨tg,iter,[tst],0⟩] scope pos) 0 (.ref it) (.ref s2.heap.objs.size) (compEnvC scope (clsOf X scope) g3.objs.size X.env)).onRaise (fun x=>do noteFrame x (compEnvC scope (clsOf X scope) g3.objs.size X.env);theTreesLotGoes x)) _ _ s'
    refine wpAny_noted ?_
    rw [compTurn_list]
    have fpok:=yfp (o:=lstO its cnt) frn
    rcases turn i ysV H' hin hlen hw with ⟨stop,hfin⟩ | ⟨hlt,go,step⟩
    · refine wpAny_bind (wpAny_standAt (wpAny_bind (thn (Q:=fun r s1=>r=none∧Inv Y [(s2.heap.objs.size,lstO its cnt)] (os ++ caught σ caps) H' s1) ?_ fun r s1 ⟨hr,I1⟩=>?_)))
      · have:=T.done Y yP yW yK yC i _ s' _ H' (notedBy (model X.prog X.w) X.A (compEnvC scope (clsOf X scope) g3.objs.size X.env) fun e s'=>RR (.ref s2.heap.objs.size) g3.objs.size (.error e) s') I' fpok tni stop
        rw [yA] at this
        exact this
      · subst hr
        refine wpAny_pure ?_
        obtain ⟨ub,uo⟩:=ybase I1
        obtain ⟨m,hm,_⟩:=I1.loc
        obtain ⟨p1,p2,_⟩:=I1.pin (s2.heap.objs.size,lstO its cnt) (List.mem_append_right _ List.mem_cons_self)
        have hok:HOk X.prog X.w H' s1.heap:=by have:=I1.hok;rw [yP,yW] at this;exact this
        have hCf:=I1.free
        rw [yE] at hm hCf
        refine hRR g3.objs.size ysV its cnt H' s1 m hC (I3.call' uo ub hok I1.bare hch) p2 hCf vv (by omega) p1 hm hfin
    · refine wpAny_bind (wpAny_standAt (wpAny_bind (thn (Q:=fun r s1=>∃ u,r=some u∧wpAny (model X.prog X.w) X.A (letOwnedTupleGo tg (.ref it) u) (fun _ s5=>∃ x H5,Inv Y [(s2.heap.objs.size,lstO its cnt)] (os ++ caught σ caps) H5 s5∧RelV x u∧J.yld i H' x H5∧tn (i+1) s5.heap∧∀ b∈fp,H5 b=none)
          (notedBy (model X.prog X.w) X.A (compEnvC scope (clsOf X scope) g3.objs.size X.env) fun e s'=>RR (.ref s2.heap.objs.size) g3.objs.size (.error e) s') s1) ?_ fun r s1 ⟨u,hr,h4⟩=>?_)))
      · have:=T.item Y yP yW yK yC i _ s' _ H' (notedBy (model X.prog X.w) X.A (compEnvC scope (clsOf X scope) g3.objs.size X.env) fun e s'=>RR (.ref s2.heap.objs.size) g3.objs.size (.error e) s') I' fpok tni go
        rw [yA] at this
        exact this
      · subst hr
        refine wpAny_bind (thn h4 fun _ s5 ⟨xv,H5,I5,r5,y5,st5,fr5⟩=>?_)
        have I5':=I5.pinned (yfp fr5) (T.obj _ _ st5)
        have sto:=yhg _ s5 _ H5 xv u _ I5' r5 (step xv H5 y5 os hos)
        rw [yP,yW,yA,yE] at sto
        refine wpAny_bind (nxE yX sto fun _ s6 ⟨σ6,H6,I6,⟨os',hos',e6⟩,t6⟩=>?_)
        subst e6
        have tv:=yht _ s6 _ H6 _ I6 t6
        rw [yP,yW,yA,yE] at tv
        refine wpAny_bind (wpAny_tests_one (nxE yX tv fun ok s6' ⟨H7,I6',w6⟩=>?_))
        have hil:=vv.length
        cases ok with
        | false =>
          rw [if_neg Bool.false_ne_true] at w6
          rw [if_neg Bool.false_ne_true]
          obtain ⟨zD,hD7,hDl7,hDf7,_⟩:=I6'.pin (s2.heap.objs.size,lstO its cnt) (List.mem_append_right _ (List.mem_append_left _ List.mem_cons_self))
          have I9:Inv Y [(s2.heap.objs.size,lstO its cnt)] (os' ++ caught σ caps) H7 s6':=I6'.pins_of fun p hp=>by
            have e:p=(s2.heap.objs.size,lstO its cnt):=by simpa using hp
            subst e
            exact ⟨zD,hD7,hDl7,hDf7,(fun v z=>nomatch z)⟩
          refine wpAny_pure ⟨rfl,n0+1 - (i+1),by omega,i+1,ysV,its,cnt,H7,os',hos',rfl,I9,?_,?_,vv,by omega,hlt,w6⟩
          · refine T.keep _ _ _ st5 fun b hb ob e=>?_
            exact (I6'.pin (b,ob) (List.mem_append_right _ (List.mem_append_right _ (mem_pinsAt hb e)))).1
          · intro b hb
            obtain ⟨ob,e,_⟩:=T.obj _ _ st5 b hb
            exact (I6'.pin (b,ob) (List.mem_append_right _ (List.mem_append_right _ (mem_pinsAt hb e)))).2.1
        | true =>
          rw [if_pos rfl] at w6
          rw [if_pos rfl]
          have ev:=yhe _ s6' _ H7 _ I6' w6
          rw [yP,yW,yA,yE] at ev
          refine wpAny_bind (wpAny_bind (nxE yX ev fun yv s7 ⟨y,H8,I7,r7,w7⟩=>?_))
          obtain ⟨zD,hD7,hDl7,hDf7,_⟩:=I7.pin (s2.heap.objs.size,lstO its cnt) (List.mem_append_right _ (List.mem_append_left _ List.mem_cons_self))
          refine wpAny_bind (append_at zD (fun h8 sb8 d8=>wpAny_pure (wpAny_pure ⟨rfl,?_⟩)) (by rw [List.size_toArray];omega))
          have I7':Inv Y [] (os' ++ caught σ caps) H8 s7:=I7.pins_of fun p hp=>nomatch hp
          have I8:Inv Y [] (os' ++ caught σ caps) H8 { s7 with heap:=h8 }:=I7'.turned (t':=s7.toks) (fun b ob hb e=>(sb8.2 b hb).trans e) hD7 hDl7 (.inl (by rw [yex];exact List.mem_cons_self)) (fun y c e=>hDc y c (ycl y c e)) (fun p hp=>by
            rw [ypn,List.append_nil] at hp
            exact hDp p hp)
          have I9:Inv Y [(s2.heap.objs.size,lstO (its ++ [yv]) (cnt+1))] (os' ++ caught σ caps) H8 { s7 with heap:=h8 }:=I8.pins_of fun p hp=>by
            have e:p=(s2.heap.objs.size,lstO (its ++ [yv]) (cnt+1)):=by simpa using hp
            subst e
            refine ⟨?_,hD7,hDl7,hDf7,fun v z=>nomatch z⟩
            show h8.get? s2.heap.objs.size=some { cls:=.type "list",data:=.seq (its ++ [yv]).toArray (cnt+1) }
            rw [d8,List.push_toArray]
          refine ⟨n0+1 - (i+1),by omega,i+1,ysV ++ [y],its ++ [yv],cnt+1,H8,os',hos',rfl,I9,?_,?_,vv.append (.cons r7 .nil),by rw [List.length_append];show ysV.length+1≤i+1;omega,hlt,w7⟩
          · refine T.keep _ _ _ st5 fun b hb ob e=>(sb8.2 b (Nat.ne_of_lt (hfl b hb))).trans ?_
            exact (I7.pin (b,ob) (List.mem_append_right _ (List.mem_append_right _ (mem_pinsAt hb e)))).1
          · intro b hb
            obtain ⟨ob,e,_⟩:=T.obj _ _ st5 b hb
            exact (I7.pin (b,ob) (List.mem_append_right _ (List.mem_append_right _ (mem_pinsAt hb e)))).2.1
  exact codeAny_compStart_list (loop _ rfl) (T.self _ 0 _ _ _ st4 (loop _ rfl))
theorem pe_compGI {wi:TI} {FS:Scope} {N:List Str} (S0:CompStG FS scope N xs ys caps) (hFS:X.env.scope=FS) (hN0:X.N=N) (hcalm:X.calm=true) (hi:PI X tg iter wi) (hg:∀ s H ex pn,PG (cxComp X scope (xs ++ ys) s H ex pn) tg g) (hT:∀ s H ex pn,PT (cxComp X scope (xs ++ ys) s H ex pn) tst tt) (he:∀ s H ex pn,PE (cxComp X scope (xs ++ ys) s H ex pn) elt te)
    (hs:∀ v,foldedSetIterable iter X.env v=pure v:=by intro _;rfl):PE X (.ListComp elt [⟨tg,iter,[tst],0⟩] scope pos) (tCompGI wi xs.length caps g tt te):=by
  have S:CompStG X.env.scope scope X.N xs ys caps:=by rw [hFS,hN0];exact S0
  intro pins s σ H Q I h
  rw [eval_ListComp]
  refine wpAny_comprehension_free (use:=none) rfl hs (closureFor_eq (S.cells I)) S.kind S.names (thn (hi pins s σ H _ I h) fun v s1 h1=>thn h1 fun itv s2 h2=>?_)
  obtain ⟨it,fp,tn,J,H2,rfl,I2,T,st2,f2,rd⟩:=h2
  refine compGI_run (RR:=fun acc C=>compPost (model X.prog X.w) X.A X.xe none (EP X pins σ Q) acc C) hcalm S hg hT he I2 T st2 f2 rd ?_
  intro C ysV its n H8 s8 m hC I8 hD hC8 vv hz oD hn fin
  refine ⟨m,hn,fun h' sb=>?_⟩
  have sz:=I2.sz
  have lt:=I2.lt
  have ap:∀ b:Addr,b < s2.heap.objs.size→b≠C∧C≠b:=fun b hb=>by
    subst hC
    exact ⟨Nat.ne_of_lt (Nat.lt_succ_of_lt hb),Nat.ne_of_gt (Nat.lt_succ_of_lt hb)⟩
  have szC:X.s₀.heap.objs.size≤C:=by subst hC;exact Nat.le_succ_of_le sz
  have DC:s2.heap.objs.size≠C:=by subst hC;exact Nat.ne_of_lt (Nat.lt_succ_self _)
  have cl:∀ y c,X.env.cells.lookup y=some c→c < s2.heap.objs.size:=fun y c e=>by
    obtain ⟨w',z⟩:=I2.cell y c e
    exact z.lt
  have pl:∀ p∈X.pn ++ pins,p.1 < s2.heap.objs.size:=fun p hp=>Heap.lt_size (I2.pin p hp).1
  have I9:Inv X pins σ H8 { s8 with heap:=h' }:=I8.turned (t':=s8.toks) (fun b o hb e=>(sb.2 b hb).trans e) hC8 (ap _ lt).2 (.inr szC) (fun y c e=>(ap c (cl y c e)).1) (fun p hp=>(ap p.1 (pl p hp)).1)
  have oD':h'.get? s2.heap.objs.size=some (lstO its n):=(sb.2 _ DC).trans oD
  exact ⟨.ref s2.heap.objs.size,upd H8 s2.heap.objs.size (.lst ysV),I9.adopt hD sz (Nat.ne_of_gt lt) (fun y c e=>Nat.ne_of_lt (cl y c e)) (fun p hp=>Nat.ne_of_lt (pl p hp)) ⟨hz,its,n,vv,oD'⟩,rfl,fin _ hD⟩
end
theorem compGI_zip {K:PySem.W.Frag} {a b:Addr} {xs ys:List V} {σ:St} {k:Nat} {caps:List Nat} {g:TG} {tt:TT} {te:TE} {H1:Hp} {fin:List V→Hp→Prop} (W:Nat→List V→Hp→Prop) (hz:xs.length≤sizeLine) (he:xs.length=ys.length) (h0:W 0 [] H1) (hl:∀ i zs H,i≤xs.length→W i zs H→SqL K H a xs∧SqL K H b ys)
    (hs:∀ i x y p zs H,xs[i]?=some x→ys[i]?=some y→zs.length≤i→W i zs H→H p=none→∀ os:St,os.length=k→g (.ref p) (os ++ caught σ caps) (upd H p (.tup [x,y])) fun σ2 H4=>(∃ os':St,os'.length=k∧σ2=os' ++ caught σ caps)∧tt σ2 H4 fun b H5=>if b=true then te σ2 H5 fun z H6=>W (i+1) (zs ++ [z]) H6 else W (i+1) zs H5)
    (hd:∀ zs H,W xs.length zs H→fin zs H):CompRdGI (Itz K a b) σ k caps g tt te H1 fin:=by
  refine ⟨xs.length,W,hz,h0,fun i zs H2 hi hy hw=>?_⟩
  obtain ⟨q,r⟩:=hl i zs H2 hi hw
  by_cases hlt:i < xs.length
  · have hlt2:i < ys.length:=by omega
    refine .inr ⟨hlt,⟨xs,xs[i],ys,ys[i],q,by simp [hlt],r,by simp [hlt2]⟩,fun x H3 y os ho=>?_⟩
    obtain ⟨pp,x',y',e1,e2,e3,y1,y2⟩:=y
    subst e1 e3
    exact hs i x' y' pp zs _ (y1 xs q) (y2 ys r) hy hw e2 os ho
  · have e:i=xs.length:=by omega
    subst e
    exact .inl ⟨⟨xs,ys,q,r,.inl (Nat.le_refl _)⟩,hd zs H2 hw⟩
theorem comp_rngI {lo:Int} {n:Nat} {σ:St} {caps:List Nat} {tt:TT} {te:TE} {H1:Hp} {fin:List V→Hp→Prop} (W:Nat→List V→Hp→Prop) (hz:n≤sizeLine) (h0:W 0 [] H1)
    (hs:∀ i ys H,i < n→ys.length≤i→W i ys H→tt (some (.int (lo+i)) :: caught σ caps) H fun b H4=>if b=true then te (some (.int (lo+i)) :: caught σ caps) H4 fun y H5=>W (i+1) (ys ++ [y]) H5 else W (i+1) ys H4)
    (hd:∀ ys H,W n ys H→fin ys H):CompRdI (Itr lo n) σ caps tt te H1 fin:=by
  refine ⟨n,W,hz,h0,fun i ys H2 hi hy hw=>?_⟩
  by_cases hlt:i < n
  · refine .inr ⟨hlt,hlt,fun x H3 y=>?_⟩
    obtain ⟨e1,e2⟩:=y
    subst e1 e2
    exact hs i ys _ hlt hy hw
  · have e:i=n:=by omega
    subst e
    exact .inl ⟨Nat.le_refl _,hd ys H2 hw⟩
end L2
namespace L2
open PySem PySem.Spec PyProof.Rows
theorem args_maxD (a d:Value):argsOk "max" ⟨[a],[("default",d)]⟩:=by unfold argsOk;kernel_rfl
section
variable {prog:Program} {w:World} {A:Around} {E:Value→Shared→Prop} {s:Shared}
theorem call_treeK {id:String} {b:Builtin} {args:List Value} {kw:List (Str×Value)} {Q:Value→Shared→Prop} (kind:builtinKind id=none) (plain:plainId id=true) (ent:entryFor table id=some b) (ok:argsOk id ⟨args,kw⟩)
    (run:wpAny (model prog w) A.in1 (b ⟨args,kw⟩) (fun fin z=>match fin with
      | .done g=>(match (Except.ok g:Result) with | .ok (.ret u)=>Q u z | .ok _=>False | .error e=>E e z)
      | .again k=>k.quiet=true∧codeAny (model prog w) A k (fun r y=>match r with | .ok (.ret u)=>Q u y | .ok _=>False | .error e=>E e y) z) E s) :
    wpAny (model prog w) A (call (.builtin id) args kw) Q E s:=by
  refine wpAny_call (codeAny_call_builtin plain ent ?_)
  simp only [checkBuiltinCall,kind]
  cases sig:Manifest.signature? id with
  | none=>exact wpAny_pure run
  | some g =>
    have ok':Bind.checkArgs id g ⟨args,kw⟩=pure ():=by simpa only [argsOk,sig] using ok
    simp only [ok']
    exact wpAny_pure run
theorem call_maxD {l:Addr} {xs:Array (Int×Tok)} {d:Value} {Q:Value→Shared→Prop} (calm:A.handled=none) (hl:s.heap.IsList l (intItems xs))
    (f0:xs.size=0→∀ h' tk,(∀ b o,s.heap.get? b=some o→h'.get? b=some o)→Q d { s with heap:=h',toks:=tk })
    (f1:0 < xs.size→∀ v h' tk,(intItems xs)[argBest (fun i j=>decide (numAt xs i > numAt xs j)) (xs.size - 1)]?=some v→(∀ b o,s.heap.get? b=some o→h'.get? b=some o)→Q v { s with heap:=h',toks:=tk }) :
    wpAny (model prog w) A (call (.builtin "max") [.ref l] [("default",d)]) Q E s:=by
  have nm:(toString "max" ++ toString ".loop" : String)="max.loop":=by decide
  have sz:(intItems xs).size=xs.size:=by simp [intItems]
  refine call_treeK PySem.F.kind_max PySem.F.plain_max PySem.F.entry_max (args_maxD _ _) ?_
  show wpAny _ A.in1 (Builtin.Builtins.bindParams "max" ["key", "default"] 0 ⟨[],[("default",d)]⟩ >>= _) _ _ s
  refine wpAny_bind (wpAny_of_eq (show Builtin.Builtins.bindParams "max" ["key", "default"] 0 ⟨[],[("default",d)]⟩=pure [none,some d] from rfl) ?_)
  refine wpAny_bind (wpAny_pure (wpAny_bind (iter_intList hl fun s₂ e st fpo lI=>?_)))
  subst e
  refine wpAny_bind (wpAny_newObj_type ?_)
  rw [nm]
  have W:=Walks.list (prog:=prog) (w:=w) (A:=A.in1) calm _ l lI (intItems xs)
  refine wpAny_pure ⟨plainId_quiet PySem.F.plain_max_loop _,max_startD W _ (CmpOf.ints_gt (numAt xs) (fun _ _=>intItems_at)) _ (fun z=>Nat.lt_irrefl _ (fpo _ z)) d (W.frame _ _ _ st fun b _ o e=>Heap.get?_push_of_some _ e) (Heap.get?_push_size _ rfl) (fun n0 h' tk keep=>?_) fun n1 v h' tk pv keep=>?_⟩
  · refine f0 (by rw [← sz];exact n0) h' tk (old_kept fun b o bw e=>keep b o bw (Nat.ne_of_lt (Heap.lt_size e)) (Heap.get?_push_of_some _ e))
  · rw [sz] at n1 pv
    refine f1 n1 v h' tk pv (old_kept fun b o bw e=>keep b o bw (Nat.ne_of_lt (Heap.lt_size e)) (Heap.get?_push_of_some _ e))
end
noncomputable def tMaxD (K:PySem.W.Frag) (t:TA) (d:TE):TE:=fun σ H Q=>t σ H fun vs H1=>∃ x,vs=[x]∧d σ H1 fun y H2=>∃ p ns,x=.ref p∧SqL K H2 p (List.map V.int ns)∧(ns=[]→Q y H2)∧(ns≠[]→∀ M,M∈ns→(∀ a∈ns,a≤M)→Q (.int M) H2)
noncomputable def tTru (K:PySem.W.Frag) (t:TE):TT:=fun σ H Q=>t σ H fun x H'=>∃ k,TruV K x H' k∧Q k H'
section
variable {X:Cx}
theorem pe_maxD {e d:Expr} {ta:TA} {td:TE} {p kp pos:Pos} (calm:X.calm=true) (hg:Gl X "max") (hm:X.mg "max" = none) (ha:PA X [e] ta) (hd:PE X d td)
    (h1:backTo pos (starEach [e] X.env)=(false,eval e X.env) :: backTo pos (starEach [] X.env):=by rfl) (h2:(backTo pos (starEach [e] X.env)).any (·.1)=false:=by rfl):PE X (.Call (.Name "max" p) [e] [⟨some "default",d,kp⟩] pos) (tMaxD X.K ta td):=by
  intro pins s σ H Q I h
  refine wpAny_Call_Name_kw (ld_blt I hg hm bt_max ?_ (by decide) (by decide))
  refine callWith_kw ?_ h1 h2
  refine thn (ha pos pins s σ H _ I h) fun us s1 z=>?_
  obtain ⟨vs,H1,I1,r1,x,rfl,q1⟩:=z
  obtain ⟨u,rfl,ru⟩:=vals1 r1
  refine kws_cons (thn (hd pins s1 σ H1 _ I1 q1) fun v s2 ⟨y,H2,I2,ry,l,ns,ex,hp,q0,q2⟩=>kws_nil ?_)
  subst ex
  cases ru
  obtain ⟨its,rv,pl,hz⟩:=I2.list hp
  obtain ⟨ps,e1,e2⟩:=rv.ints
  have hl:ps.length=ns.length:=by rw [← e2,List.length_map]
  have ei:its.toArray=intItems ps.toArray:=by rw [e1];unfold intItems;simp
  have pl':=pl.isList
  rw [ei] at pl'
  refine call_maxD (I2.ok.hd calm) pl' (fun n0 h' tk keep=>?_) fun n1 w h' tk hw keep=>?_
  · rw [List.size_toArray] at n0
    exact ⟨y,H2,I2.kept keep,ry,q0 (List.length_eq_zero_iff.mp (by omega))⟩
  · obtain ⟨t,rfl⟩:=intItems_at hw
    obtain ⟨g1,g2⟩:=argBest_gt (numAt ps.toArray) (ps.toArray.size - 1)
    rw [List.size_toArray] at g1 g2 n1 ⊢
    obtain ⟨M,m1,m2⟩:=numAt_of e2 (argBest (fun i j=>decide (numAt ps.toArray i > numAt ps.toArray j)) (ps.length - 1)) (by omega)
    rw [m2] at g2 ⊢
    refine ⟨.int M,H2,I2.kept keep,⟨_,rfl⟩,q2 (fun z=>by rw [z,List.length_nil] at hl;omega) M (List.mem_of_getElem? m1) fun a ha=>?_⟩
    obtain ⟨j,hj,ej⟩:=List.getElem_of_mem ha
    obtain ⟨n,n1',n2⟩:=numAt_of e2 j hj
    rw [List.getElem?_eq_getElem hj,ej] at n1'
    cases n1'
    rw [← n2]
    exact g2 j (by omega)
theorem pe_globI {x:Str} {n:Int} {pos:Pos} (hg:Gl X x) (hm:∃ t,X.mg x=some (.int n t)) (hd:(x == ("__debug__" : Str))=false:=by decide):PE X (.Name x pos) (tC (.int n)) :=
  let ⟨t,e⟩:=hm
  pe_glob (v:=.int n) hg e ⟨t,rfl⟩ hd
end
end L2
namespace L2
open PySem PySem.Spec PySem.Calls PyProof.Rows PySem.W PySem.W.X in
theorem walk_x {q:Program} {loose:List Str} {XP:(Str→Option Value)→Heap→Prop} {K:Params→PySem.W.Frag} {as:List Addr} {n t:Nat} {r:PySem.W.RowW} {d:DefRec} {kwd:List (Str×Expr)} {run:Value→List Value→Sem Value}
    (e:∀ P,as=(K P).map (·.1)) (W:PySem.W.WalkO q loose XP (fun w h=>(K w.params).In h) r d kwd run):WalkX q loose XP (obsZ as) (valZ K n t) r d kwd run :=
  fun w s₀ s₁ mg mb G y a o pm cd doc dV kV h1 h2 h3 h4 h5 h6 args vals as' L h7 h8 h9 h10 h11 =>
    W w s₀ s₁ mg mb G (InK.keeps w _ _ (z_facts e y).2.1 L.keeps) a o pm cd doc dV kV h1 h2 h3 h4 h5 h6 args vals as' h7 h8 h9 h10 h11
end L2

set_option Elab.async false
set_option maxRecDepth 100000
set_option maxHeartbeats 4000000
set_option linter.all false
namespace My
open PySem L2
theorem sz0:0≤sizeLine:=by decide
theorem sz1:1≤sizeLine:=by decide
theorem sz2:2≤sizeLine:=by decide
theorem sz3:3≤sizeLine:=by decide
theorem Lq0 {α:Type} {a:α} {l:List α}:(a::l)[0]?=some a:=rfl
theorem Lq1 {α:Type} {a:α} {l:List α} {i:Nat}:(a::l)[i+1]?=l[i]?:=rfl
theorem Ls0 {α:Type} {a b:α} {l:List α}:(a::l).set 0 b=b::l:=rfl
theorem Ls1 {α:Type} {a b:α} {l:List α} {i:Nat}:(a::l).set (i+1) b=a::l.set i b:=rfl
theorem Lca {α:Type} {a:α} {l k:List α}:a::l++k=a::(l++k):=rfl
theorem Lna {α:Type} {k:List α}:[]++k=k:=rfl
local macro_rules | `(tactic| dsimp! [$xs,*]) => `(tactic| (try dsimp only [$xs,*, Lq0, Lq1, Ls0, Ls1, exI_lit, exB_lit, exR_lit]; try simp only [$xs,*, Lq0, Lq1, Ls0, Ls1, Option.some.injEq, exists_eq_left', V.int.injEq, V.ref.injEq, V.bl.injEq, List.cons.injEq, and_true, true_and, exists_and_left, exists_eq_left, and_assoc, exI_lit, exB_lit, exR_lit, exI_ex, exB_ex, exR_ex]))
local macro_rules | `(tactic| dsimp? [$xs,*]) => `(tactic| dsimp only [$xs,*, tSeq, tAsg, gName, tVar, tC, tOp, tUn, rI0, rI, rU, rAddI, rSubI, rMulI, rDivI, rDivC, rModI, rPowI, rNegI, rLtI, rLeI, rGtI, rGeI, rEq, rNe, scal_ii, tRet, tIfS, tTest, tB, tNot, tNext, tCall, tCons, tNil, tTup, tLst, tCB, cAbs, cLen, cIsB, tSl, tPart, tNoPart, rSlL, rIxL, rIxT, tAndV, tOrV, tAnd, tOr, tNotV, tPar, tNever, gTup, gCons, gNil, Lq0, Lq1, Ls0, Ls1, Lca, Lna, exI_lit, exB_lit, exR_lit])
local macro_rules | `(tactic| simp_arith [$xs,*]) => `(tactic| simp only [$xs,*, tSeq, tAsg, gName, tVar, tC, tOp, tUn, rI0, rI, rU, rAddI, rSubI, rMulI, rDivI, rDivC, rModI, rPowI, rNegI, rLtI, rLeI, rGtI, rGeI, rEq, rNe, scal_ii, tRet, tIfS, tTest, tB, tNot, tNext, tCall, tCons, tNil, tTup, tLst, tCB, cAbs, cLen, cIsB, tSl, tPart, tNoPart, rSlL, rIxL, rIxT, tAndV, tOrV, tAnd, tOr, tNotV, tPar, tNever, gTup, gCons, gNil, Lq0, Lq1, Ls0, Ls1, Option.some.injEq, exists_eq_left', exists_eq_left, V.int.injEq, V.ref.injEq, V.bl.injEq, V.ty.injEq, List.cons.injEq, and_true, true_and, List.append_nil, exists_and_left, decide_eq_true_eq, Lca, Lna, and_assoc, exI_lit, exB_lit, exR_lit, exI_ex, exB_ex, exR_ex])
theorem abs_eq (i:Int):(if i<0 then -i else i)=(i.natAbs:Int):=by split <;> omega
theorem atI_map {ns:List Int} {k:Int} (h0:0≤k) (h:k<(ns.length:Int)):atI (List.map V.int ns) k=some (.int (ns.getD k.toNat 0)):=by
 have hk:k.toNat<ns.length:=by omega
 have e:=atI_nat (xs:=List.map V.int ns) (j:=k.toNat) (v:=V.int (ns.getD k.toNat 0)) (by
  rw [List.getElem?_map,List.getElem?_eq_getElem hk,List.getD_eq_getElem?_getD,List.getElem?_eq_getElem hk];rfl)
 rwa [Int.toNat_of_nonneg h0] at e
theorem mod4 (c:Int):c % 4=0∨c % 4=1∨c % 4=2∨c % 4=3:=by omega
theorem mod2 (c:Int):c % 2=0∨c % 2=1:=by omega
theorem atI0 {α:Type} {a:α} {l:List α}:atI (a::l) 0=some a:=atI_nat (j:=0) rfl
theorem atI1 {α:Type} {a b:α} {l:List α}:atI (a::b::l) 1=some b:=atI_nat (j:=1) rfl
theorem atI2 {α:Type} {a b c:α} {l:List α}:atI (a::b::c::l) 2=some c:=atI_nat (j:=2) rfl
theorem atI3 {α:Type} {a b c d:α} {l:List α}:atI (a::b::c::d::l) 3=some d:=atI_nat (j:=3) rfl
structure Lo (t b x y:Int):Prop where
 pos:0<y
 cop:Int.gcd x y=1
 eq:x*b=t*y
 bx:x.natAbs≤t.natAbs
 by_:y.natAbs≤b.natAbs
theorem lo_of {t b g q r:Int} (hb:b≠0) (hg:g≠0) (ht:t=g*q) (hbr:b=g*r) (hr:0<r) (hc:Int.gcd q r=1):Lo t b (t.fdiv g) (b.fdiv g):=by
 have e1:t.fdiv g=q:=by rw [ht,Int.mul_fdiv_cancel_left _ hg]
 have e2:b.fdiv g=r:=by rw [hbr,Int.mul_fdiv_cancel_left _ hg]
 rw [e1,e2]
 have hg1:1≤g.natAbs:=by omega
 refine ⟨hr,hc,by rw [ht,hbr];rw [Int.mul_left_comm,Int.mul_assoc],?_,?_⟩
 ·rw [ht,Int.natAbs_mul];exact Nat.le_mul_of_pos_left _ hg1
 ·rw [hbr,Int.natAbs_mul];exact Nat.le_mul_of_pos_left _ hg1
theorem gcd_split {t b:Int} (hb:b≠0):∃ q r:Int,t=(Int.gcd t b:Nat)*q∧b=(Int.gcd t b:Nat)*r∧Int.gcd q r=1∧0<Int.gcd t b:=by
 have hp:0<Int.gcd t b:=Int.gcd_pos_of_ne_zero_right _ hb
 obtain ⟨q,hq⟩:=Int.gcd_dvd_left (a:=t) (b:=b)
 obtain ⟨r,hr⟩:=Int.gcd_dvd_right (a:=t) (b:=b)
 refine ⟨q,r,hq,hr,?_,hp⟩
 have e:Int.gcd t b=Int.gcd ((Int.gcd t b:Nat)*q) ((Int.gcd t b:Nat)*r):=by rw [← hq,← hr]
 rw [Int.gcd_mul_left,Int.natAbs_natCast] at e
 exact Nat.eq_of_mul_eq_mul_left hp (by rw [Nat.mul_one];exact e.symm)
theorem lo_pos {t b:Int} (hb:0<b):Lo t b (t.fdiv (Int.gcd t b:Nat)) (b.fdiv (Int.gcd t b:Nat)):=by
 obtain ⟨q,r,h1,h2,h3,h4⟩:=gcd_split (t:=t) (b:=b) (by omega)
 refine lo_of (q:=q) (r:=r) (by omega) (by omega) h1 h2 ?_ h3
 rcases Int.lt_trichotomy r 0 with h | h | h
 ·have:(Int.gcd t b:Int)*r<0:=Int.mul_neg_of_pos_of_neg (by omega) h
  omega
 ·rw [h,Int.mul_zero] at h2;omega
 ·exact h
theorem lo_neg {t b:Int} (hb:b<0):Lo t b (t.fdiv (-(Int.gcd t b:Nat))) (b.fdiv (-(Int.gcd t b:Nat))):=by
 obtain ⟨q,r,h1,h2,h3,h4⟩:=gcd_split (t:=t) (b:=b) (by omega)
 refine lo_of (q:=-q) (r:=-r) (by omega) (by omega) (by rw [Int.neg_mul_neg];exact h1) (by rw [Int.neg_mul_neg];exact h2) ?_ (by rw [Int.gcd,Int.natAbs_neg,Int.natAbs_neg];exact h3)
 rcases Int.lt_trichotomy r 0 with h | h | h
 ·omega
 ·rw [h,Int.mul_zero] at h2;omega
 ·have:(Int.gcd t b:Int)*r > 0:=Int.mul_pos (by omega) h
  omega
noncomputable def intO:Option V→Int
 | some (.int i)=>i
 | _=>0
noncomputable def FrsAt (K:W.Frag) (H:Hp):List Addr→List (Int×Int)→Prop
 | [],[]=>True
 | p::ps,f::fs=>SqT K H p [.int f.1,.int f.2]∧FrsAt K H ps fs
 | _,_=>False
theorem FrsAt.same {K:W.Frag} {H H':Hp} (s:Same H H'):∀ {ps:List Addr} {fs:List (Int×Int)},FrsAt K H ps fs→FrsAt K H' ps fs
 | [],[],_=>trivial
 | _::_,_::_,h=>⟨s.tup h.1,h.2.same s⟩
 | [],_::_,h=>h.elim
 | _::_,[],h=>h.elim
theorem FrsAt.length {K:W.Frag} {H:Hp}:∀ {ps:List Addr} {fs:List (Int×Int)},FrsAt K H ps fs→ps.length=fs.length
 | [],[],_=>rfl
 | _::_,_::_,h=>by rw [List.length_cons,List.length_cons,h.2.length]
 | [],_::_,h=>h.elim
 | _::_,[],h=>h.elim
theorem FrsAt.get {K:W.Frag} {H:Hp}:∀ {ps:List Addr} {fs:List (Int×Int)} {i:Nat} {p:Addr},FrsAt K H ps fs→ps[i]?=some p→∃ f,fs[i]?=some f∧SqT K H p [.int f.1,.int f.2]
 | [],[],_,_,_,e=>by simp at e
 | _::_,f::_,0,_,h,e=>by simp at e;subst e;exact ⟨f,rfl,h.1⟩
 | _::_,_::_,i+1,_,h,e=>by
  obtain ⟨f,e1,e2⟩:=h.2.get (i:=i) (by simpa using e)
  exact ⟨f,by simpa using e1,e2⟩
 | [],_::_,_,_,h,_=>h.elim
 | _::_,[],_,_,h,_=>h.elim
theorem FrsAt.set {K:W.Frag} {H:Hp} {q:Addr} {g:Int×Int} (hq:SqT K H q [.int g.1,.int g.2]):∀ {ps:List Addr} {fs:List (Int×Int)} (i:Nat),FrsAt K H ps fs→FrsAt K H (ps.set i q) (fs.set i g)
 | [],[],_,_=>trivial
 | _::_,_::_,0,h=>⟨hq,h.2⟩
 | _::_,_::_,i+1,h=>⟨h.1,FrsAt.set hq i h.2⟩
 | [],_::_,_,h=>h.elim
 | _::_,[],_,h=>h.elim
theorem FrsAt.append {K:W.Frag} {H:Hp} {qs:List Addr} {gs:List (Int×Int)} (hq:FrsAt K H qs gs):∀ {ps:List Addr} {fs:List (Int×Int)},FrsAt K H ps fs→FrsAt K H (ps++qs) (fs++gs)
 | [],[],_=>hq
 | _::_,_::_,h=>⟨h.1,FrsAt.append hq h.2⟩
 | [],_::_,h=>h.elim
 | _::_,[],h=>h.elim
theorem FrsAt.off {K:W.Frag} {H:Hp} {r:Addr} {ys zs:List V} (hr:H r=some (.lst ys)):∀ {ps:List Addr} {fs:List (Int×Int)},FrsAt K H ps fs→FrsAt K (upd H r (.lst zs)) ps fs
 | [],[],_=>trivial
 | _::_,_::_,h=>⟨h.1.off hr,h.2.off hr⟩
 | [],_::_,h=>h.elim
 | _::_,[],h=>h.elim
theorem get_refs {ps:List Addr} {i:Nat} {x:V} (h:(List.map V.ref ps)[i]?=some x):∃ p,x=.ref p∧ps[i]?=some p:=by
 rw [List.getElem?_map] at h
 cases e:ps[i]? with
 | none=>rw [e] at h;cases h
 | some z=>rw [e] at h;exact ⟨z,(Option.some.inj h).symm,rfl⟩
theorem get_ints {ns:List Int} {i:Nat} {x:V} (h:(List.map V.int ns)[i]?=some x):∃ c,x=.int c∧ns[i]?=some c:=by
 rw [List.getElem?_map] at h
 cases e:ns[i]? with
 | none=>rw [e] at h;cases h
 | some z=>rw [e] at h;exact ⟨z,(Option.some.inj h).symm,rfl⟩
theorem take_snoc {α:Type} {l:List α} {i:Nat} {x:α} (h:l[i]?=some x):l.take (i+1)=l.take i++[x]:=by
 rw [List.take_succ,h];rfl
noncomputable def WEq (H:Hp) (P:Nat→List V→Prop):Nat→List V→Hp→Prop:=λ i zs H5=>H5=H∧P i zs
noncomputable def SEq (H:Hp) (P:Nat→St→Prop):Nat→St→Hp→Prop:=λ i σ H5=>H5=H∧P i σ
noncomputable def glf (g n:Int):Int:=((Int.gcd g n:Nat):Int)
noncomputable def gl (ns:List Int):Int:=ns.foldl glf 0
theorem gl_snoc {ns:List Int} {i:Nat} {c:Int} (h:ns[i]?=some c):gl (ns.take (i+1))=glf (gl (ns.take i)) c:=by
 unfold gl;rw [take_snoc h,List.foldl_append];rfl
theorem glf_one:∀ l:List Int,l.foldl glf 1=1
 | []=>rfl
 | a::r=>by
  have e:glf 1 a=1:=by unfold glf;rw [Int.gcd];simp
  rw [List.foldl_cons,e];exact glf_one r
theorem gl_one {ns:List Int} {i:Nat} (h:gl (ns.take i)=1):gl ns=1:=by
 unfold gl at h ⊢
 rw [← List.take_append_drop i ns,List.foldl_append,h]
 exact glf_one _
theorem glf_nonneg:∀ (l:List Int) (g:Int),0≤g→0≤l.foldl glf g
 | [],_,h=>h
 | a::r,g,_=>by rw [List.foldl_cons];exact glf_nonneg r _ (by unfold glf;omega)
theorem gl_nonneg (ns:List Int):0≤gl ns:=glf_nonneg ns 0 (by decide)
theorem glf_dvd:∀ (l:List Int) (g:Int),l.foldl glf g∣g∧∀ n∈l,l.foldl glf g∣n
 | [],g=>⟨Int.dvd_refl _,λ _ h=>nomatch h⟩
 | a::r,g=>by
  rw [List.foldl_cons]
  obtain ⟨h1,h2⟩:=glf_dvd r (glf g a)
  have d1:glf g a∣g:=Int.gcd_dvd_left (a:=g) (b:=a)
  have d2:glf g a∣a:=Int.gcd_dvd_right (a:=g) (b:=a)
  refine ⟨Int.dvd_trans h1 d1,λ n hn=>?_⟩
  rcases List.mem_cons.mp hn with rfl | hn
  ·exact Int.dvd_trans h1 d2
  ·exact h2 n hn
theorem gl_dvd {ns:List Int} {n:Int} (h:n∈ns):gl ns∣n:=(glf_dvd ns 0).2 n h
theorem glf_zero:∀ (l:List Int),(∀ n∈l,n=0)→l.foldl glf 0=0
 | [],_=>rfl
 | a::r,h=>by
  rw [List.foldl_cons,h a List.mem_cons_self]
  exact glf_zero r λ n hn=>h n (List.mem_cons_of_mem _ hn)
theorem gl_bb {m:Nat} {ns:List Int} (h:∀ n∈ns,BB m n):BB m (gl ns):=by
 by_cases hz:∃ n∈ns,n≠0
 ·obtain ⟨n,hn,n0⟩:=hz
  refine (h n hn).of_le (Nat.le_of_dvd (by omega) (Int.natAbs_dvd_natAbs.mpr (gl_dvd hn)))
 ·have:gl ns=0:=glf_zero ns λ n hn=>Classical.byContradiction λ c=>hz ⟨n,hn,c⟩
  rw [this]
  unfold BB
  exact Nat.two_pow_pos _
noncomputable def plainL (ns:List Int):List Int:=if gl ns<2 then ns else ns.map λ n=>n.fdiv (gl ns)
theorem plainL_length (ns:List Int):(plainL ns).length=ns.length:=by
 unfold plainL;split
 ·rfl
 ·rw [List.length_map]
theorem plainL_get {ns:List Int} {i:Nat} {n:Int} (h:ns[i]?=some n):∃ t,(plainL ns)[i]?=some t∧t*(if 1 > gl ns then 1 else gl ns)=n:=by
 have g0:=gl_nonneg ns
 have hm:n∈ns:=List.mem_of_getElem? h
 unfold plainL
 by_cases h2:gl ns<2
 ·rw [if_pos h2]
  refine ⟨n,h,?_⟩
  have:(if 1 > gl ns then (1:Int) else gl ns)=1:=by split <;> omega
  rw [this,Int.mul_one]
 ·rw [if_neg h2,if_neg (by omega)]
  refine ⟨n.fdiv (gl ns),by rw [List.getElem?_map,h];rfl,?_⟩
  obtain ⟨z,hz⟩:=gl_dvd hm
  have e:n.fdiv (gl ns)=z:=by
   conv=>lhs;rw [hz]
   exact Int.mul_fdiv_cancel_left _ (by omega)
  rw [e,Int.mul_comm];exact hz.symm
theorem plainL_bb {m:Nat} {ns:List Int} (h:∀ n∈ns,BB m n):∀ n∈plainL ns,BB m n:=by
 intro t ht
 obtain ⟨i,hi⟩:=List.getElem?_of_mem ht
 have hlt:i<ns.length:=by rw [← plainL_length];exact (List.getElem?_eq_some_iff.mp hi).1
 obtain ⟨t',e1,e2⟩:=plainL_get (List.getElem?_eq_getElem hlt)
 rw [hi] at e1
 obtain rfl:t=t':=Option.some.inj e1
 refine (h _ (List.getElem_mem hlt)).of_le ?_
 rw [← e2,Int.natAbs_mul]
 have g0:=gl_nonneg ns
 refine Nat.le_mul_of_pos_right _ ?_
 split <;> omega
theorem ixN_int {n:Nat} {k:Int} (h0:0≤k) (h:k<n):ixN n k=some k.toNat:=by
 unfold ixN
 rw [if_pos h0,if_pos h]
noncomputable def lcf (n:Int) (f:Int×Int):Int:=n*(f.2.fdiv ((Int.gcd n f.2:Nat):Int))
noncomputable def lc (fs:List (Int×Int)):Int:=fs.foldl lcf 1
noncomputable def clr (fs:List (Int×Int)):List Int:=fs.map λ f=>f.1*((lc fs).fdiv f.2)
theorem lc_snoc {fs:List (Int×Int)} {i:Nat} {f:Int×Int} (h:fs[i]?=some f):lc (fs.take (i+1))=lcf (lc (fs.take i)) f:=by
 unfold lc;rw [take_snoc h,List.foldl_append];rfl
theorem lcf_ok {n:Int} {f:Int×Int} (hn:0<n) (hb:0<f.2):0<lcf n f∧n∣lcf n f∧f.2∣lcf n f∧(∀ M,n∣M→f.2∣M→lcf n f∣M)∧(f.2.fdiv ((Int.gcd n f.2:Nat):Int)).natAbs≤f.2.natAbs:=by
 obtain ⟨q,r,h1,h2,h3,h4⟩:=gcd_split (t:=n) (b:=f.2) (by omega)
 have e:f.2.fdiv ((Int.gcd n f.2:Nat):Int)=r:=by
  conv=>lhs;lhs;rw [h2]
  exact Int.mul_fdiv_cancel_left _ (by omega)
 unfold lcf
 rw [e]
 generalize Int.gcd n f.2=g at h1 h2 h4
 have r0:0<r:=by
  rcases Int.lt_trichotomy r 0 with h | h | h
  ·have:(g:Int)*r<0:=Int.mul_neg_of_pos_of_neg (by omega) h
   omega
  ·rw [h,Int.mul_zero] at h2;omega
  ·exact h
 refine ⟨Int.mul_pos hn r0,⟨r,rfl⟩,⟨q,?_⟩,λ M d1 d2=>?_,?_⟩
 ·rw [h1,h2];ac_rfl
 ·obtain ⟨x,hx⟩:=d1
  obtain ⟨y,hy⟩:=d2
  have e2:q*x=r*y:=by
   apply Int.eq_of_mul_eq_mul_left (show (g:Int)≠0 by omega)
   rw [← Int.mul_assoc,← Int.mul_assoc,← h1,← h2,← hx,← hy]
  have d3:r∣x:=Int.natAbs_dvd_natAbs.mp (Nat.Coprime.dvd_of_dvd_mul_left (m:=q.natAbs) (Nat.Coprime.symm h3) (by rw [← Int.natAbs_mul];exact Int.natAbs_dvd_natAbs.mpr ⟨y,e2⟩))
  obtain ⟨z,hz⟩:=d3
  exact ⟨z,by rw [hx,hz,Int.mul_assoc]⟩
 ·rw [h2,Int.natAbs_mul];exact Nat.le_mul_of_pos_left _ (by omega)
theorem lc_all:∀ (fs:List (Int×Int)) (n:Int),0<n→(∀ f∈fs,0<f.2)→0<fs.foldl lcf n∧n∣fs.foldl lcf n∧(∀ f∈fs,f.2∣fs.foldl lcf n)∧∀ M,n∣M→(∀ f∈fs,f.2∣M)→fs.foldl lcf n∣M
 | [],n,hn,_=>⟨hn,Int.dvd_refl _,(λ _ h=>nomatch h),λ _ h _=>h⟩
 | a::r,n,hn,h=>by
  rw [List.foldl_cons]
  obtain ⟨a1,a2,a3,a4,_⟩:=lcf_ok hn (h a List.mem_cons_self)
  obtain ⟨b1,b2,b3,b4⟩:=lc_all r (lcf n a) a1 λ f hf=>h f (List.mem_cons_of_mem _ hf)
  refine ⟨b1,Int.dvd_trans a2 b2,λ f hf=>?_,λ M d1 d2=>b4 M (a4 M d1 (d2 a List.mem_cons_self)) λ f hf=>d2 f (List.mem_cons_of_mem _ hf)⟩
  rcases List.mem_cons.mp hf with rfl | hf
  ·exact Int.dvd_trans a3 b2
  ·exact b3 f hf
theorem lc_pos {fs:List (Int×Int)} (h:∀ f∈fs,0<f.2):0<lc fs:=(lc_all fs 1 (by decide) h).1
theorem clr_eq {fs:List (Int×Int)} (h:∀ f∈fs,0<f.2) {f:Int×Int} (hf:f∈fs):f.1*((lc fs).fdiv f.2)*f.2=f.1*lc fs:=by
 obtain ⟨k,hk⟩:=(lc_all fs 1 (by decide) h).2.2.1 f hf
 have hk:lc fs=f.2*k:=hk
 have e:(lc fs).fdiv f.2=k:=by rw [hk];exact Int.mul_fdiv_cancel_left _ (by have:=h f hf;omega)
 rw [e,hk];ac_rfl
theorem clr_get {fs:List (Int×Int)} {i:Nat} {f:Int×Int} (h:fs[i]?=some f):(clr fs)[i]?=some (f.1*((lc fs).fdiv f.2)):=by
 unfold clr;rw [List.getElem?_map,h];rfl
noncomputable def RwsAt (H:Hp):List Addr→List (List Int)→Prop
 | [],[]=>True
 | p::ps,r::rs=>H p=some (.lst (List.map V.int r))∧RwsAt H ps rs
 | _,_=>False
theorem RwsAt.same {H H':Hp} (s:Same H H'):∀ {ps:List Addr} {rs:List (List Int)},RwsAt H ps rs→RwsAt H' ps rs
 | [],[],_=>trivial
 | _::_,_::_,h=>⟨s _ _ h.1,h.2.same s⟩
 | [],_::_,h=>h.elim
 | _::_,[],h=>h.elim
theorem RwsAt.length {H:Hp}:∀ {ps:List Addr} {rs:List (List Int)},RwsAt H ps rs→ps.length=rs.length
 | [],[],_=>rfl
 | _::_,_::_,h=>by rw [List.length_cons,List.length_cons,h.2.length]
 | [],_::_,h=>h.elim
 | _::_,[],h=>h.elim
theorem RwsAt.get {H:Hp}:∀ {ps:List Addr} {rs:List (List Int)} {i:Nat} {p:Addr},RwsAt H ps rs→ps[i]?=some p→∃ r,rs[i]?=some r∧H p=some (.lst (List.map V.int r))
 | [],[],_,_,_,e=>by simp at e
 | _::_,r::_,0,_,h,e=>by simp at e;subst e;exact ⟨r,rfl,h.1⟩
 | _::_,_::_,i+1,_,h,e=>by
  obtain ⟨f,e1,e2⟩:=h.2.get (i:=i) (by simpa using e)
  exact ⟨f,by simpa using e1,e2⟩
 | [],_::_,_,_,h,_=>h.elim
 | _::_,[],_,_,h,_=>h.elim
theorem RwsAt.has {H:Hp} {ps:List Addr} {rs:List (List Int)} (h:RwsAt H ps rs) {p:Addr} (hp:p∈ps):∃ r,r∈rs∧H p=some (.lst (List.map V.int r)):=by
 obtain ⟨i,hi⟩:=List.getElem?_of_mem hp
 obtain ⟨r,e1,e2⟩:=h.get hi
 exact ⟨r,List.mem_of_getElem? e1,e2⟩
theorem RwsAt.append {H:Hp} {qs:List Addr} {gs:List (List Int)} (hq:RwsAt H qs gs):∀ {ps:List Addr} {rs:List (List Int)},RwsAt H ps rs→RwsAt H (ps++qs) (rs++gs)
 | [],[],_=>hq
 | _::_,_::_,h=>⟨h.1,RwsAt.append hq h.2⟩
 | [],_::_,h=>h.elim
 | _::_,[],h=>h.elim
theorem RwsAt.snoc {H:Hp} {q:Addr} {g:List Int} {ps:List Addr} {rs:List (List Int)} (h:RwsAt H ps rs) (hq:H q=some (.lst (List.map V.int g))):RwsAt H (ps++[q]) (rs++[g]):=RwsAt.append (show RwsAt H [q] [g] from ⟨hq,trivial⟩) h
theorem RwsAt.put {H:Hp} {q:Addr} {o:HO}:∀ {ps:List Addr} {rs:List (List Int)},q∉ps→RwsAt H ps rs→RwsAt (upd H q o) ps rs
 | [],[],_,_=>trivial
 | p::_,_::_,hn,h=>⟨by rw [upd_ne (λ e:p=q=>hn (by rw [e];exact List.mem_cons_self))];exact h.1,RwsAt.put (λ z=>hn (List.mem_cons_of_mem _ z)) h.2⟩
 | [],_::_,_,h=>h.elim
 | _::_,[],_,h=>h.elim
theorem RwsAt.setr {H:Hp} {q:Addr} {g:List Int} (hq:H q=some (.lst (List.map V.int g))):∀ {ps:List Addr} {rs:List (List Int)} (i:Nat),RwsAt H ps rs→RwsAt H (ps.set i q) (rs.set i g)
 | [],[],_,_=>trivial
 | _::_,_::_,0,h=>⟨hq,h.2⟩
 | _::_,_::_,i+1,h=>⟨h.1,RwsAt.setr hq i h.2⟩
 | [],_::_,_,h=>h.elim
 | _::_,[],_,h=>h.elim
theorem getD_mem {l:List Int} {i:Nat} (h:i<l.length):l.getD i 0∈l:=by
 rw [List.getD_eq_getElem?_getD,List.getElem?_eq_getElem h];exact List.getElem_mem h
theorem atI_nat0 {l:List Int} {i:Nat} (h:i<l.length):atI (List.map V.int l) (i:Int)=some (.int (l.getD i 0)):=by
 have:=atI_map (ns:=l) (k:=(i:Int)) (by omega) (by omega)
 rwa [Int.toNat_natCast] at this
theorem get_getD {l:List Int} {i:Nat} (h:i<l.length):l[i]?=some (l.getD i 0):=by
 rw [List.getD_eq_getElem?_getD,List.getElem?_eq_getElem h];rfl
theorem atI_last {α:Type} {xs:List α} {x:α} (h:xs[xs.length - 1]?=some x):atI xs (-1)=some x:=by
 have hl:xs.length - 1<xs.length:=(List.getElem?_eq_some_iff.mp h).1
 unfold atI ixN
 rw [if_neg (by omega),if_pos (by omega)]
 show xs[(-1+(xs.length:Int)).toNat]?=some x
 rw [show (-1+(xs.length:Int)).toNat=xs.length - 1 by omega]
 exact h
noncomputable def lx (a b:List Int) (c:Nat):List Nat→Option Bool
 | []=>none
 | p::r=>if a.getD p 0*b.getD c 0=b.getD p 0*a.getD c 0 then lx a b c r else some (decide (a.getD p 0*b.getD c 0<b.getD p 0*a.getD c 0))
theorem lx_swap {a b:List Int} {c:Nat}:∀ (l:List Nat),lx b a c l=(lx a b c l).map (!·)
 | []=>rfl
 | p::r=>by
  unfold lx
  by_cases h:a.getD p 0*b.getD c 0=b.getD p 0*a.getD c 0
  ·rw [if_pos h,if_pos h.symm];exact lx_swap r
  ·rw [if_neg h,if_neg (λ e=>h e.symm)]
   show some _=some _
   congr 1
   by_cases h2:a.getD p 0*b.getD c 0<b.getD p 0*a.getD c 0
   ·rw [decide_eq_true h2,decide_eq_false (by omega)];rfl
   ·rw [decide_eq_false h2,decide_eq_true (by omega)];rfl
theorem lx_trans {a b k:List Int} {c:Nat} (ha:0<a.getD c 0) (hb:0<b.getD c 0) (hk:0<k.getD c 0):∀ (l:List Nat),lx a b c l=some true→lx b k c l≠some false→lx a k c l=some true
 | [],h,_=>by cases h
 | p::r,h1,h2=>by
  have ih:=lx_trans ha hb hk r
  unfold lx at h1 h2 ⊢
  generalize a.getD c 0=ac at *
  generalize b.getD c 0=bc at *
  generalize k.getD c 0=kc at *
  generalize a.getD p 0=ap at *
  generalize b.getD p 0=bp at *
  generalize k.getD p 0=kp at *
  have m1:ap*bc*kc=ap*kc*bc:=by ac_rfl
  have m2:bp*ac*kc=bp*kc*ac:=by ac_rfl
  have m3:kp*bc*ac=kp*ac*bc:=by ac_rfl
  have fin:ap*kc*bc<kp*ac*bc→(if ap*kc=kp*ac then lx a k c r else some (decide (ap*kc<kp*ac)))=some true:=λ h=>by
   have:ap*kc<kp*ac:=Int.lt_of_mul_lt_mul_right h (by omega)
   rw [if_neg (by omega),decide_eq_true this]
  by_cases e1:ap*bc=bp*ac
  ·rw [if_pos e1] at h1
   have t1:ap*bc*kc=bp*ac*kc:=by rw [e1]
   by_cases e2:bp*kc=kp*bc
   ·rw [if_pos e2] at h2
    have t2:bp*kc*ac=kp*bc*ac:=by rw [e2]
    have:ap*kc=kp*ac:=Int.eq_of_mul_eq_mul_right (show bc≠0 by omega) (by omega)
    rw [if_pos this]
    exact ih h1 h2
   ·rw [if_neg e2] at h2
    have h3:bp*kc<kp*bc:=Classical.byContradiction λ z=>h2 (by rw [decide_eq_false z])
    have t2:bp*kc*ac<kp*bc*ac:=Int.mul_lt_mul_of_pos_right h3 ha
    exact fin (by omega)
  ·rw [if_neg e1] at h1
   have h3:ap*bc<bp*ac:=by simpa using h1
   have t1:ap*bc*kc<bp*ac*kc:=Int.mul_lt_mul_of_pos_right h3 hk
   by_cases e2:bp*kc=kp*bc
   ·have t2:bp*kc*ac=kp*bc*ac:=by rw [e2]
    exact fin (by omega)
   ·rw [if_neg e2] at h2
    have h3:bp*kc<kp*bc:=Classical.byContradiction λ z=>h2 (by rw [decide_eq_false z])
    have t2:bp*kc*ac<kp*bc*ac:=Int.mul_lt_mul_of_pos_right h3 ha
    exact fin (by omega)
noncomputable def Lv (rs:List (List Int)) (c:Nat) (l:List Nat) (i:Nat):Option Nat→Prop
 | none=>∀ k row,k<i→rs[k]?=some row→¬ 0<row.getD c 0
 | some f=>f<i∧∃ fr,rs[f]?=some fr∧0<fr.getD c 0∧∀ k row,k<i→rs[k]?=some row→0<row.getD c 0→lx fr row c l≠some false∧(lx fr row c l=none→f≤k)
theorem Lv.skip {rs:List (List Int)} {c:Nat} {l:List Nat} {i:Nat} {o:Option Nat} {row:List Int} (h:Lv rs c l i o) (hr:rs[i]?=some row) (hn:¬ 0<row.getD c 0):Lv rs c l (i+1) o:=by
 cases o with
 | none =>
  intro k row' hk e
  by_cases hki:k<i
  ·exact h k row' hki e
  ·have:k=i:=by omega
   subst this
   rw [hr] at e
   obtain rfl:=Option.some.inj e
   exact hn
 | some f =>
  obtain ⟨h1,fr,h2,h3,h4⟩:=h
  refine ⟨by omega,fr,h2,h3,λ k row' hk e hp=>?_⟩
  by_cases hki:k<i
  ·exact h4 k row' hki e hp
  ·have:k=i:=by omega
   subst this
   rw [hr] at e
   obtain rfl:=Option.some.inj e
   exact absurd hp hn
theorem lx_self {a:List Int} {c:Nat}:∀ l:List Nat,lx a a c l=none
 | []=>rfl
 | p::r=>by unfold lx;rw [if_pos rfl];exact lx_self r
theorem Lv.first {rs:List (List Int)} {c:Nat} {l:List Nat} {i:Nat} {row:List Int} (h:Lv rs c l i none) (hr:rs[i]?=some row) (hp:0<row.getD c 0):Lv rs c l (i+1) (some i):=by
 refine ⟨by omega,row,hr,hp,λ k row' hk e hp'=>?_⟩
 by_cases hki:k<i
 ·exact absurd hp' (h k row' hki e)
 ·have:k=i:=by omega
  subst this
  rw [hr] at e
  obtain rfl:=Option.some.inj e
  rw [lx_self]
  exact ⟨by simp,λ _=>Nat.le_refl _⟩
theorem Lv.keep {rs:List (List Int)} {c:Nat} {l:List Nat} {i f:Nat} {row fr:List Int} (h:Lv rs c l i (some f)) (hf:rs[f]?=some fr) (hr:rs[i]?=some row) (hp:0<row.getD c 0) (ha:lx row fr c l≠some true):Lv rs c l (i+1) (some f):=by
 obtain ⟨h1,fr',h2,h3,h4⟩:=h
 rw [hf] at h2
 obtain rfl:=Option.some.inj h2
 refine ⟨by omega,fr,hf,h3,λ k row' hk e hp'=>?_⟩
 by_cases hki:k<i
 ·exact h4 k row' hki e hp'
 ·have:k=i:=by omega
  subst this
  rw [hr] at e
  obtain rfl:=Option.some.inj e
  refine ⟨λ z=>ha ?_,λ _=>by omega⟩
  rw [lx_swap (a:=fr) (b:=row),z];rfl
theorem Lv.take {rs:List (List Int)} {c:Nat} {l:List Nat} {i f:Nat} {row fr:List Int} (h:Lv rs c l i (some f)) (hf:rs[f]?=some fr) (hr:rs[i]?=some row) (hp:0<row.getD c 0) (ha:lx row fr c l=some true):Lv rs c l (i+1) (some i):=by
 obtain ⟨h1,fr',h2,h3,h4⟩:=h
 rw [hf] at h2
 obtain rfl:=Option.some.inj h2
 refine ⟨by omega,row,hr,hp,λ k row' hk e hp'=>?_⟩
 by_cases hki:k<i
 ·have:=lx_trans hp h3 hp' l ha (h4 k row' hki e hp').1
  rw [this]
  exact ⟨by simp,λ z=>by cases z⟩
 ·have:k=i:=by omega
  subst this
  rw [hr] at e
  obtain rfl:=Option.some.inj e
  rw [lx_self]
  exact ⟨by simp,λ _=>Nat.le_refl _⟩
noncomputable def sm:Nat→(Nat→Int)→Int
 | 0,_=>0
 | n+1,f=>sm n f+f n
theorem sm_congr:∀ {n:Nat} {f g:Nat→Int},(∀ k,k<n→f k=g k)→sm n f=sm n g
 | 0,_,_,_=>rfl
 | n+1,f,g,h=>by
  show sm n f+f n=sm n g+g n
  rw [sm_congr (n:=n) λ k hk=>h k (by omega),h n (by omega)]
theorem sm_zero':∀ {n:Nat} {f:Nat→Int},(∀ k,k<n→f k=0)→sm n f=0
 | 0,_,_=>rfl
 | n+1,f,h=>by
  show sm n f+f n=0
  rw [sm_zero' (n:=n) λ k hk=>h k (by omega),h n (by omega)];rfl
theorem sm_lin (a b:Int):∀ (n:Nat) (f g:Nat→Int),sm n (λ k=>a*f k+b*g k)=a*sm n f+b*sm n g
 | 0,_,_=>by show (0:Int)=a*0+b*0;simp
 | n+1,f,g=>by
  show sm n (λ k=>a*f k+b*g k)+(a*f n+b*g n)=a*(sm n f+f n)+b*(sm n g+g n)
  rw [sm_lin a b n f g,Int.mul_add,Int.mul_add];omega
theorem sm_one' {p:Nat}:∀ {n:Nat} {f:Nat→Int},p<n→(∀ k,k<n→k≠p→f k=0)→sm n f=f p
 | 0,_,h,_=>absurd h (Nat.not_lt_zero _)
 | n+1,f,hp,h=>by
  show sm n f+f n=f p
  by_cases e:p=n
  ·rw [sm_zero' (n:=n) λ k hk=>h k (by omega) (by omega),e];omega
  ·rw [sm_one' (n:=n) (by omega) λ k hk hne=>h k (by omega) hne,h n (by omega) (by omega)];omega
theorem sm_two {p q:Nat}:∀ {n:Nat} {f:Nat→Int},p<q→q<n→(∀ k,k<n→k≠p→k≠q→f k=0)→sm n f=f p+f q
 | 0,_,_,h,_=>absurd h (Nat.not_lt_zero _)
 | n+1,f,hpq,hq,h=>by
  show sm n f+f n=f p+f q
  by_cases e:q=n
  ·rw [sm_one' (p:=p) (n:=n) (by omega) λ k hk hne=>h k (by omega) hne (by omega),e]
  ·rw [sm_two (n:=n) hpq (by omega) λ k hk h1 h2=>h k (by omega) h1 h2,h n (by omega) (by omega) (by omega)];omega
noncomputable def sg (k:Nat):Int:=if k % 2=0 then 1 else -1
theorem sg_succ (k:Nat):sg (k+1) = - sg k:=by
 unfold sg
 split <;> split <;> omega
theorem sg_abs (k:Nat):(sg k).natAbs=1:=by unfold sg;split <;> rfl
noncomputable def skp (k i:Nat):Nat:=if i<k then i else i+1
theorem skp_ne (k i:Nat):skp k i≠k:=by unfold skp;split <;> omega
theorem skp_lt {k i n:Nat} (h:i<n):skp k i<n+1:=by unfold skp;split <;> omega
theorem skp_inj {k i j:Nat} (h:skp k i=skp k j):i=j:=by unfold skp at h;split at h <;> split at h <;> omega
theorem skp_back {k j n:Nat} (hk:k<n+1) (hj:j<n+1) (hne:j≠k):∃ i,i<n∧skp k i=j:=by
 unfold skp
 by_cases h:j<k
 ·exact ⟨j,by omega,by rw [if_pos h]⟩
 ·exact ⟨j - 1,by omega,by rw [if_neg (by omega)];omega⟩
noncomputable abbrev Mx:=Nat→Nat→Int
noncomputable def mnr (M:Mx) (k:Nat):Mx:=λ i r=>M (skp k i) (r+1)
noncomputable def det:Nat→Mx→Int
 | 0,_=>1
 | n+1,M=>sm (n+1) λ k=>sg k*M k 0*det n (mnr M k)
theorem det_congr:∀ {n:Nat} {M L:Mx},(∀ i,i<n→∀ r,r<n→M i r=L i r)→det n M=det n L
 | 0,_,_,_=>rfl
 | n+1,M,L,h=>by
  refine sm_congr λ k hk=>?_
  rw [h k hk 0 (by omega),det_congr (n:=n) (M:=mnr M k) (L:=mnr L k) λ i hi r hr=>h _ (skp_lt hi) _ (by omega)]
noncomputable def pt (M:Mx) (j:Nat) (v:Nat→Int):Mx:=λ i=>if i=j then v else M i
theorem pt_at (M:Mx) (j:Nat) (v:Nat→Int):pt M j v j=v:=by unfold pt;rw [if_pos rfl]
theorem pt_off (M:Mx) {i j:Nat} (v:Nat→Int) (h:i≠j):pt M j v i=M i:=by unfold pt;rw [if_neg h]
theorem pt_self (M:Mx) (j:Nat):pt M j (M j)=M:=by
 funext i;unfold pt;split
 ·rename_i e;rw [e]
 ·rfl
theorem pt_pt (M:Mx) (j:Nat) (u v:Nat→Int):pt (pt M j u) j v=pt M j v:=by
 funext i;unfold pt;split <;> rfl
theorem pt_comm (M:Mx) {i j:Nat} (h:i≠j) (u v:Nat→Int):pt (pt M i u) j v=pt (pt M j v) i u:=by
 funext k;unfold pt
 by_cases h1:k=j
 ·rw [if_pos h1,if_neg (by omega),if_pos h1]
 ·rw [if_neg h1]
  by_cases h2:k=i
  ·rw [if_pos h2,if_pos h2]
  ·rw [if_neg h2,if_neg h2,if_neg h1]
theorem mnr_pt_self (M:Mx) (k:Nat) (v:Nat→Int):mnr (pt M k v) k=mnr M k:=by
 funext i r
 show pt M k v (skp k i) (r+1)=M (skp k i) (r+1)
 rw [pt_off _ _ (skp_ne k i)]
theorem mnr_pt (M:Mx) {k j':Nat} (v:Nat→Int):mnr (pt M (skp k j') v) k=pt (mnr M k) j' (λ r=>v (r+1)):=by
 funext i r
 show pt M (skp k j') v (skp k i) (r+1)=_
 unfold pt
 by_cases h:i=j'
 ·rw [if_pos h,if_pos (by rw [h])]
 ·rw [if_neg h,if_neg (λ e=>h (skp_inj e))];rfl
theorem det_lin (a b:Int):∀ {n:Nat} (M:Mx) {j:Nat} (u v:Nat→Int),j<n→det n (pt M j (λ r=>a*u r+b*v r))=a*det n (pt M j u)+b*det n (pt M j v)
 | 0,_,_,_,_,h=>absurd h (Nat.not_lt_zero _)
 | n+1,M,j,u,v,hj=>by
  show sm (n+1) _=a*sm (n+1) _+b*sm (n+1) _
  rw [← sm_lin]
  refine sm_congr λ k hk=>?_
  by_cases e:k=j
  ·subst e
   rw [pt_at,pt_at,pt_at,mnr_pt_self,mnr_pt_self,mnr_pt_self]
   grind
  ·obtain ⟨j',hj',ej⟩:=skp_back hk hj (λ z=>e z.symm)
   rw [pt_off _ _ e,pt_off _ _ e,pt_off _ _ e,← ej,mnr_pt,mnr_pt,mnr_pt,det_lin a b (mnr M k) (λ r=>u (r+1)) (λ r=>v (r+1)) hj']
   grind
theorem det_adj:∀ {n:Nat} {M:Mx} {p:Nat},p+1<n→M p=M (p+1)→det n M=0
 | 0,_,_,h,_=>absurd h (Nat.not_lt_zero _)
 | n+1,M,p,hp,e=>by
  show sm (n+1) _=0
  rw [sm_two (p:=p) (q:=p+1) (by omega) hp]
  ·have em:mnr M p=mnr M (p+1):=by
    funext i r
    show M (skp p i) (r+1)=M (skp (p+1) i) (r+1)
    unfold skp
    by_cases h1:i<p
    ·rw [if_pos h1,if_pos (by omega)]
    ·rw [if_neg h1]
     by_cases h2:i=p
     ·rw [if_pos (by omega),h2,e]
     ·rw [if_neg (by omega)]
   rw [em,e,sg_succ];grind
  ·intro k hk h1 h2
   have:det n (mnr M k)=0:=by
    by_cases h:k<p
    ·refine det_adj (p:=p - 1) (by omega) ?_
     funext r
     show M (skp k (p - 1)) (r+1)=M (skp k (p - 1+1)) (r+1)
     unfold skp
     rw [if_neg (by omega),if_neg (by omega),show p - 1+1=p by omega,e]
    ·refine det_adj (p:=p) (by omega) ?_
     funext r
     show M (skp k p) (r+1)=M (skp k (p+1)) (r+1)
     unfold skp
     rw [if_pos (by omega),if_pos (by omega),e]
   rw [this,Int.mul_zero]
theorem det_add {n:Nat} (M:Mx) {j:Nat} (u v:Nat→Int) (h:j<n):det n (pt M j (λ r=>u r+v r))=det n (pt M j u)+det n (pt M j v):=by
 have:=det_lin 1 1 M u v h
 simp only [Int.one_mul] at this
 exact this
theorem det_scale {n:Nat} (M:Mx) {j:Nat} (a:Int) (u:Nat→Int) (h:j<n):det n (pt M j (λ r=>a*u r))=a*det n (pt M j u):=by
 have:=det_lin a 0 M u u h
 simp only [Int.zero_mul,Int.add_zero] at this
 exact this
theorem swap_of {n p q:Nat} (hp:p<n) (hq:q<n) (hne:p≠q) (z:∀ M:Mx,M p=M q→det n M=0) (M:Mx) (u v:Nat→Int):det n (pt (pt M p u) q v) = - det n (pt (pt M p v) q u):=by
 have h0:=z (pt (pt M p (λ r=>u r+v r)) q (λ r=>u r+v r)) (by rw [pt_at,pt_off _ _ hne,pt_at])
 have huu:=z (pt (pt M p u) q u) (by rw [pt_at,pt_off _ _ hne,pt_at])
 have hvv:=z (pt (pt M p v) q v) (by rw [pt_at,pt_off _ _ hne,pt_at])
 rw [det_add _ _ _ hq,pt_comm M hne,pt_comm M hne,det_add _ _ _ hp,det_add _ _ _ hp,pt_comm M (Ne.symm hne),pt_comm M (Ne.symm hne),pt_comm M (Ne.symm hne),pt_comm M (Ne.symm hne)] at h0
 omega
theorem det_eq0 {n:Nat}:∀ (d:Nat) {M:Mx} {p q:Nat},q=p+1+d→q<n→M p=M q→det n M=0
 | 0,M,p,q,e,hq,h=>det_adj (p:=p) (by omega) (by rw [h,e])
 | d+1,M,p,q,e,hq,h=>by
  have sw:=swap_of (n:=n) (p:=q - 1) (q:=q - 1+1) (by omega) (by omega) (by omega) (λ L hL=>det_adj (by omega) hL) M (M (q - 1)) (M q)
  rw [show q - 1+1=q by omega] at sw
  rw [pt_self,pt_self] at sw
  rw [sw,det_eq0 d (p:=p) (q:=q - 1) (by omega) (by omega)]
  ·rfl
  ·rw [pt_off _ _ (show p≠q by omega),pt_off _ _ (show p≠q - 1 by omega),pt_off _ _ (show q - 1≠q by omega),pt_at,h]
theorem det_same {n:Nat} {M:Mx} {p q:Nat} (hp:p<n) (hq:q<n) (hne:p≠q) (h:M p=M q):det n M=0:=by
 by_cases hlt:p<q
 ·exact det_eq0 (q - p - 1) (p:=p) (q:=q) (by omega) hq h
 ·exact det_eq0 (p - q - 1) (p:=q) (q:=p) (by omega) hp h.symm
theorem det_swap {n p q:Nat} (hp:p<n) (hq:q<n) (hne:p≠q) (M:Mx) (u v:Nat→Int):det n (pt (pt M p u) q v) = - det n (pt (pt M p v) q u):=swap_of hp hq hne (λ _ h=>det_same hp hq hne h) M u v
noncomputable def e1 (i:Nat):Nat→Int:=λ r=>if r=i then 1 else 0
noncomputable def Im:Mx:=e1
theorem det_one:∀ n:Nat,det n Im=1
 | 0=>rfl
 | n+1=>by
  show sm (n+1) _=1
  rw [sm_one' (p:=0) (by omega)]
  ·have:det n (mnr Im 0)=det n Im:=det_congr λ i _ r _=>by
    show e1 (skp 0 i) (r+1)=e1 i r
    unfold e1 skp
    rw [if_neg (Nat.not_lt_zero i)]
    by_cases h:r=i
    ·rw [if_pos h,if_pos (by omega)]
    ·rw [if_neg h,if_neg (by omega)]
   rw [this,det_one n];rfl
  ·intro k _ hk
   have:Im k 0=0:=by show e1 k 0=0;unfold e1;rw [if_neg (λ z=>hk z.symm)]
   rw [this];grind
theorem det_sums {n:Nat} (M:Mx) {j:Nat} (hj:j<n) (c:Nat→Int) (w:Nat→Nat→Int):∀ m:Nat,det n (pt M j (λ r=>sm m λ k=>c k*w k r))=sm m λ k=>c k*det n (pt M j (w k))
 | 0=>by
  have:=det_scale M 0 (λ _=>0) hj
  simp only [Int.zero_mul] at this
  exact this
 | m+1=>by
  show det n (pt M j (λ r=>sm m (λ k=>c k*w k r)+c m*w m r))=sm m _+c m*_
  rw [det_add _ _ _ hj,det_sums M hj c w m,det_scale _ _ _ hj]
theorem sm_units (v:Nat→Int):∀ (n r:Nat),r<n→(sm n λ k=>v k*e1 k r)=v r:=λ n r hr=>by
 rw [sm_one' (p:=r) hr]
 ·unfold e1;rw [if_pos rfl,Int.mul_one]
 ·intro k _ hk
  unfold e1;rw [if_neg (λ z=>hk z.symm),Int.mul_zero]
theorem det_sum {n:Nat} (M:Mx) {j:Nat} (hj:j<n) (v:Nat→Int):det n (pt M j v)=sm n λ k=>v k*det n (pt M j (e1 k)):=by
 rw [← det_sums M hj v e1 n]
 refine det_congr λ i hi r hr=>?_
 unfold pt
 split
 ·exact (sm_units v n r hr).symm
 ·rfl
section
variable {N:Nat}
noncomputable def Tt (N:Nat) (B:Mx) (i:Nat) (y:Nat→Int):Int:=det N (pt B i y)
noncomputable def Cr (N:Nat) (B:Mx):Prop:=∀ (y:Nat→Int) (r:Nat),r<N→(sm N λ i=>Tt N B i y*B i r)=det N B*y r
theorem Tt_own (B:Mx) (i:Nat):Tt N B i (B i)=det N B:=by unfold Tt;rw [pt_self]
theorem Tt_other {B:Mx} {i j:Nat} (hi:i<N) (hj:j<N) (h:i≠j):Tt N B i (B j)=0 :=
 det_same hi hj h (by rw [pt_at,pt_off _ _ (Ne.symm h)])
theorem Tt_lin {B:Mx} {i:Nat} (hi:i<N) (y:Nat→Int):Tt N B i y=sm N λ k=>y k*Tt N B i (e1 k):=det_sum B hi y
theorem Tt_one {i:Nat} (hi:i<N) (y:Nat→Int):Tt N Im i y=y i:=by
 rw [Tt_lin hi,sm_one' (p:=i) hi]
 ·rw [show Tt N Im i (e1 i)=det N Im from Tt_own Im i,det_one,Int.mul_one]
 ·intro k hk hne
  rw [show Tt N Im i (e1 k)=0 from Tt_other hi hk (Ne.symm hne),Int.mul_zero]
theorem Cr_one:Cr N Im:=by
 intro y r hr
 rw [det_one,Int.one_mul,← sm_units y N r hr]
 exact sm_congr λ i hi=>by rw [Tt_one hi];rfl
theorem exchT {B:Mx} (hB:Cr N B) {r i:Nat} (hr:r<N) (hi:i<N) (hne:i≠r) (x y:Nat→Int):det N B*Tt N (pt B r x) i y=Tt N B i y*Tt N B r x - Tt N B r y*Tt N B i x:=by
 have h1:det N B*Tt N (pt B r x) i y=det N (pt (pt B r x) i (λ s=>det N B*y s)):=(det_scale _ _ _ hi).symm
 have h2:det N (pt (pt B r x) i (λ s=>det N B*y s))=det N (pt (pt B r x) i (λ s=>sm N λ k=>Tt N B k y*B k s)):=det_congr λ j _ s hs=>by
  unfold pt
  by_cases e:j=i
  ·rw [if_pos e,if_pos e,hB y s hs]
  ·rw [if_neg e,if_neg e]
 rw [h1,h2,det_sums _ hi]
 have hii:det N (pt (pt B r x) i (B i))=Tt N B r x:=by
  have:pt (pt B r x) i (B i)=pt B r x:=by
   have:=pt_self (pt B r x) i
   rwa [pt_off _ _ hne] at this
  rw [this];rfl
 have hir:det N (pt (pt B r x) i (B r)) = - Tt N B i x:=by
  rw [det_swap hr hi (Ne.symm hne),pt_self];rfl
 have key:∀ k,k<N→k≠i→k≠r→Tt N B k y*det N (pt (pt B r x) i (B k))=0:=λ k hk h1 h2=>by
  rw [det_same hi hk (Ne.symm h1) (by rw [pt_at,pt_off _ _ h1,pt_off _ _ h2]),Int.mul_zero]
 by_cases hlt:i<r
 ·rw [sm_two hlt hr (λ k hk h1 h2=>key k hk h1 h2),hii,hir,Int.mul_neg];rfl
 ·rw [sm_two (p:=r) (q:=i) (by omega) hi (λ k hk h1 h2=>key k hk h2 h1),hii,hir,Int.mul_neg];omega
theorem Tt_same (B:Mx) (r:Nat) (x y:Nat→Int):Tt N (pt B r x) r y=Tt N B r y:=by unfold Tt;rw [pt_pt]
theorem det_pt (B:Mx) (r:Nat) (x:Nat→Int):det N (pt B r x)=Tt N B r x:=rfl
theorem Cr.turn {B:Mx} (hB:Cr N B) (hD:det N B≠0) {r:Nat} (hr:r<N) (x:Nat→Int):Cr N (pt B r x):=by
 intro y s hs
 apply Int.eq_of_mul_eq_mul_left hD
 have e:∀ i,i<N→det N B*(Tt N (pt B r x) i y*(pt B r x) i s)=Tt N B r x*(Tt N B i y*B i s)+(- Tt N B r y)*(Tt N B i x*B i s)+(if i=r then det N B*Tt N B r y*x s else 0):=λ i hi=>by
  by_cases h:i=r
  ·subst h
   rw [if_pos rfl,Tt_same,pt_at];grind
  ·rw [if_neg h,pt_off _ _ h,← Int.mul_assoc,exchT hB hr hi h];grind
 have s1:det N B*sm N (λ i=>Tt N (pt B r x) i y*(pt B r x) i s)=sm N λ i=>det N B*(Tt N (pt B r x) i y*(pt B r x) i s):=by
  have:=sm_lin (det N B) 0 N (λ i=>Tt N (pt B r x) i y*(pt B r x) i s) (λ _=>0)
  simp only [Int.zero_mul,Int.add_zero] at this
  exact this.symm
 rw [s1,sm_congr e]
 have s2:=sm_lin 1 1 N (λ i=>Tt N B r x*(Tt N B i y*B i s)+(- Tt N B r y)*(Tt N B i x*B i s)) (λ i=>if i=r then det N B*Tt N B r y*x s else 0)
 simp only [Int.one_mul] at s2
 rw [s2,sm_lin,hB y s hs,hB x s hs,sm_one' (p:=r) hr (λ k _ hk=>if_neg hk),if_pos rfl,det_pt]
 grind
end
noncomputable def lp (u:Nat→Int):List Nat→Prop
 | []=>False
 | p::r=>0<u p∨(u p=0∧lp u r)
noncomputable def lpn (u:Nat→Int):List Nat→Prop
 | []=>True
 | p::r=>0<u p∨(u p=0∧lpn u r)
theorem lp.weak {u:Nat→Int}:∀ {l:List Nat},lp u l→lpn u l
 | [],h=>h.elim
 | _::_,.inl h=>.inl h
 | _::_,.inr h=>.inr ⟨h.1,h.2.weak⟩
theorem lp_congr {u v:Nat→Int}:∀ {l:List Nat},(∀ p∈l,u p=v p)→lp u l→lp v l
 | [],_,h=>h
 | p::r,e,h=>by
  have ep:=e p List.mem_cons_self
  rcases h with h | h
  ·exact .inl (ep ▸ h)
  ·exact .inr ⟨ep ▸ h.1,lp_congr (λ q hq=>e q (List.mem_cons_of_mem _ hq)) h.2⟩
theorem lp_scale {u:Nat→Int} {a:Int} (ha:0<a):∀ {l:List Nat},lp u l→lp (λ p=>a*u p) l
 | [],h=>h
 | p::r,h=>by
  rcases h with h | h
  ·exact .inl (Int.mul_pos ha h)
  ·exact .inr ⟨by show a*u p=0;rw [h.1,Int.mul_zero],lp_scale ha h.2⟩
theorem lp_unscale {u:Nat→Int} {a:Int} (ha:0<a):∀ {l:List Nat},lp (λ p=>a*u p) l→lp u l
 | [],h=>h
 | p::r,h=>by
  rcases h with h | h
  ·left
   have h:0<a*u p:=h
   rcases Int.lt_trichotomy (u p) 0 with z | z | z
   ·have:=Int.mul_neg_of_pos_of_neg ha z;omega
   ·rw [z,Int.mul_zero] at h;omega
   ·exact z
  ·right
   have h1:a*u p=0:=h.1
   refine ⟨?_,lp_unscale ha h.2⟩
   rcases Int.mul_eq_zero.mp h1 with z | z
   ·omega
   ·exact z
theorem lp_add {u v:Nat→Int} {a b:Int} (ha:0<a) (hb:0≤b) {l:List Nat} (h:lp u l) (k:lpn v l):lp (λ p=>a*u p+b*v p) l:=by
 by_cases hz:b=0
 ·subst hz
  refine lp_congr (λ p _=>?_) (lp_scale ha h)
  omega
 ·have hb:0<b:=by omega
  clear hz
  induction l with
  | nil=>exact h.elim
  | cons p r ih =>
   rcases h with h | h
   ·left
    have h1:=Int.mul_pos ha h
    have h2:0≤b*v p:=by
     rcases k with k | k
     ·exact Int.mul_nonneg (by omega) (by omega)
     ·rw [k.1,Int.mul_zero];exact Int.le_refl _
    show 0<a*u p+b*v p
    omega
   ·rcases k with k | k
    ·left
     have h1:=Int.mul_pos hb k
     show 0<a*u p+b*v p
     rw [h.1,Int.mul_zero];omega
    ·exact .inr ⟨by show a*u p+b*v p=0;rw [h.1,k.1,Int.mul_zero,Int.mul_zero];rfl,ih h.2 k.2⟩
theorem lp_irrefl {u:Nat→Int}:∀ {l:List Nat},(∀ p∈l,u p=0)→¬ lp u l
 | [],_,h=>h
 | p::r,e,h=>by
  have ep:=e p List.mem_cons_self
  rcases h with h | h
  ·omega
  ·exact lp_irrefl (λ q hq=>e q (List.mem_cons_of_mem _ hq)) h.2
theorem lp_or {u:Nat→Int}:∀ (l:List Nat),lp u l∨(∀ p∈l,u p=0)∨lp (λ p=>- u p) l
 | []=>.inr (.inl (λ _ h=>nomatch h))
 | p::r=>by
  rcases Int.lt_trichotomy (u p) 0 with z | z | z
  ·exact .inr (.inr (.inl (by show 0 < - u p;omega)))
  ·rcases lp_or (u:=u) r with h | h | h
   ·exact .inl (.inr ⟨z,h⟩)
   ·refine .inr (.inl λ q hq=>?_)
    rcases List.mem_cons.mp hq with rfl | hq
    ·exact z
    ·exact h q hq
   ·exact .inr (.inr (.inr ⟨by show - u p=0;omega,h⟩))
  ·exact .inl (.inl z)
structure Lpd where
 m:Nat
 n:Nat
 a:Nat→Nat→Int
 be:Nat→Int
 fl:Bool
namespace Lpd
variable (L:Lpd)
noncomputable def cv (j:Nat):Nat→Int:=if j<L.n then L.a j else e1 (j - L.n)
noncomputable def B (s:Nat→Nat):Mx:=λ i=>if i<L.m then L.cv (s i) else e1 i
noncomputable def sg:Int:=if L.fl=true then -1 else 1
theorem sg2:L.sg*L.sg=1:=by unfold sg;split <;> rfl
theorem sg_abs (x:Int):(L.sg*x).natAbs=x.natAbs:=by unfold sg;split <;> omega
noncomputable def D (s:Nat→Nat):Int:=L.sg*det (L.m+1) (L.B s)
noncomputable def T (s:Nat→Nat) (i:Nat) (y:Nat→Int):Int:=L.sg*Tt (L.m+1) (L.B s) i y
noncomputable def li (p:Nat):Nat→Int:=if p=0 then L.be else e1 (p - 1)
noncomputable def ls:List Nat:=List.range (L.m+1)
noncomputable def sput (s:Nat→Nat) (r c:Nat):Nat→Nat:=λ i=>if i=r then c else s i
theorem B_put {s:Nat→Nat} {r c:Nat} (hr:r<L.m):L.B (sput s r c)=pt (L.B s) r (L.cv c):=by
 funext i
 unfold B sput pt
 by_cases h:i=r
 ·rw [if_pos (by omega),if_pos h,if_pos h]
 ·rw [if_neg h,if_neg h]
structure Okn (s:Nat→Nat):Prop where
 ne:L.D s≠0
 cr:Cr (L.m+1) (L.B s)
structure Ok (s:Nat→Nat):Prop where
 pos:0<L.D s
 cr:Cr (L.m+1) (L.B s)
 bn:∀ i,i<L.m→0≤L.T s i L.be
structure Okx (s:Nat→Nat):Prop where
 pos:0<L.D s
 cr:Cr (L.m+1) (L.B s)
 lex:∀ i,i<L.m→lp (λ p=>L.T s i (L.li p)) L.ls
theorem own {s:Nat→Nat} {i:Nat} (hi:i<L.m):L.T s i (L.cv (s i))=L.D s:=by
 have:=Tt_own (N:=L.m+1) (L.B s) i
 have e:L.B s i=L.cv (s i):=by unfold B;rw [if_pos hi]
 rw [e] at this
 unfold T D;rw [this]
theorem last_own (s:Nat→Nat):L.T s L.m (e1 L.m)=L.D s:=by
 have:=Tt_own (N:=L.m+1) (L.B s) L.m
 have e:L.B s L.m=e1 L.m:=by unfold B;rw [if_neg (Nat.lt_irrefl _)]
 rw [e] at this
 unfold T D;rw [this]
theorem not_last {s:Nat→Nat} {i:Nat} (hi:i<L.m):L.T s i (e1 L.m)=0:=by
 have:=Tt_other (N:=L.m+1) (B:=L.B s) (i:=i) (j:=L.m) (by omega) (by omega) (by omega)
 have e:L.B s L.m=e1 L.m:=by unfold B;rw [if_neg (Nat.lt_irrefl _)]
 rw [e] at this
 unfold T;rw [this,Int.mul_zero]
theorem other {s:Nat→Nat} {i j:Nat} (hi:i<L.m+1) (hj:j<L.m) (h:i≠j):L.T s i (L.cv (s j))=0:=by
 have:=Tt_other (N:=L.m+1) (B:=L.B s) (i:=i) (j:=j) hi (by omega) h
 have e:L.B s j=L.cv (s j):=by unfold B;rw [if_pos hj]
 rw [e] at this
 unfold T;rw [this,Int.mul_zero]
theorem sm_by (c:Int) (n:Nat) (f:Nat→Int):sm n (λ k=>c*f k)=c*sm n f:=by
 have:=sm_lin c 0 n f f
 simp only [Int.zero_mul,Int.add_zero] at this
 exact this
theorem T_lin {s:Nat→Nat} {i:Nat} (hi:i<L.m+1) (y:Nat→Int):L.T s i y=sm (L.m+1) λ k=>y k*L.T s i (e1 k):=by
 unfold T
 rw [Tt_lin hi,← sm_by]
 exact sm_congr λ k _=>by rw [Int.mul_left_comm]
theorem cr_T {s:Nat→Nat} (h:Cr (L.m+1) (L.B s)) (y:Nat→Int) {r:Nat} (hr:r<L.m+1):(sm (L.m+1) λ i=>L.T s i y*L.B s i r)=L.D s*y r:=by
 unfold T D
 rw [Int.mul_assoc,← h y r hr,← sm_by]
 exact sm_congr λ k _=>by rw [Int.mul_assoc]
section
variable {L}
theorem Ok.n {s:Nat→Nat} (o:L.Ok s):L.Okn s:=⟨Int.ne_of_gt o.pos,o.cr⟩
theorem Okx.n {s:Nat→Nat} (o:L.Okx s):L.Okn s:=⟨Int.ne_of_gt o.pos,o.cr⟩
theorem Okx.bound_nonneg {s:Nat→Nat} (o:L.Okx s) {i:Nat} (hi:i<L.m):0≤L.T s i L.be:=by
 have h:=o.lex i hi
 unfold ls at h
 rw [List.range_succ_eq_map] at h
 have e:L.li 0=L.be:=by unfold li;rw [if_pos rfl]
 rcases h with h | h
 ·have h:0<L.T s i (L.li 0):=h
  rw [e] at h;omega
 ·have h:=h.1
  simp only [e] at h
  omega
theorem Okx.w {s:Nat→Nat} (o:L.Okx s):L.Ok s:=⟨o.pos,o.cr,λ _ hi=>o.bound_nonneg hi⟩
theorem Okn.exch {s:Nat→Nat} (o:L.Okn s) {r i c:Nat} (hr:r<L.m) (hi:i<L.m+1) (hne:i≠r) (y:Nat→Int):L.D s*L.T (sput s r c) i y=L.T s i y*L.T s r (L.cv c) - L.T s r y*L.T s i (L.cv c):=by
 have h:=exchT o.cr (show r<L.m+1 by omega) hi hne (L.cv c) y
 unfold T D
 rw [L.B_put hr]
 generalize Tt (L.m+1) (pt (L.B s) r (L.cv c)) i y=u at h ⊢
 have e1:L.sg*det (L.m+1) (L.B s)*(L.sg*u)=(L.sg*L.sg)*(det (L.m+1) (L.B s)*u):=by ac_rfl
 have e2:∀ x y:Int,L.sg*x*(L.sg*y)=(L.sg*L.sg)*(x*y):=λ x y=>by ac_rfl
 rw [e1,e2,e2,L.sg2,h,Int.one_mul,Int.one_mul,Int.one_mul]
theorem Okx.exch {s:Nat→Nat} (o:L.Okx s) {r i c:Nat} (hr:r<L.m) (hi:i<L.m+1) (hne:i≠r) (y:Nat→Int):L.D s*L.T (sput s r c) i y=L.T s i y*L.T s r (L.cv c) - L.T s r y*L.T s i (L.cv c):=o.n.exch hr hi hne y
theorem Ok.same {s:Nat→Nat} {r c:Nat} (hr:r<L.m) (y:Nat→Int):L.T (sput s r c) r y=L.T s r y:=by
 unfold T;rw [L.B_put hr,Tt_same]
theorem Ok.newD {s:Nat→Nat} {r c:Nat} (hr:r<L.m):L.D (sput s r c)=L.T s r (L.cv c):=by
 unfold D T;rw [L.B_put hr];rfl
theorem det_ne {s:Nat→Nat} (h:L.D s≠0):det (L.m+1) (L.B s)≠0:=λ z=>h (by unfold D;rw [z,Int.mul_zero])
theorem Okn.step {s:Nat→Nat} (o:L.Okn s) {r c:Nat} (hr:r<L.m) (hp:L.T s r (L.cv c)≠0):L.Okn (sput s r c):=by
 refine ⟨by rw [Ok.newD hr];exact hp,?_⟩
 rw [L.B_put hr]
 exact o.cr.turn (det_ne o.ne) (by omega) _
theorem Okx.step {s:Nat→Nat} (o:L.Okx s) {r c:Nat} (hr:r<L.m) (hp:0<L.T s r (L.cv c))
  (hmin:∀ i,i<L.m→0<L.T s i (L.cv c)→¬ lp (λ p=>- (L.T s i (L.li p)*L.T s r (L.cv c) - L.T s r (L.li p)*L.T s i (L.cv c))) L.ls):L.Okx (sput s r c):=by
 have hD:=o.pos
 have newpos:0<L.D (sput s r c):=by rw [Ok.newD hr];exact hp
 have newcr:Cr (L.m+1) (L.B (sput s r c)):=by
  rw [L.B_put hr]
  exact o.cr.turn (det_ne (by omega)) (by omega) _
 refine ⟨newpos,newcr,λ i hi=>?_⟩
 by_cases hir:i=r
 ·subst hir
  exact lp_congr (λ p _=>(Ok.same hi _).symm) (o.lex i hi)
 ·have ex:=λ y=>o.exch (c:=c) hr (show i<L.m+1 by omega) hir y
  by_cases hn:L.T s i (L.cv c)≤0
  ·refine lp_unscale hD (lp_congr (λ p _=>?_) (lp_add hp (b:=- L.T s i (L.cv c)) (by omega) (o.lex i hi) (o.lex r hr).weak))
   rw [ex];grind
  ·have hi0:0<L.T s i (L.cv c):=by omega
   rcases lp_or (u:=λ p=>L.T s i (L.li p)*L.T s r (L.cv c) - L.T s r (L.li p)*L.T s i (L.cv c)) L.ls with h | h | h
   ·exact lp_unscale hD (lp_congr (λ p _=>(ex _).symm) h)
   ·exfalso
    have z:∀ k,k<L.m+1→L.T (sput s r c) i (e1 k)=0:=λ k hk=>by
     by_cases hkm:k=L.m
     ·rw [hkm];exact L.not_last hi
     ·have h1:=h (k+1) (by unfold ls;exact List.mem_range.mpr (by omega))
      have e:L.li (k+1)=e1 k:=by unfold li;rw [if_neg (by omega)];rfl
      simp only [e] at h1
      have h2:=ex (e1 k)
      rw [h1] at h2
      rcases Int.mul_eq_zero.mp h2 with q | q
      ·omega
      ·exact q
    have hw:L.T (sput s r c) i (L.cv (sput s r c i))=0:=by
     rw [L.T_lin (by omega)]
     exact sm_zero' λ k hk=>by rw [z k hk,Int.mul_zero]
    rw [L.own hi] at hw
    omega
   ·exact absurd h (hmin i hi hi0)
noncomputable def Fur (L:Lpd) (s t:Nat→Nat):Prop:=lp (λ p=>L.T t L.m (L.li p)*L.D s - L.T s L.m (L.li p)*L.D t) L.ls
theorem Okx.further {s:Nat→Nat} (o:L.Okx s) {r c:Nat} (hr:r<L.m) (hneg:L.T s L.m (L.cv c)<0):L.Fur s (sput s r c):=by
 refine lp_congr (λ p _=>?_) (lp_scale (a:=- L.T s L.m (L.cv c)) (by omega) (o.lex r hr))
 have:=o.exch (c:=c) (i:=L.m) hr (by omega) (by omega) (L.li p)
 rw [Ok.newD hr,Int.mul_comm _ (L.D s),this];grind
theorem Fur.trans {s t w:Nat→Nat} (hs:0<L.D s) (ht:0<L.D t) (hw:0<L.D w) (h1:L.Fur s t) (h2:L.Fur t w):L.Fur s w:=by
 refine lp_unscale ht (lp_congr (λ p _=>?_) (lp_add hs (Int.le_of_lt hw) h2 h1.weak))
 grind
theorem Fur.irrefl {s:Nat→Nat}:¬ L.Fur s s:=lp_irrefl λ p _=>by omega
end
end Lpd
theorem filter_lt {α:Type} {p q:α→Bool}:∀ {l:List α},(∀ x∈l,p x=true→q x=true)→(∃ x∈l,q x=true∧p x=false)→(l.filter p).length<(l.filter q).length
 | [],_,h=>by obtain ⟨x,hx,_⟩:=h;cases hx
 | a::r,h1,h2=>by
  have hr:(r.filter p).length≤(r.filter q).length:=by
   have key:∀ l:List α,(∀ x∈l,p x=true→q x=true)→(l.filter p).length≤(l.filter q).length:=λ l=>by
    induction l with
    | nil=>intro _;exact Nat.le_refl _
    | cons b t ih =>
     intro h
     have it:=ih λ x hx=>h x (List.mem_cons_of_mem _ hx)
     have hb:=h b List.mem_cons_self
     rw [List.filter_cons,List.filter_cons]
     cases hp:p b with
     | true=>rw [hb hp];simp only [if_true,List.length_cons];omega
     | false =>
      cases q b with
      | true=>simp only [Bool.false_eq_true,if_false,if_true,List.length_cons];omega
      | false=>simpa using it
   exact key r λ x hx=>h1 x (List.mem_cons_of_mem _ hx)
  have ha:=h1 a List.mem_cons_self
  rw [List.filter_cons,List.filter_cons]
  obtain ⟨x,hx,qx,px⟩:=h2
  rcases List.mem_cons.mp hx with rfl | hx
  ·rw [qx,px]
   simp only [Bool.false_eq_true,if_false,if_true,List.length_cons]
   omega
  ·have it:=filter_lt (l:=r) (p:=p) (q:=q) (λ x hx=>h1 x (List.mem_cons_of_mem _ hx)) ⟨x,hx,qx,px⟩
   cases hp:p a with
   | true=>rw [ha hp];simp only [if_true,List.length_cons];omega
   | false =>
    cases q a with
    | true=>simp only [Bool.false_eq_true,if_false,if_true,List.length_cons];omega
    | false=>simpa using it
noncomputable def allL (k:Nat):Nat→List (List Nat)
 | 0=>[[]]
 | m+1=>(allL k m).flatMap λ l=>(List.range k).map λ c=>c::l
theorem mem_allL {k:Nat}:∀ {m:Nat} {l:List Nat},l.length=m→(∀ c∈l,c<k)→l∈allL k m
 | 0,l,h,_=>by
  have:l=[]:=List.eq_nil_of_length_eq_zero h
  subst this;simp [allL]
 | m+1,[],h,_=>by simp at h
 | m+1,c::l,h,hc=>by
  simp only [allL,List.mem_flatMap,List.mem_map,List.mem_range]
  exact ⟨l,mem_allL (by simpa using h) λ x hx=>hc x (List.mem_cons_of_mem _ hx),c,hc c List.mem_cons_self,rfl⟩
namespace Lpd
variable {L:Lpd}
noncomputable def sf (l:List Nat):Nat→Nat:=λ i=>l.getD i 0
noncomputable def mu (L:Lpd) (s:Nat→Nat):Nat:=open Classical in ((allL (L.n+L.m) L.m).filter λ t=>decide (0<L.D (sf t)∧L.Fur s (sf t))).length
theorem mu_lt {s:Nat→Nat} {t:List Nat} (hs:0<L.D s) (ht:0<L.D (sf t)) (hl:t.length=L.m) (hc:∀ c∈t,c<L.n+L.m) (h:L.Fur s (sf t)):L.mu (sf t)<L.mu s:=by
 classical
 unfold mu
 refine filter_lt (λ x _ hx=>?_) ⟨t,mem_allL hl hc,?_,?_⟩
 ·have hx:=of_decide_eq_true hx
  exact decide_eq_true ⟨hx.1,Fur.trans hs ht hx.1 h hx.2⟩
 ·exact decide_eq_true ⟨ht,h⟩
 ·exact decide_eq_false λ z=>Fur.irrefl z.2
theorem sm_add (n:Nat) (f g:Nat→Int):sm n (λ k=>f k+g k)=sm n f+sm n g:=by
 have:=sm_lin 1 1 n f g
 simp only [Int.one_mul] at this
 exact this
theorem sm_mul (c:Int) (n:Nat) (f:Nat→Int):sm n (λ k=>c*f k)=c*sm n f:=by
 have:=sm_lin c 0 n f f
 simp only [Int.zero_mul,Int.add_zero] at this
 exact this
theorem sm_swap (g:Nat→Nat→Int) (m:Nat):∀ n:Nat,sm n (λ j=>sm m λ i=>g i j)=sm m λ i=>sm n λ j=>g i j
 | 0=>(sm_zero' λ _ _=>rfl).symm
 | n+1=>by
  show sm n (λ j=>sm m λ i=>g i j)+sm m (λ i=>g i n)=sm m λ i=>sm n (λ j=>g i j)+g i n
  rw [sm_swap g m n,sm_add]
theorem sm_le:∀ {n:Nat} {f g:Nat→Int},(∀ k,k<n→f k≤g k)→sm n f≤sm n g
 | 0,_,_,_=>Int.le_refl _
 | n+1,f,g,h=>Int.add_le_add (sm_le λ k hk=>h k (by omega)) (h n (by omega))
theorem sm_nonneg {n:Nat} {f:Nat→Int} (h:∀ k,k<n→0≤f k):0≤sm n f:=by
 have:=sm_le (n:=n) (f:=λ _=>0) (g:=f) h
 rwa [sm_zero' λ _ _=>rfl] at this
noncomputable def spr (m:Nat) (s:Nat→Nat) (t:Nat→Int) (j:Nat):Int:=sm m λ i=>if s i=j then t i else 0
theorem spr_sum (m n:Nat) (s:Nat→Nat) (t:Nat→Int) (w:Nat→Int):(sm n λ j=>spr m s t j*w j)=sm m λ i=>if s i<n then t i*w (s i) else 0:=by
 have e:(sm n λ j=>spr m s t j*w j)=sm n λ j=>sm m λ i=>if s i=j then t i*w j else 0:=sm_congr λ j _=>by
  unfold spr
  rw [Int.mul_comm,← sm_mul]
  exact sm_congr λ i _=>by split <;> simp [Int.mul_comm]
 rw [e,sm_swap (λ i j=>if s i=j then t i*w j else 0)]
 refine sm_congr λ i _=>?_
 by_cases h:s i<n
 ·rw [if_pos h,sm_one' (p:=s i) h]
  ·rw [if_pos rfl]
  ·intro k _ hk
   rw [if_neg (λ z=>hk z.symm)]
 ·rw [if_neg h]
  exact sm_zero' λ j hj=>if_neg (by omega)
theorem Ok.by_cols {s:Nat→Nat} (o:L.Ok s) (hs:∀ i,i<L.m→s i<L.n+L.m) (y:Nat→Int) {r:Nat} (hr:r<L.m+1) :
  (sm L.n λ j=>spr L.m s (λ i=>L.T s i y) j*L.a j r)+(sm L.m λ i=>if s i<L.n then 0 else L.T s i y*e1 (s i - L.n) r)+(if r=L.m then L.T s L.m y else 0)=L.D s*y r:=by
 have h:=L.cr_T o.cr y hr
 have h:(sm L.m λ i=>L.T s i y*L.B s i r)+L.T s L.m y*L.B s L.m r=L.D s*y r:=h
 rw [spr_sum,← h,← sm_add]
 have e:(sm L.m λ i=>(if s i<L.n then L.T s i y*L.a (s i) r else 0)+(if s i<L.n then 0 else L.T s i y*e1 (s i - L.n) r))=sm L.m λ i=>L.T s i y*L.B s i r:=sm_congr λ i hi=>by
  have eb:L.B s i=L.cv (s i):=by unfold B;rw [if_pos hi]
  rw [eb]
  unfold cv
  by_cases q:s i<L.n
  ·rw [if_pos q,if_pos q,if_pos q,Int.add_zero]
  ·rw [if_neg q,if_neg q,if_neg q,Int.zero_add]
 rw [e]
 have eb:L.B s L.m=e1 L.m:=by unfold B;rw [if_neg (Nat.lt_irrefl _)]
 rw [eb]
 unfold e1
 by_cases q:r=L.m
 ·rw [if_pos q,if_pos q,Int.mul_one]
 ·rw [if_neg q,if_neg q,Int.mul_zero]
theorem Ok.bound_nonneg {s:Nat→Nat} (o:L.Ok s) {i:Nat} (hi:i<L.m):0≤L.T s i L.be:=o.bn i hi
theorem spr_nonneg {m:Nat} {s:Nat→Nat} {t:Nat→Int} (h:∀ i,i<m→0≤t i) (j:Nat):0≤spr m s t j:=sm_nonneg λ i hi=>by
 split
 ·exact h i hi
 ·exact Int.le_refl _
theorem Ok.allowed {s:Nat→Nat} (o:L.Ok s) (hs:∀ i,i<L.m→s i<L.n+L.m) {r:Nat} (hr:r<L.m):(sm L.n λ j=>spr L.m s (λ i=>L.T s i L.be) j*L.a j r)≤L.D s*L.be r:=by
 have h:=o.by_cols hs L.be (r:=r) (by omega)
 rw [if_neg (by omega)] at h
 have:0≤sm L.m λ i=>if s i<L.n then 0 else L.T s i L.be*e1 (s i - L.n) r:=sm_nonneg λ i hi=>by
  split
  ·exact Int.le_refl _
  ·refine Int.mul_nonneg (o.bound_nonneg hi) ?_
   unfold e1;split <;> decide
 omega
theorem Ok.no_spare {s:Nat→Nat} (hs:∀ i,i<L.m→s i<L.n+L.m) (y:Nat→Int):(sm L.m λ i=>if s i<L.n then 0 else L.T s i y*e1 (s i - L.n) L.m)=0:=sm_zero' λ i hi=>by
 split
 ·rfl
 ·have:=hs i hi
  unfold e1
  rw [if_neg (by omega),Int.mul_zero]
theorem Ok.earned {s:Nat→Nat} (o:L.Ok s) (hs:∀ i,i<L.m→s i<L.n+L.m) (hb:L.be L.m=0):(sm L.n λ j=>spr L.m s (λ i=>L.T s i L.be) j*L.a j L.m) = - L.T s L.m L.be:=by
 have h:=o.by_cols hs L.be (r:=L.m) (by omega)
 rw [if_pos rfl,Ok.no_spare hs,hb,Int.mul_zero] at h
 omega
theorem goal_of {s:Nat→Nat} (y:Nat→Int):L.T s L.m y=(sm L.m λ k=>y k*L.T s L.m (e1 k))+y L.m*L.D s:=by
 rw [L.T_lin (by omega) y]
 show sm L.m _+y L.m*L.T s L.m (e1 L.m)=_
 rw [L.last_own]
theorem Ok.ways_row {s:Nat→Nat} (o:L.Ok s) (hs:∀ i,i<L.m→s i<L.n+L.m) {c r:Nat} (hneg:∀ i,i<L.m→L.T s i (L.cv c)≤0) (hr:r<L.m):(sm L.n λ j=>(spr L.m s (λ i=>- L.T s i (L.cv c)) j+if j=c then L.D s else 0)*L.a j r)≤0:=by
 have h:=o.by_cols hs (L.cv c) (r:=r) (by omega)
 rw [if_neg (by omega)] at h
 have hsp:(sm L.m λ i=>if s i<L.n then 0 else L.T s i (L.cv c)*e1 (s i - L.n) r)≤0:=by
  have:=sm_nonneg (n:=L.m) (f:=λ i=>- (if s i<L.n then 0 else L.T s i (L.cv c)*e1 (s i - L.n) r)) λ i hi=>by
   split
   ·decide
   ·have h1:=hneg i hi
    unfold e1
    split <;> omega
  have e:(sm L.m λ i=>- (if s i<L.n then 0 else L.T s i (L.cv c)*e1 (s i - L.n) r)) = - sm L.m λ i=>if s i<L.n then 0 else L.T s i (L.cv c)*e1 (s i - L.n) r:=by
   have:=sm_mul (-1) L.m (λ i=>if s i<L.n then 0 else L.T s i (L.cv c)*e1 (s i - L.n) r)
   rw [← Int.neg_one_mul,← this]
   exact sm_congr λ i _=>by rw [Int.neg_one_mul]
  omega
 have e1':(sm L.n λ j=>(spr L.m s (λ i=>- L.T s i (L.cv c)) j+if j=c then L.D s else 0)*L.a j r) = - (sm L.n λ j=>spr L.m s (λ i=>L.T s i (L.cv c)) j*L.a j r)+(if c<L.n then L.D s*L.a c r else 0):=by
  have e2:(sm L.n λ j=>(spr L.m s (λ i=>- L.T s i (L.cv c)) j+if j=c then L.D s else 0)*L.a j r)=sm L.n λ j=>(-1)*(spr L.m s (λ i=>L.T s i (L.cv c)) j*L.a j r)+(if j=c then L.D s*L.a j r else 0):=sm_congr λ j _=>by
   have:spr L.m s (λ i=>- L.T s i (L.cv c)) j = - spr L.m s (λ i=>L.T s i (L.cv c)) j:=by
    unfold spr
    rw [← Int.neg_one_mul,← sm_mul]
    exact sm_congr λ i _=>by
     by_cases z:s i=j
     ·rw [if_pos z,if_pos z];exact (Int.neg_one_mul _).symm
     ·rw [if_neg z,if_neg z];rfl
   rw [this]
   split <;> grind
  rw [e2,sm_add,sm_mul]
  by_cases q:c<L.n
  ·rw [if_pos q,sm_one' (p:=c) q (λ k _ hk=>if_neg hk),if_pos rfl];omega
  ·rw [if_neg q,sm_zero' (λ k hk=>if_neg (by omega))];omega
 rw [e1']
 unfold cv at h
 by_cases q:c<L.n
 ·rw [if_pos q]
  simp only [if_pos q] at h
  unfold cv at hsp ⊢
  simp only [if_pos q] at hsp ⊢
  omega
 ·rw [if_neg q]
  simp only [if_neg q] at h
  unfold cv at hsp ⊢
  simp only [if_neg q] at hsp ⊢
  have:0≤L.D s*e1 (c - L.n) r:=by
   refine Int.mul_nonneg (Int.le_of_lt o.pos) ?_
   unfold e1;split <;> decide
  omega
theorem Ok.ways_goal {s:Nat→Nat} (o:L.Ok s) (hs:∀ i,i<L.m→s i<L.n+L.m) {c:Nat} (hc:c<L.n+L.m):(sm L.n λ j=>(spr L.m s (λ i=>- L.T s i (L.cv c)) j+if j=c then L.D s else 0)*L.a j L.m)=L.T s L.m (L.cv c):=by
 have h:=o.by_cols hs (L.cv c) (r:=L.m) (by omega)
 rw [if_pos rfl,Ok.no_spare hs] at h
 have e2:(sm L.n λ j=>(spr L.m s (λ i=>- L.T s i (L.cv c)) j+if j=c then L.D s else 0)*L.a j L.m)=sm L.n λ j=>(-1)*(spr L.m s (λ i=>L.T s i (L.cv c)) j*L.a j L.m)+(if j=c then L.D s*L.a j L.m else 0):=sm_congr λ j _=>by
  have:spr L.m s (λ i=>- L.T s i (L.cv c)) j = - spr L.m s (λ i=>L.T s i (L.cv c)) j:=by
   unfold spr
   rw [← Int.neg_one_mul,← sm_mul]
   exact sm_congr λ i _=>by
    by_cases z:s i=j
    ·rw [if_pos z,if_pos z];exact (Int.neg_one_mul _).symm
    ·rw [if_neg z,if_neg z];rfl
  rw [this]
  split <;> grind
 rw [e2,sm_add,sm_mul]
 by_cases q:c<L.n
 ·rw [sm_one' (p:=c) q (λ k _ hk=>if_neg hk),if_pos rfl]
  have e:L.cv c L.m=L.a c L.m:=by unfold cv;rw [if_pos q]
  rw [e] at h
  omega
 ·rw [sm_zero' (λ k hk=>if_neg (by omega))]
  have e:L.cv c L.m=0:=by unfold cv;rw [if_neg q];unfold e1;rw [if_neg (by omega)]
  rw [e,Int.mul_zero] at h
  omega
noncomputable def ins0 (L:Lpd):Nat→Nat:=λ i=>L.n+i
theorem B_start:∀ i,L.B L.ins0 i=Im i:=λ i=>by
 unfold B ins0 cv
 by_cases h:i<L.m
 ·rw [if_pos h,if_neg (by omega)]
  show e1 (L.n+i - L.n)=e1 i
  rw [show L.n+i - L.n=i by omega]
 ·rw [if_neg h];rfl
theorem B_start':L.B L.ins0=Im:=funext B_start
theorem D_start (h:L.fl=false):L.D L.ins0=1:=by unfold D;rw [B_start',det_one];unfold sg;rw [h];rfl
theorem T_start (h:L.fl=false) {i:Nat} (hi:i<L.m+1) (y:Nat→Int):L.T L.ins0 i y=y i:=by
 unfold T;rw [B_start',Tt_one hi];unfold sg;rw [h];exact Int.one_mul _
theorem Okn.start (h:L.fl=false):L.Okn L.ins0:=⟨by rw [D_start h];decide,by rw [B_start'];exact Cr_one⟩
theorem Okx.start (hf:L.fl=false) (hb:∀ i,i<L.m→0≤L.be i):L.Okx L.ins0:=by
 refine ⟨?_,?_,λ i hi=>?_⟩
 ·rw [D_start hf];decide
 ·rw [B_start'];exact Cr_one
 ·have e:∀ y,L.T L.ins0 i y=y i:=λ y=>T_start hf (by omega) y
  have one:∀ l:List Nat,i+1∈l→(∀ p∈l,p=0→0≤L.be i)→lp (λ p=>L.T L.ins0 i (L.li p)) l:=λ l=>by
   induction l with
   | nil=>intro h;cases h
   | cons p r ih =>
    intro h1 h2
    show 0<L.T L.ins0 i (L.li p)∨(L.T L.ins0 i (L.li p)=0∧_)
    rw [e]
    by_cases hp:p=0
    ·have eb:L.li p=L.be:=by unfold li;rw [if_pos hp]
     rw [eb]
     have hb0:=hb i hi
     by_cases hz:L.be i=0
     ·exact .inr ⟨hz,ih (by rcases List.mem_cons.mp h1 with q | q;omega;exact q) λ p hp=>h2 p (List.mem_cons_of_mem _ hp)⟩
     ·left;omega
    ·have eb:L.li p=e1 (p - 1):=by unfold li;rw [if_neg hp]
     rw [eb]
     unfold e1
     by_cases q:i=p - 1
     ·rw [if_pos q];left;decide
     ·rw [if_neg q]
      exact .inr ⟨rfl,ih (by rcases List.mem_cons.mp h1 with q' | q';omega;exact q') λ p hp=>h2 p (List.mem_cons_of_mem _ hp)⟩
  unfold ls
  exact one _ (List.mem_range.mpr (by omega)) λ _ _ _=>hb i hi
noncomputable def flip (L:Lpd):Lpd:={ L with fl:=!L.fl }
theorem flip_sg:L.flip.sg = - L.sg:=by
 unfold sg flip
 cases L.fl <;> rfl
theorem flip_T {s:Nat→Nat} {i:Nat} {y:Nat→Int}:L.flip.T s i y = - L.T s i y:=by
 show L.flip.sg*_=_
 rw [flip_sg,Int.neg_mul];rfl
theorem flip_D {s:Nat→Nat}:L.flip.D s = - L.D s:=by
 show L.flip.sg*_=_
 rw [flip_sg,Int.neg_mul];rfl
theorem flip_Okn {s:Nat→Nat} (o:L.Okn s):L.flip.Okn s:=⟨by rw [flip_D];have:=o.ne;omega,o.cr⟩
end Lpd
noncomputable def ofF {α:Type} (n:Nat) (f:Nat→α):List α:=(List.range n).map f
theorem ofF_length {α:Type} (n:Nat) (f:Nat→α):(ofF n f).length=n:=by unfold ofF;rw [List.length_map,List.length_range]
theorem ofF_get {α:Type} {n k:Nat} (f:Nat→α) (h:k<n):(ofF n f)[k]?=some (f k):=by unfold ofF;rw [List.getElem?_map,List.getElem?_range h];rfl
theorem ofF_inv {α:Type} {n k:Nat} {f:Nat→α} {x:α} (h:(ofF n f)[k]?=some x):k<n∧x=f k:=by
 have hk:k<n:=by have:=(List.getElem?_eq_some_iff.mp h).1;rwa [ofF_length] at this
 rw [ofF_get f hk] at h
 exact ⟨hk,(Option.some.inj h).symm⟩
theorem ofF_snoc {α:Type} (n:Nat) (f:Nat→α):ofF (n+1) f=ofF n f++[f n]:=by unfold ofF;rw [List.range_succ,List.map_append];rfl
theorem ofF_mem {α:Type} {n:Nat} {f:Nat→α} {x:α} (h:x∈ofF n f):∃ k,k<n∧x=f k:=by
 obtain ⟨k,hk,e⟩:=List.mem_map.mp h
 exact ⟨k,List.mem_range.mp hk,e.symm⟩
theorem ofF_congr {α:Type} {n:Nat} {f g:Nat→α} (h:∀ k,k<n→f k=g k):ofF n f=ofF n g:=List.map_congr_left λ k hk=>h k (List.mem_range.mp hk)
theorem ofF_sum (n:Nat) (f:Nat→Int):(ofF n f).sum=sm n f:=by
 induction n with
 | zero=>rfl
 | succ n ih=>rw [ofF_snoc,List.sum_append,ih];show sm n f+(f n+0)=sm n f+f n;rw [Int.add_zero]
theorem ofF_set {n i:Nat} {f:Nat→Int} {v:Int}:(ofF n f).set i v=ofF n λ k=>if k=i then v else f k:=by
 apply List.ext_getElem?
 intro k
 rw [List.getElem?_set]
 by_cases hk:k<n
 ·rw [ofF_get (λ k=>if k=i then v else f k) hk]
  by_cases e:i=k
  ·rw [if_pos e,if_pos (by rw [ofF_length];omega),if_pos e.symm]
  ·rw [if_neg e,if_neg (Ne.symm e),ofF_get _ hk]
 ·rw [List.getElem?_eq_none (l:=ofF n λ k=>if k=i then v else f k) (by rw [ofF_length];omega)]
  by_cases e:i=k
  ·rw [if_pos e,if_neg (by rw [ofF_length];omega)]
  ·rw [if_neg e,List.getElem?_eq_none (by rw [ofF_length];omega)]
theorem getD_of {l:List Int} {i:Nat} {x:Int} (h:l[i]?=some x):l.getD i 0=x:=by rw [List.getD_eq_getElem?_getD,h];rfl
theorem sum_bb:∀ {l:List Int} {p:Nat},(∀ x∈l,BB p x)→BB (p+l.length) l.sum
 | [],p,_=>by show (0:Int).natAbs<_;exact Nat.two_pow_pos _
 | a::r,p,h=>by
  have i:=sum_bb (l:=r) (p:=p) λ x hx=>h x (List.mem_cons_of_mem _ hx)
  have ha:=(h a List.mem_cons_self).mono (show p≤p+r.length by omega)
  rw [List.sum_cons,List.length_cons]
  exact (ha.add i).mono (by omega)
namespace Lpd
noncomputable def colL (L:Lpd) (j:Nat):List Int:=ofF (L.m+1) (L.a j)
noncomputable def keptL (L:Lpd) (s:Nat→Nat) (i:Nat):List Int:=ofF (L.m+1) (λ k=>L.T s i (e1 k))++[L.T s i L.be]
noncomputable def numL (L:Lpd) (s:Nat→Nat) (c:Nat):List Int:=ofF (L.m+1) λ i=>L.T s i (L.cv c)
noncomputable def insL (L:Lpd) (s:Nat→Nat):List Int:=ofF L.m λ i=>(s i:Int)
structure Lim (L:Lpd):Prop where
 m1:L.m≤100
 n1:L.n≤100
 ba:∀ j k,j<L.n→k≤L.m→BB 20000 (L.a j k)
 bc:∀ s i c,L.Okn s→i≤L.m→BB 20000 (L.T s i (L.cv c))
 bk:∀ s i k,L.Okn s→i≤L.m→k≤L.m→BB 20000 (L.T s i (e1 k))
 bb:∀ s i,L.Okn s→i≤L.m→BB 20000 (L.T s i L.be)
 bD:∀ s,L.Okn s→BB 9000 (L.D s)
theorem keptL_length (L:Lpd) (s:Nat→Nat) (i:Nat):(L.keptL s i).length=L.m+2:=by unfold keptL;rw [List.length_append,ofF_length];rfl
theorem keptL_get (L:Lpd) (s:Nat→Nat) (i:Nat) {k:Nat} (h:k≤L.m):(L.keptL s i)[k]?=some (L.T s i (e1 k)):=by
 unfold keptL;rw [List.getElem?_append_left (by rw [ofF_length];omega),ofF_get _ (by omega)]
theorem keptL_last (L:Lpd) (s:Nat→Nat) (i:Nat):(L.keptL s i)[L.m+1]?=some (L.T s i L.be):=by
 unfold keptL;rw [List.getElem?_append_right (by rw [ofF_length];omega),ofF_length,Nat.sub_self];rfl
theorem Lim.kept {L:Lpd} (h:L.Lim) {s:Nat→Nat} (o:L.Okn s) {i:Nat} (hi:i≤L.m):∀ x∈L.keptL s i,BB 20000 x:=λ x hx=>by
 unfold keptL at hx
 rcases List.mem_append.mp hx with hx | hx
 ·obtain ⟨k,hk,rfl⟩:=ofF_mem hx
  exact h.bk s i k o hi (by omega)
 ·rw [List.mem_singleton.mp hx];exact h.bb s i o hi
theorem T_prod (L:Lpd) (s:Nat→Nat) {i j:Nat} (hi:i≤L.m) (hj:j<L.n):(sm (L.m+1) λ k=>L.a j k*L.T s i (e1 k))=L.T s i (L.cv j):=by
 have e:L.cv j=L.a j:=by unfold cv;rw [if_pos hj]
 rw [e]
 exact (L.T_lin (by omega) _).symm
theorem cv_spare (L:Lpd) (k:Nat):L.cv (L.n+k)=e1 k:=by
 unfold cv;rw [if_neg (by omega),show L.n+k - L.n=k by omega]
theorem Okn.inj {L:Lpd} {s:Nat→Nat} (o:L.Okn s) {i j:Nat} (hi:i<L.m) (hj:j<L.m) (h:i≠j):s i≠s j:=λ e=>by
 have h1:=L.own (s:=s) hi
 have h2:L.T s i (L.cv (s j))=0:=L.other (by omega) hj h
 rw [← e,h1] at h2
 exact o.ne h2
theorem Ok.inj {L:Lpd} {s:Nat→Nat} (o:L.Ok s) {i j:Nat} (hi:i<L.m) (hj:j<L.m) (h:i≠j):s i≠s j:=o.n.inj hi hj h
theorem lx_lp {L:Lpd} {s:Nat→Nat} {c r i:Nat} {x y:List Int} (hx:∀ k,k≤L.m→x.getD k 0=L.T s r (e1 k)) (hx1:x.getD (L.m+1) 0=L.T s r L.be) (hx2:x.getD (L.m+2) 0=L.T s r (L.cv c))
  (hy:∀ k,k≤L.m→y.getD k 0=L.T s i (e1 k)) (hy1:y.getD (L.m+1) 0=L.T s i L.be) (hy2:y.getD (L.m+2) 0=L.T s i (L.cv c))
  (h:lx x y (L.m+2) ((L.m+1)::List.range L.m)≠some false):¬ lp (λ p=>- (L.T s i (L.li p)*L.T s r (L.cv c) - L.T s r (L.li p)*L.T s i (L.cv c))) L.ls:=by
 have key:∀ l:List Nat,(∀ p∈l,p≤L.m)→∀ l':List Nat,l'=l.map (λ p=>if p=0 then L.m+1 else p - 1)→lp (λ p=>- (L.T s i (L.li p)*L.T s r (L.cv c) - L.T s r (L.li p)*L.T s i (L.cv c))) l→lx x y (L.m+2) l'=some false:=by
  intro l
  induction l with
  | nil=>intro _ l' _ h;exact h.elim
  | cons p t ih =>
   rintro hl l' rfl hp
   have it:=ih (λ q hq=>hl q (List.mem_cons_of_mem _ hq)) _ rfl
   have hpm:=hl p List.mem_cons_self
   have ex:x.getD (if p=0 then L.m+1 else p - 1) 0=L.T s r (L.li p):=by
    unfold li
    by_cases e:p=0
    ·rw [if_pos e,if_pos e,hx1]
    ·rw [if_neg e,if_neg e,hx _ (by omega)]
   have ey:y.getD (if p=0 then L.m+1 else p - 1) 0=L.T s i (L.li p):=by
    unfold li
    by_cases e:p=0
    ·rw [if_pos e,if_pos e,hy1]
    ·rw [if_neg e,if_neg e,hy _ (by omega)]
   rw [List.map_cons]
   unfold lx
   rw [ex,ey,hx2,hy2]
   rcases hp with hp | ⟨hp,hp2⟩
   ·have hp:0 < - (L.T s i (L.li p)*L.T s r (L.cv c) - L.T s r (L.li p)*L.T s i (L.cv c)):=hp
    rw [if_neg (by omega),decide_eq_false (by omega)]
   ·have hp:- (L.T s i (L.li p)*L.T s r (L.cv c) - L.T s r (L.li p)*L.T s i (L.cv c))=0:=hp
    rw [if_pos (by omega)]
    exact it hp2
 intro z
 refine h (key L.ls (λ p hp=>?_) _ ?_ z)
 ·have:=List.mem_range.mp hp;omega
 ·unfold ls
  rw [List.range_succ_eq_map,List.map_cons,List.map_map]
  show _=(L.m+1)::_
  congr 1
  conv=>lhs;rw [← List.map_id (List.range L.m)]
  exact List.map_congr_left λ k _=>by show k=if Nat.succ k=0 then L.m+1 else Nat.succ k - 1;rw [if_neg (by omega)];rfl
end Lpd
noncomputable def Ro (row:List Int) (w:Nat):Prop:=row.length=w∧∀ m∈row,BB 20000 m
noncomputable def mn (t i:Addr) (H:Hp):Hp:=λ x=>if x=t∨x=i then none else H x
theorem mn_same {t i:Addr} {H:Hp}:Same (mn t i H) H:=λ b o e=>by
 unfold mn at e
 split at e
 ·cases e
 ·exact e
theorem mn_mono {t i:Addr} {H H':Hp} (s:Same H H'):Same (mn t i H) (mn t i H'):=λ b o e=>by
 unfold mn at e ⊢
 split at e
 ·cases e
 ·rename_i h;rw [if_neg h];exact s b o e
theorem mn_of {t i x:Addr} {H:Hp} {o:HO} (h:H x=some o) (h1:x≠t) (h2:x≠i):mn t i H x=some o:=by
 unfold mn;rw [if_neg (λ z=>z.elim h1 h2)];exact h
theorem mn_upd {t i x:Addr} {H:Hp} {o:HO} (h:x=t∨x=i):mn t i (upd H x o)=mn t i H:=by
 funext b
 unfold mn
 by_cases hb:b=t∨b=i
 ·rw [if_pos hb,if_pos hb]
 ·rw [if_neg hb,if_neg hb,upd_ne (λ e=>hb (by rw [e];exact h))]
theorem RwsAt.mn {t i:Addr} {H:Hp}:∀ {ps:List Addr} {rs:List (List Int)},t∉ps→i∉ps→RwsAt H ps rs→RwsAt (mn t i H) ps rs
 | [],[],_,_,_=>trivial
 | p::ps,r::rs,h1,h2,h=>⟨mn_of h.1 (λ e=>h1 (by rw [e];exact List.mem_cons_self)) (λ e=>h2 (by rw [e];exact List.mem_cons_self)),RwsAt.mn (λ z=>h1 (List.mem_cons_of_mem _ z)) (λ z=>h2 (List.mem_cons_of_mem _ z)) h.2⟩
 | [],_::_,_,_,h=>h.elim
 | _::_,[],_,_,h=>h.elim
noncomputable def cfl (b sp k i:Addr):List (Str×V):=putF "inside" (.ref i) (putF "kept" (.ref k) (putF "spans" (.ref sp) (putF "begun" (.ref b) [])))
theorem cfl_begun (b sp k i:Addr):(cfl b sp k i).lookup ("begun" : Str)=some (.ref b):=rfl
theorem cfl_spans (b sp k i:Addr):(cfl b sp k i).lookup ("spans" : Str)=some (.ref sp):=rfl
theorem cfl_kept (b sp k i:Addr):(cfl b sp k i).lookup ("kept" : Str)=some (.ref k):=rfl
theorem cfl_inside (b sp k i:Addr):(cfl b sp k i).lookup ("inside" : Str)=some (.ref i):=rfl
theorem cfl_put (b sp k i k':Addr):putF "kept" (.ref k') (cfl b sp k i)=cfl b sp k' i:=rfl
structure CorP (K:W.Frag) (H:Hp) (t ins:Addr) (L:Lpd) (s:Nat→Nat) (dx b sp k:Addr) (bs:List Addr) (ss:List Int) (ks:List Addr):Prop where
 ob:H t=some (.ins (gadr K "Corner") dx (cfl b sp k ins))
 hb:mn t ins H b=some (.lst (List.map V.ref bs))
 hbs:RwsAt (mn t ins H) bs (ofF L.n L.colL)
 hs:mn t ins H sp=some (.lst (List.map V.int ss))
 sl:ss.length=L.n+L.m
 sb:∀ x∈ss,BB 30000 x
 hk:mn t ins H k=some (.lst (List.map V.ref ks))
 hks:RwsAt (mn t ins H) ks (ofF (L.m+1) (L.keptL s))
 hi:H ins=some (.lst (List.map V.int (L.insL s)))
noncomputable def CorAt (K:W.Frag) (H:Hp) (t ins:Addr) (L:Lpd) (s:Nat→Nat):Prop:=∃ dx b sp k bs ss ks,CorP K H t ins L s dx b sp k bs ss ks
section
variable {K:W.Frag} {H H':Hp} {t ins:Addr} {L:Lpd} {s:Nat→Nat} {dx b sp k:Addr} {bs:List Addr} {ss:List Int} {ks:List Addr}
theorem CorP.same (h:CorP K H t ins L s dx b sp k bs ss ks) (e:Same H H'):CorP K H' t ins L s dx b sp k bs ss ks :=
 ⟨e _ _ h.ob,mn_mono e _ _ h.hb,h.hbs.same (mn_mono e),mn_mono e _ _ h.hs,h.sl,h.sb,mn_mono e _ _ h.hk,h.hks.same (mn_mono e),e _ _ h.hi⟩
theorem CorAt.same (h:CorAt K H t ins L s) (e:Same H H'):CorAt K H' t ins L s:=let ⟨dx,b,sp,k,bs,ss,ks,c⟩:=h;⟨dx,b,sp,k,bs,ss,ks,c.same e⟩
theorem CorP.B (h:CorP K H t ins L s dx b sp k bs ss ks):H b=some (.lst (List.map V.ref bs)):=mn_same _ _ h.hb
theorem CorP.Bs (h:CorP K H t ins L s dx b sp k bs ss ks):RwsAt H bs (ofF L.n L.colL):=h.hbs.same mn_same
theorem CorP.S (h:CorP K H t ins L s dx b sp k bs ss ks):H sp=some (.lst (List.map V.int ss)):=mn_same _ _ h.hs
theorem CorP.Kp (h:CorP K H t ins L s dx b sp k bs ss ks):H k=some (.lst (List.map V.ref ks)):=mn_same _ _ h.hk
theorem CorP.Ks (h:CorP K H t ins L s dx b sp k bs ss ks):RwsAt H ks (ofF (L.m+1) (L.keptL s)):=h.hks.same mn_same
theorem CorP.bl (h:CorP K H t ins L s dx b sp k bs ss ks):bs.length=L.n:=by rw [h.hbs.length,ofF_length]
theorem CorP.kl (h:CorP K H t ins L s dx b sp k bs ss ks):ks.length=L.m+1:=by rw [h.hks.length,ofF_length]
theorem CorP.row (h:CorP K H t ins L s dx b sp k bs ss ks) {i:Nat} (hi:i≤L.m):∃ p,ks[i]?=some p∧atI (List.map V.ref ks) (i:Int)=some (.ref p)∧H p=some (.lst (List.map V.int (L.keptL s i))):=by
 have hl:=h.kl
 obtain ⟨p,hp⟩:∃ p,ks[i]?=some p:=⟨_,List.getElem?_eq_getElem (by omega)⟩
 obtain ⟨r,e1,e2⟩:=h.Ks.get hp
 obtain ⟨_,rfl⟩:=ofF_inv e1
 exact ⟨p,hp,atI_nat (by rw [List.getElem?_map,hp];rfl),e2⟩
theorem CorP.last (h:CorP K H t ins L s dx b sp k bs ss ks):∃ p,ks[L.m]?=some p∧atI (List.map V.ref ks) (-1)=some (.ref p)∧H p=some (.lst (List.map V.int (L.keptL s L.m))):=by
 have hl:=h.kl
 obtain ⟨p,hp,_,e⟩:=h.row (Nat.le_refl L.m)
 exact ⟨p,hp,atI_last (by rw [List.length_map,hl,List.getElem?_map,show L.m+1 - 1=L.m by omega,hp];rfl),e⟩
theorem CorP.col (h:CorP K H t ins L s dx b sp k bs ss ks) {j:Nat} (hj:j<L.n):∃ p,bs[j]?=some p∧atI (List.map V.ref bs) (j:Int)=some (.ref p)∧H p=some (.lst (List.map V.int (L.colL j))):=by
 have hl:=h.bl
 obtain ⟨p,hp⟩:∃ p,bs[j]?=some p:=⟨_,List.getElem?_eq_getElem (by omega)⟩
 obtain ⟨r,e1,e2⟩:=h.Bs.get hp
 obtain ⟨_,rfl⟩:=ofF_inv e1
 exact ⟨p,hp,atI_nat (by rw [List.getElem?_map,hp];rfl),e2⟩
end
noncomputable def CorF (K:W.Frag) (H:Hp) (t ins:Addr) (L:Lpd) (s:Nat→Nat) (f:Addr):Prop:=∃ dx b sp k bs ss ks,CorP K H t ins L s dx b sp k bs ss ks∧f≠b∧f≠sp∧f≠k∧f∉bs∧f∉ks
section
variable {K:W.Frag} {H H':Hp} {t ins f:Addr} {L:Lpd} {s:Nat→Nat} {dx b sp k:Addr} {bs:List Addr} {ss:List Int} {ks:List Addr}
theorem CorF.at (h:CorF K H t ins L s f):CorAt K H t ins L s:=let ⟨dx,b,sp,k,bs,ss,ks,c,_⟩:=h;⟨dx,b,sp,k,bs,ss,ks,c⟩
theorem CorF.same (h:CorF K H t ins L s f) (e:Same H H'):CorF K H' t ins L s f:=let ⟨dx,b,sp,k,bs,ss,ks,c,r⟩:=h;⟨dx,b,sp,k,bs,ss,ks,c.same e,r⟩
theorem map_ref_inj {xs ys:List Addr} (h:List.map V.ref xs=List.map V.ref ys):xs=ys:=(List.map_inj_right (λ a b h=>by injection h)).mp h
theorem CorF.of (h:CorF K H t ins L s f) (P:CorP K H t ins L s dx b sp k bs ss ks):f≠b∧f≠sp∧f≠k∧f∉bs∧f∉ks:=by
 obtain ⟨dx',b',sp',k',bs',ss',ks',P',r⟩:=h
 have e:=Option.some.inj (P'.ob.symm.trans P.ob)
 injection e with _ _ e
 have e1:b'=b:=by have:=congrArg (List.lookup ("begun" : Str)) e;rw [cfl_begun,cfl_begun] at this;injection this with this;injection this
 have e2:sp'=sp:=by have:=congrArg (List.lookup ("spans" : Str)) e;rw [cfl_spans,cfl_spans] at this;injection this with this;injection this
 have e3:k'=k:=by have:=congrArg (List.lookup ("kept" : Str)) e;rw [cfl_kept,cfl_kept] at this;injection this with this;injection this
 subst e1 e2 e3
 have e4:bs'=bs:=by have:=Option.some.inj (P'.hb.symm.trans P.hb);injection this with this;exact map_ref_inj this
 have e5:ks'=ks:=by have:=Option.some.inj (P'.hk.symm.trans P.hk);injection this with this;exact map_ref_inj this
 subst e4 e5
 exact r
theorem CorAt.fresh (h:CorAt K H t ins L s) (hf:H f=none):CorF K H t ins L s f:=by
 obtain ⟨dx,b,sp,k,bs,ss,ks,P⟩:=h
 have no:∀ {a:Addr} {o:HO},H a=some o→f≠a:=λ e z=>by rw [← z,hf] at e;cases e
 refine ⟨dx,b,sp,k,bs,ss,ks,P,no P.B,no P.S,no P.Kp,λ hm=>?_,λ hm=>?_⟩
 ·obtain ⟨_,_,e⟩:=P.Bs.has hm;rw [hf] at e;cases e
 ·obtain ⟨_,_,e⟩:=P.Ks.has hm;rw [hf] at e;cases e
theorem mn_updO {x:Addr} {o:HO} (h1:x≠t) (h2:x≠ins):mn t ins (upd H x o)=upd (mn t ins H) x o:=by
 funext y
 unfold mn
 by_cases e:y=x
 ·rw [e,if_neg (λ z=>z.elim h1 h2),upd_same,upd_same]
 ·rw [upd_ne e,upd_ne e]
theorem CorF.upd (h:CorF K H t ins L s f) (h1:f≠t) (h2:f≠ins) {o:HO}:CorF K (L2.upd H f o) t ins L s f:=by
 obtain ⟨dx,b,sp,k,bs,ss,ks,P,n1,n2,n3,n4,n5⟩:=h
 refine ⟨dx,b,sp,k,bs,ss,ks,⟨?_,?_,?_,?_,P.sl,P.sb,?_,?_,?_⟩,n1,n2,n3,n4,n5⟩
 ·rw [upd_ne h1.symm];exact P.ob
 ·rw [mn_updO h1 h2,upd_ne n1.symm];exact P.hb
 ·rw [mn_updO h1 h2];exact P.hbs.put n4
 ·rw [mn_updO h1 h2,upd_ne n2.symm];exact P.hs
 ·rw [mn_updO h1 h2,upd_ne n3.symm];exact P.hk
 ·rw [mn_updO h1 h2];exact P.hks.put n5
 ·rw [upd_ne h2.symm];exact P.hi
end
noncomputable def lo2 (t b:Int):Int×Int:=(t.fdiv (Int.gcd t b:Nat),b.fdiv (Int.gcd t b:Nat))
theorem lo2_lo {t b:Int} (hb:0<b):Lo t b (lo2 t b).1 (lo2 t b).2:=lo_pos hb
theorem Lo.uniq {t b x y x' y':Int} (hb:0<b) (h:Lo t b x y) (h':Lo t b x' y'):x=x'∧y=y':=by
 have e:x*y'=x'*y:=by
  apply Int.eq_of_mul_eq_mul_left (show b≠0 by omega)
  have h1:=h.eq
  have h2:=h'.eq
  have:b*(x*y')=(x*b)*y':=by ac_rfl
  rw [this,h1]
  have:b*(x'*y)=(x'*b)*y:=by ac_rfl
  rw [this,h2];ac_rfl
 have d1:y∣y':=by
  have:y∣x*y':=⟨x',by rw [e,Int.mul_comm]⟩
  exact Int.natAbs_dvd_natAbs.mp (Nat.Coprime.dvd_of_dvd_mul_left (m:=x.natAbs) (Nat.Coprime.symm h.cop) (by rw [← Int.natAbs_mul];exact Int.natAbs_dvd_natAbs.mpr this))
 have d2:y'∣y:=by
  have:y'∣x'*y:=⟨x,by rw [← e,Int.mul_comm]⟩
  exact Int.natAbs_dvd_natAbs.mp (Nat.Coprime.dvd_of_dvd_mul_left (m:=x'.natAbs) (Nat.Coprime.symm h'.cop) (by rw [← Int.natAbs_mul];exact Int.natAbs_dvd_natAbs.mpr this))
 have l1:=Int.le_of_dvd h'.pos d1
 have l2:=Int.le_of_dvd h.pos d2
 have ey:y=y':=by omega
 subst ey
 exact ⟨Int.eq_of_mul_eq_mul_right (Int.ne_of_gt h.pos) e,rfl⟩
theorem Lo.is {t b x y:Int} (hb:0<b) (h:Lo t b x y):(x,y)=lo2 t b:=by
 obtain ⟨e1,e2⟩:=h.uniq hb (lo2_lo hb)
 rw [e1,e2]
theorem Lo.bb {t b x y:Int} {m n:Nat} (h:Lo t b x y) (ht:BB m t) (hb:BB n b):BB m x∧BB n y:=⟨ht.of_le h.bx,hb.of_le h.by_⟩
noncomputable def mx1 (g:Int):Int:=if 1 > g then 1 else g
theorem mx1_pos (g:Int):0<mx1 g:=by unfold mx1;split <;> omega
noncomputable def whF (fs:List (Int×Int)):Int×Int:=lo2 (lc fs) (mx1 (gl (clr fs)))
noncomputable def whL (fs:List (Int×Int)):List Int:=plainL (clr fs)
theorem whL_length (fs:List (Int×Int)):(whL fs).length=fs.length:=by unfold whL clr;rw [plainL_length,List.length_map]
theorem whF_pos {fs:List (Int×Int)} (h:∀ f∈fs,0<f.2):0<(whF fs).1∧0<(whF fs).2:=by
 have l:=lo2_lo (t:=lc fs) (mx1_pos (gl (clr fs)))
 refine ⟨?_,l.pos⟩
 have e:=l.eq
 have h1:=lc_pos h
 have h2:0<lc fs*(lo2 (lc fs) (mx1 (gl (clr fs)))).2:=Int.mul_pos h1 l.pos
 rw [← e] at h2
 exact Classical.byContradiction λ z=>by
  have:=Int.mul_nonpos_of_nonpos_of_nonneg (a:=(lo2 (lc fs) (mx1 (gl (clr fs)))).1) (b:=mx1 (gl (clr fs))) (by unfold whF at z;omega) (Int.le_of_lt (mx1_pos _))
  omega
theorem whL_eq {fs:List (Int×Int)} (h:∀ f∈fs,0<f.2) {i:Nat} {f:Int×Int} (hf:fs[i]?=some f):(whL fs).getD i 0*(f.2*(whF fs).2)=f.1*(whF fs).1:=by
 obtain ⟨t,e1,e2⟩:=plainL_get (clr_get hf)
 have e3:(whL fs).getD i 0=t:=getD_of e1
 rw [e3]
 have e2:t*mx1 (gl (clr fs))=f.1*((lc fs).fdiv f.2):=e2
 have l:=(lo2_lo (t:=lc fs) (mx1_pos (gl (clr fs)))).eq
 have c:=clr_eq h (List.mem_of_getElem? hf)
 have g0:=mx1_pos (gl (clr fs))
 show t*(f.2*(lo2 (lc fs) (mx1 (gl (clr fs)))).2)=f.1*(lo2 (lc fs) (mx1 (gl (clr fs)))).1
 generalize (lo2 (lc fs) (mx1 (gl (clr fs)))).1=X at *
 generalize (lo2 (lc fs) (mx1 (gl (clr fs)))).2=Y at *
 generalize mx1 (gl (clr fs))=g at *
 generalize (lc fs).fdiv f.2=q at *
 apply Int.eq_of_mul_eq_mul_left (show g≠0 by omega)
 have a1:g*(t*(f.2*Y))=(t*g)*f.2*Y:=by ac_rfl
 have a2:g*(f.1*X)=f.1*(X*g):=by ac_rfl
 rw [a1,e2,c,a2,l];ac_rfl
noncomputable def G9 (f:Int×Int):Prop:=0<f.2∧BB 20000 f.1∧BB 9000 f.2
noncomputable def Sb (t:Addr) (H H':Hp):Prop:=∀ b o,H b=some o→b≠t→H' b=some o
noncomputable def IsI (H:Hp) (t:Addr):Prop:=∃ C dx fs,H t=some (.ins C dx fs)
theorem Sb.of {t:Addr} {H H':Hp} (s:Same H H'):Sb t H H':=λ b o e _=>s b o e
theorem Sb.trans {t:Addr} {H H' H'':Hp} (a:Sb t H H') (b:Sb t H' H''):Sb t H H'':=λ c o e hc=>b c o (a c o e hc) hc
theorem Sb.at {t:Addr} {H:Hp} {o:HO}:Sb t H (upd H t o):=λ b u e hb=>by rw [upd_ne hb];exact e
theorem Sb.lst {t a:Addr} {H H':Hp} {xs:List V} (s:Sb t H H') (i:IsI H t) (h:H a=some (.lst xs)):H' a=some (.lst xs):=by
 obtain ⟨C,dx,fs,e⟩:=i
 exact s a _ h (ne_of h e (by intro z;cases z))
theorem Sb.rws {t:Addr} {H H':Hp} (s:Sb t H H') (i:IsI H t):∀ {ps:List Addr} {rs:List (List Int)},RwsAt H ps rs→RwsAt H' ps rs
 | [],[],_=>trivial
 | _::_,_::_,h=>⟨s.lst i h.1,s.rws i h.2⟩
 | [],_::_,h=>h.elim
 | _::_,[],h=>h.elim
theorem Sb.free {t d:Addr} {H H':Hp} (s:Sb t H H') (h:H' d=none) (n:d≠t):H d=none:=by
 cases e:H d with
 | none=>rfl
 | some o=>have:=s d o e n;rw [h] at this;cases this
theorem RwsAt.notI {t:Addr} {H:Hp} {ps:List Addr} {rs:List (List Int)} (h:RwsAt H ps rs) (i:IsI H t):t∉ps:=λ hm=>by
 obtain ⟨C,dx,fs,e⟩:=i
 obtain ⟨_,_,e2⟩:=h.has hm
 rw [e] at e2;cases e2
theorem RwsAt.notN {t:Addr} {H:Hp} {ps:List Addr} {rs:List (List Int)} (h:RwsAt H ps rs) (i:H t=none):t∉ps:=λ hm=>by
 obtain ⟨_,_,e2⟩:=h.has hm
 rw [i] at e2;cases e2
noncomputable def RfAt (K:W.Frag) (H:Hp):List Addr→List (List (Int×Int))→Prop
 | [],[]=>True
 | p::ps,r::rs=>(∃ qs,H p=some (.lst (List.map V.ref qs))∧FrsAt K H qs r)∧RfAt K H ps rs
 | _,_=>False
theorem RfAt.same {K:W.Frag} {H H':Hp} (s:Same H H'):∀ {ps:List Addr} {rs:List (List (Int×Int))},RfAt K H ps rs→RfAt K H' ps rs
 | [],[],_=>trivial
 | _::_,_::_,h=>⟨let ⟨qs,a,b⟩:=h.1;⟨qs,s _ _ a,b.same s⟩,h.2.same s⟩
 | [],_::_,h=>h.elim
 | _::_,[],h=>h.elim
theorem RfAt.length {K:W.Frag} {H:Hp}:∀ {ps:List Addr} {rs:List (List (Int×Int))},RfAt K H ps rs→ps.length=rs.length
 | [],[],_=>rfl
 | _::_,_::_,h=>by rw [List.length_cons,List.length_cons,h.2.length]
 | [],_::_,h=>h.elim
 | _::_,[],h=>h.elim
theorem RfAt.get {K:W.Frag} {H:Hp}:∀ {ps:List Addr} {rs:List (List (Int×Int))} {i:Nat} {p:Addr},RfAt K H ps rs→ps[i]?=some p→∃ r qs,rs[i]?=some r∧H p=some (.lst (List.map V.ref qs))∧FrsAt K H qs r
 | [],[],_,_,_,e=>by simp at e
 | _::_,r::_,0,_,h,e=>by simp at e;subst e;obtain ⟨qs,a,b⟩:=h.1;exact ⟨r,qs,rfl,a,b⟩
 | _::_,_::_,i+1,_,h,e=>by
  obtain ⟨f,qs,e1,e2⟩:=h.2.get (i:=i) (by simpa using e)
  exact ⟨f,qs,by simpa using e1,e2⟩
 | [],_::_,_,_,h,_=>h.elim
 | _::_,[],_,_,h,_=>h.elim
theorem RfAt.append {K:W.Frag} {H:Hp} {qs:List Addr} {gs:List (List (Int×Int))} (hq:RfAt K H qs gs):∀ {ps:List Addr} {rs:List (List (Int×Int))},RfAt K H ps rs→RfAt K H (ps++qs) (rs++gs)
 | [],[],_=>hq
 | _::_,_::_,h=>⟨h.1,RfAt.append hq h.2⟩
 | [],_::_,h=>h.elim
 | _::_,[],h=>h.elim
noncomputable def MdAt (H:Hp):List Addr→List (List (Int×Int))→Prop
 | [],[]=>True
 | p::ps,r::rs=>(∃ f l,H p=some (.tup [.ref f,.ref l])∧H f=some (.tup [.int (whF r).1,.int (whF r).2])∧H l=some (.lst (List.map V.int (whL r))))∧MdAt H ps rs
 | _,_=>False
theorem MdAt.same {H H':Hp} (s:Same H H'):∀ {ps:List Addr} {rs:List (List (Int×Int))},MdAt H ps rs→MdAt H' ps rs
 | [],[],_=>trivial
 | _::_,_::_,h=>⟨let ⟨f,l,a,b,c⟩:=h.1;⟨f,l,s _ _ a,s _ _ b,s _ _ c⟩,h.2.same s⟩
 | [],_::_,h=>h.elim
 | _::_,[],h=>h.elim
theorem MdAt.length {H:Hp}:∀ {ps:List Addr} {rs:List (List (Int×Int))},MdAt H ps rs→ps.length=rs.length
 | [],[],_=>rfl
 | _::_,_::_,h=>by rw [List.length_cons,List.length_cons,h.2.length]
 | [],_::_,h=>h.elim
 | _::_,[],h=>h.elim
theorem MdAt.get {H:Hp}:∀ {ps:List Addr} {rs:List (List (Int×Int))} {i:Nat} {p:Addr},MdAt H ps rs→ps[i]?=some p→∃ r f l,rs[i]?=some r∧H p=some (.tup [.ref f,.ref l])∧H f=some (.tup [.int (whF r).1,.int (whF r).2])∧H l=some (.lst (List.map V.int (whL r)))
 | [],[],_,_,_,e=>by simp at e
 | _::_,r::_,0,_,h,e=>by simp at e;subst e;obtain ⟨f,l,a,b,c⟩:=h.1;exact ⟨r,f,l,rfl,a,b,c⟩
 | _::_,_::_,i+1,_,h,e=>by
  obtain ⟨r,f,l,e1,e2⟩:=h.2.get (i:=i) (by simpa using e)
  exact ⟨r,f,l,by simpa using e1,e2⟩
 | [],_::_,_,_,h,_=>h.elim
 | _::_,[],_,_,h,_=>h.elim
theorem MdAt.append {H:Hp} {qs:List Addr} {gs:List (List (Int×Int))} (hq:MdAt H qs gs):∀ {ps:List Addr} {rs:List (List (Int×Int))},MdAt H ps rs→MdAt H (ps++qs) (rs++gs)
 | [],[],_=>hq
 | _::_,_::_,h=>⟨h.1,MdAt.append hq h.2⟩
 | [],_::_,h=>h.elim
 | _::_,[],h=>h.elim
noncomputable def fov (f g:Int×Int):Int×Int:=lo2 (f.1*g.2) (f.2*g.1)
noncomputable def ftm (f g:Int×Int):Int×Int:=lo2 (f.1*g.1) (f.2*g.2)
noncomputable def bnF (frs:List (List (Int×Int))) (fb:List (Int×Int)):List (Int×Int):=List.zipWith (λ b r=>ftm b (whF r)) fb frs
noncomputable def LpOf (e:Bool) (frs:List (List (Int×Int))) (fb fg:List (Int×Int)):Lpd where
 m:=frs.length
 n:=fg.length
 a:=λ j i=>if i<frs.length then (whL (frs.getD i [])).getD j 0 else - (whL fg).getD j 0
 be:=λ i=>(whL (bnF frs fb)).getD i 0
 fl:=e
structure Fit (m n q:Nat):Prop where
 q1:1≤q
 m1:m≤100
 n1:n≤100
 le:(m+1)*q+q+(m+1)*(m+1)+1≤9000
structure BeO (frs:List (List (Int×Int))) (fb fg:List (Int×Int)):Prop where
 lr:∀ r∈frs,r.length=fg.length
 lb:fb.length=frs.length
 gr:∀ r∈frs,∀ f∈r,G9 f
 gb:∀ f∈fb,G9 f
 gg:∀ f∈fg,G9 f
 cr:∀ r∈frs,∀ x∈clr r,BB 9000 x
 cg:∀ x∈clr fg,BB 9000 x
 cb:∀ x∈clr (bnF frs fb),BB 9000 x
 wr:∀ r∈frs,BB 20000 (whF r).1∧BB 20000 (whF r).2
 wb:BB 20000 (whF (bnF frs fb)).1∧BB 20000 (whF (bnF frs fb)).2
 wg:BB 20000 (whF fg).1∧BB 20000 (whF fg).2
 tb:∀ b∈fb,∀ r∈frs,BB 9000 (b.2*(whF r).2)∧BB 20000 (b.1*(whF r).1)
 lim:∀ e,(LpOf e frs fb fg).Lim
 ox:∀ e s,(LpOf e frs fb fg).Okn s→BB 9000 ((LpOf e frs fb fg).D s*(whF (bnF frs fb)).1)
 oy:∀ e s,(LpOf e frs fb fg).Okn s→∀ r∈frs,BB 9000 ((LpOf e frs fb fg).D s*(whF r).2*(whF fg).1)∧∀ k,k<frs.length→BB 20000 ((LpOf e frs fb fg).T s frs.length (e1 k)*(whF r).1)
 fit:∃ q,Fit frs.length fg.length q∧(∀ j k,BB q ((LpOf false frs fb fg).a j k))∧∀ k,BB q ((LpOf false frs fb fg).be k)
theorem bnF_length {frs:List (List (Int×Int))} {fb:List (Int×Int)} (h:fb.length=frs.length):(bnF frs fb).length=frs.length:=by unfold bnF;rw [List.length_zipWith];omega
theorem bnF_get {frs:List (List (Int×Int))} {fb:List (Int×Int)} {i:Nat} {b:Int×Int} {r:List (Int×Int)} (h1:fb[i]?=some b) (h2:frs[i]?=some r):(bnF frs fb)[i]?=some (ftm b (whF r)):=by
 unfold bnF;rw [List.getElem?_zipWith,h1,h2]
theorem Lpd.out {L:Lpd} {s:Nat→Nat} {c:Nat} (h:L.T s L.m (L.cv c)<0) {i:Nat} (hi:i<L.m):s i≠c:=λ e=>by
 have:=L.other (s:=s) (i:=L.m) (j:=i) (by omega) hi (by omega)
 rw [e] at this
 omega
theorem spr_bb {L:Lpd} {s:Nat→Nat} (ok:L.Ok s) {f:Nat→Int} {n:Nat} (hf:∀ i,i<L.m→BB n (f i)) (j:Nat):BB n (Lpd.spr L.m s f j):=by
 by_cases h:∃ i,i<L.m∧s i=j
 ·obtain ⟨i,hi,e⟩:=h
  have:Lpd.spr L.m s f j=f i:=by
   unfold Lpd.spr
   rw [sm_one' (p:=i) hi λ k hk hne=>if_neg λ z=>ok.inj hk hi hne (z.trans e.symm),if_pos e]
  rw [this];exact hf i hi
 ·have:Lpd.spr L.m s f j=0:=sm_zero' λ i hi=>if_neg λ z=>h ⟨i,hi,z⟩
  rw [this]
  show (0:Int).natAbs<_
  exact Nat.two_pow_pos _
theorem nonneg_of_mul {x a:Int} (ha:0<a) (h:0≤x*a):0≤x:=Classical.byContradiction λ z=>by
 have:=Int.mul_neg_of_neg_of_pos (show x<0 by omega) ha
 omega
theorem lo2_nonneg {t b:Int} (hb:0<b) (ht:0≤t):0≤(lo2 t b).1:=by
 have l:=lo2_lo (t:=t) hb
 refine nonneg_of_mul hb ?_
 rw [l.eq]
 exact Int.mul_nonneg ht (Int.le_of_lt l.pos)
theorem whL_nonneg {fs:List (Int×Int)} (h:∀ f∈fs,0<f.2) (h0:∀ f∈fs,0≤f.1) (i:Nat):0≤(whL fs).getD i 0:=by
 by_cases hi:i<fs.length
 ·have e:=List.getElem?_eq_getElem hi
  have q:=whL_eq h e
  have hm:=List.getElem_mem hi
  have w:=whF_pos h
  refine nonneg_of_mul (Int.mul_pos (h _ hm) w.2) ?_
  rw [q]
  exact Int.mul_nonneg (h0 _ hm) (Int.le_of_lt w.1)
 ·rw [List.getD_eq_getElem?_getD,List.getElem?_eq_none (by rw [whL_length];omega)]
  exact Int.le_refl _
theorem bnF_nonneg {frs:List (List (Int×Int))} {fb fg:List (Int×Int)} (B:BeO frs fb fg) (h0:∀ f∈fb,0≤f.1):∀ f∈bnF frs fb,0≤f.1:=λ f hf=>by
 obtain ⟨i,hi⟩:=List.getElem?_of_mem hf
 have hil:i<frs.length:=by have:=(List.getElem?_eq_some_iff.mp hi).1;rwa [bnF_length B.lb] at this
 have hib:i<fb.length:=by rw [B.lb];exact hil
 have e1:=List.getElem?_eq_getElem hil
 have e2:=List.getElem?_eq_getElem hib
 rw [bnF_get e2 e1] at hi
 obtain rfl:=Option.some.inj hi
 have wp:=whF_pos λ f hf=>(B.gr _ (List.getElem_mem hil) f hf).1
 exact lo2_nonneg (Int.mul_pos (B.gb _ (List.getElem_mem hib)).1 wp.2) (Int.mul_nonneg (h0 _ (List.getElem_mem hib)) (Int.le_of_lt wp.1))
theorem bb_mul_le {n:Nat} {x y z:Int} (h:BB n (y*z)) (hx:0≤x) (hxy:x≤y) (hz:0≤z):BB n (x*z):=h.of_le (by
 rw [Int.natAbs_mul,Int.natAbs_mul]
 exact Nat.mul_le_mul (by omega) (Nat.le_refl _))
theorem lo2_le {t b:Int} (hb:0<b):(lo2 t b).2≤b:=by
 have l:=lo2_lo (t:=t) hb
 have h1:=l.by_
 have h2:=l.pos
 omega
theorem RfAt.put {K:W.Frag} {H:Hp} {q:Addr} {ys zs:List V} (hq:H q=some (.lst ys)):∀ {ps:List Addr} {rs:List (List (Int×Int))},q∉ps→RfAt K H ps rs→RfAt K (upd H q (.lst zs)) ps rs
 | [],[],_,_=>trivial
 | p::_,_::_,hn,h=>⟨let ⟨qs,a,b⟩:=h.1;⟨qs,by rw [upd_ne (λ e:p=q=>hn (by rw [e];exact List.mem_cons_self))];exact a,b.off hq⟩,RfAt.put hq (λ z=>hn (List.mem_cons_of_mem _ z)) h.2⟩
 | [],_::_,_,h=>h.elim
 | _::_,[],_,h=>h.elim
theorem RfAt.has {K:W.Frag} {H:Hp} {ps:List Addr} {rs:List (List (Int×Int))} (h:RfAt K H ps rs) {p:Addr} (hp:p∈ps):∃ r qs,r∈rs∧H p=some (.lst (List.map V.ref qs))∧FrsAt K H qs r:=by
 obtain ⟨i,hi⟩:=List.getElem?_of_mem hp
 obtain ⟨r,qs,e1,e2⟩:=h.get hi
 exact ⟨r,qs,List.mem_of_getElem? e1,e2⟩
noncomputable def CpAt (H:Hp):List Addr→List Addr→Prop
 | [],[]=>True
 | p::ps,q::qs=>(∃ rs,H p=some (.lst (List.map V.ref rs))∧H q=some (.lst (List.map V.ref rs))∧p≠q)∧CpAt H ps qs
 | _,_=>False
theorem CpAt.same {H H':Hp} (s:Same H H'):∀ {ps qs:List Addr},CpAt H ps qs→CpAt H' ps qs
 | [],[],_=>trivial
 | _::_,_::_,h=>⟨let ⟨rs,a,b,c⟩:=h.1;⟨rs,s _ _ a,s _ _ b,c⟩,h.2.same s⟩
 | [],_::_,h=>h.elim
 | _::_,[],h=>h.elim
theorem CpAt.length {H:Hp}:∀ {ps qs:List Addr},CpAt H ps qs→ps.length=qs.length
 | [],[],_=>rfl
 | _::_,_::_,h=>by rw [List.length_cons,List.length_cons,h.2.length]
 | [],_::_,h=>h.elim
 | _::_,[],h=>h.elim
theorem CpAt.append {H:Hp} {ps2 qs2:List Addr} (hq:CpAt H ps2 qs2):∀ {ps qs:List Addr},CpAt H ps qs→CpAt H (ps++ps2) (qs++qs2)
 | [],[],_=>hq
 | _::_,_::_,h=>⟨h.1,CpAt.append hq h.2⟩
 | [],_::_,h=>h.elim
 | _::_,[],h=>h.elim
theorem CpAt.get {H:Hp}:∀ {ps qs:List Addr} {i:Nat} {p q:Addr},CpAt H ps qs→ps[i]?=some p→qs[i]?=some q→∃ rs,H p=some (.lst (List.map V.ref rs))∧H q=some (.lst (List.map V.ref rs))∧p≠q
 | [],[],_,_,_,_,e,_=>by simp at e
 | _::_,_::_,0,_,_,h,e1,e2=>by simp at e1 e2;subst e1 e2;exact h.1
 | _::_,_::_,i+1,_,_,h,e1,e2=>h.2.get (i:=i) (by simpa using e1) (by simpa using e2)
 | [],_::_,_,_,_,h,_,_=>h.elim
 | _::_,[],_,_,_,h,_,_=>h.elim
theorem CpAt.req {K:W.Frag} {H:Hp} {a b:Addr} {ps qs:List Addr} (h:CpAt H ps qs) (ha:H a=some (.lst (List.map V.ref ps))) (hb:H b=some (.lst (List.map V.ref qs))):REq K H (DEq K H 1) (.ref a) (.ref b) true:=by
 refine ⟨a,b,_,_,rfl,rfl,.inl ⟨SqL.of ha,SqL.of hb,.inr ⟨by rw [List.length_map,List.length_map];exact h.length,λ _=>true,λ j x y hx hy=>?_,?_⟩⟩⟩
 ·obtain ⟨p,rfl,hp⟩:=get_refs hx
  obtain ⟨q,rfl,hq⟩:=get_refs hy
  obtain ⟨rs,h1,h2,ne⟩:=h.get hp hq
  exact .inr ⟨λ e=>ne (by injection e),REq.refs (SqL.of h1) (SqL.of h2)⟩
 ·symm;rw [List.all_eq_true];intro _ _;rfl
theorem CpAt.rf {K:W.Frag} {H:Hp}:∀ {ps qs:List Addr} {frs:List (List (Int×Int))},CpAt H ps qs→RfAt K H qs frs→RfAt K H ps frs
 | [],[],[],_,_=>trivial
 | p::ps,q::qs,r::rs,h,k=>by
  obtain ⟨xs,h1,h2,_⟩:=h.1
  obtain ⟨ys,k1,k2⟩:=k.1
  rw [h2] at k1
  injection k1 with k1
  injection k1 with k1
  have e:xs=ys:=List.map_inj_right (λ a b h=>by injection h) |>.mp k1
  subst e
  exact ⟨⟨xs,h1,k2⟩,h.2.rf k.2⟩
 | [],[],_::_,_,k=>k.elim
 | _::_,_::_,[],_,k=>k.elim
 | [],_::_,_,h,_=>h.elim
 | _::_,[],_,h,_=>h.elim
noncomputable def Tw (K:W.Frag) (H:Hp) (p q:Addr) (a b c d:Int):Prop:=SqT K H p [.int a,.int b]∧SqT K H q [.int c,.int d]∧BB 20000 a∧BB 20000 b∧BB 20000 c∧BB 20000 d
theorem FrsAt.snoc {K:W.Frag} {H:Hp} {q:Addr} {g:Int×Int} {ps:List Addr} {fs:List (Int×Int)} (h:FrsAt K H ps fs) (hq:SqT K H q [.int g.1,.int g.2]):FrsAt K H (ps++[q]) (fs++[g]):=FrsAt.append (show FrsAt K H [q] [g] from ⟨hq,trivial⟩) h
noncomputable def nsm:Nat→(Nat→Nat)→Nat
 | 0,_=>0
 | n+1,c=>nsm n c+c n
theorem nsm_congr:∀ {n:Nat} {c d:Nat→Nat},(∀ i,i<n→c i=d i)→nsm n c=nsm n d
 | 0,_,_,_=>rfl
 | n+1,c,d,h=>by
  show nsm n c+c n=nsm n d+d n
  rw [nsm_congr (n:=n) λ i hi=>h i (by omega),h n (by omega)]
theorem nsm_skp (c:Nat→Nat):∀ {n k:Nat},k≤n→nsm n (λ i=>c (skp k i))+c k=nsm (n+1) c
 | 0,k,h=>by
  have:k=0:=by omega
  subst this;show 0+c 0=0+c 0;rfl
 | n+1,k,h=>by
  show nsm n (λ i=>c (skp k i))+c (skp k n)+c k=nsm (n+1) c+c (n+1)
  by_cases e:k=n+1
  ·subst e
   have e1:nsm n (λ i=>c (skp (n+1) i))=nsm n c:=nsm_congr λ i hi=>by unfold skp;rw [if_pos (by omega)]
   have e2:skp (n+1) n=n:=by unfold skp;rw [if_pos (by omega)]
   rw [e1,e2];rfl
  ·have ih:=nsm_skp c (n:=n) (k:=k) (by omega)
   have e2:skp k n=n+1:=by unfold skp;rw [if_neg (by omega)]
   rw [e2];omega
theorem bb_abs {n:Nat} {x y:Int} (h:BB n x) (e:y.natAbs=x.natAbs):BB n y:=by unfold BB at *;omega
theorem det_bb:∀ {N:Nat} {M:Mx} {c:Nat→Nat},(∀ i,i<N→∀ r,r<N→BB (c i) (M i r))→BB (nsm N c+N*N+1) (det N M)
 | 0,_,_,_=>by show (1:Int).natAbs<2 ^ 1;decide
 | n+1,M,c,h=>by
  have e:det (n+1) M=(ofF (n+1) λ k=>sg k*M k 0*det n (mnr M k)).sum:=(ofF_sum _ _).symm
  rw [e]
  have:=sum_bb (l:=ofF (n+1) λ k=>sg k*M k 0*det n (mnr M k)) (p:=nsm (n+1) c+n*n+1) λ x hx=>by
   obtain ⟨k,hk,rfl⟩:=ofF_mem hx
   have ih:=det_bb (N:=n) (M:=mnr M k) (c:=λ i=>c (skp k i)) λ i hi r hr=>h _ (skp_lt hi) _ (by omega)
   have h0:=h k hk 0 (by omega)
   have hs:=nsm_skp c (n:=n) (k:=k) (by omega)
   refine bb_abs ((h0.mul ih).mono (by omega)) ?_
   rw [Int.natAbs_mul,Int.natAbs_mul,sg_abs,Nat.one_mul,Int.natAbs_mul]
  rw [ofF_length] at this
  refine this.mono ?_
  have:(n+1)*(n+1)=n*n+n+n+1:=by rw [Nat.add_mul,Nat.mul_add];omega
  omega
theorem bb_e1 {q:Nat} (h:1≤q) (k r:Nat):BB q (e1 k r):=by
 unfold e1
 have h2:1<2 ^ q:=Nat.one_lt_two_pow (by omega)
 split
 ·show (1:Int).natAbs<_;exact h2
 ·show (0:Int).natAbs<_;exact Nat.two_pow_pos _
theorem nsm_const (q:Nat):∀ n,nsm n (λ _=>q)=n*q
 | 0=>by rw [Nat.zero_mul];rfl
 | n+1=>by show nsm n (λ _=>q)+q=_;rw [nsm_const q n,Nat.add_mul,Nat.one_mul]
theorem nsm_pt (c:Nat→Nat) (i q:Nat):∀ n,nsm n (λ k=>if k=i then q else c k)≤nsm n c+q
 | 0=>Nat.zero_le _
 | n+1=>by
  show nsm n (λ k=>if k=i then q else c k)+(if n=i then q else c n)≤nsm n c+c n+q
  by_cases e:n=i
  ·rw [if_pos e]
   have:nsm n (λ k=>if k=i then q else c k)=nsm n c:=nsm_congr λ k hk=>if_neg (by omega)
   omega
  ·rw [if_neg e]
   have:=nsm_pt c i q n
   omega
theorem T_bb {L:Lpd} {q qy:Nat} (h1:1≤q) (ha:∀ j k,j<L.n→k≤L.m→BB q (L.a j k)) (s:Nat→Nat) (i:Nat) {y:Nat→Int} (hy:∀ k,k≤L.m→BB qy (y k)):BB ((L.m+1)*q+qy+(L.m+1)*(L.m+1)+1) (L.T s i y):=by
 have hb:∀ j,j<L.m+1→∀ r,r<L.m+1→BB q (L.B s j r):=λ j hj r hr=>by
  unfold Lpd.B
  split
  ·unfold Lpd.cv
   split
   ·exact ha _ _ (by assumption) (by omega)
   ·exact bb_e1 h1 _ _
  ·exact bb_e1 h1 _ _
 have:=det_bb (N:=L.m+1) (M:=pt (L.B s) i y) (c:=λ k=>if k=i then qy else q) λ j hj r hr=>by
  unfold pt
  by_cases e:j=i
  ·rw [if_pos e,if_pos e];exact hy r (by omega)
  ·rw [if_neg e,if_neg e];exact hb j hj r hr
 refine BB.mono (bb_abs this (L.sg_abs _)) ?_
 have h2:=nsm_pt (λ _=>q) i qy (L.m+1)
 rw [nsm_const] at h2
 omega
theorem D_bb {L:Lpd} {q:Nat} (h1:1≤q) (ha:∀ j k,j<L.n→k≤L.m→BB q (L.a j k)) (s:Nat→Nat):BB ((L.m+1)*q+(L.m+1)*(L.m+1)+1) (L.D s):=by
 have hb:∀ j,j<L.m+1→∀ r,r<L.m+1→BB q (L.B s j r):=λ j hj r hr=>by
  unfold Lpd.B
  split
  ·unfold Lpd.cv
   split
   ·exact ha _ _ (by assumption) (by omega)
   ·exact bb_e1 h1 _ _
  ·exact bb_e1 h1 _ _
 have:=det_bb (N:=L.m+1) (M:=L.B s) (c:=λ _=>q) hb
 rw [nsm_const] at this
 exact bb_abs this (L.sg_abs _)
theorem Fit.lim {L:Lpd} {q:Nat} (F:Fit L.m L.n q) (ha:∀ j k,j<L.n→k≤L.m→BB q (L.a j k)) (hb:∀ k,k≤L.m→BB q (L.be k)):L.Lim:=by
 obtain ⟨q1,m1,n1,le⟩:=F
 have hT:∀ s i (y:Nat→Int),(∀ k,k≤L.m→BB q (y k))→BB 20000 (L.T s i y):=λ s i y hy=>(T_bb q1 ha s i hy).mono (by omega)
 refine ⟨m1,n1,λ j k hj hk=>(ha j k hj hk).mono (by omega),λ s i c _ _=>hT s i _ λ k hk=>?_,λ s i k _ _ _=>hT s i _ λ r _=>bb_e1 q1 _ _,λ s i _ _=>hT s i _ hb,λ s _=>(D_bb q1 ha s).mono (by omega)⟩
 unfold Lpd.cv
 split
 ·exact ha _ _ (by assumption) hk
 ·exact bb_e1 q1 _ _
noncomputable def Gp (p r:Nat) (f:Int×Int):Prop:=0<f.2∧BB p f.1∧BB r f.2
theorem lc_bbg:∀ (fs:List (Int×Int)) (n:Int) (m r:Nat),0<n→BB m n→(∀ f∈fs,0<f.2)→(∀ f∈fs,BB r f.2)→BB (m+r*fs.length) (fs.foldl lcf n)
 | [],_,_,_,_,h,_,_=>h
 | a::t,n,m,r,hn,h,h1,h2=>by
  rw [List.foldl_cons]
  obtain ⟨o1,_,_,_,o5⟩:=lcf_ok hn (h1 a List.mem_cons_self)
  have b:BB (m+r) (lcf n a):=h.mul ((h2 a List.mem_cons_self).of_le o5)
  have:=lc_bbg t (lcf n a) (m+r) r o1 b (λ f hf=>h1 f (List.mem_cons_of_mem _ hf)) λ f hf=>h2 f (List.mem_cons_of_mem _ hf)
  rw [List.length_cons]
  refine this.mono ?_
  rw [Nat.mul_add,Nat.mul_one];omega
theorem lc_bbp {fs:List (Int×Int)} {p r:Nat} (h:∀ f∈fs,Gp p r f):BB (1+r*fs.length) (lc fs):=lc_bbg fs 1 1 r (by decide) (by show (1:Int).natAbs<2 ^ 1;decide) (λ f hf=>(h f hf).1) λ f hf=>(h f hf).2.2
theorem clr_bbl {fs:List (Int×Int)} {p r q:Nat} (h:∀ f∈fs,Gp p r f) (hq:BB q (lc fs)):∀ x∈clr fs,BB (p+q) x:=λ x hx=>by
 obtain ⟨f,hf,rfl⟩:=List.mem_map.mp hx
 have g:=h f hf
 obtain ⟨k,hk⟩:=(lc_all fs 1 (by decide) λ f hf=>(h f hf).1).2.2.1 f hf
 have hk:lc fs=f.2*k:=hk
 have ek:(lc fs).fdiv f.2=k:=by rw [hk];exact Int.mul_fdiv_cancel_left _ (Int.ne_of_gt g.1)
 refine g.2.1.mul (hq.of_le ?_)
 rw [ek,hk,Int.natAbs_mul]
 exact Nat.le_mul_of_pos_left _ (by have:=g.1;omega)
theorem mx1_bb {q:Nat} {g:Int} (h1:1≤q) (h:BB q g):BB q (mx1 g):=by
 unfold mx1;split
 ·show (1:Int).natAbs<_;exact Nat.one_lt_two_pow (by omega)
 ·exact h
theorem whF_bb {fs:List (Int×Int)} {p r q:Nat} (h:∀ f∈fs,Gp p r f) (hq:BB q (lc fs)) (h1:1≤p+q):BB q (whF fs).1∧BB (p+q) (whF fs).2:=(lo2_lo (mx1_pos _)).bb hq (mx1_bb h1 (gl_bb (clr_bbl h hq)))
theorem whL_bb {fs:List (Int×Int)} {p r q:Nat} (h:∀ f∈fs,Gp p r f) (hq:BB q (lc fs)) (i:Nat):BB (p+q) ((whL fs).getD i 0):=by
 by_cases hi:i<(whL fs).length
 ·exact plainL_bb (clr_bbl h hq) _ (getD_mem hi)
 ·rw [List.getD_eq_getElem?_getD,List.getElem?_eq_none (by omega)]
  show (0:Int).natAbs<_;exact Nat.two_pow_pos _
theorem bnF_gp {frs:List (List (Int×Int))} {fb:List (Int×Int)} (p r pb rb ql:Nat) (hb:fb.length=frs.length) (gr:∀ row∈frs,∀ f∈row,Gp p r f) (gb:∀ f∈fb,Gp pb rb f) (hl:∀ row∈frs,BB ql (lc row)) (i1:1≤p):∀ f∈bnF frs fb,Gp (pb+ql) (rb+(p+ql)) f:=by
 intro f hf
 obtain ⟨i,hi⟩:=List.getElem?_of_mem hf
 have hil:i<frs.length:=by have:=(List.getElem?_eq_some_iff.mp hi).1;rwa [bnF_length hb] at this
 have hib:i<fb.length:=by rw [hb];exact hil
 rw [bnF_get (List.getElem?_eq_getElem hib) (List.getElem?_eq_getElem hil)] at hi
 obtain rfl:=Option.some.inj hi
 have w:=whF_pos λ f hf=>(gr _ (List.getElem_mem hil) f hf).1
 have wb:=whF_bb (gr _ (List.getElem_mem hil)) (hl _ (List.getElem_mem hil)) (by omega)
 have g:=gb _ (List.getElem_mem hib)
 have lo:=lo2_lo (t:=fb[i].1*(whF frs[i]).1) (Int.mul_pos g.1 w.2)
 have lb:=lo.bb (g.2.1.mul wb.1) (g.2.2.mul wb.2)
 exact ⟨lo.pos,lb.1,lb.2⟩
theorem beo_of {frs:List (List (Int×Int))} {fb fg:List (Int×Int)} (p r pb rb ql qm:Nat) (hr:∀ row∈frs,row.length=fg.length) (hb:fb.length=frs.length) (gr:∀ row∈frs,∀ f∈row,Gp p r f) (gg:∀ f∈fg,Gp p r f) (gb:∀ f∈fb,Gp pb rb f)
  (hl:∀ row∈frs,BB ql (lc row)) (hlg:BB ql (lc fg)) (hlm:BB qm (lc (bnF frs fb))) (i1:1≤p) (m1:frs.length≤100) (n1:fg.length≤100) (i2:p+ql≤9000) (i3:pb+ql+qm≤9000) (i4:rb+(p+ql)≤9000) (i5:r≤9000) (i6:rb≤9000)
  (i7:(frs.length+1)*(p+ql)+(frs.length+1)*(frs.length+1)+1+(p+ql)+ql+qm≤9000)
  (i8:(frs.length+1)*(p+pb+ql+qm)+(p+pb+ql+qm)+(frs.length+1)*(frs.length+1)+1≤9000):BeO frs fb fg:=by
 have gbn:=bnF_gp p r pb rb ql hb gr gb hl i1
 have wr:∀ row∈frs,BB ql (whF row).1∧BB (p+ql) (whF row).2:=λ row h=>whF_bb (gr row h) (hl row h) (by omega)
 have wg:BB ql (whF fg).1∧BB (p+ql) (whF fg).2:=whF_bb gg hlg (by omega)
 have wb:BB qm (whF (bnF frs fb)).1∧BB (pb+ql+qm) (whF (bnF frs fb)).2:=by
  by_cases hz:1≤pb+ql+qm
  ·exact whF_bb gbn hlm hz
  ·exfalso
   have:qm=0:=by omega
   subst this
   have h1:(lc (bnF frs fb)).natAbs<1:=hlm
   have h2:=lc_pos (fs:=bnF frs fb) λ f hf=>(gbn f hf).1
   omega
 have ha:∀ e j k,BB (p+ql) ((LpOf e frs fb fg).a j k):=λ e j k=>by
  show BB (p+ql) (if k<frs.length then (whL (frs.getD k [])).getD j 0 else - (whL fg).getD j 0)
  by_cases h:k<frs.length
  ·rw [if_pos h]
   have hm:frs.getD k []∈frs:=by rw [List.getD_eq_getElem?_getD,List.getElem?_eq_getElem h];exact List.getElem_mem h
   exact whL_bb (gr _ hm) (hl _ hm) j
  ·rw [if_neg h];exact (whL_bb gg hlg j).neg
 have hbe:∀ e k,BB (pb+ql+qm) ((LpOf e frs fb fg).be k):=λ e k=>whL_bb gbn hlm k
 have hD:∀ e s,BB ((frs.length+1)*(p+ql)+(frs.length+1)*(frs.length+1)+1) ((LpOf e frs fb fg).D s):=λ e s=>D_bb (L:=LpOf e frs fb fg) (q:=p+ql) (by omega) (λ j k _ _=>ha e j k) s
 have hT:∀ e s i qy (y:Nat→Int),(∀ k,BB qy (y k))→BB ((frs.length+1)*(p+ql)+qy+(frs.length+1)*(frs.length+1)+1) ((LpOf e frs fb fg).T s i y):=λ e s i qy y hy=>T_bb (L:=LpOf e frs fb fg) (q:=p+ql) (by omega) (λ j k _ _=>ha e j k) s i λ k _=>hy k
 have fit:∃ q,Fit frs.length fg.length q∧(∀ j k,BB q ((LpOf false frs fb fg).a j k))∧∀ k,BB q ((LpOf false frs fb fg).be k):=⟨p+pb+ql+qm,⟨by omega,m1,n1,i8⟩,λ j k=>(ha _ j k).mono (by omega),λ k=>(hbe _ k).mono (by omega)⟩
 clear i8
 generalize hM:(frs.length+1)*(p+ql)=M at *
 generalize hM2:(frs.length+1)*(frs.length+1)=M2 at *
 refine ⟨hr,hb,λ row h f hf=>?_,λ f hf=>?_,λ f hf=>?_,λ row h x hx=>?_,λ x hx=>?_,λ x hx=>?_,λ row h=>?_,?_,?_,λ b hbm row h=>?_,λ e=>⟨m1,n1,λ j k hj hk=>(ha e j k).mono (by omega),λ s i c _ _=>?_,λ s i k _ _ _=>?_,λ s i _ _=>?_,λ s _=>(hD e s).mono (by omega)⟩,λ e s _=>?_,λ e s _ row h=>⟨?_,λ k hk=>?_⟩,fit⟩
 ·have g:=gr row h f hf;exact ⟨g.1,g.2.1.mono (by omega),g.2.2.mono (by omega)⟩
 ·have g:=gb f hf;exact ⟨g.1,g.2.1.mono (by omega),g.2.2.mono (by omega)⟩
 ·have g:=gg f hf;exact ⟨g.1,g.2.1.mono (by omega),g.2.2.mono (by omega)⟩
 ·exact (clr_bbl (gr row h) (hl row h) x hx).mono (by omega)
 ·exact (clr_bbl gg hlg x hx).mono (by omega)
 ·exact (clr_bbl gbn hlm x hx).mono (by omega)
 ·exact ⟨(wr row h).1.mono (by omega),(wr row h).2.mono (by omega)⟩
 ·exact ⟨wb.1.mono (by omega),wb.2.mono (by omega)⟩
 ·exact ⟨wg.1.mono (by omega),wg.2.mono (by omega)⟩
 ·exact ⟨((gb b hbm).2.2.mul (wr row h).2).mono (by omega),((gb b hbm).2.1.mul (wr row h).1).mono (by omega)⟩
 ·refine (hT e s i (p+ql) _ λ k=>?_).mono (by omega)
  unfold Lpd.cv
  split
  ·exact ha e _ _
  ·exact bb_e1 (by omega) _ _
 ·exact (hT e s i 1 _ λ r=>bb_e1 (Nat.le_refl _) _ _).mono (by omega)
 ·exact (hT e s i _ _ (hbe e)).mono (by omega)
 ·exact ((hD e s).mul wb.1).mono (by omega)
 ·exact (((hD e s).mul (wr row h).2).mul wg.1).mono (by omega)
 ·exact ((hT e s frs.length 1 _ λ r=>bb_e1 (Nat.le_refl _) _ _).mul (wr row h).1).mono (by omega)
theorem beo_std {frs:List (List (Int×Int))} {fb fg:List (Int×Int)} (p r pb rb:Nat) (hr:∀ row∈frs,row.length=fg.length) (hb:fb.length=frs.length) (gr:∀ row∈frs,∀ f∈row,Gp p r f) (gg:∀ f∈fg,Gp p r f) (gb:∀ f∈fb,Gp pb rb f)
  (m n:Nat) (hm:frs.length≤m) (hn:fg.length≤n) (i1:1≤p) (m1:m≤100) (n1:n≤100) (i2:p+(1+r*n)≤9000) (i3:pb+(1+r*n)+(1+(rb+(p+(1+r*n)))*m)≤9000) (i4:rb+(p+(1+r*n))≤9000) (i5:r≤9000) (i6:rb≤9000)
  (i7:(m+1)*(p+(1+r*n))+(m+1)*(m+1)+1+(p+(1+r*n))+(1+r*n)+(1+(rb+(p+(1+r*n)))*m)≤9000)
  (i8:(m+1)*(p+pb+(1+r*n)+(1+(rb+(p+(1+r*n)))*m))+(p+pb+(1+r*n)+(1+(rb+(p+(1+r*n)))*m))+(m+1)*(m+1)+1≤9000):BeO frs fb fg:=by
 have hl:∀ row∈frs,BB (1+r*n) (lc row):=λ row h=>(lc_bbp (gr row h)).mono (by
  rw [hr row h];exact Nat.add_le_add_left (Nat.mul_le_mul_left _ hn) _)
 have gbn:=bnF_gp p r pb rb (1+r*n) hb gr gb hl i1
 refine beo_of p r pb rb (1+r*n) (1+(rb+(p+(1+r*n)))*m) hr hb gr gg gb hl ((lc_bbp gg).mono (Nat.add_le_add_left (Nat.mul_le_mul_left _ hn) _)) ((lc_bbp gbn).mono (Nat.add_le_add_left (Nat.mul_le_mul_left _ (by rw [bnF_length hb];exact hm)) _)) i1 (by omega) (by omega) i2 i3 i4 i5 i6 ?_ ?_
 ·have h1:(frs.length+1)*(p+(1+r*n))≤(m+1)*(p+(1+r*n)):=Nat.mul_le_mul_right _ (by omega)
  have h2:(frs.length+1)*(frs.length+1)≤(m+1)*(m+1):=Nat.mul_le_mul (by omega) (by omega)
  omega
 ·have h1:=Nat.mul_le_mul_right (p+pb+(1+r*n)+(1+(rb+(p+(1+r*n)))*m)) (show frs.length+1≤m+1 by omega)
  have h2:(frs.length+1)*(frs.length+1)≤(m+1)*(m+1):=Nat.mul_le_mul (by omega) (by omega)
  omega
noncomputable def ins_ok (L:Lpd) (s:Nat→Nat):Prop:=∀ i,i<L.m→s i<L.n+L.m
noncomputable def UnO (L:Lpd) (s:Nat→Nat):Option Nat→Prop
 | none=>∀ c,c<L.n+L.m→0≤L.T s L.m (L.cv c)
 | some c=>c<L.n+L.m∧L.T s L.m (L.cv c)<0∧∀ i,i<L.m→L.T s i (L.cv c)≤0
noncomputable def sprF (L:Lpd) (s:Nat→Nat) (f:Nat→Int) (i j:Nat):Int×Int:=lo2 (Lpd.spr i s f j) (L.D s)
noncomputable def wayF (L:Lpd) (s:Nat→Nat) (c j:Nat):Int×Int:=lo2 (Lpd.spr L.m s (λ i=>- L.T s i (L.cv c)) j+if j=c then L.D s else 0) (L.D s)
noncomputable def prdF:Nat→(Nat→Int×Int)→(Nat→Int×Int)→Int×Int
 | 0,_,_=>(0,1)
 | n+1,f,g=>((prdF n f g).1*(f n).2*(g n).2+(f n).1*(g n).1*(prdF n f g).2,(prdF n f g).2*(f n).2*(g n).2)
theorem prdF_pos {f g:Nat→Int×Int}:∀ {n:Nat},(∀ k,k<n→0<(f k).2)→(∀ k,k<n→0<(g k).2)→0<(prdF n f g).2
 | 0,_,_=>by show (0:Int)<1;decide
 | n+1,h1,h2=>Int.mul_pos (Int.mul_pos (prdF_pos (λ k hk=>h1 k (by omega)) λ k hk=>h2 k (by omega)) (h1 n (by omega))) (h2 n (by omega))
theorem prdF_eq {f g:Nat→Int×Int} {W:Int} {v:Nat→Int}:∀ {n:Nat},(∀ k,k<n→(f k).1*(g k).1*W=v k*((f k).2*(g k).2))→(prdF n f g).1*W=sm n v*(prdF n f g).2
 | 0,_=>by show (0:Int)*W=0*1;simp
 | n+1,h=>by
  have ih:=prdF_eq (n:=n) λ k hk=>h k (by omega)
  have hn:=h n (by omega)
  show ((prdF n f g).1*(f n).2*(g n).2+(f n).1*(g n).1*(prdF n f g).2)*W=(sm n v+v n)*((prdF n f g).2*(f n).2*(g n).2)
  generalize (prdF n f g).1=t at *
  generalize (prdF n f g).2=b at *
  grind
theorem prdF_le {P:Int×Int} {W S:Int} {c:Int×Int} (hW:0<W) (hP:0<P.2) (e:P.1*W=S*P.2) (h:S*c.2≤c.1*W):P.1*c.2≤c.1*P.2:=by
 have h1:S*c.2*P.2≤c.1*W*P.2:=Int.mul_le_mul_of_nonneg_right h (Int.le_of_lt hP)
 refine Int.le_of_mul_le_mul_right (a:=W) ?_ hW
 have e1:P.1*c.2*W=S*c.2*P.2:=by grind
 have e2:c.1*P.2*W=c.1*W*P.2:=by grind
 rw [e1,e2];exact h1
theorem prdF_ge {P:Int×Int} {W S:Int} {c:Int×Int} (hW:0<W) (hP:0<P.2) (e:P.1*W=S*P.2) (h:c.1*W≤S*c.2):c.1*P.2≤P.1*c.2:=by
 have h1:c.1*W*P.2≤S*c.2*P.2:=Int.mul_le_mul_of_nonneg_right h (Int.le_of_lt hP)
 refine Int.le_of_mul_le_mul_right (a:=W) ?_ hW
 have e1:P.1*c.2*W=S*c.2*P.2:=by grind
 have e2:c.1*P.2*W=c.1*W*P.2:=by grind
 rw [e1,e2];exact h1
theorem prdF_bb {f g:Nat→Int×Int} {q:Nat}:∀ {n:Nat},(∀ k,k<n→BB q (f k).1∧BB q (f k).2∧BB q (g k).1∧BB q (g k).2)→BB ((q+q+1)*n+1) (prdF n f g).1∧BB ((q+q+1)*n+1) (prdF n f g).2
 | 0,_=>⟨by show (0:Int).natAbs<2 ^ (0+1);decide,by show (1:Int).natAbs<2 ^ (0+1);decide⟩
 | n+1,h=>by
  obtain ⟨i1,i2⟩:=prdF_bb (n:=n) λ k hk=>h k (by omega)
  obtain ⟨f1,f2,g1,g2⟩:=h n (by omega)
  have e:(q+q+1)*(n+1)+1=(q+q+1)*n+1+q+q+1:=by rw [Nat.mul_add];omega
  rw [e]
  refine ⟨BB.add ((i1.mul f2).mul g2) (((f1.mul g1).mul i2).mono (by omega)),((i2.mul f2).mul g2).mono (by omega)⟩
theorem fov_val {S D:Int} {W:Int×Int} (hD:0<D) (hW:0<W.1):(fov (lo2 S D) W).1*(D*W.1)=S*W.2*(fov (lo2 S D) W).2∧0<(fov (lo2 S D) W).2∧Int.gcd (fov (lo2 S D) W).1 (fov (lo2 S D) W).2=1:=by
 have l1:=lo2_lo (t:=S) hD
 have z:=Int.mul_pos l1.pos hW
 have l2:=lo2_lo (t:=(lo2 S D).1*W.2) z
 refine ⟨?_,l2.pos,l2.cop⟩
 have h1:=l1.eq
 have h2:=l2.eq
 have p1:=l1.pos
 show (lo2 ((lo2 S D).1*W.2) ((lo2 S D).2*W.1)).1*(D*W.1)=S*W.2*(lo2 ((lo2 S D).1*W.2) ((lo2 S D).2*W.1)).2
 generalize (lo2 ((lo2 S D).1*W.2) ((lo2 S D).2*W.1)).1=X at *
 generalize (lo2 ((lo2 S D).1*W.2) ((lo2 S D).2*W.1)).2=Y at *
 generalize (lo2 S D).1=s at *
 generalize (lo2 S D).2=d at *
 apply Int.eq_of_mul_eq_mul_left (show d≠0 by omega)
 grind
theorem fov_nonneg {S D:Int} {W:Int×Int} (hD:0<D) (hW:0<W.1) (hW2:0<W.2) (hS:0≤S):0≤(fov (lo2 S D) W).1:=by
 obtain ⟨e,p,_⟩:=fov_val (S:=S) hD hW
 refine nonneg_of_mul (Int.mul_pos hD hW) ?_
 rw [e]
 exact Int.mul_nonneg (Int.mul_nonneg hS (Int.le_of_lt hW2)) (Int.le_of_lt p)
theorem fty_val {U D:Int} {w G:Int×Int} (hD:0<D) (hw:0<w.2) (hG:0<G.1):(fov (ftm (lo2 U D) w) G).1*(D*w.2*G.1)=U*w.1*G.2*(fov (ftm (lo2 U D) w) G).2∧0<(fov (ftm (lo2 U D) w) G).2∧Int.gcd (fov (ftm (lo2 U D) w) G).1 (fov (ftm (lo2 U D) w) G).2=1:=by
 have l1:=lo2_lo (t:=U) hD
 have z1:=Int.mul_pos l1.pos hw
 have l2:=lo2_lo (t:=(lo2 U D).1*w.1) z1
 have z2:=Int.mul_pos l2.pos hG
 have l3:=lo2_lo (t:=(lo2 ((lo2 U D).1*w.1) ((lo2 U D).2*w.2)).1*G.2) z2
 refine ⟨?_,l3.pos,l3.cop⟩
 have h1:=l1.eq
 have h2:=l2.eq
 have h3:=l3.eq
 have p1:=l1.pos
 have p2:=l2.pos
 show (lo2 ((lo2 ((lo2 U D).1*w.1) ((lo2 U D).2*w.2)).1*G.2) ((lo2 ((lo2 U D).1*w.1) ((lo2 U D).2*w.2)).2*G.1)).1*(D*w.2*G.1)=U*w.1*G.2*(lo2 ((lo2 ((lo2 U D).1*w.1) ((lo2 U D).2*w.2)).1*G.2) ((lo2 ((lo2 U D).1*w.1) ((lo2 U D).2*w.2)).2*G.1)).2
 generalize (lo2 ((lo2 ((lo2 U D).1*w.1) ((lo2 U D).2*w.2)).1*G.2) ((lo2 ((lo2 U D).1*w.1) ((lo2 U D).2*w.2)).2*G.1)).1=X at *
 generalize (lo2 ((lo2 ((lo2 U D).1*w.1) ((lo2 U D).2*w.2)).1*G.2) ((lo2 ((lo2 U D).1*w.1) ((lo2 U D).2*w.2)).2*G.1)).2=Y at *
 generalize (lo2 ((lo2 U D).1*w.1) ((lo2 U D).2*w.2)).1=u at *
 generalize (lo2 ((lo2 U D).1*w.1) ((lo2 U D).2*w.2)).2=d2 at *
 generalize (lo2 U D).1=s at *
 generalize (lo2 U D).2=d at *
 apply Int.eq_of_mul_eq_mul_left (show d*d2≠0 from Int.ne_of_gt (Int.mul_pos p1 p2))
 grind
section
variable {fl:Bool} {frs:List (List (Int×Int))} {fb fg:List (Int×Int)} {s:Nat→Nat}
noncomputable def rwF (frs:List (List (Int×Int))) (i j:Nat):Int×Int:=(frs.getD i []).getD j (0,1)
theorem row_val (B:BeO frs fb fg) {i j:Nat} (hi:i<frs.length) (hj:j<fg.length):(LpOf fl frs fb fg).a j i*((rwF frs i j).2*(whF (frs.getD i [])).2)=(rwF frs i j).1*(whF (frs.getD i [])).1:=by
 have hm:frs.getD i []∈frs:=by rw [List.getD_eq_getElem?_getD,List.getElem?_eq_getElem hi];exact List.getElem_mem hi
 have hl:=B.lr _ hm
 have e:(LpOf fl frs fb fg).a j i=(whL (frs.getD i [])).getD j 0:=by show (if i<frs.length then _ else _)=_;rw [if_pos hi]
 rw [e]
 refine whL_eq (λ f hf=>(B.gr _ hm f hf).1) ?_
 unfold rwF
 generalize frs.getD i []=l at *
 rw [List.getD_eq_getElem?_getD,List.getElem?_eq_getElem (by omega)];rfl
theorem goal_val (B:BeO frs fb fg) {j:Nat} (hj:j<fg.length):- (LpOf fl frs fb fg).a j frs.length*((fg.getD j (0,1)).2*(whF fg).2)=(fg.getD j (0,1)).1*(whF fg).1:=by
 have e:(LpOf fl frs fb fg).a j frs.length = - (whL fg).getD j 0:=by show (if frs.length<frs.length then _ else _)=_;rw [if_neg (Nat.lt_irrefl _)]
 rw [e,Int.neg_neg]
 refine whL_eq (λ f hf=>(B.gg f hf).1) ?_
 rw [List.getD_eq_getElem?_getD,List.getElem?_eq_getElem hj];rfl
theorem bnd_val (B:BeO frs fb fg) {i:Nat} (hi:i<frs.length):(LpOf fl frs fb fg).be i*(whF (bnF frs fb)).2*((fb.getD i (0,1)).2*(whF (frs.getD i [])).2)=(fb.getD i (0,1)).1*(whF (frs.getD i [])).1*(whF (bnF frs fb)).1:=by
 have hib:i<fb.length:=by rw [B.lb];exact hi
 have e1:fb[i]?=some (fb.getD i (0,1)):=by rw [List.getD_eq_getElem?_getD,List.getElem?_eq_getElem hib];rfl
 have e2:frs[i]?=some (frs.getD i []):=by rw [List.getD_eq_getElem?_getD,List.getElem?_eq_getElem hi];rfl
 have hm:=List.mem_of_getElem? e2
 have hbm:=List.mem_of_getElem? e1
 have w:=whF_pos λ f hf=>(B.gr _ hm f hf).1
 have z:=Int.mul_pos (B.gb _ hbm).1 w.2
 have l:=lo2_lo (t:=(fb.getD i (0,1)).1*(whF (frs.getD i [])).1) z
 have gbn:∀ f∈bnF frs fb,0<f.2:=λ f hf=>by
  obtain ⟨k,hk⟩:=List.getElem?_of_mem hf
  have hkl:k<frs.length:=by have:=(List.getElem?_eq_some_iff.mp hk).1;rwa [bnF_length B.lb] at this
  have hkb:k<fb.length:=by rw [B.lb];exact hkl
  rw [bnF_get (List.getElem?_eq_getElem hkb) (List.getElem?_eq_getElem hkl)] at hk
  obtain rfl:=Option.some.inj hk
  have w:=whF_pos λ f hf=>(B.gr _ (List.getElem_mem hkl) f hf).1
  exact (lo2_lo (Int.mul_pos (B.gb _ (List.getElem_mem hkb)).1 w.2)).pos
 have q:=whL_eq gbn (bnF_get e1 e2)
 have eb:(LpOf fl frs fb fg).be i=(whL (bnF frs fb)).getD i 0:=rfl
 rw [eb]
 have h1:=l.eq
 have p1:=l.pos
 have q:(whL (bnF frs fb)).getD i 0*((lo2 ((fb.getD i (0,1)).1*(whF (frs.getD i [])).1) ((fb.getD i (0,1)).2*(whF (frs.getD i [])).2)).2*(whF (bnF frs fb)).2)=(lo2 ((fb.getD i (0,1)).1*(whF (frs.getD i [])).1) ((fb.getD i (0,1)).2*(whF (frs.getD i [])).2)).1*(whF (bnF frs fb)).1:=q
 generalize (lo2 ((fb.getD i (0,1)).1*(whF (frs.getD i [])).1) ((fb.getD i (0,1)).2*(whF (frs.getD i [])).2)).1=X at *
 generalize (lo2 ((fb.getD i (0,1)).1*(whF (frs.getD i [])).1) ((fb.getD i (0,1)).2*(whF (frs.getD i [])).2)).2=Y at *
 generalize (fb.getD i (0,1)).1=b1 at *
 generalize (fb.getD i (0,1)).2=b2 at *
 generalize (whF (frs.getD i [])).1=w1 at *
 generalize (whF (frs.getD i [])).2=w2 at *
 generalize (whF (bnF frs fb)).1=W1 at *
 generalize (whF (bnF frs fb)).2=W2 at *
 generalize (whL (bnF frs fb)).getD i 0=be at *
 apply Int.eq_of_mul_eq_mul_left (show Y≠0 by omega)
 grind
noncomputable def xF (fl:Bool) (frs:List (List (Int×Int))) (fb fg:List (Int×Int)) (s:Nat→Nat) (j:Nat):Int×Int:=fov (sprF (LpOf fl frs fb fg) s (λ i=>(LpOf fl frs fb fg).T s i (LpOf fl frs fb fg).be) frs.length j) (whF (bnF frs fb))
noncomputable def yF (fl:Bool) (frs:List (List (Int×Int))) (fb fg:List (Int×Int)) (s:Nat→Nat) (k:Nat):Int×Int:=fov (ftm (lo2 ((LpOf fl frs fb fg).T s frs.length (e1 k)) ((LpOf fl frs fb fg).D s)) (whF (frs.getD k []))) (whF fg)
theorem bn_pos (B:BeO frs fb fg):0<(whF (bnF frs fb)).1∧0<(whF (bnF frs fb)).2:=whF_pos λ f hf=>by
 obtain ⟨k,hk⟩:=List.getElem?_of_mem hf
 have hkl:k<frs.length:=by have:=(List.getElem?_eq_some_iff.mp hk).1;rwa [bnF_length B.lb] at this
 have hkb:k<fb.length:=by rw [B.lb];exact hkl
 rw [bnF_get (List.getElem?_eq_getElem hkb) (List.getElem?_eq_getElem hkl)] at hk
 obtain rfl:=Option.some.inj hk
 have w:=whF_pos λ f hf=>(B.gr _ (List.getElem_mem hkl) f hf).1
 exact (lo2_lo (Int.mul_pos (B.gb _ (List.getElem_mem hkb)).1 w.2)).pos
theorem rw_pos (B:BeO frs fb fg) {i:Nat} (hi:i<frs.length):0<(whF (frs.getD i [])).1∧0<(whF (frs.getD i [])).2:=whF_pos λ f hf=>(B.gr _ (by rw [List.getD_eq_getElem?_getD,List.getElem?_eq_getElem hi];exact List.getElem_mem hi) f hf).1
theorem rwF_pos (B:BeO frs fb fg) {i j:Nat} (hi:i<frs.length) (hj:j<fg.length):0<(rwF frs i j).2:=by
 have hm:frs.getD i []∈frs:=by rw [List.getD_eq_getElem?_getD,List.getElem?_eq_getElem hi];exact List.getElem_mem hi
 have hl:=B.lr _ hm
 have g:=B.gr _ hm
 unfold rwF
 generalize frs.getD i []=l at *
 have:l.getD j (0,1)∈l:=by rw [List.getD_eq_getElem?_getD,List.getElem?_eq_getElem (by omega)];exact List.getElem_mem _
 exact (g _ this).1
theorem xF_ok (B:BeO frs fb fg) (ok:(LpOf fl frs fb fg).Ok s) (j:Nat):0<(xF fl frs fb fg s j).2∧Int.gcd (xF fl frs fb fg s j).1 (xF fl frs fb fg s j).2=1∧0≤(xF fl frs fb fg s j).1∧(xF fl frs fb fg s j).1*((LpOf fl frs fb fg).D s*(whF (bnF frs fb)).1)=Lpd.spr frs.length s (λ i=>(LpOf fl frs fb fg).T s i (LpOf fl frs fb fg).be) j*(whF (bnF frs fb)).2*(xF fl frs fb fg s j).2:=by
 have w:=bn_pos B
 obtain ⟨e,p,c⟩:=fov_val (S:=Lpd.spr frs.length s (λ i=>(LpOf fl frs fb fg).T s i (LpOf fl frs fb fg).be) j) ok.pos w.1
 exact ⟨p,c,fov_nonneg ok.pos w.1 w.2 (Lpd.spr_nonneg (λ i hi=>ok.bound_nonneg hi) j),e⟩
theorem xs_allowed (B:BeO frs fb fg) (ok:(LpOf fl frs fb fg).Ok s) (io:ins_ok (LpOf fl frs fb fg) s) {i:Nat} (hi:i<frs.length):(prdF fg.length (rwF frs i) (xF fl frs fb fg s)).1*(fb.getD i (0,1)).2≤(fb.getD i (0,1)).1*(prdF fg.length (rwF frs i) (xF fl frs fb fg s)).2:=by
 have w:=bn_pos B
 have r:=rw_pos B hi
 have D0:=ok.pos
 have al:=ok.allowed io (r:=i) hi
 have bv:=bnd_val (fl:=fl) B hi
 have hib:i<fb.length:=by rw [B.lb];exact hi
 have b0:0<(fb.getD i (0,1)).2:=(B.gb _ (by rw [List.getD_eq_getElem?_getD,List.getElem?_eq_getElem hib];exact List.getElem_mem hib)).1
 have e:=prdF_eq (n:=fg.length) (f:=rwF frs i) (g:=xF fl frs fb fg s) (W:=(whF (frs.getD i [])).1*(LpOf fl frs fb fg).D s*(whF (bnF frs fb)).1) (v:=λ j=>((whF (frs.getD i [])).2*(whF (bnF frs fb)).2)*(Lpd.spr frs.length s (λ i=>(LpOf fl frs fb fg).T s i (LpOf fl frs fb fg).be) j*(LpOf fl frs fb fg).a j i)) λ j hj=>by
  have h1:=row_val (fl:=fl) B hi hj
  have h2:=(xF_ok B ok j).2.2.2
  generalize (xF fl frs fb fg s j).1=x1 at *
  generalize (xF fl frs fb fg s j).2=x2 at *
  generalize (rwF frs i j).1=f1 at *
  generalize (rwF frs i j).2=f2 at *
  generalize (whF (frs.getD i [])).1=w1 at *
  generalize (whF (frs.getD i [])).2=w2 at *
  generalize (whF (bnF frs fb)).1=W1 at *
  generalize (whF (bnF frs fb)).2=W2 at *
  generalize (LpOf fl frs fb fg).a j i=a at *
  generalize Lpd.spr frs.length s (λ i=>(LpOf fl frs fb fg).T s i (LpOf fl frs fb fg).be) j=S at *
  generalize (LpOf fl frs fb fg).D s=D at *
  grind
 rw [Lpd.sm_mul] at e
 refine prdF_le (Int.mul_pos (Int.mul_pos r.1 D0) w.1) (prdF_pos (λ j hj=>rwF_pos B hi hj) λ j _=>(xF_ok B ok j).1) e ?_
 have al:sm fg.length (λ j=>Lpd.spr frs.length s (λ i=>(LpOf fl frs fb fg).T s i (LpOf fl frs fb fg).be) j*(LpOf fl frs fb fg).a j i)≤(LpOf fl frs fb fg).D s*(LpOf fl frs fb fg).be i:=al
 generalize sm fg.length (λ j=>Lpd.spr frs.length s (λ i=>(LpOf fl frs fb fg).T s i (LpOf fl frs fb fg).be) j*(LpOf fl frs fb fg).a j i)=zs at *
 have m:=Int.mul_le_mul_of_nonneg_left al (Int.le_of_lt (Int.mul_pos (Int.mul_pos r.2 w.2) b0))
 generalize (whF (frs.getD i [])).1=w1 at *
 generalize (whF (frs.getD i [])).2=w2 at *
 generalize (whF (bnF frs fb)).1=W1 at *
 generalize (whF (bnF frs fb)).2=W2 at *
 generalize (LpOf fl frs fb fg).D s=D at *
 generalize (LpOf fl frs fb fg).be i=be at *
 generalize (fb.getD i (0,1)).1=b1 at *
 generalize (fb.getD i (0,1)).2=b2 at *
 have e1:w2*W2*zs*b2=w2*W2*b2*zs:=by grind
 have e2:b1*(w1*D*W1)=w2*W2*b2*(D*be):=by grind
 rw [e1,e2];exact m
theorem U_nonneg (un:UnO (LpOf fl frs fb fg) s none) {k:Nat} (hk:k<frs.length):0≤(LpOf fl frs fb fg).T s frs.length (e1 k):=by
 have:=un ((LpOf fl frs fb fg).n+k) (Nat.add_lt_add_left hk _)
 rwa [Lpd.cv_spare] at this
theorem yF_ok (B:BeO frs fb fg) (ok:(LpOf fl frs fb fg).Ok s) (un:UnO (LpOf fl frs fb fg) s none) {k:Nat} (hk:k<frs.length):0<(yF fl frs fb fg s k).2∧Int.gcd (yF fl frs fb fg s k).1 (yF fl frs fb fg s k).2=1∧0≤(yF fl frs fb fg s k).1∧(yF fl frs fb fg s k).1*((LpOf fl frs fb fg).D s*(whF (frs.getD k [])).2*(whF fg).1)=(LpOf fl frs fb fg).T s frs.length (e1 k)*(whF (frs.getD k [])).1*(whF fg).2*(yF fl frs fb fg s k).2:=by
 have r:=rw_pos B hk
 have g:=whF_pos λ f hf=>(B.gg f hf).1
 obtain ⟨e,p,c⟩:=fty_val (U:=(LpOf fl frs fb fg).T s frs.length (e1 k)) (w:=whF (frs.getD k [])) (G:=whF fg) ok.pos r.2 g.1
 refine ⟨p,c,nonneg_of_mul (Int.mul_pos (Int.mul_pos ok.pos r.2) g.1) ?_,e⟩
 have:0≤(LpOf fl frs fb fg).T s frs.length (e1 k)*(whF (frs.getD k [])).1*(whF fg).2*(fov (ftm (lo2 ((LpOf fl frs fb fg).T s frs.length (e1 k)) ((LpOf fl frs fb fg).D s)) (whF (frs.getD k []))) (whF fg)).2:=Int.mul_nonneg (Int.mul_nonneg (Int.mul_nonneg (U_nonneg un hk) (Int.le_of_lt r.1)) (Int.le_of_lt g.2)) (Int.le_of_lt p)
 rw [← e] at this
 exact this
theorem ys_pay (B:BeO frs fb fg) (ok:(LpOf fl frs fb fg).Ok s) (un:UnO (LpOf fl frs fb fg) s none) {j:Nat} (hj:j<fg.length):(fg.getD j (0,1)).1*(prdF frs.length (yF fl frs fb fg s) (λ i=>rwF frs i j)).2≤(prdF frs.length (yF fl frs fb fg s) (λ i=>rwF frs i j)).1*(fg.getD j (0,1)).2:=by
 have g:=whF_pos λ f hf=>(B.gg f hf).1
 have D0:=ok.pos
 have gv:=goal_val (fl:=fl) B hj
 have h0:0<(fg.getD j (0,1)).2:=(B.gg _ (by rw [List.getD_eq_getElem?_getD,List.getElem?_eq_getElem hj];exact List.getElem_mem hj)).1
 have e:=prdF_eq (n:=frs.length) (f:=yF fl frs fb fg s) (g:=λ i=>rwF frs i j) (W:=(LpOf fl frs fb fg).D s*(whF fg).1) (v:=λ i=>(whF fg).2*((LpOf fl frs fb fg).a j i*(LpOf fl frs fb fg).T s frs.length (e1 i))) λ i hi=>by
  have h1:=row_val (fl:=fl) B hi hj
  have h2:=(yF_ok B ok un hi).2.2.2
  have r:=rw_pos B hi
  show (yF fl frs fb fg s i).1*(rwF frs i j).1*_=_*((yF fl frs fb fg s i).2*(rwF frs i j).2)
  generalize (yF fl frs fb fg s i).1=x1 at *
  generalize (yF fl frs fb fg s i).2=x2 at *
  generalize (rwF frs i j).1=f1 at *
  generalize (rwF frs i j).2=f2 at *
  generalize (whF (frs.getD i [])).1=w1 at *
  generalize (whF (frs.getD i [])).2=w2 at *
  generalize (whF fg).1=G1 at *
  generalize (whF fg).2=G2 at *
  generalize (LpOf fl frs fb fg).a j i=a at *
  generalize (LpOf fl frs fb fg).T s frs.length (e1 i)=U at *
  generalize (LpOf fl frs fb fg).D s=D at *
  apply Int.eq_of_mul_eq_mul_left (show w2≠0 by omega)
  grind
 rw [Lpd.sm_mul] at e
 refine prdF_ge (Int.mul_pos D0 g.1) (prdF_pos (λ i hi=>(yF_ok B ok un hi).1) λ i hi=>rwF_pos B hi hj) e ?_
 have go:=Lpd.goal_of (L:=LpOf fl frs fb fg) (s:=s) ((LpOf fl frs fb fg).cv j)
 have hc:=un j (show j<fg.length+frs.length by omega)
 have ecv:(LpOf fl frs fb fg).cv j=(LpOf fl frs fb fg).a j:=by unfold Lpd.cv;rw [if_pos (show j<(LpOf fl frs fb fg).n from hj)]
 rw [go,ecv] at hc
 have hc:0≤(sm frs.length λ k=>(LpOf fl frs fb fg).a j k*(LpOf fl frs fb fg).T s frs.length (e1 k))+(LpOf fl frs fb fg).a j frs.length*(LpOf fl frs fb fg).D s:=hc
 generalize (sm frs.length λ k=>(LpOf fl frs fb fg).a j k*(LpOf fl frs fb fg).T s frs.length (e1 k))=zs at *
 generalize (LpOf fl frs fb fg).a j frs.length=am at *
 generalize (LpOf fl frs fb fg).D s=D at *
 generalize (whF fg).1=G1 at *
 generalize (whF fg).2=G2 at *
 generalize (fg.getD j (0,1)).1=h1 at *
 generalize (fg.getD j (0,1)).2=h2 at *
 have m:=Int.mul_le_mul_of_nonneg_left (show - am*D≤zs by have:- am*D = - (am*D):=Int.neg_mul _ _;omega) (Int.le_of_lt (Int.mul_pos g.2 h0))
 have e1:h1*(D*G1)=G2*h2*(- am*D):=by grind
 have e2:G2*zs*h2=G2*h2*zs:=by grind
 rw [e1,e2];exact m
theorem both_same (B:BeO frs fb fg) (ok:(LpOf fl frs fb fg).Ok s) (io:ins_ok (LpOf fl frs fb fg) s) (un:UnO (LpOf fl frs fb fg) s none) :
  (prdF fg.length (λ j=>fg.getD j (0,1)) (xF fl frs fb fg s)).1*(prdF frs.length (λ i=>fb.getD i (0,1)) (yF fl frs fb fg s)).2=(prdF frs.length (λ i=>fb.getD i (0,1)) (yF fl frs fb fg s)).1*(prdF fg.length (λ j=>fg.getD j (0,1)) (xF fl frs fb fg s)).2:=by
 have g:=whF_pos λ f hf=>(B.gg f hf).1
 have w:=bn_pos B
 have D0:=ok.pos
 have q1:=prdF_eq (n:=fg.length) (f:=λ j=>fg.getD j (0,1)) (g:=xF fl frs fb fg s) (W:=(whF fg).1*(LpOf fl frs fb fg).D s*(whF (bnF frs fb)).1) (v:=λ j=>(- ((whF fg).2*(whF (bnF frs fb)).2))*(Lpd.spr frs.length s (λ i=>(LpOf fl frs fb fg).T s i (LpOf fl frs fb fg).be) j*(LpOf fl frs fb fg).a j frs.length)) λ j hj=>by
  have h1:=goal_val (fl:=fl) B hj
  have h2:=(xF_ok B ok j).2.2.2
  show (fg.getD j (0,1)).1*(xF fl frs fb fg s j).1*_=_*((fg.getD j (0,1)).2*(xF fl frs fb fg s j).2)
  generalize (xF fl frs fb fg s j).1=x1 at *
  generalize (xF fl frs fb fg s j).2=x2 at *
  generalize (fg.getD j (0,1)).1=f1 at *
  generalize (fg.getD j (0,1)).2=f2 at *
  generalize (whF fg).1=G1 at *
  generalize (whF fg).2=G2 at *
  generalize (whF (bnF frs fb)).1=W1 at *
  generalize (whF (bnF frs fb)).2=W2 at *
  generalize (LpOf fl frs fb fg).a j frs.length=a at *
  generalize Lpd.spr frs.length s (λ i=>(LpOf fl frs fb fg).T s i (LpOf fl frs fb fg).be) j=S at *
  generalize (LpOf fl frs fb fg).D s=D at *
  grind
 have q2:=prdF_eq (n:=frs.length) (f:=λ i=>fb.getD i (0,1)) (g:=yF fl frs fb fg s) (W:=(whF fg).1*(LpOf fl frs fb fg).D s*(whF (bnF frs fb)).1) (v:=λ i=>((whF fg).2*(whF (bnF frs fb)).2)*((LpOf fl frs fb fg).be i*(LpOf fl frs fb fg).T s frs.length (e1 i))) λ i hi=>by
  have h1:=bnd_val (fl:=fl) B hi
  have h2:=(yF_ok B ok un hi).2.2.2
  have r:=rw_pos B hi
  show (fb.getD i (0,1)).1*(yF fl frs fb fg s i).1*_=_*((fb.getD i (0,1)).2*(yF fl frs fb fg s i).2)
  generalize (yF fl frs fb fg s i).1=x1 at *
  generalize (yF fl frs fb fg s i).2=x2 at *
  generalize (fb.getD i (0,1)).1=b1 at *
  generalize (fb.getD i (0,1)).2=b2 at *
  generalize (whF (frs.getD i [])).1=w1 at *
  generalize (whF (frs.getD i [])).2=w2 at *
  generalize (whF fg).1=G1 at *
  generalize (whF fg).2=G2 at *
  generalize (whF (bnF frs fb)).1=W1 at *
  generalize (whF (bnF frs fb)).2=W2 at *
  generalize (LpOf fl frs fb fg).be i=be at *
  generalize (LpOf fl frs fb fg).T s frs.length (e1 i)=U at *
  generalize (LpOf fl frs fb fg).D s=D at *
  apply Int.eq_of_mul_eq_mul_left (show w1*w2≠0 from Int.ne_of_gt (Int.mul_pos r.1 r.2))
  grind
 rw [Lpd.sm_mul] at q1 q2
 have be0:(LpOf fl frs fb fg).be frs.length=0:=by
  show (whL (bnF frs fb)).getD frs.length 0=0
  rw [List.getD_eq_getElem?_getD,List.getElem?_eq_none (by rw [whL_length,bnF_length B.lb];exact Nat.le_refl _)];rfl
 have ea:(sm fg.length λ j=>Lpd.spr frs.length s (λ i=>(LpOf fl frs fb fg).T s i (LpOf fl frs fb fg).be) j*(LpOf fl frs fb fg).a j frs.length) = - (LpOf fl frs fb fg).T s frs.length (LpOf fl frs fb fg).be:=ok.earned io be0
 have go:=Lpd.goal_of (L:=LpOf fl frs fb fg) (s:=s) (LpOf fl frs fb fg).be
 have go:(LpOf fl frs fb fg).T s frs.length (LpOf fl frs fb fg).be=(sm frs.length λ k=>(LpOf fl frs fb fg).be k*(LpOf fl frs fb fg).T s frs.length (e1 k))+(LpOf fl frs fb fg).be frs.length*(LpOf fl frs fb fg).D s:=go
 rw [be0,Int.zero_mul,Int.add_zero] at go
 rw [ea] at q1
 rw [← go] at q2
 have z:=Int.mul_pos (Int.mul_pos g.1 D0) w.1
 generalize (prdF fg.length (λ j=>fg.getD j (0,1)) (xF fl frs fb fg s)).1=P1 at *
 generalize (prdF fg.length (λ j=>fg.getD j (0,1)) (xF fl frs fb fg s)).2=P2 at *
 generalize (prdF frs.length (λ i=>fb.getD i (0,1)) (yF fl frs fb fg s)).1=R1 at *
 generalize (prdF frs.length (λ i=>fb.getD i (0,1)) (yF fl frs fb fg s)).2=R2 at *
 generalize (whF fg).1*(LpOf fl frs fb fg).D s*(whF (bnF frs fb)).1=Z at *
 generalize (LpOf fl frs fb fg).T s frs.length (LpOf fl frs fb fg).be=tb at *
 apply Int.eq_of_mul_eq_mul_left (show Z≠0 by omega)
 grind
theorem wF_ok (ok:(LpOf fl frs fb fg).Ok s) {c:Nat} (un:UnO (LpOf fl frs fb fg) s (some c)) (j:Nat):0<(wayF (LpOf fl frs fb fg) s c j).2∧Int.gcd (wayF (LpOf fl frs fb fg) s c j).1 (wayF (LpOf fl frs fb fg) s c j).2=1∧0≤(wayF (LpOf fl frs fb fg) s c j).1∧(wayF (LpOf fl frs fb fg) s c j).1*(LpOf fl frs fb fg).D s=(Lpd.spr frs.length s (λ i=>- (LpOf fl frs fb fg).T s i ((LpOf fl frs fb fg).cv c)) j+if j=c then (LpOf fl frs fb fg).D s else 0)*(wayF (LpOf fl frs fb fg) s c j).2:=by
 have D0:=ok.pos
 have l:=lo2_lo (t:=Lpd.spr frs.length s (λ i=>- (LpOf fl frs fb fg).T s i ((LpOf fl frs fb fg).cv c)) j+if j=c then (LpOf fl frs fb fg).D s else 0) D0
 refine ⟨l.pos,l.cop,lo2_nonneg D0 (Int.add_nonneg (Lpd.spr_nonneg (λ i hi=>?_) j) ?_),l.eq⟩
 ·have:=un.2.2 i hi;omega
 ·split
  ·omega
  ·exact Int.le_refl _
theorem ways_allowed (B:BeO frs fb fg) (ok:(LpOf fl frs fb fg).Ok s) (io:ins_ok (LpOf fl frs fb fg) s) {c:Nat} (un:UnO (LpOf fl frs fb fg) s (some c)) {i:Nat} (hi:i<frs.length):(prdF fg.length (rwF frs i) (wayF (LpOf fl frs fb fg) s c)).1≤0:=by
 have r:=rw_pos B hi
 have D0:=ok.pos
 have al:=ok.ways_row io (c:=c) (r:=i) un.2.2 hi
 have al:(sm fg.length λ j=>(Lpd.spr frs.length s (λ i=>- (LpOf fl frs fb fg).T s i ((LpOf fl frs fb fg).cv c)) j+if j=c then (LpOf fl frs fb fg).D s else 0)*(LpOf fl frs fb fg).a j i)≤0:=al
 have e:=prdF_eq (n:=fg.length) (f:=rwF frs i) (g:=wayF (LpOf fl frs fb fg) s c) (W:=(whF (frs.getD i [])).1*(LpOf fl frs fb fg).D s) (v:=λ j=>(whF (frs.getD i [])).2*((Lpd.spr frs.length s (λ i=>- (LpOf fl frs fb fg).T s i ((LpOf fl frs fb fg).cv c)) j+if j=c then (LpOf fl frs fb fg).D s else 0)*(LpOf fl frs fb fg).a j i)) λ j hj=>by
  have h1:=row_val (fl:=fl) B hi hj
  have h2:=(wF_ok ok un j).2.2.2
  generalize (Lpd.spr frs.length s (λ i=>- (LpOf fl frs fb fg).T s i ((LpOf fl frs fb fg).cv c)) j+if j=c then (LpOf fl frs fb fg).D s else 0)=S at *
  generalize (wayF (LpOf fl frs fb fg) s c j).1=x1 at *
  generalize (wayF (LpOf fl frs fb fg) s c j).2=x2 at *
  generalize (rwF frs i j).1=f1 at *
  generalize (rwF frs i j).2=f2 at *
  generalize (whF (frs.getD i [])).1=w1 at *
  generalize (whF (frs.getD i [])).2=w2 at *
  generalize (LpOf fl frs fb fg).a j i=a at *
  generalize (LpOf fl frs fb fg).D s=D at *
  grind
 rw [Lpd.sm_mul] at e
 have p:=prdF_pos (n:=fg.length) (f:=rwF frs i) (g:=wayF (LpOf fl frs fb fg) s c) (λ j hj=>rwF_pos B hi hj) λ j _=>(wF_ok ok un j).1
 have:=prdF_le (c:=(0,1)) (Int.mul_pos r.1 D0) p e (by
  show _*1≤0*_
  rw [Int.mul_one,Int.zero_mul]
  exact Int.mul_nonpos_of_nonneg_of_nonpos (Int.le_of_lt r.2) al)
 simpa using this
theorem ways_goal_pos (B:BeO frs fb fg) (ok:(LpOf fl frs fb fg).Ok s) (io:ins_ok (LpOf fl frs fb fg) s) {c:Nat} (un:UnO (LpOf fl frs fb fg) s (some c)):0<(prdF fg.length (λ j=>fg.getD j (0,1)) (wayF (LpOf fl frs fb fg) s c)).1:=by
 have g:=whF_pos λ f hf=>(B.gg f hf).1
 have D0:=ok.pos
 have al:=ok.ways_goal io (c:=c) un.1
 have al:(sm fg.length λ j=>(Lpd.spr frs.length s (λ i=>- (LpOf fl frs fb fg).T s i ((LpOf fl frs fb fg).cv c)) j+if j=c then (LpOf fl frs fb fg).D s else 0)*(LpOf fl frs fb fg).a j frs.length)=(LpOf fl frs fb fg).T s frs.length ((LpOf fl frs fb fg).cv c):=al
 have e:=prdF_eq (n:=fg.length) (f:=λ j=>fg.getD j (0,1)) (g:=wayF (LpOf fl frs fb fg) s c) (W:=(whF fg).1*(LpOf fl frs fb fg).D s) (v:=λ j=>(- (whF fg).2)*((Lpd.spr frs.length s (λ i=>- (LpOf fl frs fb fg).T s i ((LpOf fl frs fb fg).cv c)) j+if j=c then (LpOf fl frs fb fg).D s else 0)*(LpOf fl frs fb fg).a j frs.length)) λ j hj=>by
  have h1:=goal_val (fl:=fl) B hj
  have h2:=(wF_ok ok un j).2.2.2
  show (fg.getD j (0,1)).1*(wayF (LpOf fl frs fb fg) s c j).1*_=_*((fg.getD j (0,1)).2*(wayF (LpOf fl frs fb fg) s c j).2)
  generalize (Lpd.spr frs.length s (λ i=>- (LpOf fl frs fb fg).T s i ((LpOf fl frs fb fg).cv c)) j+if j=c then (LpOf fl frs fb fg).D s else 0)=S at *
  generalize (wayF (LpOf fl frs fb fg) s c j).1=x1 at *
  generalize (wayF (LpOf fl frs fb fg) s c j).2=x2 at *
  generalize (fg.getD j (0,1)).1=f1 at *
  generalize (fg.getD j (0,1)).2=f2 at *
  generalize (whF fg).1=G1 at *
  generalize (whF fg).2=G2 at *
  generalize (LpOf fl frs fb fg).a j frs.length=a at *
  generalize (LpOf fl frs fb fg).D s=D at *
  grind
 rw [Lpd.sm_mul,al] at e
 have p:=prdF_pos (n:=fg.length) (f:=λ j=>fg.getD j (0,1)) (g:=wayF (LpOf fl frs fb fg) s c) (λ j hj=>(B.gg _ (by rw [List.getD_eq_getElem?_getD,List.getElem?_eq_getElem hj];exact List.getElem_mem hj)).1) λ j _=>(wF_ok ok un j).1
 have hn:=un.2.1
 have hn:(LpOf fl frs fb fg).T s frs.length ((LpOf fl frs fb fg).cv c)<0:=hn
 have z:0<(- (whF fg).2)*(LpOf fl frs fb fg).T s frs.length ((LpOf fl frs fb fg).cv c)*(prdF fg.length (λ j=>fg.getD j (0,1)) (wayF (LpOf fl frs fb fg) s c)).2:=Int.mul_pos (Int.mul_pos_of_neg_of_neg (by omega) hn) p
 rw [← e] at z
 have q:=Int.mul_pos g.1 D0
 refine Classical.byContradiction λ hz=>?_
 have:=Int.mul_nonpos_of_nonpos_of_nonneg (a:=(prdF fg.length (λ j=>fg.getD j (0,1)) (wayF (LpOf fl frs fb fg) s c)).1) (by omega) (Int.le_of_lt q)
 omega
end
theorem list_ofF {α:Type} (l:List α) (d:α):l=ofF l.length λ k=>l.getD k d:=by
 apply List.ext_getElem?
 intro k
 by_cases hk:k<l.length
 ·rw [ofF_get _ hk,List.getD_eq_getElem?_getD,List.getElem?_eq_getElem hk];rfl
 ·rw [List.getElem?_eq_none (by omega),List.getElem?_eq_none (by rw [ofF_length];omega)]
theorem row_ofF {frs:List (List (Int×Int))} {i:Nat} {r:List (Int×Int)} (h:frs[i]?=some r):r=ofF r.length (rwF frs i):=by
 have e:frs.getD i []=r:=by rw [List.getD_eq_getElem?_getD,h];rfl
 unfold rwF
 rw [e]
 exact list_ofF r (0,1)
noncomputable def G4 (f:Int×Int):Prop:=BB 40000 f.1∧BB 40000 f.2
noncomputable def Fok (f:Int×Int):Prop:=0<f.2∧Int.gcd f.1 f.2=1∧0≤f.1
theorem G9.g4 {f:Int×Int} (h:G9 f):G4 f:=⟨h.2.1.mono (by decide),h.2.2.mono (by decide)⟩
theorem lo2_bb {t b:Int} {n:Nat} (hb:0<b) (h1:BB n t) (h2:BB n b):BB n (lo2 t b).1∧BB n (lo2 t b).2:=(lo2_lo hb).bb h1 h2
section
variable {fl:Bool} {frs:List (List (Int×Int))} {fb fg:List (Int×Int)} {s:Nat→Nat}
theorem xF_bb (B:BeO frs fb fg) (ok:(LpOf fl frs fb fg).Ok s) (j:Nat):G4 (xF fl frs fb fg s j):=by
 have w:=bn_pos B
 have D0:=ok.pos
 have l:=lo2_lo (t:=Lpd.spr frs.length s (λ i=>(LpOf fl frs fb fg).T s i (LpOf fl frs fb fg).be) j) D0
 have b:=l.bb (spr_bb (n:=20000) ok (λ i hi=>(B.lim fl).bb s i ok.n (Nat.le_of_lt hi)) j) (((B.lim fl).bD s ok.n).mono (show 9000≤20000 by decide))
 exact lo2_bb (Int.mul_pos l.pos w.1) (b.1.mul B.wb.2) (b.2.mul B.wb.1)
theorem yF_bb (B:BeO frs fb fg) (ok:(LpOf fl frs fb fg).Ok s) {k:Nat} (hk:k<frs.length):G4 (yF fl frs fb fg s k):=by
 have r:=rw_pos B hk
 have g:=whF_pos λ f hf=>(B.gg f hf).1
 have D0:=ok.pos
 have hm:frs.getD k []∈frs:=by rw [List.getD_eq_getElem?_getD,List.getElem?_eq_getElem hk];exact List.getElem_mem hk
 have l:=lo2_lo (t:=(LpOf fl frs fb fg).T s frs.length (e1 k)) D0
 obtain ⟨o1,o2⟩:=B.oy fl s ok.n _ hm
 have o2:=o2 k hk
 have z:=Int.mul_pos l.pos r.2
 have l2:=lo2_lo (t:=(lo2 ((LpOf fl frs fb fg).T s frs.length (e1 k)) ((LpOf fl frs fb fg).D s)).1*(whF (frs.getD k [])).1) z
 have b4:BB 20000 ((lo2 ((LpOf fl frs fb fg).T s frs.length (e1 k)) ((LpOf fl frs fb fg).D s)).1*(whF (frs.getD k [])).1):=o2.of_le (by
  rw [Int.natAbs_mul,Int.natAbs_mul]
  exact Nat.mul_le_mul l.bx (Nat.le_refl _))
 have b5:BB 20000 ((lo2 ((LpOf fl frs fb fg).T s frs.length (e1 k)) ((LpOf fl frs fb fg).D s)).2*(whF (frs.getD k [])).2):=by
  have h1:BB 9000 ((LpOf fl frs fb fg).D s*(whF (frs.getD k [])).2):=o1.of_le (by
   rw [Int.natAbs_mul ((LpOf fl frs fb fg).D s*(whF (frs.getD k [])).2)]
   exact Nat.le_mul_of_pos_right _ (by omega))
  exact (bb_mul_le h1 (Int.le_of_lt l.pos) (lo2_le D0) (Int.le_of_lt r.2)).mono (by decide)
 have bb:=l2.bb b4 b5
 exact lo2_bb (Int.mul_pos l2.pos g.1) (bb.1.mul B.wg.2) (bb.2.mul B.wg.1)
theorem wF_bb (B:BeO frs fb fg) (ok:(LpOf fl frs fb fg).Ok s) (c j:Nat):G4 (wayF (LpOf fl frs fb fg) s c j):=by
 have D0:=ok.pos
 have b1:BB 20000 (Lpd.spr frs.length s (λ i=>- (LpOf fl frs fb fg).T s i ((LpOf fl frs fb fg).cv c)) j):=spr_bb (n:=20000) ok (λ i hi=>((B.lim fl).bc s i c ok.n (Nat.le_of_lt hi)).neg) j
 have bD:=((B.lim fl).bD s ok.n).mono (show 9000≤20000 by decide)
 have b2:BB 20000 (if j=c then (LpOf fl frs fb fg).D s else 0):=by
  split
  ·exact bD
  ·show (0:Int).natAbs<_;exact Nat.two_pow_pos _
 exact lo2_bb D0 ((b1.add b2).mono (by decide)) (bD.mono (by decide))
end
theorem RfAt.set {K:W.Frag} {H:Hp} {q:Addr} {g:List (Int×Int)} (hq:∃ qs,H q=some (.lst (List.map V.ref qs))∧FrsAt K H qs g):∀ {ps:List Addr} {rs:List (List (Int×Int))} (i:Nat),RfAt K H ps rs→RfAt K H (ps.set i q) (rs.set i g)
 | [],[],_,_=>trivial
 | _::_,_::_,0,h=>⟨hq,h.2⟩
 | _::_,_::_,i+1,h=>⟨h.1,RfAt.set hq i h.2⟩
 | [],_::_,_,h=>h.elim
 | _::_,[],_,h=>h.elim
theorem one_mod (c:Int) (k:Nat) (hk:0<k):∃ m:Nat,1+c % (k:Int)=(m:Int)∧1≤m∧m≤k:=by
 have h1:=Int.emod_nonneg c (show (k:Int)≠0 by omega)
 have h2:=Int.emod_lt_of_pos c (show (0:Int)<k by omega)
 exact ⟨(1+c % (k:Int)).toNat,by omega,by omega,by omega⟩
noncomputable def mq (qs:List Addr) (H:Hp):Hp:=open Classical in λ x=>if x∈qs then none else H x
theorem mq_of {qs:List Addr} {H:Hp} {x:Addr} {o:HO} (h:H x=some o) (n:x∉qs):mq qs H x=some o:=by unfold mq;rw [if_neg n];exact h
theorem mq_in {qs:List Addr} {H:Hp} {x:Addr} (h:x∈qs):mq qs H x=none:=by unfold mq;rw [if_pos h]
theorem mq_same {qs:List Addr} {H:Hp}:Same (mq qs H) H:=λ b o e=>by
 unfold mq at e
 split at e
 ·cases e
 ·exact e
theorem FrsAt.mq {K:W.Frag} {qs:List Addr} {H:Hp} (hq:∀ q∈qs,∃ xs,H q=some (.lst xs)):∀ {ps:List Addr} {fs:List (Int×Int)},FrsAt K H ps fs→FrsAt K (mq qs H) ps fs
 | [],[],_=>trivial
 | p::_,_::_,h=>by
  refine ⟨?_,FrsAt.mq hq h.2⟩
  have keep:∀ o,H p=some o→(∀ xs,o≠.lst xs)→My.mq qs H p=some o:=λ o e ne=>mq_of e λ hm=>by
   obtain ⟨xs,e2⟩:=hq p hm
   rw [e] at e2
   exact ne xs (Option.some.inj e2)
  rcases h.1 with (h1 | ⟨o,h1⟩) | h1
  ·exact .inl (.inl (keep _ h1 (by intro xs z;cases z)))
  ·exact .inl (.inr ⟨o,keep _ h1 (by intro xs z;cases z)⟩)
  ·exact .inr h1
 | [],_::_,h=>h.elim
 | _::_,[],h=>h.elim
theorem RfAt.setv {K:W.Frag} {H:Hp} {q:Addr} {refs:List Addr} {g:List (Int×Int)} {ys:List V} (hy:H q=some (.lst ys)) (hg:FrsAt K H refs g):∀ {ps:List Addr} {rs:List (List (Int×Int))} {i:Nat},ps.Nodup→ps[i]?=some q→RfAt K H ps rs→RfAt K (upd H q (.lst (List.map V.ref refs))) ps (rs.set i g)
 | [],[],_,_,e,_=>by simp at e
 | p::ps,r::rs,0,nd,e,h=>by
  simp at e;subst e
  exact ⟨⟨refs,upd_same,hg.off hy⟩,RfAt.put hy (List.nodup_cons.mp nd).1 h.2⟩
 | p::ps,r::rs,i+1,nd,e,h=>by
  have e':ps[i]?=some q:=by simpa using e
  have hpq:p≠q:=λ z=>(List.nodup_cons.mp nd).1 (z ▸ List.mem_of_getElem? e')
  exact ⟨let ⟨qs,a,b⟩:=h.1;⟨qs,by rw [upd_ne hpq];exact a,b.off hy⟩,RfAt.setv hy hg (List.nodup_cons.mp nd).2 e' h.2⟩
 | [],_::_,_,_,_,h=>h.elim
 | _::_,[],_,_,_,h=>h.elim
namespace Lpd
noncomputable def rowL (L:Lpd) (i:Nat):List Int:=ofF L.n (λ j=>L.a j i)++[L.be i]
theorem rowL_length (L:Lpd) (i:Nat):(L.rowL i).length=L.n+1:=by unfold rowL;rw [List.length_append,ofF_length];rfl
theorem rowL_get (L:Lpd) (i:Nat) {j:Nat} (h:j<L.n):(L.rowL i)[j]?=some (L.a j i):=by
 unfold rowL;rw [List.getElem?_append_left (by rw [ofF_length];exact h),ofF_get _ h]
theorem rowL_last (L:Lpd) (i:Nat):(L.rowL i)[L.n]?=some (L.be i):=by
 unfold rowL;rw [List.getElem?_append_right (by rw [ofF_length];exact Nat.le_refl _),ofF_length,Nat.sub_self];rfl
theorem rowL_mem {L:Lpd} {i:Nat} {x:Int} (h:x∈L.rowL i):(∃ j,j<L.n∧x=L.a j i)∨x=L.be i:=by
 unfold rowL at h
 rcases List.mem_append.mp h with h | h
 ·exact .inl (ofF_mem h)
 ·exact .inr (List.mem_singleton.mp h)
theorem flip_flip (L:Lpd):L.flip.flip=L:=by
 unfold flip
 cases L with
 | mk m n a be fl=>cases fl <;> rfl
theorem flip_kept (L:Lpd) (s:Nat→Nat) (i:Nat):L.flip.keptL s i=(L.keptL s i).map λ x=>-x:=by
 unfold keptL
 rw [List.map_append]
 have e1:(ofF (L.m+1) λ k=>L.T s i (e1 k)).map (λ x=>-x)=ofF (L.m+1) λ k=>- L.T s i (e1 k):=by
  unfold ofF;rw [List.map_map];rfl
 rw [e1]
 show ofF (L.m+1) (λ k=>L.flip.T s i (My.e1 k))++[L.flip.T s i L.be]=_
 rw [flip_T,ofF_congr λ k _=>flip_T]
 rfl
theorem flip_Okn' {L:Lpd} {s:Nat→Nat} (o:L.flip.Okn s):L.Okn s:=by
 have:=flip_Okn o
 rwa [flip_flip] at this
theorem Lim.flip {L:Lpd} (h:L.Lim):L.flip.Lim :=
 ⟨h.m1,h.n1,h.ba,λ s i c o hi=>by rw [flip_T];exact (h.bc s i c (flip_Okn' o) hi).neg,λ s i k o hi hk=>by rw [flip_T];exact (h.bk s i k (flip_Okn' o) hi hk).neg,λ s i o hi=>by rw [flip_T];exact (h.bb s i (flip_Okn' o) hi).neg,λ s o=>by rw [flip_D];exact (h.bD s (flip_Okn' o)).neg⟩
end Lpd
noncomputable def ib (n:Int):Nat:=Builtin.Int.intBits n
theorem ib_le {n:Int} {q:Nat} (h:BB q n):ib n≤q:=intBits_leB h
theorem bb_ib (n:Int):BB (ib n) n:=by
 unfold ib BB Builtin.Int.intBits
 by_cases h:n.natAbs=0
 ·rw [h];exact Nat.two_pow_pos _
 ·rw [if_neg (by simpa using h)]
  exact Nat.lt_log2_self
theorem ib_neg (n:Int):ib (-n)=ib n:=by
 have h1:=ib_le (n:=-n) (q:=ib n) (bb_ib n).neg
 have h2:=ib_le (n:=n) (q:=ib (-n)) (by have:=(bb_ib (-n)).neg;rwa [Int.neg_neg] at this)
 omega
structure Str_ (n b r:Int):Prop where
 zz:n=0→r=0
 nn:0≤n→0≤r
 bb:∀ q:Nat,(ib n:Int)+b≤q→BB q r
theorem str_up {n b:Int} (hb:0≤b) (hn:0≤n):Str_ n b (n*2 ^ b.toNat):=by
 refine ⟨λ z=>by rw [z,Int.zero_mul],λ _=>Int.mul_nonneg hn (Int.le_of_lt (Int.pow_pos (by decide))),λ q hq=>?_⟩
 refine BB.mono (m:=ib n+b.toNat) ?_ (by omega)
 show (n*2 ^ b.toNat).natAbs<2 ^ (ib n+b.toNat)
 rw [Int.natAbs_mul,Nat.pow_add,Int.natAbs_pow]
 exact Nat.mul_lt_mul_of_pos_right (bb_ib n) (Nat.two_pow_pos _)
theorem str_down {n b:Int} (hb:0≤b) (hn:0≤n):Str_ n (-b) (n.fdiv (2 ^ b.toNat)):=by
 obtain ⟨m,rfl⟩:∃ m:Nat,n=(m:Int):=⟨n.toNat,by omega⟩
 have e:((m:Int)).fdiv (2 ^ b.toNat)=((m / 2 ^ b.toNat:Nat):Int):=by
  rw [Int.fdiv_eq_ediv_of_nonneg _ (Int.le_of_lt (Int.pow_pos (by decide)))]
  push_cast;rfl
 rw [e]
 refine ⟨λ z=>by rw [show m=0 by omega,Nat.zero_div];rfl,λ _=>Int.natCast_nonneg _,λ q hq=>?_⟩
 show ((m / 2 ^ b.toNat:Nat):Int).natAbs<2 ^ q
 rw [Int.natAbs_natCast]
 have h:m<2 ^ ib m:=bb_ib (m:Int)
 refine (Nat.div_lt_iff_lt_mul (Nat.two_pow_pos _)).mpr (Nat.lt_of_lt_of_le h ?_)
 rw [← Nat.pow_add]
 exact Nat.pow_le_pow_right (by decide) (by omega)
theorem str_neg {n b r:Int} (h:Str_ (-n) b r) (hn:n<0)   : Str_ n b (-r):=⟨λ z=>by omega,λ z=>by omega,λ q hq=>(h.bb q (by rw [ib_neg];exact hq)).neg⟩
noncomputable def LpR (rows:List (List Int)) (m n:Nat):Lpd:=⟨m,n,λ j i=>(rows.getD i []).getD j 0,λ i=>(rows.getD i []).getD n 0,false⟩
theorem LpR_rows {rows:List (List Int)} {m n:Nat} (h1:rows.length=m+1) (h2:∀ r∈rows,r.length=n+1):ofF (m+1) (LpR rows m n).rowL=rows:=by
 refine List.ext_getElem? λ i=>?_
 by_cases hi:i<m+1
 ·have e:rows[i]?=some rows[i]:=List.getElem?_eq_getElem (by omega)
  rw [ofF_get _ hi,e]
  congr 1
  have hl:=h2 _ (List.mem_of_getElem? e)
  have eg:rows.getD i []=rows[i]:=by rw [List.getD_eq_getElem?_getD,e];rfl
  refine List.ext_getElem? λ j=>?_
  by_cases hj:j<n
  ·rw [Lpd.rowL_get _ _ (show j<(LpR rows m n).n from hj)]
   show some ((rows.getD i []).getD j 0)=_
   rw [eg,get_getD (by omega)]
  ·by_cases hjn:j=n
   ·subst hjn
    have:=(LpR rows m j).rowL_last i
    rw [show (LpR rows m j).n=j from rfl] at this
    rw [this]
    show some ((rows.getD i []).getD j 0)=_
    rw [eg,get_getD (by omega)]
   ·rw [List.getElem?_eq_none (by rw [Lpd.rowL_length];show n+1≤j;omega),List.getElem?_eq_none (by omega)]
 ·rw [List.getElem?_eq_none (by rw [ofF_length];omega),List.getElem?_eq_none (by omega)]
theorem cut_last {xs:List V}:cutV xs none (some (-1))=xs.take (xs.length - 1):=by
 unfold cutV
 rw [HT.sIx_none,List.drop_zero,Nat.sub_zero]
 congr 1
 unfold HT.sIx
 simp
 omega
theorem cut_row (L:Lpd) (i:Nat):cutV (List.map V.int (L.rowL i)) none (some (-1))=List.map V.int (ofF L.n λ j=>L.a j i):=by
 rw [cut_last,List.length_map,Lpd.rowL_length,Nat.add_sub_cancel,← List.map_take]
 congr 1
 unfold Lpd.rowL
 rw [List.take_append_of_le_length (by rw [ofF_length];exact Nat.le_refl _),List.take_of_length_le (by rw [ofF_length];exact Nat.le_refl _)]
structure RlAt (H:Hp) (a:Addr) (rps:List Addr) (L:Lpd):Prop where
 ha:H a=some (.lst (List.map V.ref rps))
 hr:RwsAt H rps (ofF (L.m+1) L.rowL)
theorem RlAt.same {H H':Hp} {a:Addr} {rps:List Addr} {L:Lpd} (h:RlAt H a rps L) (s:Same H H'):RlAt H' a rps L:=⟨s _ _ h.ha,h.hr.same s⟩
theorem RlAt.len {H:Hp} {a:Addr} {rps:List Addr} {L:Lpd} (h:RlAt H a rps L):rps.length=L.m+1:=by rw [h.hr.length,ofF_length]
theorem RlAt.row {H:Hp} {a:Addr} {rps:List Addr} {L:Lpd} (h:RlAt H a rps L) {i:Nat} (hi:i≤L.m):∃ p,rps[i]?=some p∧H p=some (.lst (List.map V.int (L.rowL i))):=by
 have hl:=h.len
 obtain ⟨p,hp⟩:∃ p,rps[i]?=some p:=⟨_,List.getElem?_eq_getElem (by omega)⟩
 obtain ⟨r,e1,e2⟩:=h.hr.get hp
 obtain ⟨_,rfl⟩:=ofF_inv e1
 exact ⟨p,hp,e2⟩
theorem RlAt.inv {H:Hp} {a:Addr} {rps:List Addr} {L:Lpd} (h:RlAt H a rps L) {i:Nat} {p:Addr} (hp:rps[i]?=some p):i≤L.m∧H p=some (.lst (List.map V.int (L.rowL i))):=by
 obtain ⟨r,e1,e2⟩:=h.hr.get hp
 obtain ⟨h1,rfl⟩:=ofF_inv e1
 exact ⟨by omega,e2⟩
noncomputable def N_l_numbers:List PySem.Str:=["_law_script", "_law_many", "_law_found", "_law_k", "_law_cell", "_law_at"]
noncomputable def Nm (h:Int):Prop:=0≤h∧BB 210 h
noncomputable def sp_l_numbers (K:W.Frag):Sp:=λ vs H Q _=>∃ a ns,∃ many:Nat,vs=[.ref a,.int many]∧SqL K H a (List.map V.int ns)∧ns.length≤63∧1≤many∧many≤1000∧∀ l hs H',Same H H'→H' l=some (.lst (List.map V.int hs))→hs.length=many→(∀ h∈hs,Nm h)→Q (.ref l) H'
noncomputable def iv_numbers (a l:Addr) (many:Nat) (H0:Hp):Nat→St→Hp→Prop:=λ _ σ H3=>∃ (o1 o2 o3:Option V) (hs:List Int),σ=[some (.ref a),some (.int many),some (.ref l),o1,o2,o3]∧Same H0 H3∧H3 l=some (.lst (List.map V.int hs))∧hs.length=many∧∀ h∈hs,Nm h
noncomputable def t_l_numbers_r1 (K:W.Frag):TS:=(tSeq (tAsg (tOp rModI (tVar 3) (tVar 1)) (gName 5)) (tAsg (tOp rModI (tOp rAddI (tOp rAddI (tOp rMulI (tOp (rIxL K) (tVar 2) (tVar 5)) (tC (.int 48271))) (tVar 4)) (tOp rMulI (tVar 3) (tVar 3))) (tOp rAddI (tOp rPowI (tC (.int 10)) (tC (.int 60))) (tC (.int 7)))) (gSub (tVar 2) (tVar 5) rSetL)))
noncomputable def t_l_numbers_b1 (K:W.Frag):TS:=(tSeq (tAsg (tC (.int 0)) (gName 4)) (tSeq (tIfS (tTest (tOp rGtI (tCB (cLen K) (tCons (tVar 0) tNil)) (tC (.int 0)))) (tAsg (tOp rModI (tOp (rIxL K) (tVar 0) (tOp rModI (tVar 3) (tCB cMin (tCons (tCB (cLen K) (tCons (tVar 0) tNil)) (tCons (tC (.int 63)) tNil))))) (tOp rAddI (tOp rPowI (tC (.int 10)) (tC (.int 60))) (tC (.int 7)))) (gName 4)) tNext) (t_l_numbers_r1 K)))
noncomputable def t_l_numbers_c1 (K:W.Frag):TE:=(tC (.int 0))
noncomputable def t_l_numbers (K:W.Frag):TS:=(tSeq (tAsg (tComp (iRng1 (tCons (tVar 1) tNil)) [] (t_l_numbers_c1 K)) (gName 2)) (tSeq (tFor (iRng1 (tCons (tCB cMax (tCons (tVar 1) (tCons (tCB cMin (tCons (tCB (cLen K) (tCons (tVar 0) tNil)) (tCons (tC (.int 63)) tNil))) tNil))) tNil)) (gName 3) (t_l_numbers_b1 K)) (tRet (tVar 2))))
theorem len_l_numbers {K vs H Q E} (h:sp_l_numbers K vs H Q E):vs.length=2:=by obtain ⟨a,ns,m,rfl,_⟩:=h;rfl
theorem nm_mod (c:Int):Nm (c % (10 ^ Int.toNat 60+7)):=by
 have w1:=Int.emod_nonneg c (show (10 ^ Int.toNat 60+7:Int)≠0 by decide)
 have w2:=Int.emod_lt_of_pos c (show (0:Int)<10 ^ Int.toNat 60+7 by decide)
 refine ⟨w1,?_⟩
 generalize c % (10 ^ Int.toNat 60+7)=w at w1 w2 ⊢
 have e60:(10 ^ Int.toNat 60:Int)=1000000000000000000000000000000000000000000000000000000000000:=by decide
 rw [e60] at w2
 unfold BB
 have:(2:Nat) ^ 210=1645504557321206042154969182557350504982735865633579863348609024:=by decide
 rw [this]
 omega
theorem rd_l_numbers {K vs H Q E} (h:sp_l_numbers K vs H Q E):t_l_numbers K { nx:=λ _ H'=>Q .non H',rt:=Q } (start N_l_numbers vs) H:=by
 obtain ⟨a,ns,many,rfl,hS,hn,m1,m2,q⟩:=h
 rw [show start N_l_numbers [V.ref a,V.int many]=[some (.ref a),some (.int many),none,none,none,none] from rfl]
 (dsimp! [t_l_numbers,tComp,tFor,iRng1,cMax,cMin,tSeq,tAsg,gName,tVar,tC,tRet,tCons,tNil,tCB,cLen])
 refine ⟨by omega,by omega,comp_range (lo:=0) (W:=WEq H λ i zs=>zs=List.map V.int (List.replicate i 0)) (by rw [sizeLine_eq];omega) ⟨rfl,rfl⟩ ?_ ?_⟩
 ·rintro i ys H3 _ _ ⟨rfl,rfl⟩
  dsimp only [t_l_numbers_c1,tC,exI_lit,exB_lit,exR_lit]
  exact ⟨rfl,by show _=List.map V.int (List.replicate (i+1) 0);rw [List.replicate_succ',List.map_append];rfl⟩
 ·rintro ys H3 _ ⟨rfl,rfl⟩ l hl
  rw [Int.toNat_natCast]
  have s1:=Same.upd (o:=HO.lst (List.map V.int (List.replicate many 0))) hl
  refine ⟨_,.inl (s1.seq hS),?_⟩
  rw [List.length_map]
  have hj:∃ j:Nat,(if (if 63<(ns.length:Int) then 63 else (ns.length:Int)) > many then (if 63<(ns.length:Int) then 63 else (ns.length:Int)) else (many:Int))=j∧j≤1063:=by
   refine ⟨(if (if 63<(ns.length:Int) then 63 else (ns.length:Int)) > many then (if 63<(ns.length:Int) then 63 else (ns.length:Int)) else (many:Int)).toNat,?_,?_⟩
   ·split <;> (try split) <;> omega
   ·split <;> (try split) <;> omega
  obtain ⟨j,ej,hj⟩:=hj
  rw [ej,Int.toNat_natCast]
  refine ⟨by omega,by omega,for_range (lo:=0) (n:=j) (g:=gName 3) (D:={ nx:=tRet (tVar 2) { nx:=λ _ H'=>Q .non H',rt:=Q },rt:=Q }) (iv_numbers a l many H3) ?_ ?_ ?_⟩
  ·exact ⟨none,none,none,List.replicate many 0,rfl,s1,upd_same,by rw [List.length_replicate],λ h hh=>by rw [List.eq_of_mem_replicate hh];exact ⟨by decide,by unfold BB;decide⟩⟩
  ·rintro i σ H4 hij ⟨o1,o2,o3,hs,rfl,s4,hl4,hlen,hb⟩
   have last:∀ c:Int,t_l_numbers_r1 K { nx:=iv_numbers a l many H3 (i+1),ct:=iv_numbers a l many H3 (i+1),bk:=tRet (tVar 2) { nx:=λ _ H'=>Q .non H',rt:=Q },rt:=Q } [some (.ref a),some (.int many),some (.ref l),some (.int (0+i)),some (.int c),o3] H4:=by
    intro c
    have hat:((0+(i:Int)) % (many:Int))=((i % many:Nat):Int):=by rw [Int.zero_add];push_cast;rfl
    have hik:i % many<many:=Nat.mod_lt _ (by omega)
    (dsimp! [t_l_numbers_r1,gSub,rSetL,tSeq,tAsg,gName,tVar,tC,tOp,rI0,rI,rAddI,rMulI,rModI,rPowI,rIxL])
    refine ⟨by omega,_,SqL.of hl4,_,atI_map (by rw [hat];omega) (by rw [hat,hlen];omega),_,rfl,.r (by unfold BB;decide),.r (by unfold BB;omega),⟨by decide,by decide,by decide⟩,by decide,_,hl4,_,(by rw [List.length_map,hlen];exact ixN_int (by rw [hat];omega) (by rw [hat];omega)),?_⟩
    rw [← List.map_set]
    refine ⟨_,_,_,_,rfl,s4.put hl,upd_same,by rw [List.length_set,hlen],λ h hh=>?_⟩
    rcases List.mem_or_eq_of_mem_set hh with hh | rfl
    ·exact hb h hh
    ·exact nm_mod _
   (dsimp! [cMin,tSeq,tAsg,gName,tVar,tC,tOp,rI0,rI,rAddI,rModI,rPowI,rGtI,tIfS,tTest,tNext,tCons,tNil,tCB,cLen,rIxL,decide_eq_true_eq])
   refine ⟨_,.inl (s4.seq hS),ite2 (λ h0=>?_) (λ _=>last 0)⟩
   rw [List.length_map] at h0
   refine ⟨_,.inl (s4.seq hS),?_⟩
   rw [List.length_map]
   have hm:0<(if 63<(ns.length:Int) then 63 else (ns.length:Int))∧(if 63<(ns.length:Int) then 63 else (ns.length:Int))≤ns.length:=by split <;> omega
   generalize (if 63<(ns.length:Int) then 63 else (ns.length:Int))=m at hm
   have z1:=Int.emod_nonneg (0+(i:Int)) (show m≠0 by omega)
   have z2:=Int.emod_lt_of_pos (0+(i:Int)) hm.1
   exact ⟨hm.1,_,s4.seq hS,_,atI_map z1 (by omega),⟨by decide,by decide,by decide⟩,_,rfl,by decide,last _⟩
  ·rintro σ H4 ⟨o1,o2,o3,hs,rfl,s4,hl4,hlen,hb⟩
   (dsimp! [tVar,tRet])
   exact q l hs H4 s4 hl4 hlen hb
noncomputable def N_l_divisor:List PySem.Str:=["_law_one", "_law_other"]
noncomputable def sp_l_divisor (_:W.Frag):Sp:=λ vs H Q _=>∃ a b,vs=[.int a,.int b]∧Q (.int (Int.gcd a b:Nat)) H
noncomputable def t_l_divisor_b1 (K:W.Frag):TS:=(tPar 0 1 (tCons (tVar 1) (tCons (tOp rModI (tVar 0) (tVar 1)) tNil)))
noncomputable def t_l_divisor (K:W.Frag):TS:=(tSeq (tAsg (tCB cAbs (tCons (tVar 0) tNil)) (gName 0)) (tSeq (tAsg (tCB cAbs (tCons (tVar 1) tNil)) (gName 1)) (tSeq (tWhile (tTest (tOp rGtI (tVar 1) (tC (.int 0)))) (t_l_divisor_b1 K)) (tRet (tVar 0)))))
theorem len_l_divisor {K vs H Q E} (h:sp_l_divisor K vs H Q E):vs.length=2:=by obtain ⟨a,b,rfl,_⟩:=h;rfl
theorem rd_l_divisor {K vs H Q E} (h:sp_l_divisor K vs H Q E):t_l_divisor K { nx:=λ _ H'=>Q .non H',rt:=Q } (start N_l_divisor vs) H:=by
 obtain ⟨a,b,rfl,k⟩:=h
 rw [show start N_l_divisor [V.int a,V.int b]=[some (.int a),some (.int b)] from rfl]
 (dsimp! [t_l_divisor,tSeq,tAsg,gName,tVar,rGtI,tCons,tNil,tCB,cAbs,abs_eq])
 refine while_by (λ σ H'=>H'=H∧∃ g s,σ=[some (.int g),some (.int s)]∧0≤g∧0≤s∧Int.gcd g s=Int.gcd a b) (λ σ _=>(intO (σ.getD 1 none)).toNat) ?_ ?_ ?_
 ·exact ⟨rfl,_,_,rfl,by omega,by omega,by simp [Int.gcd]⟩
 ·rintro σ H' ⟨rfl,g,s,rfl,hg,hs,e⟩
  (dsimp! [t_l_divisor_b1,tVar,tC,tOp,rI0,rI,rModI,tRet,tTest,tCons,tNil,tPar,decide_eq_true_eq])
  refine ite2 (λ hp=>?_) (λ hp=>?_)
  ·have h1:=Int.emod_nonneg g (b:=s) (by omega)
   have h2:=Int.emod_lt_of_pos g hp
   simp [hp,h1,hs]
   refine ⟨?_,?_⟩
   ·rw [← e,Int.gcd_comm g s,Int.emod_def,Int.gcd_sub_mul_left_right]
   ·show max (g % s) 0<s
    omega
  ·have h0:s=0:=by omega
   subst h0
   rw [← e,Int.gcd_zero_right] at k
   have:((g.natAbs:Nat):Int)=g:=by omega
   rw [this] at k
   exact k
 ·intro σ H' Q1 Q2 im h
  dsimp only [tTest,tOp,tC,rI0] at h ⊢
  first
  | (obtain ⟨v,hv,q⟩:=tVar_el h
     exact tVar_in hv (exI_mono q λ i q=>im _ _ q))
  | (obtain ⟨v,hv,i,j,hi,hj,b,hb,q⟩:=tVar_el h
     exact tVar_in hv ⟨i,j,hi,hj,b,hb,im _ _ q⟩)
noncomputable def N_l_fraction:List PySem.Str:=["_law_number", "_law_way", "_law_top", "_law_bottom", "_law_most"]
noncomputable def szP (w:Nat):Nat:=if w≤1 then 2 else if w=2 then 30 else 200
noncomputable def szR (w:Nat):Nat:=if w≤1 then 1 else 20
noncomputable def sp_l_fraction (_:W.Frag):Sp:=λ vs H Q _=>∃ n,∃ w:Nat,vs=[.int n,.int w]∧w≤3∧∀ x y p H',Same H H'→H' p=some (.tup [.int x,.int y])→Gp (szP w) (szR w) (x,y)→Q (.ref p) H'
noncomputable def t_l_fraction_r1 (K:W.Frag):TS:=(tSeq (tAsg (tOp rAddI (tC (.int 1)) (tOp rModI (tOp rModI (tOp rMulI (tVar 0) (tC (.int 16807))) (tC (.int 1000033))) (tOp (rIxL K) (tLst (tCons (tC (.int 9)) (tCons (tC (.int 999983)) tNil))) (tOp rModI (tOp rDivC (tVar 0) (tC (.int 11))) (tC (.int 2)))))) (gName 3)) (tSeq (tAsg (tCall (sp_l_divisor K) [] E0 (tCons (tVar 2) (tCons (tVar 3) tNil))) (gName 4)) (tRet (tTup (tCons (tOp rDivI (tVar 2) (tVar 4)) (tCons (tOp rDivI (tVar 3) (tVar 4)) tNil))))))
noncomputable def t_l_fraction (K:W.Frag):TS:=(tSeq (tIfS (tOr (tTest (tOp rEq (tVar 1) (tC (.int 0)))) (tTest (tOp rEq (tVar 1) (tC (.int 1))))) (tRet (tTup (tCons (tOp rSubI (tOp rModI (tOp rModI (tOp rMulI (tVar 0) (tC (.int 48271))) (tC (.int 1000003))) (tC (.int 5))) (tC (.int 2))) (tCons (tC (.int 1)) tNil)))) tNext) (tSeq (tAsg (tOp rSubI (tOp rModI (tVar 0) (tOp rAddI (tOp rMulI (tC (.int 2)) (tOp rPowI (tC (.int 10)) (tC (.int 9)))) (tC (.int 1)))) (tOp rPowI (tC (.int 10)) (tC (.int 9)))) (gName 2)) (tSeq (tIfS (tTest (tOp rEq (tVar 1) (tC (.int 3)))) (tAsg (tOp rSubI (tOp rModI (tOp rMulI (tVar 0) (tC (.int 69621))) (tOp rAddI (tOp rMulI (tC (.int 2)) (tOp rPowI (tC (.int 10)) (tC (.int 60)))) (tC (.int 1)))) (tOp rPowI (tC (.int 10)) (tC (.int 60)))) (gName 2)) tNext) (t_l_fraction_r1 K))))
theorem len_l_fraction {K vs H Q E} (h:sp_l_fraction K vs H Q E):vs.length=2:=by obtain ⟨_,_,rfl,_⟩:=h;rfl
theorem bb_t60 (c:Int):BB 200 (c % (2*10 ^ Int.toNat 60+1) - 10 ^ Int.toNat 60):=by
 have w1:=Int.emod_nonneg c (show (2*10 ^ Int.toNat 60+1:Int)≠0 by decide)
 have w2:=Int.emod_lt_of_pos c (show (0:Int)<2*10 ^ Int.toNat 60+1 by decide)
 generalize c % (2*10 ^ Int.toNat 60+1)=w at w1 w2 ⊢
 have e60:(10 ^ Int.toNat 60:Int)=1000000000000000000000000000000000000000000000000000000000000:=by decide
 rw [e60] at w2 ⊢
 unfold BB
 have:(2:Nat) ^ 200=1606938044258990275541962092341162602522202993782792835301376:=by decide
 rw [this]
 omega
theorem bb_t9 (c:Int):BB 30 (c % (2*10 ^ Int.toNat 9+1) - 10 ^ Int.toNat 9):=by
 have w1:=Int.emod_nonneg c (show (2*10 ^ Int.toNat 9+1:Int)≠0 by decide)
 have w2:=Int.emod_lt_of_pos c (show (0:Int)<2*10 ^ Int.toNat 9+1 by decide)
 generalize c % (2*10 ^ Int.toNat 9+1)=w at w1 w2 ⊢
 have e9:(10 ^ Int.toNat 9:Int)=1000000000:=by decide
 rw [e9] at w2 ⊢
 unfold BB
 have:(2:Nat) ^ 30=1073741824:=by decide
 rw [this]
 omega
theorem rd_l_fraction {K vs H Q E} (h:sp_l_fraction K vs H Q E):t_l_fraction K { nx:=λ _ H'=>Q .non H',rt:=Q } (start N_l_fraction vs) H:=by
 obtain ⟨n,w,rfl,hw,q⟩:=h
 rw [show start N_l_fraction [V.int n,V.int w]=[some (.int n),some (.int w),none,none,none] from rfl]
 have last:∀ t:Int,BB (szP w) t→2≤w→t_l_fraction_r1 K { nx:=λ _ H'=>Q .non H',rt:=Q } [some (.int n),some (.int w),some (.int t),none,none] H:=by
  intro t ht hw2
  (try dsimp only [t_l_fraction_r1,tSeq,tAsg,gName,tVar,tC,tOp,rI0,rI,rAddI,rMulI,rDivI,rDivC,rModI,tRet,tCall,tCons,tNil,tTup,tLst,rIxL,Lq0,Lq1,Ls0,Ls1,exI_lit,exB_lit,exR_lit];try simp only [t_l_fraction_r1,sp_l_divisor,tSeq,tAsg,gName,tVar,tC,tOp,rI0,rI,rAddI,rMulI,rDivI,rDivC,rModI,tRet,tCall,tCons,tNil,tTup,tLst,rIxL,Lq0,Lq1,Ls0,Ls1,Option.some.injEq,exists_eq_left',V.int.injEq,V.ref.injEq,List.cons.injEq,and_true,List.append_nil,exists_and_left,and_assoc,exists_eq_left,V.bl.injEq,true_and,exI_lit,exB_lit,exR_lit,exI_ex,exB_ex,exR_ex])
  obtain ⟨M,aM,M0,M6⟩:∃ M:Int,atI [V.int 9,V.int 999983] (n / 11 % 2)=some (.int M)∧0<M∧M≤999983:=by
   rcases mod2 (n / 11) with e | e <;> rw [e]
   ·exact ⟨9,atI0,by decide,by decide⟩
   ·exact ⟨_,atI1,by decide,by decide⟩
  have v1:=Int.emod_nonneg (n*16807 % 1000033) (show M≠0 by omega)
  have v2:=Int.emod_lt_of_pos (n*16807 % 1000033) M0
  have b0:0<1+n*16807 % 1000033 % M:=by omega
  have bb:BB 20 (1+n*16807 % 1000033 % M):=by
   show Int.natAbs _<2 ^ 20
   omega
  have bg:=bb.gcd (i:=t) (show 1+n*16807 % 1000033 % M≠0 by omega)
  have g0:0<Int.gcd t (1+n*16807 % 1000033 % M):=Int.gcd_pos_of_ne_zero_right _ (by omega)
  have lo:=lo_pos (t:=t) b0
  refine ⟨.r (by show (16807:Int).natAbs<2 ^ 64;decide),by decide,sz2,λ p hp=>⟨⟨by decide,by decide⟩,by decide,_,SqL.of upd_same,_,aM,_,rfl,M0,⟨by omega,bg.mono (by decide)⟩,⟨by omega,bg.mono (by decide)⟩,sz2,λ p2 hp2=>q _ _ p2 _ ((Same.upd hp).trans (Same.upd hp2)) upd_same ⟨lo.pos,ht.of_le lo.bx,?_⟩⟩⟩
  have:szR w=20:=by unfold szR;rw [if_neg (by omega)]
  rw [this]
  exact bb.of_le lo.by_
 have small:w≤1→∀ p,H p=none→Q (.ref p) (upd H p (.tup [.int (n*48271 % 1000003 % 5 - 2),.int 1])):=λ hw1 p hp=>by
  refine q _ _ p _ (Same.upd hp) upd_same ⟨by show (0:Int)<1;decide,?_,?_⟩
  ·have:szP w=2:=by unfold szP;rw [if_pos hw1]
   rw [this]
   have v1:=Int.emod_nonneg (n*48271 % 1000003) (show (5:Int)≠0 by decide)
   have v2:=Int.emod_lt_of_pos (n*48271 % 1000003) (show (0:Int)<5 by decide)
   show Int.natAbs (n*48271 % 1000003 % 5 - 2)<2 ^ 2
   omega
  ·have:szR w=1:=by unfold szR;rw [if_pos hw1]
   rw [this]
   show (1:Int).natAbs<2 ^ 1;decide
 have b48:CMulB n 48271:=.r (by show (48271:Int).natAbs<2 ^ 64;decide)
 (dsimp! [t_l_fraction,tSeq,tAsg,gName,tVar,tC,tOp,rI0,rI,rAddI,rSubI,rMulI,rModI,rPowI,rEq,scal_ii,tRet,tIfS,tTest,tNext,tCons,tNil,tTup,tOr,decide_eq_true_eq])
 by_cases h0:(w:Int)=0
 ·rw [if_pos h0,if_pos True.intro]
  exact ⟨b48,by decide,by decide,sz2,small (by omega)⟩
 ·rw [if_neg h0]
  by_cases h1:(w:Int)=1
  ·rw [if_pos h1]
   exact ⟨b48,by decide,by decide,sz2,small (by omega)⟩
  ·rw [if_neg h1]
   have e2:CMulB 2 (10 ^ Int.toNat 9):=.l (by show (2:Int).natAbs<2 ^ 64;decide)
   have e3:CMulB 2 (10 ^ Int.toNat 60):=.l (by show (2:Int).natAbs<2 ^ 64;decide)
   refine ⟨⟨by decide,by decide,by decide⟩,e2,by decide,⟨by decide,by decide,by decide⟩,?_⟩
   by_cases h3:(w:Int)=3
   ·rw [if_pos h3]
    refine ⟨.r (by show (69621:Int).natAbs<2 ^ 64;decide),⟨by decide,by decide,by decide⟩,e3,by decide,⟨by decide,by decide,by decide⟩,last _ ?_ (by omega)⟩
    have:szP w=200:=by unfold szP;rw [if_neg (by omega),if_neg (by omega)]
    rw [this];exact bb_t60 _
   ·rw [if_neg h3]
    refine last _ ?_ (by omega)
    have:szP w=30:=by unfold szP;rw [if_neg (by omega),if_pos (by omega)]
    rw [this];exact bb_t9 _
noncomputable def N_l_drawn:List PySem.Str:=["_law_script", "_law_head", "_law_way", "_law_most", "_law_many", "_law_wide", "_law_rows", "_law_k", "_law_by", "_law_bounds", "_law_number", "_law_top", "_law_bottom", "_law_goal"]
structure Drw (frs:List (List (Int×Int))) (fb fg:List (Int×Int)) (w:Nat):Prop where
 w3:w≤3
 m1:1≤frs.length
 n1:1≤fg.length
 sz:(frs.length≤20∧fg.length≤20∧w≤1)∨(frs.length≤4∧fg.length≤4∧w≤2)∨(frs.length≤2∧fg.length≤2)
 bl:fb.length=frs.length
 gr:∀ row∈frs,row.length=fg.length∧∀ f∈row,Gp (szP w) (szR w) f
 gb:∀ f∈fb,Gp (szP w) (szR w) f∧0≤f.1
 gg:∀ f∈fg,Gp (szP w) (szR w) f
noncomputable def sp_l_drawn (K:W.Frag):Sp:=λ vs H Q _=>∃ a ns,vs=[.ref a]∧SqL K H a (List.map V.int ns)∧ns.length≤63∧∀ p r b g rps bps gps frs fb fg w H',H' p=some (.tup [.ref r,.ref b,.ref g])→H' r=some (.lst (List.map V.ref rps))→RfAt K H' rps frs→H' b=some (.lst (List.map V.ref bps))→FrsAt K H' bps fb→H' g=some (.lst (List.map V.ref gps))→FrsAt K H' gps fg→Drw frs fb fg w→Q (.ref p) H'
noncomputable def shp (m n w:Nat):Prop:=1≤m∧1≤n∧w≤3∧((m≤20∧n≤20∧w≤1)∨(m≤4∧n≤4∧w≤2)∨(m≤2∧n≤2))
structure RwK (K:W.Frag) (H:Hp) (r:Addr) (rps:List Addr) (frs:List (List (Int×Int))) (i n w:Nat):Prop where
 hr:H r=some (.lst (List.map V.ref rps))
 hf:RfAt K H rps frs
 nr:r∉rps
 fl:frs.length=i
 g:∀ row∈frs,row.length=n∧∀ f∈row,Gp (szP w) (szR w) f
noncomputable def dst (a h:Addr) (w m n:Nat) (e:Option V) (o:List (Option V)):St:=some (.ref a)::some (.ref h)::some (.int w)::e::some (.int m)::some (.int n)::o
noncomputable def ivDb (K:W.Frag) (a l r b:Addr) (w m n:Nat) (e o8:Option V) (H2:Hp):Nat→St→Hp→Prop:=λ i σ H4=>∃ o7 o10 o11 o12 bps fb,σ=dst a l w m n e [some (.ref r),o7,o8,some (.ref b),o10,o11,o12,none]∧Same H2 H4∧H4 b=some (.lst (List.map V.ref bps))∧FrsAt K H4 bps fb∧fb.length=i∧(∀ f∈fb,Gp (szP w) (szR w) f∧0≤f.1)
noncomputable def ivDr (K:W.Frag) (a l r:Addr) (w m n:Nat) (e:Option V) (H2:Hp):Nat→St→Hp→Prop:=λ i σ H4=>∃ o7 o8 rps frs,σ=dst a l w m n e [some (.ref r),o7,o8,none,none,none,none,none]∧Same H2 H4∧RwK K H4 r rps frs i n w
noncomputable def t_l_drawn_c1 (K:W.Frag):TE:=(tCall (sp_l_fraction K) [] E0 (tCons (tOp rMulI (tOp (rIxL K) (tVar 2) (tOp rAddI (tC (.int 28)) (tOp rModI (tVar 0) (tC (.int 4))))) (tOp rAddI (tC (.int 1)) (tOp rMulI (tOp rDivC (tVar 0) (tC (.int 4))) (tC (.int 2))))) (tCons (tVar 1) tNil)))
noncomputable def t_l_drawn_r1 (K:W.Frag):TS:=(tSeq (tAsg (tComp (iRng1 (tCons (tVar 5) tNil)) [2,1] (t_l_drawn_c1 K)) (gName 13)) (tRet (tTup (tCons (tVar 6) (tCons (tVar 9) (tCons (tVar 13) tNil))))))
noncomputable def t_l_drawn_r2 (K:W.Frag):TS:=(tDrop (tBM K "list" rAppend (tVar 9) (tCons (tTup (tCons (tCB cAbs (tCons (tVar 11) tNil)) (tCons (tVar 12) tNil))) tNil)))
noncomputable def t_l_drawn_b1 (K:W.Frag):TS:=(tSeq (tAsg (tOp rMulI (tOp (rIxL K) (tVar 1) (tOp rAddI (tC (.int 24)) (tOp rModI (tVar 7) (tC (.int 4))))) (tOp rAddI (tC (.int 1)) (tOp rMulI (tOp rDivC (tVar 7) (tC (.int 4))) (tC (.int 2))))) (gName 10)) (tSeq (tAsg (tCall (sp_l_fraction K) [] E0 (tCons (tVar 10) (tCons (tVar 2) tNil))) (gTup K 2 (gCons (gName 11) (gCons (gName 12) gNil)))) (tSeq (tIfS (tOr (tTest (tOp rEq (tOp rModI (tOp (rIxL K) (tVar 1) (tC (.int 5))) (tC (.int 8))) (tC (.int 1)))) (tAnd (tTest (tOp rEq (tOp rModI (tOp (rIxL K) (tVar 1) (tC (.int 5))) (tC (.int 2))) (tC (.int 1)))) (tTest (tOp rEq (tOp rModI (tOp rDivC (tVar 10) (tC (.int 7))) (tC (.int 5))) (tC (.int 1)))))) (tAsg (tTup (tCons (tC (.int 0)) (tCons (tC (.int 1)) tNil))) (gTup K 2 (gCons (gName 11) (gCons (gName 12) gNil)))) tNext) (t_l_drawn_r2 K))))
noncomputable def t_l_drawn_r3 (K:W.Frag):TS:=(tSeq (tAsg (tLst tNil) (gName 9)) (tSeq (tFor (iRng1 (tCons (tVar 4) tNil)) (gName 7) (t_l_drawn_b1 K)) (t_l_drawn_r1 K)))
noncomputable def t_l_drawn_c2 (K:W.Frag):TE:=(tTup (tCons (tC (.int 1)) (tCons (tC (.int 1)) tNil)))
noncomputable def t_l_drawn_r4 (K:W.Frag):TS:=(tSeq (tIfS (tTest (tOp rEq (tOp rModI (tOp (rIxL K) (tVar 1) (tC (.int 4))) (tC (.int 3))) (tC (.int 1)))) (tAsg (tComp (iRng1 (tCons (tVar 5) tNil)) [] (t_l_drawn_c2 K)) (gSub (tVar 6) (tC (.int 0)) rSetL)) tNext) (t_l_drawn_r3 K))
noncomputable def t_l_drawn_r5 (K:W.Frag):TS:=(tSeq (tIfS (tAnd (tTest (tOp rEq (tOp rModI (tOp (rIxL K) (tVar 1) (tC (.int 3))) (tC (.int 4))) (tC (.int 1)))) (tTest (tOp rGtI (tVar 4) (tC (.int 1))))) (tAsg (tCB (cList K) (tCons (tOp (rIxL K) (tVar 6) (tC (.int 0))) tNil)) (gSub (tVar 6) (tC (.int 1)) rSetL)) tNext) (t_l_drawn_r4 K))
noncomputable def t_l_drawn_c3 (K:W.Frag):TE:=(tCall (sp_l_fraction K) [] E0 (tCons (tOp rMulI (tOp (rIxL K) (tVar 2) (tOp rAddI (tC (.int 8)) (tOp rModI (tOp rAddI (tOp rMulI (tC (.int 4)) (tVar 4)) (tVar 0)) (tC (.int 16))))) (tOp rAddI (tVar 3) (tOp rMulI (tOp rDivC (tVar 0) (tC (.int 4))) (tC (.int 4))))) (tCons (tVar 1) tNil)))
noncomputable def t_l_drawn_b2 (K:W.Frag):TS:=(tSeq (tAsg (tOp rAddI (tC (.int 1)) (tOp rMulI (tOp rDivC (tVar 7) (tC (.int 4))) (tC (.int 2)))) (gName 8)) (tDrop (tBM K "list" rAppend (tVar 6) (tCons (tComp (iRng1 (tCons (tVar 5) tNil)) [2,1,8,7] (t_l_drawn_c3 K)) tNil))))
noncomputable def t_l_drawn_r6 (K:W.Frag):TS:=(tSeq (tAsg (tLst tNil) (gName 6)) (tSeq (tFor (iRng1 (tCons (tVar 4) tNil)) (gName 7) (t_l_drawn_b2 K)) (t_l_drawn_r5 K)))
noncomputable def t_l_drawn_r7 (K:W.Frag):TS:=(tSeq (tIfS (tTest (tOp rEq (tOp rModI (tOp (rIxL K) (tVar 1) (tC (.int 6))) (tC (.int 16))) (tC (.int 3)))) (tAsg (tTup (tCons (tOp rAddI (tC (.int 1)) (tOp rModI (tOp (rIxL K) (tVar 1) (tC (.int 1))) (tC (.int 5)))) (tCons (tOp rAddI (tC (.int 1)) (tOp rModI (tOp (rIxL K) (tVar 1) (tC (.int 2))) (tC (.int 5)))) (tCons (tOp rModI (tVar 2) (tC (.int 2))) tNil)))) (gTup K 3 (gCons (gName 4) (gCons (gName 5) (gCons (gName 2) gNil))))) tNext) (t_l_drawn_r6 K))
noncomputable def t_l_drawn_r8 (K:W.Frag):TS:=(tSeq (tIfS (tTest (tOp rEq (tOp rModI (tOp (rIxL K) (tVar 1) (tC (.int 6))) (tC (.int 16))) (tC (.int 2)))) (tAsg (tTup (tCons (tOp rAddI (tC (.int 1)) (tOp rModI (tOp (rIxL K) (tVar 1) (tC (.int 1))) (tC (.int 20)))) (tCons (tC (.int 1)) (tCons (tOp rModI (tVar 2) (tC (.int 2))) tNil)))) (gTup K 3 (gCons (gName 4) (gCons (gName 5) (gCons (gName 2) gNil))))) tNext) (t_l_drawn_r7 K))
noncomputable def t_l_drawn (K:W.Frag):TS:=(tSeq (tAsg (tCall (sp_l_numbers K) [] E0 (tCons (tVar 0) (tCons (tC (.int 32)) tNil))) (gName 1)) (tSeq (tAsg (tOp rModI (tOp (rIxL K) (tVar 1) (tC (.int 0))) (tC (.int 4))) (gName 2)) (tSeq (tAsg (tOp (rIxL K) (tLst (tCons (tC (.int 4)) (tCons (tC (.int 4)) (tCons (tC (.int 4)) (tCons (tC (.int 2)) tNil))))) (tVar 2)) (gName 3)) (tSeq (tAsg (tOp rAddI (tC (.int 1)) (tOp rModI (tOp (rIxL K) (tVar 1) (tC (.int 1))) (tVar 3))) (gName 4)) (tSeq (tAsg (tOp rAddI (tC (.int 1)) (tOp rModI (tOp (rIxL K) (tVar 1) (tC (.int 2))) (tVar 3))) (gName 5)) (tSeq (tIfS (tTest (tOp rEq (tOp rModI (tOp (rIxL K) (tVar 1) (tC (.int 6))) (tC (.int 16))) (tC (.int 1)))) (tAsg (tTup (tCons (tC (.int 1)) (tCons (tOp rAddI (tC (.int 1)) (tOp rModI (tOp (rIxL K) (tVar 1) (tC (.int 2))) (tC (.int 20)))) (tCons (tOp rModI (tVar 2) (tC (.int 2))) tNil)))) (gTup K 3 (gCons (gName 4) (gCons (gName 5) (gCons (gName 2) gNil))))) tNext) (t_l_drawn_r8 K)))))))
theorem len_l_drawn {K vs H Q E} (h:sp_l_drawn K vs H Q E):vs.length=1:=by obtain ⟨_,_,rfl,_⟩:=h;rfl
theorem rd_l_drawn {K vs H Q E} (h:sp_l_drawn K vs H Q E):t_l_drawn K { nx:=λ _ H'=>Q .non H',rt:=Q } (start N_l_drawn vs) H:=by
 obtain ⟨a,ns,rfl,hS,hn,q⟩:=h
 rw [show start N_l_drawn [V.ref a]=[some (.ref a),none,none,none,none,none,none,none,none,none,none,none,none,none] from rfl]
 (dsimp! [t_l_drawn,tSeq,tAsg,gName,tVar,tC,tOp,rI0,rI,rAddI,rModI,rEq,scal_ii,tIfS,tTest,tNext,tCall,tCons,tNil,tTup,tLst,rIxL,gTup,gCons,gNil,List.append_nil,decide_eq_true_eq])
 refine ⟨_,_,32,rfl,hS,hn,by decide,by decide,λ l hs H1 s1 hl hlen hnm=>?_⟩
 have at_:∀ k:Nat,k<32→atI (List.map V.int hs) (k:Int)=some (.int (hs.getD k 0)):=λ k hk=>atI_nat0 (by omega)
 clear s1 hS
 have w2r:∀ w:Nat,1≤szR w∧2≤szP w:=λ w=>by
  unfold szR szP
  constructor
  ·split <;> omega
  ·split
   ·omega
   ·split <;> omega
 have one1:∀ w,Gp (szP w) (szR w) (1,1):=λ w=>⟨by decide,by show (1:Int).natAbs<_;exact Nat.one_lt_two_pow (by have:=(w2r w).2;omega),by show (1:Int).natAbs<_;exact Nat.one_lt_two_pow (by have:=(w2r w).1;omega)⟩
 have R1:∀ (w m n:Nat) (e:Option V) (r b:Addr) (rps bps:List Addr) (frs:List (List (Int×Int))) (fb:List (Int×Int)) (o7 o8 o10 o11 o12:Option V) (H2:Hp),shp m n w→H2 l=some (.lst (List.map V.int hs))→RwK K H2 r rps frs m n w→H2 b=some (.lst (List.map V.ref bps))→FrsAt K H2 bps fb→fb.length=m→(∀ f∈fb,Gp (szP w) (szR w) f∧0≤f.1)→t_l_drawn_r1 K { nx:=λ _ H'=>Q .non H',rt:=Q } (dst a l w m n e [some (.ref r),o7,o8,some (.ref b),o10,o11,o12,none]) H2:=by
  intro w m n e r b rps bps frs fb o7 o8 o10 o11 o12 H2 sh hl2 R hb hbs hbl hgb
  obtain ⟨sm1,sn1,sw3,ssz⟩:=id sh
  have mn20:m≤20∧n≤20:=by omega
  (dsimp! [t_l_drawn_r1,dst,tComp,iRng1,tSeq,tAsg,gName,tVar,tRet,tCons,tNil,tTup])
  refine ⟨by omega,by omega,?_⟩
  rw [Int.toNat_natCast]
  refine comp_range (lo:=0) (W:=λ j zs H6=>Same H2 H6∧∃ ps,zs=List.map V.ref ps∧∃ fs,FrsAt K H6 ps fs∧fs.length=j∧∀ f∈fs,Gp (szP w) (szR w) f) (by rw [sizeLine_eq];omega) ⟨Same.refl _,[],rfl,[],trivial,rfl,(λ _ h=>nomatch h)⟩ ?_ ?_
  ·rintro j zs H6 hj _ ⟨s6,ps,rfl,fs,hfs,hfl2,hg3⟩
   (dsimp! [t_l_drawn_c1,caught,List.map_cons,List.map_nil,Option.join_some,tVar,tC,tOp,rI0,rI,rAddI,rMulI,rDivC,rModI,tCall,tCons,tNil,rIxL,List.append_nil])
   have e:28+(0+(j:Int)) % 4=((28+j % 4:Nat):Int):=by omega
   refine ⟨by decide,_,SqL.of (s6 _ _ hl2),_,by rw [e];exact at_ _ (by omega),⟨by decide,by decide⟩,.r (by show (2:Int).natAbs<2 ^ 64;decide),_,rfl,.r ?_,_,w,rfl,sw3,λ x y p H7 s7 hp g=>⟨s6.trans s7,ps++[p],by rw [List.map_append];rfl,fs++[(x,y)],FrsAt.snoc (hfs.same s7) (SqT.of hp),by rw [List.length_append,hfl2];rfl,λ f hf=>?_⟩⟩
   ·show Int.natAbs _<2 ^ 64
    omega
   ·rcases List.mem_append.mp hf with hf | hf
    ·exact hg3 f hf
    ·rw [List.mem_singleton.mp hf];exact g
  ·rintro zs H6 _ ⟨s6,gps,rfl,fg,hfg,hgl,hg3⟩ g hg_
   have s7:=s6.trans (Same.upd (o:=HO.lst (List.map V.ref gps)) hg_)
   have hg7:(upd H6 g (.lst (List.map V.ref gps))) g=some (.lst (List.map V.ref gps)):=upd_same
   have hfg7:=hfg.same (Same.upd (o:=HO.lst (List.map V.ref gps)) hg_)
   generalize upd H6 g (.lst (List.map V.ref gps))=H7 at s7 hg7 hfg7
   refine ⟨sz3,λ p hp=>?_⟩
   have s8:=Same.upd (o:=HO.tup [.ref r,.ref b,.ref g]) hp
   refine q p r b g rps bps gps frs fb fg w _ upd_same (s8 _ _ (s7 _ _ R.hr)) ((R.hf.same s7).same s8) (s8 _ _ (s7 _ _ hb)) ((hbs.same s7).same s8) (s8 _ _ hg7) (hfg7.same s8) ⟨sw3,by rw [R.fl];exact sm1,by rw [hgl];exact sn1,by rw [R.fl,hgl];omega,by rw [hbl,R.fl],λ row h=>by rw [hgl];exact R.g row h,hgb,hg3⟩
 have R3:∀ (w m n:Nat) (e:Option V) (r:Addr) (rps:List Addr) (frs:List (List (Int×Int))) (o7 o8:Option V) (H2:Hp),shp m n w→H2 l=some (.lst (List.map V.int hs))→RwK K H2 r rps frs m n w→t_l_drawn_r3 K { nx:=λ _ H'=>Q .non H',rt:=Q } (dst a l w m n e [some (.ref r),o7,o8,none,none,none,none,none]) H2:=by
  intro w m n e r rps frs o7 o8 H2 sh hl2 R
  obtain ⟨sm1,sn1,sw3,ssz⟩:=id sh
  have mn20:m≤20∧n≤20:=by omega
  (dsimp! [t_l_drawn_r3,dst,tFor,iRng1,tSeq,tAsg,gName,tVar,tCons,tNil,tLst])
  refine ⟨sz0,λ b hb=>⟨by omega,by omega,?_⟩⟩
  rw [Int.toNat_natCast]
  have s3:=Same.upd (o:=HO.lst []) hb
  have hb3:(upd H2 b (.lst [])) b=some (.lst []):=upd_same
  generalize upd H2 b (.lst [])=H3 at s3 hb3
  refine for_range (lo:=0) (n:=m) (g:=gName 7) (D:={ nx:=t_l_drawn_r1 K { nx:=λ _ H'=>Q .non H',rt:=Q },rt:=Q }) (ivDb K a l r b w m n e o8 H2) ?_ ?_ ?_
  ·exact ⟨_,none,none,none,[],[],rfl,s3,hb3,trivial,rfl,(λ _ h=>nomatch h)⟩
  ·rintro i σ H4 hi ⟨p7,p10,p11,p12,bps,fb,rfl,s4,hb4,hbs,hbl,hgb⟩
   have bpl:=hbs.length
   (dsimp! [dst,tSeq,tAsg,gName,tVar,tC,tOp,rI0,rI,rAddI,rMulI,rDivC,rModI,rEq,scal_ii,tIfS,tTest,tNext,tCall,tCons,tNil,tTup,rIxL,tAnd,tOr,gTup,gCons,gNil,List.append_nil,decide_eq_true_eq])
   have e1:24+(0+(i:Int)) % 4=((24+i % 4:Nat):Int):=by omega
   refine ⟨by decide,_,SqL.of (s4 _ _ hl2),_,by rw [e1];exact at_ _ (by omega),⟨by decide,by decide⟩,.r (by show (2:Int).natAbs<2 ^ 64;decide),_,rfl,.r (by show Int.natAbs _<2 ^ 64;omega),_,w,rfl,sw3,λ x y p H5 s5 hp g=>?_⟩
   have s5':=s4.trans s5
   have hb5:=s5 _ _ hb4
   have hbs5:=hbs.same s5
   have R2:∀ (x y:Int) (o10:Option V) (H6:Hp),Same H5 H6→Gp (szP w) (szR w) (x,y)→t_l_drawn_r2 K { nx:=ivDb K a l r b w m n e o8 H2 (i+1),ct:=ivDb K a l r b w m n e o8 H2 (i+1),bk:=t_l_drawn_r1 K { nx:=λ _ H'=>Q .non H',rt:=Q },rt:=Q } [some (.ref a),some (.ref l),some (.int w),e,some (.int m),some (.int n),some (.ref r),some (.int (0+i)),o8,some (.ref b),o10,some (.int x),some (.int y),none] H6:=by
    intro x y o10 H6 s6 g
    have hb6:=s6 _ _ hb5
    (dsimp! [t_l_drawn_r2,tDrop,tBM,rAppend,abs_eq,tVar,tCons,tNil,tTup,tCB,cAbs])
    refine ⟨.inl ⟨rfl,_,SqL.of hb6⟩,sz2,λ p2 hp2=>?_⟩
    have s7:=Same.upd (o:=HO.tup [.int (x.natAbs:Int),.int y]) hp2
    have hp7:(upd H6 p2 (.tup [.int (x.natAbs:Int),.int y])) p2=some (.tup [.int (x.natAbs:Int),.int y]):=upd_same
    generalize upd H6 p2 (.tup [.int (x.natAbs:Int),.int y])=H7 at s7 hp7
    refine ⟨_,s7 _ _ hb6,by rw [List.length_map,sizeLine_eq];omega,_,_,_,_,bps++[p2],fb++[((x.natAbs:Int),y)],rfl,((s5'.trans s6).trans s7).put hb,by rw [upd_same,List.map_append];rfl,FrsAt.off (s7 _ _ hb6) (FrsAt.snoc ((hbs5.same s6).same s7) (SqT.of hp7)),by rw [List.length_append,hbl];rfl,λ f hf=>?_⟩
    rcases List.mem_append.mp hf with hf | hf
    ·exact hgb f hf
    ·rw [List.mem_singleton.mp hf]
     exact ⟨⟨g.1,bb_abs g.2.1 (by rw [Int.natAbs_natCast]),g.2.2⟩,by omega⟩
   have zer:Gp (szP w) (szR w) (0,1):=⟨by decide,by show (0:Int).natAbs<_;exact Nat.two_pow_pos _,(one1 w).2.2⟩
   refine ⟨_,rfl,_,SqT.of hp,rfl,_,_,rfl,_,_,rfl,rfl,_,SqL.of (s5' _ _ hl2),_,at_ 5 (by decide),_,rfl,by decide,?_⟩
   have Z:[V.int 0,V.int 1].length≤sizeLine:=sz2
   by_cases h8:hs.getD 5 0 % 8=1
   ·rw [if_pos h8,if_pos True.intro]
    exact ⟨Z,λ p1 hp1=>⟨_,SqT.of upd_same,rfl,_,_,rfl,_,_,rfl,rfl,R2 0 1 _ _ (Same.upd hp1) zer⟩⟩
   ·rw [if_neg h8]
    refine ⟨_,SqL.of (s5' _ _ hl2),_,at_ 5 (by decide),_,rfl,by decide,?_⟩
    by_cases h2:hs.getD 5 0 % 2=1
    ·rw [if_pos h2]
     refine ⟨⟨by decide,by decide⟩,by decide,ite2 (λ _=>⟨Z,λ p1 hp1=>⟨_,SqT.of upd_same,rfl,_,_,rfl,_,_,rfl,rfl,R2 0 1 _ _ (Same.upd hp1) zer⟩⟩) (λ _=>R2 x y _ H5 (Same.refl _) g)⟩
    ·rw [if_neg h2,if_neg (by decide)]
     exact R2 x y _ H5 (Same.refl _) g
  ·rintro σ H4 ⟨p7,p10,p11,p12,bps,fb,rfl,s4,hb4,hbs,hbl,hgb⟩
   exact R1 w m n e r b rps bps frs fb p7 o8 p10 p11 p12 H4 sh (s4 _ _ hl2) ⟨s4 _ _ R.hr,R.hf.same s4,R.nr,R.fl,R.g⟩ hb4 hbs hbl hgb
 have R4:∀ (w m n:Nat) (e:Option V) (r:Addr) (rps:List Addr) (frs:List (List (Int×Int))) (o7 o8:Option V) (H2:Hp),shp m n w→H2 l=some (.lst (List.map V.int hs))→l≠r→RwK K H2 r rps frs m n w→t_l_drawn_r4 K { nx:=λ _ H'=>Q .non H',rt:=Q } (dst a l w m n e [some (.ref r),o7,o8,none,none,none,none,none]) H2:=by
  intro w m n e r rps frs o7 o8 H2 sh hl2 lr R
  obtain ⟨sm1,sn1,sw3,ssz⟩:=id sh
  have mn20:m≤20∧n≤20:=by omega
  have rpl:=R.hf.length
  have fl:=R.fl
  (dsimp! [t_l_drawn_r4,dst,tComp,iRng1,gSub,rSetL,tSeq,tAsg,tVar,tC,tOp,rI,rModI,rEq,scal_ii,tIfS,tTest,tNext,tCons,tNil,rIxL,decide_eq_true_eq])
  refine ⟨_,SqL.of hl2,_,at_ 4 (by decide),_,rfl,by decide,ite2 (λ h=>⟨by omega,by omega,?_⟩) (λ _=>R3 w m n e r rps frs o7 o8 H2 sh hl2 R)⟩
  rw [Int.toNat_natCast]
  refine comp_range (lo:=0) (W:=λ j zs H6=>Same H2 H6∧∃ ps,zs=List.map V.ref ps∧FrsAt K H6 ps (ofF j λ _=>((1,1):Int×Int))) (by rw [sizeLine_eq];omega) ⟨Same.refl _,[],rfl,trivial⟩ ?_ ?_
  ·rintro j zs H6 hj _ ⟨s6,ps,rfl,hps⟩
   dsimp only [t_l_drawn_c2,tC,tCons,tNil,tTup,exI_lit,exB_lit,exR_lit]
   refine ⟨sz2,λ p hp=>⟨s6.trans (Same.upd hp),ps++[p],by rw [List.map_append];rfl,?_⟩⟩
   rw [ofF_snoc]
   exact FrsAt.snoc (hps.same (Same.upd hp)) (SqT.of upd_same)
  ·rintro zs H6 _ ⟨s6,ps,rfl,hps⟩ p hp
   have s7:=s6.trans (Same.upd (o:=HO.lst (List.map V.ref ps)) hp)
   have hp7:(upd H6 p (.lst (List.map V.ref ps))) p=some (.lst (List.map V.ref ps)):=upd_same
   have hf7:=hps.same (Same.upd (o:=HO.lst (List.map V.ref ps)) hp)
   have npr:p≠r:=λ e=>by rw [e,s6 _ _ R.hr] at hp;cases hp
   generalize upd H6 p (.lst (List.map V.ref ps))=H7 at s7 hp7 hf7
   have hr7:=s7 _ _ R.hr
   refine ⟨_,hr7,_,by rw [List.length_map,rpl,fl];exact ixN_int (by decide) (by omega),?_⟩
   rw [← List.map_set]
   have nr':r∉rps.set 0 p:=λ hm=>by
    rcases List.mem_or_eq_of_mem_set hm with hm | hm
    ·exact R.nr hm
    ·exact npr hm.symm
   refine R3 w m n e r (rps.set 0 p) (frs.set 0 (ofF n λ _=>(1,1))) o7 o8 _ sh (by rw [upd_ne lr];exact s7 _ _ hl2) ⟨upd_same,RfAt.put hr7 nr' (RfAt.set ⟨ps,hp7,hf7⟩ 0 (R.hf.same s7)),nr',by rw [List.length_set];exact fl,λ row hrow=>?_⟩
   rcases List.mem_or_eq_of_mem_set hrow with hrow | rfl
   ·exact R.g row hrow
   ·refine ⟨ofF_length _ _,λ f hf=>?_⟩
    obtain ⟨k,_,rfl⟩:=ofF_mem hf
    exact one1 w
 have R5:∀ (w m n:Nat) (e:Option V) (r:Addr) (rps:List Addr) (frs:List (List (Int×Int))) (o7 o8:Option V) (H2:Hp),shp m n w→H2 l=some (.lst (List.map V.int hs))→l≠r→RwK K H2 r rps frs m n w→t_l_drawn_r5 K { nx:=λ _ H'=>Q .non H',rt:=Q } (dst a l w m n e [some (.ref r),o7,o8,none,none,none,none,none]) H2:=by
  intro w m n e r rps frs o7 o8 H2 sh hl2 lr R
  obtain ⟨sm1,sn1,sw3,ssz⟩:=id sh
  have mn20:m≤20∧n≤20:=by omega
  have rpl:=R.hf.length
  have fl:=R.fl
  have no:∀ H3,H3=H2→t_l_drawn_r4 K { nx:=λ _ H'=>Q .non H',rt:=Q } (dst a l w m n e [some (.ref r),o7,o8,none,none,none,none,none]) H3:=λ H3 e3=>by rw [e3];exact R4 w m n e r rps frs o7 o8 H2 sh hl2 lr R
  (dsimp! [t_l_drawn_r5,dst,cList,gSub,rSetL,tSeq,tAsg,tVar,tC,tOp,rI0,rI,rModI,rGtI,rEq,scal_ii,tIfS,tTest,tNext,tCons,tNil,tCB,rIxL,tAnd,decide_eq_true_eq])
  refine ⟨_,SqL.of hl2,_,at_ 3 (by decide),_,rfl,by decide,?_⟩
  by_cases h4:hs.getD 3 0 % 4=1
  ·rw [if_pos h4]
   by_cases hm:1<(m:Int)
   ·rw [if_pos hm]
    have h0:0<rps.length:=by omega
    have e0:=List.getElem?_eq_getElem h0
    obtain ⟨row,qs,er,hrow,hfr⟩:=R.hf.get e0
    refine ⟨_,SqL.of R.hr,_,atI_nat (j:=0) (by rw [List.getElem?_map,e0];rfl),_,rfl,_,.inl (SqL.of hrow),λ p hp=>?_⟩
    have s7:=Same.upd (o:=HO.lst (List.map V.ref qs)) hp
    have hp7:(upd H2 p (.lst (List.map V.ref qs))) p=some (.lst (List.map V.ref qs)):=upd_same
    have npr:p≠r:=λ e=>by rw [e,R.hr] at hp;cases hp
    generalize upd H2 p (.lst (List.map V.ref qs))=H7 at s7 hp7
    have hr7:=s7 _ _ R.hr
    refine ⟨_,hr7,_,by rw [List.length_map,rpl,fl];exact ixN_int (by decide) (by omega),?_⟩
    rw [← List.map_set]
    have nr':r∉rps.set 1 p:=λ hm=>by
     rcases List.mem_or_eq_of_mem_set hm with hm | hm
     ·exact R.nr hm
     ·exact npr hm.symm
    refine R4 w m n e r (rps.set 1 p) (frs.set 1 row) o7 o8 _ sh (by rw [upd_ne lr];exact s7 _ _ hl2) lr ⟨upd_same,RfAt.put hr7 nr' (RfAt.set ⟨qs,hp7,hfr.same s7⟩ 1 (R.hf.same s7)),nr',by rw [List.length_set];exact fl,λ row' hrow'=>?_⟩
    rcases List.mem_or_eq_of_mem_set hrow' with hrow' | rfl
    ·exact R.g row' hrow'
    ·exact R.g row' (List.mem_of_getElem? er)
   ·rw [if_neg hm];exact no H2 rfl
  ·rw [if_neg h4,if_neg (by decide)]
   exact no H2 rfl
 have R6:∀ (w m n:Nat) (e:Option V) (H2:Hp),shp m n w→H2 l=some (.lst (List.map V.int hs))→t_l_drawn_r6 K { nx:=λ _ H'=>Q .non H',rt:=Q } (dst a l w m n e [none,none,none,none,none,none,none,none]) H2:=by
  intro w m n e H2 sh hl2
  obtain ⟨sm1,sn1,sw3,ssz⟩:=id sh
  have mn20:m≤20∧n≤20:=by omega
  (dsimp! [t_l_drawn_r6,dst,tFor,iRng1,tSeq,tAsg,gName,tVar,tCons,tNil,tLst])
  refine ⟨sz0,λ r hr=>⟨by omega,by omega,?_⟩⟩
  rw [Int.toNat_natCast]
  have lr:l≠r:=λ e=>by rw [e,hr] at hl2;cases hl2
  have s3:=Same.upd (o:=HO.lst []) hr
  have hr3:(upd H2 r (.lst [])) r=some (.lst []):=upd_same
  generalize upd H2 r (.lst [])=H3 at s3 hr3
  refine for_range (lo:=0) (n:=m) (g:=gName 7) (D:={ nx:=t_l_drawn_r5 K { nx:=λ _ H'=>Q .non H',rt:=Q },rt:=Q }) (ivDr K a l r w m n e H2) ?_ ?_ ?_
  ·exact ⟨none,none,[],[],rfl,s3,hr3,trivial,(λ h=>nomatch h),rfl,(λ _ h=>nomatch h)⟩
  ·rintro i σ H4 hi ⟨o7,o8,rps,frs,rfl,s4,R⟩
   have rpl:=R.hf.length
   have fl:=R.fl
   have hl4:=s4 _ _ hl2
   (dsimp! [dst,tDrop,tBM,rAppend,tComp,iRng1,tSeq,tAsg,gName,tVar,tC,tOp,rI0,rI,rAddI,rMulI,rDivC,tCons,tNil])
   refine ⟨⟨by decide,by decide⟩,.r (by show (2:Int).natAbs<2 ^ 64;decide),.inl ⟨rfl,_,SqL.of R.hr⟩,by omega,by omega,?_⟩
   rw [Int.toNat_natCast]
   refine comp_range (lo:=0) (W:=λ j zs H6=>Same H4 H6∧∃ ps,zs=List.map V.ref ps∧∃ fs,FrsAt K H6 ps fs∧fs.length=j∧∀ f∈fs,Gp (szP w) (szR w) f) (by rw [sizeLine_eq];omega) ⟨Same.refl _,[],rfl,[],trivial,rfl,(λ _ h=>nomatch h)⟩ ?_ ?_
   ·rintro j zs H6 hj _ ⟨s6,ps,rfl,fs,hfs,hfl2,hg3⟩
    (dsimp! [t_l_drawn_c3,caught,List.map_cons,List.map_nil,Option.join_some,tVar,tC,tOp,rI0,rI,rAddI,rMulI,rDivC,rModI,tCall,tCons,tNil,rIxL,List.append_nil])
    have e1:8+(4*(0+(i:Int))+(0+(j:Int))) % 16=((8+(4*i+j) % 16:Nat):Int):=by omega
    refine ⟨.l (by show (4:Int).natAbs<2 ^ 64;decide),by decide,_,SqL.of (s6 _ _ hl4),_,by rw [e1];exact at_ _ (by omega),⟨by decide,by decide⟩,.r (by show (4:Int).natAbs<2 ^ 64;decide),_,rfl,.r (by show Int.natAbs _<2 ^ 64;omega),_,w,rfl,sw3,λ x y p H7 s7 hp g=>⟨s6.trans s7,ps++[p],by rw [List.map_append];rfl,fs++[(x,y)],FrsAt.snoc (hfs.same s7) (SqT.of hp),by rw [List.length_append,hfl2];rfl,λ f hf=>?_⟩⟩
    rcases List.mem_append.mp hf with hf | hf
    ·exact hg3 f hf
    ·rw [List.mem_singleton.mp hf];exact g
   ·rintro zs H6 _ ⟨s6,ps,rfl,fs,hfs,hfl2,hg3⟩ p hp
    have s7:=s6.trans (Same.upd (o:=HO.lst (List.map V.ref ps)) hp)
    have hp7:(upd H6 p (.lst (List.map V.ref ps))) p=some (.lst (List.map V.ref ps)):=upd_same
    have hf7:=hfs.same (Same.upd (o:=HO.lst (List.map V.ref ps)) hp)
    have npr:p≠r:=λ e=>by rw [e,s6 _ _ R.hr] at hp;cases hp
    generalize upd H6 p (.lst (List.map V.ref ps))=H7 at s7 hp7 hf7
    have hr7:=s7 _ _ R.hr
    have nr':r∉rps++[p]:=λ hm=>by
     rcases List.mem_append.mp hm with hm | hm
     ·exact R.nr hm
     ·exact npr (List.mem_singleton.mp hm).symm
    refine ⟨_,hr7,by rw [List.length_map,sizeLine_eq];omega,_,_,rps++[p],frs++[fs],rfl,(s4.trans s7).put hr,by rw [upd_same,List.map_append];rfl,RfAt.put hr7 nr' (RfAt.append (show RfAt K H7 [p] [fs] from ⟨⟨ps,hp7,hf7⟩,trivial⟩) (R.hf.same s7)),nr',by rw [List.length_append,fl];rfl,λ row hrow=>?_⟩
    rcases List.mem_append.mp hrow with hrow | hrow
    ·exact R.g row hrow
    ·rw [List.mem_singleton.mp hrow];exact ⟨hfl2,hg3⟩
  ·rintro σ H4 ⟨o7,o8,rps,frs,rfl,s4,R⟩
   exact R5 w m n e r rps frs o7 o8 H4 sh (s4 _ _ hl2) lr R
 have R7:∀ (w m n:Nat) (e:Option V) (H2:Hp),shp m n w→H2 l=some (.lst (List.map V.int hs))→t_l_drawn_r7 K { nx:=λ _ H'=>Q .non H',rt:=Q } (dst a l w m n e [none,none,none,none,none,none,none,none]) H2:=by
  intro w m n e H2 sh hl2
  (dsimp! [t_l_drawn_r7,dst,tSeq,tAsg,gName,tVar,tC,tOp,rI0,rI,rAddI,rModI,rEq,scal_ii,tIfS,tTest,tNext,tCons,tNil,tTup,rIxL,gTup,gCons,gNil,decide_eq_true_eq])
  refine ⟨_,SqL.of hl2,_,at_ 6 (by decide),_,rfl,by decide,ite2 (λ h=>?_) (λ _=>R6 w m n e H2 sh hl2)⟩
  obtain ⟨m',em,_,_⟩:=one_mod (hs.getD 1 0) 5 (by decide)
  obtain ⟨n',en,_,_⟩:=one_mod (hs.getD 2 0) 5 (by decide)
  refine ⟨_,SqL.of hl2,_,at_ 1 (by decide),_,rfl,by decide,_,SqL.of hl2,_,at_ 2 (by decide),_,rfl,by decide,by decide,sz3,λ p hp=>⟨_,SqT.of upd_same,rfl,_,_,rfl,_,_,rfl,_,_,rfl,rfl,?_⟩⟩
  have em:1+hs.getD 1 0 % 5=(m':Int):=em
  have en:1+hs.getD 2 0 % 5=(n':Int):=en
  rw [em,en,show (w:Int) % 2=((w % 2:Nat):Int) by omega]
  exact R6 (w % 2) m' n' e _ ⟨by omega,by omega,by omega,by omega⟩ (Same.upd hp _ _ hl2)
 have R8:∀ (w m n:Nat) (e:Option V) (H2:Hp),shp m n w→H2 l=some (.lst (List.map V.int hs))→t_l_drawn_r8 K { nx:=λ _ H'=>Q .non H',rt:=Q } (dst a l w m n e [none,none,none,none,none,none,none,none]) H2:=by
  intro w m n e H2 sh hl2
  (dsimp! [t_l_drawn_r8,dst,tSeq,tAsg,gName,tVar,tC,tOp,rI0,rI,rAddI,rModI,rEq,scal_ii,tIfS,tTest,tNext,tCons,tNil,tTup,rIxL,gTup,gCons,gNil,decide_eq_true_eq])
  refine ⟨_,SqL.of hl2,_,at_ 6 (by decide),_,rfl,by decide,ite2 (λ h=>?_) (λ _=>R7 w m n e H2 sh hl2)⟩
  obtain ⟨m',em,_,_⟩:=one_mod (hs.getD 1 0) 20 (by decide)
  refine ⟨_,SqL.of hl2,_,at_ 1 (by decide),_,rfl,by decide,by decide,sz3,λ p hp=>⟨_,SqT.of upd_same,rfl,_,_,rfl,_,_,rfl,_,_,rfl,rfl,?_⟩⟩
  have em:1+hs.getD 1 0 % 20=(m':Int):=em
  rw [em,show (w:Int) % 2=((w % 2:Nat):Int) by omega]
  exact R7 (w % 2) m' 1 e _ ⟨by omega,by omega,by omega,by omega⟩ (Same.upd hp _ _ hl2)
 simp only [exists_eq_left',V.ref.injEq,Option.some.injEq,exists_eq_left,V.int.injEq,V.bl.injEq,List.cons.injEq,and_true,true_and,exists_and_left,and_assoc,exI_lit,exB_lit,exR_lit,exI_ex,exB_ex,exR_ex]
 obtain ⟨w,ew,w3⟩:∃ w:Nat,hs.getD 0 0 % 4=(w:Int)∧w≤3:=⟨(hs.getD 0 0 % 4).toNat,by omega,by omega⟩
 refine ⟨_,SqL.of hl,_,at_ 0 (by decide),_,rfl,by decide,by show 4≤sizeLine;decide,λ p hp=>?_⟩
 have s2:=Same.upd (o:=HO.lst [V.int 4,V.int 4,V.int 4,V.int 2]) hp
 have hl2:=s2 _ _ hl
 obtain ⟨M,aM,M0,Mw⟩:∃ M:Nat,atI [V.int 4,V.int 4,V.int 4,V.int 2] (hs.getD 0 0 % 4)=some (.int M)∧0<M∧((M=4∧w≤2)∨M=2):=by
  rcases mod4 (hs.getD 0 0) with e | e | e | e <;> rw [e]
  ·exact ⟨4,atI0,by decide,.inl ⟨rfl,by omega⟩⟩
  ·exact ⟨4,atI1,by decide,.inl ⟨rfl,by omega⟩⟩
  ·exact ⟨4,atI2,by decide,.inl ⟨rfl,by omega⟩⟩
  ·exact ⟨2,atI3,by decide,.inr rfl⟩
 obtain ⟨m,em,m1,m2⟩:=one_mod (hs.getD 1 0) M M0
 obtain ⟨n,en,n1,n2⟩:=one_mod (hs.getD 2 0) M M0
 refine ⟨_,SqL.of upd_same,_,aM,_,SqL.of hl2,_,at_ 1 (by decide),_,rfl,_,rfl,by omega,_,SqL.of hl2,_,at_ 2 (by decide),_,rfl,_,rfl,by omega,?_⟩
 generalize upd H1 p (.lst [V.int 4,V.int 4,V.int 4,V.int 2])=H2 at s2 hl2
 refine ⟨_,SqL.of hl2,_,at_ 6 (by decide),_,rfl,by decide,ite2 (λ h=>?_) (λ _=>?_)⟩
 ·obtain ⟨n',en',_,_⟩:=one_mod (hs.getD 2 0) 20 (by decide)
  refine ⟨_,SqL.of hl2,_,at_ 2 (by decide),_,rfl,by decide,by decide,sz3,λ p hp=>⟨_,SqT.of upd_same,rfl,_,_,rfl,_,_,rfl,_,_,rfl,rfl,?_⟩⟩
  have en':1+hs.getD 2 0 % 20=(n':Int):=en'
  rw [en',ew,show (w:Int) % 2=((w % 2:Nat):Int) by omega]
  exact R8 (w % 2) 1 n' _ _ ⟨by omega,by omega,by omega,by omega⟩ (Same.upd hp _ _ hl2)
 ·rw [ew,em,en]
  exact R8 w m n _ _ ⟨by omega,by omega,by omega,by omega⟩ hl2
noncomputable def N_below:List PySem.Str:=["one", "other"]
noncomputable def sp_below (K:W.Frag):Sp:=λ vs H Q _=>∃ p q a b c d,vs=[.ref p,.ref q]∧Tw K H p q a b c d∧Q (.bl (decide (a*d<c*b))) H
noncomputable def t_below (K:W.Frag):TS:=(tRet (tOp rLtI (tOp rMulI (tOp (rIxT K) (tVar 0) (tC (.int 0))) (tOp (rIxT K) (tVar 1) (tC (.int 1)))) (tOp rMulI (tOp (rIxT K) (tVar 1) (tC (.int 0))) (tOp (rIxT K) (tVar 0) (tC (.int 1))))))
theorem len_below {K vs H Q E} (h:sp_below K vs H Q E):vs.length=2:=by obtain ⟨p,q,a,b,c,d,rfl,_⟩:=h;rfl
theorem rd_below {K vs H Q E} (h:sp_below K vs H Q E):t_below K { nx:=λ _ H'=>Q .non H',rt:=Q } (start N_below vs) H:=by
 obtain ⟨p,q,a,b,c,d,rfl,⟨hp,hq,ba,bb,bc,bd⟩,k⟩:=h
 rw [show start N_below [V.ref p,V.ref q]=[some (.ref p),some (.ref q)] from rfl]
 (dsimp! [t_below,tVar,tC,tOp,rI0,rI,rMulI,rLtI,tRet,rIxT])
 exact ⟨_,hp,_,atI0,_,hq,_,atI1,_,rfl,_,rfl,.b ba bd,_,hq,_,atI0,_,hp,_,atI1,_,rfl,_,rfl,.b bc bb,k⟩
noncomputable def N_divisor:List PySem.Str:=["one", "other", "great", "small", "left"]
noncomputable def sp_divisor (_:W.Frag):Sp:=λ vs H Q _=>∃ a b,vs=[.int a,.int b]∧Q (.int (Int.gcd a b:Nat)) H
noncomputable def t_divisor_b1 (K:W.Frag):TS:=(tSeq (tAsg (tOp rModI (tVar 2) (tVar 3)) (gName 4)) (tSeq (tAsg (tVar 3) (gName 2)) (tAsg (tVar 4) (gName 3))))
noncomputable def t_divisor (K:W.Frag):TS:=(tSeq (tAsg (tCB cAbs (tCons (tVar 0) tNil)) (gName 2)) (tSeq (tAsg (tCB cAbs (tCons (tVar 1) tNil)) (gName 3)) (tSeq (tWhile (tTest (tOp rNe (tVar 3) (tC (.int 0)))) (t_divisor_b1 K)) (tRet (tVar 2)))))
theorem len_divisor {K vs H Q E} (h:sp_divisor K vs H Q E):vs.length=2:=by obtain ⟨a,b,rfl,_⟩:=h;rfl
theorem rd_divisor {K vs H Q E} (h:sp_divisor K vs H Q E):t_divisor K { nx:=λ _ H'=>Q .non H',rt:=Q } (start N_divisor vs) H:=by
 obtain ⟨a,b,rfl,k⟩:=h
 rw [show start N_divisor [V.int a,V.int b]=[some (.int a),some (.int b),none,none,none] from rfl]
 (dsimp! [t_divisor,tSeq,tAsg,gName,tVar,tCons,tNil,tCB,cAbs,abs_eq])
 refine while_by (λ σ H'=>H'=H∧∃ g s l,σ=[some (.int a),some (.int b),some (.int g),some (.int s),l]∧0≤g∧0≤s∧Int.gcd g s=Int.gcd a b) (λ σ _=>(intO (σ.getD 3 none)).toNat) ?_ ?_ ?_
 ·exact ⟨rfl,_,_,_,rfl,by omega,by omega,by simp [Int.gcd]⟩
 ·rintro σ H' ⟨rfl,g,s,l,rfl,hg,hs,e⟩
  (dsimp! [t_divisor_b1,tSeq,tAsg,gName,tVar,tC,tOp,rI,rModI,rNe,scal_ii,tRet,tTest])
  by_cases h0:s=0
  ·subst h0
   simp only [decide_true,Bool.not_true,Option.some.injEq,exists_eq_left',exists_eq_left,V.int.injEq,V.ref.injEq,V.bl.injEq,List.cons.injEq,and_true,true_and,exists_and_left,and_assoc,exI_lit,exB_lit,exR_lit,exI_ex,exB_ex,exR_ex]
   rw [← e,Int.gcd_zero_right] at k
   have:((g.natAbs:Nat):Int)=g:=by omega
   rw [this] at k
   simpa using k
  ·have hp:0<s:=by omega
   have h1:=Int.emod_nonneg g h0
   have h2:=Int.emod_lt_of_pos g hp
   simp [h0,hp,h1,hs]
   refine ⟨?_,?_⟩
   ·rw [← e,Int.gcd_comm g s,Int.emod_def,Int.gcd_sub_mul_left_right]
   ·show max (g % s) 0<s
    omega
 ·intro σ H' Q1 Q2 im h
  dsimp only [tTest,tOp,tC,rNe] at h ⊢
  first
  | (obtain ⟨v,hv,hs,q⟩:=tVar_el h
     exact tVar_in hv ⟨hs,im _ _ q⟩)
  | (obtain ⟨v,hv,hs,b,hb,q⟩:=tVar_el h
     exact tVar_in hv ⟨hs,b,hb,im _ _ q⟩)
noncomputable def N_cleared:List PySem.Str:=["row", "number", "fraction"]
noncomputable def sp_cleared (K:W.Frag):Sp:=λ vs H Q _=>∃ a ps fs,vs=[.ref a]∧SqL K H a (List.map V.ref ps)∧FrsAt K H ps fs∧(∀ f∈fs,G9 f)∧fs.length≤100∧∀ l p H',Same H H'→H' l=some (.lst (List.map V.int (clr fs)))→H' p=some (.tup [.int (lc fs),.ref l])→Q (.ref p) H'
noncomputable def iv_cleared (a:Addr) (H0:Hp) (fs:List (Int×Int)):Nat→St→Hp→Prop:=λ i σ H3=>H3=H0∧∃ o,σ=[some (.ref a),some (.int (lc (fs.take i))),o]∧BB (9000*i+1) (lc (fs.take i))
noncomputable def cv_cleared (H0:Hp) (fs:List (Int×Int)):Nat→List V→Hp→Prop:=WEq H0 λ i ys=>ys=List.map V.int ((clr fs).take i)
noncomputable def t_cleared_c1 (K:W.Frag):TE:=(tOp rMulI (tOp (rIxT K) (tVar 0) (tC (.int 0))) (tOp rDivI (tVar 1) (tOp (rIxT K) (tVar 0) (tC (.int 1)))))
noncomputable def t_cleared_r1 (K:W.Frag):TS:=(tRet (tTup (tCons (tVar 1) (tCons (tComp (iList K (tVar 0)) [1] (t_cleared_c1 K)) tNil))))
noncomputable def t_cleared_b1 (K:W.Frag):TS:=(tAsg (tOp rMulI (tVar 1) (tOp rDivI (tOp (rIxT K) (tVar 2) (tC (.int 1))) (tCall (sp_divisor K) [] E0 (tCons (tVar 1) (tCons (tOp (rIxT K) (tVar 2) (tC (.int 1))) tNil))))) (gName 1))
noncomputable def t_cleared (K:W.Frag):TS:=(tSeq (tAsg (tC (.int 1)) (gName 1)) (tSeq (tFor (iList K (tVar 0)) (gName 2) (t_cleared_b1 K)) (t_cleared_r1 K)))
theorem len_cleared {K vs H Q E} (h:sp_cleared K vs H Q E):vs.length=1:=by obtain ⟨a,ps,fs,rfl,_⟩:=h;rfl
theorem rd_cleared {K vs H Q E} (h:sp_cleared K vs H Q E):t_cleared K { nx:=λ _ H'=>Q .non H',rt:=Q } (start N_cleared vs) H:=by
 obtain ⟨a,ps,fs,rfl,hS,hf,hg,hn,q⟩:=h
 have hpl:=hf.length
 have hpos:∀ f∈fs,0<f.2:=λ f hf=>(hg f hf).1
 rw [show start N_cleared [V.ref a]=[some (.ref a),none,none] from rfl]
 (dsimp! [t_cleared,tFor,iList,tSeq,tAsg,gName,tVar,tC])
 refine ⟨⟨_,hS⟩,for_list (K:=K) (a:=a) (xs:=List.map V.ref ps) (g:=gName 2) (D:={ nx:=t_cleared_r1 K { nx:=λ _ H'=>Q .non H',rt:=Q },rt:=Q }) (iv_cleared a H fs) ?_ ?_ ?_ ?_⟩
 ·exact ⟨rfl,none,rfl,by show BB 1 1;unfold BB;decide⟩
 ·rintro i σ H3 _ ⟨rfl,_⟩
  exact hS
 ·rintro i x σ H3 hi ⟨rfl,o,rfl,bl⟩
  obtain ⟨p,rfl,hp⟩:=get_refs hi
  obtain ⟨f,ef,hF⟩:=hf.get hp
  have gf:=hg f (List.mem_of_getElem? ef)
  have lp:0<lc (fs.take i):=lc_pos λ f hf=>hpos f (List.mem_of_mem_take hf)
  obtain ⟨o1,_,_,_,o5⟩:=lcf_ok lp gf.1
  have e:=lc_snoc ef
  have hlt:i<fs.length:=(List.getElem?_eq_some_iff.mp ef).1
  have bq:=gf.2.2.of_le o5
  have fne:f.2≠0:=Int.ne_of_gt gf.1
  have g0:0<Int.gcd (lc (fs.take i)) f.2:=Int.gcd_pos_of_ne_zero_right _ fne
  unfold lcf at e
  (try dsimp only [tAsg,gName,tVar,tC,tOp,rI,rMulI,rDivI,tCall,tCons,tNil,rIxT,Lq0,Lq1,Ls0,Ls1,exI_lit,exB_lit,exR_lit];try simp only [sp_divisor,tAsg,gName,tVar,tC,tOp,rI,rMulI,rDivI,tCall,tCons,tNil,rIxT,Lq0,Lq1,Ls0,Ls1,Option.some.injEq,exists_eq_left',V.int.injEq,V.ref.injEq,List.cons.injEq,and_true,List.append_nil,exists_and_left,and_assoc,exists_eq_left,V.bl.injEq,true_and,exI_lit,exB_lit,exR_lit,exI_ex,exB_ex,exR_ex])
  refine ⟨_,hF,_,atI1,_,hF,_,atI1,_,rfl,_,rfl,⟨by omega,gf.2.2.gcd fne⟩,.b (m:=900001) (n:=9000) (bl.mono (by omega)) bq,?_⟩
  rw [← e]
  refine ⟨rfl,_,rfl,?_⟩
  rw [e]
  exact (bl.mul bq).mono (by omega)
 ·rintro σ H3 ⟨rfl,o,rfl,bl⟩
  rw [List.length_map,hpl,List.take_length] at bl ⊢
  (dsimp! [t_cleared_r1,tComp,iList,tVar,tRet,tCons,tNil,tTup])
  refine ⟨⟨_,hS⟩,comp_list (K:=K) (a:=a) (xs:=List.map V.ref ps) (cv_cleared H3 fs) ?_ ?_ ?_ ?_ ?_⟩
  ·rw [List.length_map,hpl,sizeLine_eq];omega
  ·exact ⟨rfl,by simp⟩
  ·rintro i ys H4 _ ⟨rfl,_⟩
   exact hS
  ·rintro i x ys H4 hi _ ⟨rfl,rfl⟩
   obtain ⟨p,rfl,hp⟩:=get_refs hi
   obtain ⟨f,ef,hF⟩:=hf.get hp
   have gf:=hg f (List.mem_of_getElem? ef)
   obtain ⟨k,hk⟩:=(lc_all fs 1 (by decide) hpos).2.2.1 f (List.mem_of_getElem? ef)
   have hk:lc fs=f.2*k:=hk
   have fne:f.2≠0:=Int.ne_of_gt gf.1
   have ek:(lc fs).fdiv f.2=k:=by rw [hk];exact Int.mul_fdiv_cancel_left _ fne
   have bk:BB (9000*fs.length+1) ((lc fs).fdiv f.2):=by
    refine bl.of_le ?_
    rw [ek,hk,Int.natAbs_mul]
    exact Nat.le_mul_of_pos_left _ (by omega)
   (dsimp! [t_cleared_c1,caught,List.map_cons,List.map_nil,Option.join_some,tVar,tC,tOp,rI,rMulI,rDivI,rIxT])
   refine ⟨_,hF,_,atI0,_,hF,_,atI1,_,rfl,⟨fne,gf.2.2⟩,_,rfl,.b (m:=20000) (n:=900001) gf.2.1 (bk.mono (by omega)),rfl,?_⟩
   show _=List.map V.int (List.take (i+1) (clr fs))
   rw [take_snoc (clr_get ef),List.map_append];rfl
  ·rintro ys H4 _ ⟨rfl,rfl⟩ l hl
   have hcl:(clr fs).length=fs.length:=by unfold clr;rw [List.length_map]
   rw [List.length_map,hpl,← hcl,List.take_length]
   refine ⟨sz2,λ p hp=>q l p _ ((Same.upd hl).trans (Same.upd hp)) (Same.upd hp _ _ upd_same) upd_same⟩
noncomputable def N_ratio:List PySem.Str:=["top", "bottom", "shared"]
noncomputable def sp_ratio (_:W.Frag):Sp:=λ vs H Q _=>∃ t b,vs=[.int t,.int b]∧b≠0∧BB 9000 b∧∀ x y p H',Same H H'→H' p=some (.tup [.int x,.int y])→Lo t b x y→Q (.ref p) H'
noncomputable def t_ratio (K:W.Frag):TS:=(tSeq (tIfS (tTest (tOp rEq (tVar 1) (tC (.int 0)))) tNever tNext) (tSeq (tAsg (tCall (sp_divisor K) [] E0 (tCons (tVar 0) (tCons (tVar 1) tNil))) (gName 2)) (tSeq (tIfS (tTest (tOp rLtI (tVar 1) (tC (.int 0)))) (tAsg (tUn rNegI (tVar 2)) (gName 2)) tNext) (tRet (tTup (tCons (tOp rDivI (tVar 0) (tVar 2)) (tCons (tOp rDivI (tVar 1) (tVar 2)) tNil)))))))
theorem len_ratio {K vs H Q E} (h:sp_ratio K vs H Q E):vs.length=2:=by obtain ⟨a,b,rfl,_⟩:=h;rfl
theorem rd_ratio {K vs H Q E} (h:sp_ratio K vs H Q E):t_ratio K { nx:=λ _ H'=>Q .non H',rt:=Q } (start N_ratio vs) H:=by
 obtain ⟨t,b,rfl,hb,bb,q⟩:=h
 rw [show start N_ratio [V.int t,V.int b]=[some (.int t),some (.int b),none] from rfl]
 (try dsimp only [t_ratio,tSeq,tAsg,gName,tVar,tC,tOp,tUn,rI0,rI,rU,rDivI,rNegI,rLtI,rEq,scal_ii,tRet,tIfS,tTest,tNext,tCall,tCons,tNil,tTup,tNever,Lq0,Lq1,Ls0,Ls1,exI_lit,exB_lit,exR_lit];try simp only [t_ratio,tSeq,tAsg,gName,tVar,tC,tOp,tUn,rI0,rI,rU,rDivI,rNegI,rLtI,rEq,scal_ii,tRet,tIfS,tTest,tNext,tCall,tCons,tNil,tTup,tNever,Lq0,Lq1,Ls0,Ls1,Option.some.injEq,exists_eq_left',V.int.injEq,V.bl.injEq,List.cons.injEq,and_true,true_and,List.append_nil,exists_and_left,decide_eq_true_eq,and_assoc,sp_divisor,exists_eq_left,V.ref.injEq,exI_lit,exB_lit,exR_lit,exI_ex,exB_ex,exR_ex])
 rw [if_neg hb]
 have bg:=bb.gcd (i:=t) hb
 have g0:0<Int.gcd t b:=Int.gcd_pos_of_ne_zero_right _ hb
 refine ite2 (λ hn=>?_) (λ hn=>?_)
 ·refine ⟨⟨by omega,bg.neg⟩,⟨by omega,bg.neg⟩,sz2,λ p hp=>q _ _ p _ (Same.upd hp) upd_same (lo_neg hn)⟩
 ·refine ⟨⟨by omega,bg⟩,⟨by omega,bg⟩,sz2,λ p hp=>q _ _ p _ (Same.upd hp) upd_same (lo_pos (by omega))⟩
noncomputable def N_shared:List PySem.Str:=["row", "told", "number"]
noncomputable def sp_shared (K:W.Frag):Sp:=λ vs H Q _=>∃ a ns,vs=[.ref a]∧SqL K H a (List.map V.int ns)∧Q (.int (gl ns)) H
noncomputable def iv_shared (a:Addr) (H0:Hp) (ns:List Int):Nat→St→Hp→Prop:=λ i σ H3=>H3=H0∧∃ o,σ=[some (.ref a),some (.int (gl (ns.take i))),o]
noncomputable def t_shared_b1 (K:W.Frag):TS:=(tSeq (tAsg (tCall (sp_divisor K) [] E0 (tCons (tVar 1) (tCons (tVar 2) tNil))) (gName 1)) (tIfS (tTest (tOp rEq (tVar 1) (tC (.int 1)))) (tRet (tVar 1)) tNext))
noncomputable def t_shared (K:W.Frag):TS:=(tSeq (tAsg (tC (.int 0)) (gName 1)) (tSeq (tFor (iList K (tVar 0)) (gName 2) (t_shared_b1 K)) (tRet (tVar 1))))
theorem len_shared {K vs H Q E} (h:sp_shared K vs H Q E):vs.length=1:=by obtain ⟨a,ns,rfl,_⟩:=h;rfl
theorem rd_shared {K vs H Q E} (h:sp_shared K vs H Q E):t_shared K { nx:=λ _ H'=>Q .non H',rt:=Q } (start N_shared vs) H:=by
 obtain ⟨a,ns,rfl,hS,q⟩:=h
 rw [show start N_shared [V.ref a]=[some (.ref a),none,none] from rfl]
 (dsimp! [t_shared,tFor,iList,tSeq,tAsg,gName,tVar,tC,tRet])
 refine ⟨⟨_,hS⟩,for_list (K:=K) (a:=a) (xs:=List.map V.int ns) (g:=gName 2) (D:={ nx:=tRet (tVar 1) { nx:=λ _ H'=>Q .non H',rt:=Q },rt:=Q }) (iv_shared a H ns) ?_ ?_ ?_ ?_⟩
 ·exact ⟨rfl,none,rfl⟩
 ·rintro i σ H3 _ ⟨rfl,_⟩
  exact hS
 ·rintro i x σ H3 hi ⟨rfl,o,rfl⟩
  obtain ⟨c,rfl,hc⟩:=get_ints hi
  have e:=gl_snoc hc
  unfold glf at e
  (try dsimp only [tSeq,tAsg,gName,tVar,tC,tOp,rEq,scal_ii,tRet,tIfS,tTest,tNext,tCall,tCons,tNil,Lq0,Lq1,Ls0,Ls1,exI_lit,exB_lit,exR_lit];try simp only [sp_divisor,tSeq,tAsg,gName,tVar,tC,tOp,rEq,scal_ii,tRet,tIfS,tTest,tNext,tCall,tCons,tNil,Lq0,Lq1,Ls0,Ls1,Option.some.injEq,exists_eq_left',V.int.injEq,V.bl.injEq,List.cons.injEq,and_true,true_and,List.append_nil,exists_and_left,decide_eq_true_eq,and_assoc,exists_eq_left,V.ref.injEq,exI_lit,exB_lit,exR_lit,exI_ex,exB_ex,exR_ex])
  rw [← e]
  refine ite2 (λ h1=>?_) (λ h1=>?_)
  ·have e1:=gl_one h1
   rw [h1]
   rwa [e1] at q
  ·exact ⟨rfl,_,rfl⟩
 ·rintro σ H3 ⟨rfl,o,rfl⟩
  (dsimp! [tVar,tC,tOp,rI0,rNe,scal_ii,tRet,tTest])
  rwa [List.length_map,List.take_length]
noncomputable def N_plain:List PySem.Str:=["row", "common"]
noncomputable def sp_plain (K:W.Frag):Sp:=λ vs H Q _=>∃ a ns,vs=[.ref a]∧SqL K H a (List.map V.int ns)∧ns.length≤1000∧(∀ n∈ns,BB 9000 n)∧∀ l H',Same H H'→H l=none→H' l=some (.lst (List.map V.int (plainL ns)))→Q (.ref l) H'
noncomputable def cv_plain (H0:Hp) (ns:List Int):Nat→List V→Hp→Prop:=λ i ys H3=>H3=H0∧ys=List.map V.int ((ns.take i).map λ n=>n.fdiv (gl ns))
noncomputable def t_plain_c1 (K:W.Frag):TE:=(tOp rDivI (tVar 0) (tVar 1))
noncomputable def t_plain (K:W.Frag):TS:=(tSeq (tAsg (tCall (sp_shared K) [] E0 (tCons (tVar 0) tNil)) (gName 1)) (tSeq (tIfS (tTest (tOp rLtI (tVar 1) (tC (.int 2)))) (tRet (tCB (cList K) (tCons (tVar 0) tNil))) tNext) (tRet (tComp (iList K (tVar 0)) [1] (t_plain_c1 K)))))
theorem len_plain {K vs H Q E} (h:sp_plain K vs H Q E):vs.length=1:=by obtain ⟨a,ns,rfl,_⟩:=h;rfl
theorem rd_plain {K vs H Q E} (h:sp_plain K vs H Q E):t_plain K { nx:=λ _ H'=>Q .non H',rt:=Q } (start N_plain vs) H:=by
 obtain ⟨a,ns,rfl,hS,hn,hb,q⟩:=h
 rw [show start N_plain [V.ref a]=[some (.ref a),none] from rfl]
 (dsimp! [t_plain,tComp,iList,cList,tSeq,tAsg,gName,tVar,tC,tOp,rI0,rLtI,tRet,tIfS,tTest,tNext,tCall,tCons,tNil,tCB,List.append_nil,decide_eq_true_eq])
 refine ⟨_,_,rfl,hS,_,rfl,ite2 (λ h2=>?_) (λ h2=>?_)⟩
 ·refine ⟨_,.inl hS,λ l hl=>q l _ (Same.upd hl) hl ?_⟩
  unfold plainL
  rw [if_pos h2];exact upd_same
 ·refine ⟨⟨_,hS⟩,comp_list (K:=K) (a:=a) (xs:=List.map V.int ns) (cv_plain H ns) ?_ ?_ ?_ ?_ ?_⟩
  ·rw [List.length_map,sizeLine_eq];omega
  ·exact ⟨rfl,rfl⟩
  ·rintro i ys H3 _ ⟨rfl,_⟩
   exact hS
  ·rintro i x ys H3 hi _ ⟨rfl,rfl⟩
   obtain ⟨c,rfl,hc⟩:=get_ints hi
   (dsimp! [t_plain_c1,caught,List.map_cons,List.map_nil,Option.join_some,tVar,tOp,rI,rDivI])
   refine ⟨⟨by omega,gl_bb hb⟩,rfl,?_⟩
   rw [take_snoc hc];simp
  ·rintro ys H3 _ ⟨rfl,rfl⟩ p hp
   refine q p _ (Same.upd hp) hp ?_
   rw [List.length_map,List.take_length]
   unfold plainL
   rw [if_neg h2];exact upd_same
noncomputable def N_whole:List PySem.Str:=["row", "made"]
noncomputable def sp_whole (K:W.Frag):Sp:=λ vs H Q _=>∃ a ps fs,vs=[.ref a]∧SqL K H a (List.map V.ref ps)∧FrsAt K H ps fs∧(∀ f∈fs,G9 f)∧fs.length≤100∧(∀ x∈clr fs,BB 9000 x) ∧
 ∀ r f l H',Same H H'→H' r=some (.tup [.ref f,.ref l])→H' f=some (.tup [.int (whF fs).1,.int (whF fs).2])→H' l=some (.lst (List.map V.int (whL fs)))→Q (.ref r) H'
noncomputable def t_whole (K:W.Frag):TS:=(tSeq (tAsg (tCall (sp_cleared K) [] E0 (tCons (tVar 0) tNil)) (gName 1)) (tRet (tTup (tCons (tCall (sp_ratio K) [] E0 (tCons (tOp (rIxT K) (tVar 1) (tC (.int 0))) (tCons (tCB cMax (tCons (tCall (sp_shared K) [] E0 (tCons (tOp (rIxT K) (tVar 1) (tC (.int 1))) tNil)) (tCons (tC (.int 1)) tNil))) tNil))) (tCons (tCall (sp_plain K) [] E0 (tCons (tOp (rIxT K) (tVar 1) (tC (.int 1))) tNil)) tNil)))))
theorem len_whole {K vs H Q E} (h:sp_whole K vs H Q E):vs.length=1:=by obtain ⟨a,ps,fs,rfl,_⟩:=h;rfl
theorem rd_whole {K vs H Q E} (h:sp_whole K vs H Q E):t_whole K { nx:=λ _ H'=>Q .non H',rt:=Q } (start N_whole vs) H:=by
 obtain ⟨a,ps,fs,rfl,hS,hf,hg,hn,hb,q⟩:=h
 rw [show start N_whole [V.ref a]=[some (.ref a),none] from rfl]
 (dsimp! [t_whole,cMax,tSeq,tAsg,gName,tVar,tC,tOp,tRet,tCall,tCons,tNil,tTup,tCB,rIxT,List.append_nil])
 refine ⟨_,_,_,rfl,hS,hf,hg,hn,λ l p H1 s1 hl hp=>⟨_,rfl,_,SqT.of hp,_,atI0,_,rfl,_,SqT.of hp,_,atI1,_,_,rfl,SqL.of hl,_,rfl,?_⟩⟩
 have hcl:(clr fs).length=fs.length:=by unfold clr;rw [List.length_map]
 have z:=mx1_pos (gl (clr fs))
 have b9:BB 9000 (mx1 (gl (clr fs))):=by
  unfold mx1;split
  ·show (1:Int).natAbs<2 ^ 9000;exact Nat.one_lt_two_pow (by decide)
  ·exact gl_bb hb
 refine ⟨_,_,rfl,show mx1 (gl (clr fs))≠0 by omega,b9,λ x y f H2 s2 hf2 lo=>?_⟩
 obtain ⟨e1,e2⟩:=lo.uniq z (lo2_lo z)
 have hF:H2 f=some (.tup [.int (whF fs).1,.int (whF fs).2]):=by unfold whF;rw [← e1,← e2];exact hf2
 refine ⟨_,rfl,_,SqT.of (s2 _ _ hp),_,atI1,_,_,rfl,SqL.of (s2 _ _ hl),by omega,hb,λ l2 H3 s3 _ hl3=>?_⟩
 refine ⟨sz2,λ r hr=>q r f l2 _ (((s1.trans s2).trans s3).trans (Same.upd hr)) upd_same (Same.upd hr _ _ (s3 _ _ hF)) (Same.upd hr _ _ hl3)⟩
noncomputable def N_times:List PySem.Str:=["one", "other"]
noncomputable def sp_times (K:W.Frag):Sp:=λ vs H Q _=>∃ p q a b c d,vs=[.ref p,.ref q]∧Tw K H p q a b c d∧0<b∧0<d∧BB 9000 (b*d)∧∀ r H',Same H H'→H' r=some (.tup [.int (lo2 (a*c) (b*d)).1,.int (lo2 (a*c) (b*d)).2])→Q (.ref r) H'
noncomputable def t_times (K:W.Frag):TS:=(tRet (tCall (sp_ratio K) [] E0 (tCons (tOp rMulI (tOp (rIxT K) (tVar 0) (tC (.int 0))) (tOp (rIxT K) (tVar 1) (tC (.int 0)))) (tCons (tOp rMulI (tOp (rIxT K) (tVar 0) (tC (.int 1))) (tOp (rIxT K) (tVar 1) (tC (.int 1)))) tNil))))
theorem len_times {K vs H Q E} (h:sp_times K vs H Q E):vs.length=2:=by obtain ⟨p,q,a,b,c,d,rfl,_⟩:=h;rfl
theorem rd_times {K vs H Q E} (h:sp_times K vs H Q E):t_times K { nx:=λ _ H'=>Q .non H',rt:=Q } (start N_times vs) H:=by
 obtain ⟨p,q,a,b,c,d,rfl,⟨hp,hq,ba,bb,bc,bd⟩,b0,d0,b9,k⟩:=h
 rw [show start N_times [V.ref p,V.ref q]=[some (.ref p),some (.ref q)] from rfl]
 (dsimp! [t_times,tVar,tC,tOp,rI,rMulI,tRet,tCall,tCons,tNil,rIxT,List.append_nil])
 refine ⟨_,hp,_,atI0,_,hq,_,atI0,_,rfl,_,rfl,.b ba bc,_,hp,_,atI1,_,hq,_,atI1,_,rfl,_,rfl,.b bb bd,?_⟩
 have z:0<b*d:=Int.mul_pos b0 d0
 refine ⟨_,_,rfl,by omega,b9,λ x y r H' s h l=>k r H' s ?_⟩
 obtain ⟨e1,e2⟩:=l.uniq z (lo2_lo z)
 rw [← e1,← e2];exact h
noncomputable def N_longest:List PySem.Str:=["row"]
noncomputable def sp_longest (K:W.Frag):Sp:=λ vs H Q _=>∃ a ns,vs=[.ref a]∧SqL K H a (List.map V.int ns)∧ns≠[]∧ns.length≤200∧∀ (M:Nat) H',Same H H'→(∀ n∈ns,ib n≤M)→(∃ n∈ns,ib n=M)→Q (.int M) H'
noncomputable def t_longest_c1 (K:W.Frag):TE:=(tBM0 K "int" rBits (tVar 0))
noncomputable def t_longest (K:W.Frag):TS:=(tRet (tCB (cMaxL K) (tCons (tComp (iList K (tVar 0)) [] (t_longest_c1 K)) tNil)))
theorem len_longest {K vs H Q E} (h:sp_longest K vs H Q E):vs.length=1:=by obtain ⟨_,_,rfl,_⟩:=h;rfl
theorem rd_longest {K vs H Q E} (h:sp_longest K vs H Q E):t_longest K { nx:=λ _ H'=>Q .non H',rt:=Q } (start N_longest vs) H:=by
 obtain ⟨a,ns,rfl,ha,ne,nl,q⟩:=h
 rw [show start N_longest [V.ref a]=[some (.ref a)] from rfl]
 (try dsimp? [t_longest,tComp,iList,cMaxL];try simp_arith [t_longest,tComp,iList,cMaxL])
 refine ⟨⟨_,ha⟩,comp_list (K:=K) (a:=a) (xs:=List.map V.int ns) (λ i zs H3=>H3=H∧zs=List.map V.int ((ns.take i).map λ n=>(ib n:Int))) (by rw [List.length_map,sizeLine_eq];omega) ⟨rfl,rfl⟩ ?_ ?_ ?_⟩
 ·rintro i zs H3 _ ⟨rfl,_⟩
  exact ha
 ·rintro i x zs H3 hi _ ⟨rfl,rfl⟩
  obtain ⟨n,rfl,hn⟩:=get_ints hi
  (try dsimp? [t_longest_c1,tBM0,rBits];try simp_arith [t_longest_c1,tBM0,rBits])
  refine ⟨rfl,?_⟩
  rw [take_snoc hn,List.map_append,List.map_append];rfl
 ·rintro zs H3 _ ⟨rfl,rfl⟩ p hp
  rw [List.length_map,List.take_length]
  refine ⟨_,SqL.of upd_same,λ z=>ne (List.map_eq_nil_iff.mp z),λ M hM hA=>?_⟩
  obtain ⟨n,hn,rfl⟩:=List.mem_map.mp hM
  refine q (ib n) _ (Same.upd hp) (λ m hm=>?_) ⟨n,hn,rfl⟩
  have:=hA _ (List.mem_map.mpr ⟨m,hm,rfl⟩)
  omega
noncomputable def N_column_of:List PySem.Str:=["rows", "place"]
noncomputable def sp_column_of (K:W.Frag):Sp:=λ vs H Q _=>∃ a ps rs,∃ k:Int,∃ c:Nat,vs=[.ref a,.int k]∧SqL K H a (List.map V.ref ps)∧RwsAt H ps rs∧rs.length≤200∧(∀ r∈rs,atI (List.map V.int r) k=some (.int (r.getD c 0)))∧∀ l H',Same H H'→H l=none→H' l=some (.lst (List.map V.int (rs.map λ r=>r.getD c 0)))→Q (.ref l) H'
noncomputable def t_column_of_c1 (K:W.Frag):TE:=(tOp (rIxL K) (tVar 0) (tVar 1))
noncomputable def t_column_of (K:W.Frag):TS:=(tRet (tComp (iList K (tVar 0)) [1] (t_column_of_c1 K)))
theorem len_column_of {K vs H Q E} (h:sp_column_of K vs H Q E):vs.length=2:=by obtain ⟨_,_,_,_,_,rfl,_⟩:=h;rfl
theorem rd_column_of {K vs H Q E} (h:sp_column_of K vs H Q E):t_column_of K { nx:=λ _ H'=>Q .non H',rt:=Q } (start N_column_of vs) H:=by
 obtain ⟨a,ps,rs,k,c,rfl,hS,hr,hn,hc,q⟩:=h
 have hpl:=hr.length
 rw [show start N_column_of [V.ref a,V.int k]=[some (.ref a),some (.int k)] from rfl]
 (dsimp! [t_column_of,tComp,iList,tVar,tRet])
 refine ⟨⟨_,hS⟩,comp_list (K:=K) (a:=a) (xs:=List.map V.ref ps) (WEq H λ i zs=>zs=List.map V.int ((rs.take i).map λ r=>r.getD c 0)) ?_ ⟨rfl,rfl⟩ ?_ ?_ ?_⟩
 ·rw [List.length_map,sizeLine_eq];omega
 ·rintro i ys H3 _ ⟨rfl,_⟩
  exact hS
 ·rintro i x ys H3 hi _ ⟨rfl,rfl⟩
  obtain ⟨p,rfl,hp⟩:=get_refs hi
  obtain ⟨r,er,hrow⟩:=hr.get hp
  (dsimp! [t_column_of_c1,caught,List.map_cons,List.map_nil,Option.join_some,tVar,tOp,rIxL])
  refine ⟨_,SqL.of hrow,_,hc r (List.mem_of_getElem? er),rfl,?_⟩
  show _=List.map V.int ((rs.take (i+1)).map λ r=>r.getD c 0)
  rw [take_snoc er,List.map_append,List.map_append];rfl
 ·rintro ys H3 _ ⟨rfl,rfl⟩ l hl
  rw [List.length_map,hpl,List.take_length]
  exact q l _ (Same.upd hl) hl upd_same
noncomputable def N_span:List PySem.Str:=["column"]
noncomputable def sp_span (K:W.Frag):Sp:=λ vs H Q _=>∃ a ns,vs=[.ref a]∧SqL K H a (List.map V.int ns)∧ns.length≤200∧(∀ n∈ns,BB 20000 n)∧∀ n H',Same H H'→BB 30000 n→Q (.int n) H'
noncomputable def t_span_c1 (K:W.Frag):TE:=(tCB cAbs (tCons (tVar 0) tNil))
noncomputable def t_span (K:W.Frag):TS:=(tRet (tOp rAddI (tC (.int 1)) (tCB (cSum K) (tCons (tComp (iList K (tVar 0)) [] (t_span_c1 K)) tNil))))
theorem len_span {K vs H Q E} (h:sp_span K vs H Q E):vs.length=1:=by obtain ⟨_,_,rfl,_⟩:=h;rfl
theorem rd_span {K vs H Q E} (h:sp_span K vs H Q E):t_span K { nx:=λ _ H'=>Q .non H',rt:=Q } (start N_span vs) H:=by
 obtain ⟨a,ns,rfl,hS,hn,hb,q⟩:=h
 rw [show start N_span [V.ref a]=[some (.ref a)] from rfl]
 (dsimp! [t_span,tComp,iList,cSum,tVar,tC,tOp,rI0,rAddI,tRet,tCons,tNil,tCB])
 refine ⟨⟨_,hS⟩,comp_list (K:=K) (a:=a) (xs:=List.map V.int ns) (WEq H λ i zs=>zs=List.map V.int ((ns.take i).map λ n=>(n.natAbs:Int))) ?_ ⟨rfl,rfl⟩ ?_ ?_ ?_⟩
 ·rw [List.length_map,sizeLine_eq];omega
 ·rintro i ys H3 _ ⟨rfl,_⟩
  exact hS
 ·rintro i x ys H3 hi _ ⟨rfl,rfl⟩
  obtain ⟨c,rfl,hc⟩:=get_ints hi
  (dsimp! [t_span_c1,abs_eq,tVar,tCons,tNil,tCB,cAbs])
  refine ⟨rfl,?_⟩
  show _=List.map V.int ((ns.take (i+1)).map λ n=>(n.natAbs:Int))
  rw [take_snoc hc,List.map_append,List.map_append];rfl
 ·rintro ys H3 _ ⟨rfl,rfl⟩ l hl
  rw [List.length_map,List.take_length]
  refine ⟨_,SqL.of upd_same,q _ _ (Same.upd hl) ?_⟩
  have h1:=sum_bb (l:=ns.map λ n=>(n.natAbs:Int)) (p:=20000) λ x hx=>by
   obtain ⟨n,hm,rfl⟩:=List.mem_map.mp hx
   have:=hb n hm
   unfold BB at this ⊢
   rwa [Int.natAbs_natCast]
  rw [List.length_map] at h1
  have one:BB (20000+ns.length) 1:=by show (1:Int).natAbs<2 ^ _;exact Nat.one_lt_two_pow (by omega)
  exact (one.add h1).mono (by omega)
noncomputable def N_unit:List PySem.Str:=["many", "place"]
noncomputable def sp_unit (K:W.Frag):Sp:=λ vs H Q _=>∃ n k:Nat,vs=[.int n,.int k]∧n≤200∧∀ l H',Same H H'→H l=none→H' l=some (.lst (List.map V.int (ofF n λ r=>if r=k then 1 else 0)))→Q (.ref l) H'
noncomputable def t_unit_c1 (K:W.Frag):TE:=(tIf (tTest (tOp rEq (tVar 0) (tVar 1))) (tC (.int 1)) (tC (.int 0)))
noncomputable def t_unit (K:W.Frag):TS:=(tRet (tComp (iRng1 (tCons (tVar 0) tNil)) [1] (t_unit_c1 K)))
theorem len_unit {K vs H Q E} (h:sp_unit K vs H Q E):vs.length=2:=by obtain ⟨n,k,rfl,_⟩:=h;rfl
theorem rd_unit {K vs H Q E} (h:sp_unit K vs H Q E):t_unit K { nx:=λ _ H'=>Q .non H',rt:=Q } (start N_unit vs) H:=by
 obtain ⟨n,k,rfl,hn,q⟩:=h
 rw [show start N_unit [V.int n,V.int k]=[some (.int n),some (.int k)] from rfl]
 (dsimp! [t_unit,tComp,iRng1,tVar,tRet,tCons,tNil])
 refine ⟨by omega,by omega,comp_range (lo:=0) (W:=WEq H λ i zs=>zs=List.map V.int (ofF i λ r=>if r=k then 1 else 0)) (by rw [sizeLine_eq];omega) ⟨rfl,rfl⟩ ?_ ?_⟩
 ·rintro i ys H3 _ _ ⟨rfl,rfl⟩
  (dsimp! [t_unit_c1,tIf,caught,List.map_cons,List.map_nil,Option.join_some,tVar,tC,tOp,rEq,scal_ii,tTest,decide_eq_true_eq])
  refine ite2 (λ h=>⟨rfl,?_⟩) (λ h=>⟨rfl,?_⟩)
  ·show _=List.map V.int (ofF (i+1) λ r=>if r=k then 1 else 0)
   have:i=k:=by omega
   rw [ofF_snoc,List.map_append,if_pos this];rfl
  ·show _=List.map V.int (ofF (i+1) λ r=>if r=k then 1 else 0)
   have:¬ i=k:=by omega
   rw [ofF_snoc,List.map_append,if_neg this];rfl
 ·rintro ys H3 _ ⟨rfl,rfl⟩ l hl
  rw [Int.toNat_natCast]
  exact q l _ (Same.upd hl) hl upd_same
noncomputable def N_Corner_init:List PySem.Str:=["self", "lists"]
noncomputable def sp_Corner_init (K:W.Frag):Sp:=λ vs H Q _=>∃ t dx r rps L,vs=[.ref t,.ref r]∧H t=some (.ins (gadr K "Corner") dx [])∧RlAt H r rps L∧L.Lim∧L.fl=false ∧
 ∀ ins H',H ins=none→Sb t H H'→CorAt K H' t ins L L.ins0→Q .non H'
noncomputable def t_Corner_init_c1 (K:W.Frag):TE:=(tOp rAddI (tCB (cLen K) (tCons (tFld K (tVar 1) "begun") tNil)) (tVar 0))
noncomputable def t_Corner_init_r1 (K:W.Frag):TS:=(sFld K (tVar 0) (tComp (iRng1 (tCons (tOp rSubI (tCB (cLen K) (tCons (tVar 1) tNil)) (tC (.int 1))) tNil)) [0] (t_Corner_init_c1 K)) "inside")
noncomputable def t_Corner_init_c2 (K:W.Frag):TE:=(tOp rCat (tCall (sp_unit K) [] E0 (tCons (tCB (cLen K) (tCons (tVar 2) tNil)) (tCons (tVar 0) tNil))) (tLst (tCons (tOp (rIxL K) (tVar 1) (tUn rNegI (tC (.int 1)))) tNil)))
noncomputable def t_Corner_init_g1 (K:W.Frag):TG:=(gTup K 2 (gCons (gName 0) (gCons (gName 1) gNil)))
noncomputable def t_Corner_init_r2 (K:W.Frag):TS:=(tSeq (sFld K (tVar 0) (tCompG (iEnum K (tVar 1)) 2 [1] (t_Corner_init_g1 K) (t_Corner_init_c2 K)) "kept") (t_Corner_init_r1 K))
noncomputable def t_Corner_init_c3 (K:W.Frag):TE:=(tCall (sp_span K) [] E0 (tCons (tSl (rSlL K) (tVar 0) tNoPart (tPart (tUn rNegI (tC (.int 1))))) tNil))
noncomputable def t_Corner_init_c4 (K:W.Frag):TE:=(tCall (sp_span K) [] E0 (tCons (tLst (tCons (tC (.int 1)) tNil)) tNil))
noncomputable def t_Corner_init_r3 (K:W.Frag):TS:=(tSeq (sFld K (tVar 0) (tOp rCat (tComp (iList K (tFld K (tVar 0) "begun")) [] (t_Corner_init_c3 K)) (tComp (iList K (tSl (rSlL K) (tVar 1) tNoPart (tPart (tUn rNegI (tC (.int 1)))))) [] (t_Corner_init_c4 K))) "spans") (t_Corner_init_r2 K))
noncomputable def t_Corner_init_c5 (K:W.Frag):TE:=(tCall (sp_column_of K) [] E0 (tCons (tVar 1) (tCons (tVar 0) tNil)))
noncomputable def t_Corner_init (K:W.Frag):TS:=(tSeq (sFld K (tVar 0) (tComp (iRng1 (tCons (tOp rSubI (tCB (cLen K) (tCons (tOp (rIxL K) (tVar 1) (tC (.int 0))) tNil)) (tC (.int 1))) tNil)) [1] (t_Corner_init_c5 K)) "begun") (t_Corner_init_r3 K))
theorem len_Corner_init {K vs H Q E} (h:sp_Corner_init K vs H Q E):vs.length=2:=by obtain ⟨_,_,_,_,_,rfl,_⟩:=h;rfl
theorem col_rows (L:Lpd) {j:Nat} (hj:j<L.n):(ofF (L.m+1) L.rowL).map (λ r=>r.getD j 0)=L.colL j:=by
 unfold Lpd.colL
 have e:(ofF (L.m+1) L.rowL).map (λ r=>r.getD j 0)=ofF (L.m+1) λ i=>(L.rowL i).getD j 0:=by unfold ofF;rw [List.map_map];rfl
 rw [e]
 exact ofF_congr λ i _=>getD_of (L.rowL_get i hj)
theorem RlAt.sb {t:Addr} {H H':Hp} {a:Addr} {rps:List Addr} {L:Lpd} (h:RlAt H a rps L) (s:Sb t H H') (i:IsI H t):RlAt H' a rps L:=⟨s.lst i h.ha,s.rws i h.hr⟩
theorem cut_init_list (xs:List V) (m:Nat) (h:xs.length=m+1):(cutV xs none (some (-1))).length=m:=by rw [cut_last,List.length_take];omega
theorem oc2 {m:Nat} (h:m≤100):m+1≤16777216:=by omega
theorem oc3 {m:Nat} (h:m≤100):m+1+1≤16777216:=by omega
theorem oc7 {m:Nat} (h:m≤100):-(2 ^ 62)≤(m:Int)∧(m:Int)<2 ^ 62:=by omega
theorem oc8 {a b n m:Nat} (h1:a=n) (h2:b=m) (h5:m≤100) (h6:n≤100):a+b≤16777216:=by omega
theorem oc9 {m:Nat} (h:m≤100):m≤16777216:=by omega
theorem oc10 {m:Nat}:((m+1:Nat):Int) - 1=(m:Int):=by omega
theorem oc12 {m:Nat} (h:m≤100):m+1≤200:=by omega
theorem rd_Corner_init {K vs H Q E} (C:CorK K) (h:sp_Corner_init K vs H Q E):t_Corner_init K { nx:=λ _ H'=>Q .non H',rt:=Q } (start N_Corner_init vs) H:=by
 obtain ⟨t,dx,r,rps,L,rfl,ht,R,lim,fl,q⟩:=h
 have rl:=R.len
 have m1:=lim.m1
 have n1:=lim.n1
 have hI:IsI H t:=⟨_,_,_,ht⟩
 rw [show start N_Corner_init [V.ref t,V.ref r]=[some (.ref t),some (.ref r)] from rfl]
 obtain ⟨p0,ep0,hp0⟩:=R.row (Nat.zero_le L.m)
 (try dsimp? [t_Corner_init,sFld,tComp,iRng1];try simp_arith [t_Corner_init,sFld,tComp,iRng1])
 refine ⟨_,SqL.of R.ha,V.ref p0,atI_nat (j:=0) (by rw [List.getElem?_map,ep0];rfl),p0,rfl,_,.inl (SqL.of hp0),?_⟩
 rw [List.length_map,Lpd.rowL_length,oc10,Int.toNat_natCast]
 refine ⟨(oc7 n1).1,(oc7 n1).2,comp_range (lo:=0) (W:=λ i zs H3=>Same H H3∧∃ bps,zs=List.map V.ref bps∧RwsAt H3 bps (ofF i L.colL)) (by rw [sizeLine_eq];exact oc9 n1) ⟨Same.refl _,[],rfl,trivial⟩ ?_ ?_⟩
 ·rintro i ys H3 hi _ ⟨s3,cps,rfl,hc⟩
  (try dsimp? [t_Corner_init_c5,caught,List.map_cons,List.map_nil,Option.join_some];try simp_arith [t_Corner_init_c5,caught,List.map_cons,List.map_nil,Option.join_some])
  refine ⟨r,rps,_,0+(i:Int),i,rfl,SqL.of (s3 _ _ R.ha),(R.same s3).hr,by rw [ofF_length];exact oc12 m1,λ row hrow=>?_,λ l H4 s4 hl hl4=>⟨s3.trans s4,cps++[l],by rw [List.map_append];rfl,?_⟩⟩
  ·obtain ⟨k,hk,rfl⟩:=ofF_mem hrow
   rw [Int.zero_add]
   exact atI_nat0 (by rw [Lpd.rowL_length];omega)
  ·rw [ofF_snoc]
   exact RwsAt.snoc (hc.same s4) (by rw [hl4,col_rows L hi])
 ·rintro ys H3 _ ⟨s3,bps,rfl,hbp⟩ bl hbl
  have s4:=s3.trans (Same.upd (o:=HO.lst (List.map V.ref bps)) hbl)
  have hbp4:=hbp.same (Same.upd (o:=HO.lst (List.map V.ref bps)) hbl)
  have hbl4:(upd H3 bl (.lst (List.map V.ref bps))) bl=some (.lst (List.map V.ref bps)):=upd_same
  generalize upd H3 bl (.lst (List.map V.ref bps))=H4 at s4 hbp4 hbl4
  clear s3 hbp hbl
  have bpl:bps.length=L.n:=by rw [hbp4.length,ofF_length]
  have t4:H4 t=some (.ins (gadr K "Corner") dx []):=s4 _ _ ht
  have I4:IsI H4 t:=⟨_,_,_,t4⟩
  refine ⟨_,_,_,t4,C.cl,C.nb,by show 0<1000;decide,?_⟩
  have b5:Sb t H4 (upd H4 t (.ins (gadr K "Corner") dx (putF "begun" (.ref bl) []))):=Sb.at
  have t5:(upd H4 t (.ins (gadr K "Corner") dx (putF "begun" (.ref bl) []))) t=some (.ins (gadr K "Corner") dx (putF "begun" (.ref bl) [])):=upd_same
  generalize upd H4 t (.ins (gadr K "Corner") dx (putF "begun" (.ref bl) []))=H5 at b5 t5
  have b05:Sb t H H5:=(Sb.of s4).trans b5
  have I5:IsI H5 t:=⟨_,_,_,t5⟩
  have hbp5:=b5.rws I4 hbp4
  have hbl5:=b5.lst I4 hbl4
  have R5:=R.sb b05 hI
  clear b5 s4 t4 I4 hbp4 hbl4 hp0
  (try dsimp? [t_Corner_init_r3,sFld,tComp,iList,rCat,tFld];try simp_arith [t_Corner_init_r3,sFld,tComp,iList,rCat,tFld])
  refine ⟨_,_,_,t5,C.cl,C.nb,_,rfl,bl,rfl,⟨_,SqL.of hbl5⟩,comp_list (K:=K) (a:=bl) (xs:=List.map V.ref bps) (λ i zs H3=>Same H5 H3∧∃ ss:List Int,zs=List.map V.int ss∧ss.length=i∧∀ x∈ss,BB 30000 x) ?_ ⟨Same.refl _,[],rfl,rfl,(λ _ h=>nomatch h)⟩ ?_ ?_ ?_⟩
  ·rw [List.length_map,bpl,sizeLine_eq];exact oc9 n1
  ·rintro i zs H3 _ ⟨s3,_⟩
   exact s3.seq (SqL.of hbl5)
  ·rintro i x zs H3 hi _ ⟨s3,ss,rfl,sl,sb⟩
   obtain ⟨z,rfl,hz⟩:=get_refs hi
   obtain ⟨row,er,hrow⟩:=hbp5.get hz
   obtain ⟨hin,rfl⟩:=ofF_inv er
   (try dsimp? [t_Corner_init_c3,rSlL];try simp_arith [t_Corner_init_c3,rSlL])
   refine ⟨_,s3.seq (SqL.of hrow),λ zc hzc=>?_⟩
   have ec:cutV (List.map V.int (L.colL i)) none (some (-1))=List.map V.int ((L.colL i).take ((L.colL i).length - 1)):=by rw [cut_last,List.length_map,List.map_take]
   rw [ec]
   refine ⟨zc,_,rfl,SqL.of upd_same,?_,λ x hx=>?_,λ n H6 s6 bn=>⟨(s3.trans (Same.upd hzc)).trans s6,ss++[n],by rw [List.map_append];rfl,by rw [List.length_append,sl];rfl,λ x hx=>?_⟩⟩
   ·unfold Lpd.colL;rw [List.length_take,ofF_length];exact Nat.le_trans (Nat.min_le_right _ _) (oc12 m1)
   ·obtain ⟨k,hk,rfl⟩:=ofF_mem (List.mem_of_mem_take hx)
    exact lim.ba _ _ hin (Nat.le_of_lt_succ hk)
   ·rcases List.mem_append.mp hx with hx | hx
    ·exact sb x hx
    ·rw [List.mem_singleton.mp hx];exact bn
  ·rintro zs H3 _ ⟨s3,ss,rfl,sl,sb⟩ l1 hl1
   rw [List.length_map,bpl] at sl
   have s6:=s3.trans (Same.upd (o:=HO.lst (List.map V.int ss)) hl1)
   have hl6:(upd H3 l1 (.lst (List.map V.int ss))) l1=some (.lst (List.map V.int ss)):=upd_same
   generalize upd H3 l1 (.lst (List.map V.int ss))=H6 at s6 hl6
   refine ⟨_,SqL.of (s6 _ _ R5.ha),λ lc hlc=>?_⟩
   have lcl:=cut_init_list (List.map V.ref rps) L.m (by rw [List.length_map];exact rl)
   generalize cutV (List.map V.ref rps) none (some (-1))=cs at lcl
   have s6c:=s6.trans (Same.upd (o:=HO.lst cs) hlc)
   have lc6:(upd H6 lc (HO.lst cs)) lc=some (HO.lst cs):=upd_same
   have hl6c:=Same.upd (o:=HO.lst cs) hlc _ _ hl6
   generalize upd H6 lc (HO.lst cs)=H6c at s6c lc6 hl6c
   refine ⟨⟨_,SqL.of lc6⟩,comp_list (K:=K) (a:=lc) (xs:=cs) (λ i zs H3=>Same H6c H3∧∃ ss:List Int,zs=List.map V.int ss∧ss.length=i∧∀ x∈ss,BB 30000 x) ?_ ⟨Same.refl _,[],rfl,rfl,(λ _ h=>nomatch h)⟩ ?_ ?_ ?_⟩
   ·rw [lcl,sizeLine_eq];exact oc9 m1
   ·rintro i zs H7 _ ⟨s7,_⟩
    exact s7.seq (SqL.of lc6)
   ·rintro i x zs H7 hi _ ⟨s7,s2,rfl,sl2,sb2⟩
    (try dsimp? [t_Corner_init_c4];try simp_arith [t_Corner_init_c4])
    refine ⟨sz1,λ l2 hl2=>⟨_,[1],rfl,SqL.of upd_same,by decide,λ n hn=>by rw [List.mem_singleton.mp hn];show (1:Int).natAbs<2 ^ 20000;exact Nat.one_lt_two_pow (by decide),λ n H8 s8 bn=>⟨(s7.trans (Same.upd hl2)).trans s8,s2++[n],by rw [List.map_append];rfl,by rw [List.length_append,sl2];rfl,λ x hx=>?_⟩⟩⟩
    rcases List.mem_append.mp hx with hx | hx
    ·exact sb2 x hx
    ·rw [List.mem_singleton.mp hx];exact bn
   ·rintro zs H7 _ ⟨s7,s2,rfl,sl2,sb2⟩ l2 hl2
    rw [lcl] at sl2
    refine ⟨_,Same.upd hl2 _ _ (s7 _ _ hl6c),_,upd_same,by rw [List.length_map,List.length_map,sizeLine_eq];exact oc8 sl sl2 m1 n1,λ sp hsp=>?_⟩
    have s8:=(s6c.trans (s7.trans (Same.upd (o:=HO.lst (List.map V.int s2)) hl2))).trans (Same.upd (o:=HO.lst (List.map V.int ss++List.map V.int s2)) hsp)
    have hsp8:(upd (upd H7 l2 (.lst (List.map V.int s2))) sp (.lst (List.map V.int ss++List.map V.int s2))) sp=some (.lst (List.map V.int (ss++s2))):=by rw [upd_same,List.map_append]
    generalize upd (upd H7 l2 (.lst (List.map V.int s2))) sp (.lst (List.map V.int ss++List.map V.int s2))=H8 at s8 hsp8
    clear s6 hl6 s7 hl2 hsp s3 hl1 s6c lc6 hl6c hlc
    have sb':∀ x∈ss++s2,BB 30000 x:=λ x hx=>by
     rcases List.mem_append.mp hx with hx | hx
     ·exact sb x hx
     ·exact sb2 x hx
    have sl':(ss++s2).length=L.n+L.m:=by rw [List.length_append,sl,sl2]
    generalize ss++s2=sss at sb' sl' hsp8
    clear sb sb2 sl sl2
    have t8:=s8 _ _ t5
    have I8:IsI H8 t:=⟨_,_,_,t8⟩
    refine ⟨_,_,_,t8,C.cl,C.ns,by show 1<1000;decide,?_⟩
    have b9:Sb t H8 (upd H8 t (.ins (gadr K "Corner") dx (putF "spans" (.ref sp) (putF "begun" (.ref bl) [])))):=Sb.at
    have t9:(upd H8 t (.ins (gadr K "Corner") dx (putF "spans" (.ref sp) (putF "begun" (.ref bl) [])))) t=some (.ins (gadr K "Corner") dx (putF "spans" (.ref sp) (putF "begun" (.ref bl) []))):=upd_same
    generalize upd H8 t (.ins (gadr K "Corner") dx (putF "spans" (.ref sp) (putF "begun" (.ref bl) [])))=H9 at b9 t9
    have b09:Sb t H H9:=b05.trans ((Sb.of s8).trans b9)
    have I9:IsI H9 t:=⟨_,_,_,t9⟩
    have hbp9:=b9.rws I8 (hbp5.same s8)
    have hbl9:=b9.lst I8 (s8 _ _ hbl5)
    have hsp9:=b9.lst I8 hsp8
    have R9:=R.sb b09 hI
    clear b9 s8 I8 t8 hbp5 hbl5 b05 I5 t5 hsp8 R5
    (try dsimp? [t_Corner_init_r2,sFld,tCompG,iEnum,rCat];try simp_arith [t_Corner_init_r2,sFld,tCompG,iEnum,rCat])
    refine ⟨⟨_,SqL.of R9.ha⟩,compG_enum (K:=K) (a:=r) (xs:=List.map V.ref rps) (λ i zs H3=>Same H9 H3∧∃ kps,zs=List.map V.ref kps∧RwsAt H3 kps (ofF i (L.keptL L.ins0))) ?_ ⟨Same.refl _,[],rfl,trivial⟩ ?_ ?_ ?_⟩
    ·rw [List.length_map,rl,sizeLine_eq];exact oc2 m1
    ·rintro i zs H3 _ ⟨s3,_⟩
     exact s3.seq (SqL.of R9.ha)
    ·rintro i x p zs H3 hi _ ⟨s3,kps,rfl,hkp⟩ hp os ho
     obtain ⟨z,rfl,hz⟩:=get_refs hi
     obtain ⟨im,hrow⟩:=(R9.same s3).inv hz
     obtain ⟨o1,o2,rfl⟩:∃ o1 o2,os=[o1,o2]:=by
      match os,ho with
      | [o1,o2],_=>exact ⟨o1,o2,rfl⟩
     have s4:=Same.upd (o:=HO.tup [.int i,.ref z]) hp
     (try dsimp? [t_Corner_init_g1,t_Corner_init_c2,rCat,caught,List.map_cons,List.map_nil,Option.join_some];try simp_arith [t_Corner_init_g1,t_Corner_init_c2,rCat,caught,List.map_cons,List.map_nil,Option.join_some])
     refine ⟨_,SqT.of upd_same,rfl,_,_,rfl,_,_,rfl,rfl,⟨[some (.int i),some (.ref z)],rfl,rfl⟩,_,.inl ((s3.trans s4).seq (SqL.of R9.ha)),?_⟩
     rw [List.length_map,rl]
     refine ⟨L.m+1,i,rfl,oc12 m1,λ l1 H4 s5 _ hl1=>?_⟩
     have la:atI (List.map V.int (L.rowL i)) (-1)=some (.int (L.be i)):=atI_last (by rw [List.length_map,Lpd.rowL_length,List.getElem?_map,Nat.add_sub_cancel,L.rowL_last];rfl)
     refine ⟨z,rfl,_,SqL.of ((s4.trans s5) _ _ hrow),_,la,sz1,λ l2 hl2=>⟨l1,rfl,_,Same.upd hl2 _ _ hl1,_,upd_same,by rw [List.length_map,ofF_length,sizeLine_eq];exact oc3 m1,λ l3 hl3=>?_⟩⟩
     refine ⟨(((s3.trans s4).trans s5).trans (Same.upd hl2)).trans (Same.upd hl3),kps++[l3],by rw [List.map_append];rfl,?_⟩
     rw [ofF_snoc i (L.keptL L.ins0)]
     refine RwsAt.snoc ((((hkp.same s4).same s5).same (Same.upd hl2)).same (Same.upd hl3)) ?_
     rw [upd_same]
     unfold Lpd.keptL
     rw [Lpd.T_start fl (Nat.lt_succ_of_le im),List.map_append]
     congr 3
     show _=_
     congr 1
     refine ofF_congr λ k hk=>?_
     rw [Lpd.T_start fl (Nat.lt_succ_of_le im)]
     unfold e1
     by_cases e:i=k
     ·rw [if_pos e.symm,if_pos e]
     ·rw [if_neg (Ne.symm e),if_neg e]
    ·rintro zs H3 _ ⟨s3,kps,rfl,hkp⟩ kl hkl
     rw [List.length_map,rl] at hkp
     have s11:=s3.trans (Same.upd (o:=HO.lst (List.map V.ref kps)) hkl)
     have hkp11:=hkp.same (Same.upd (o:=HO.lst (List.map V.ref kps)) hkl)
     have hkl11:(upd H3 kl (.lst (List.map V.ref kps))) kl=some (.lst (List.map V.ref kps)):=upd_same
     generalize upd H3 kl (.lst (List.map V.ref kps))=H11 at s11 hkp11 hkl11
     have t11:=s11 _ _ t9
     have I11:IsI H11 t:=⟨_,_,_,t11⟩
     refine ⟨_,_,_,t11,C.cl,C.nk,by show 2<1000;decide,?_⟩
     have b12:Sb t H11 (upd H11 t (.ins (gadr K "Corner") dx (putF "kept" (.ref kl) (putF "spans" (.ref sp) (putF "begun" (.ref bl) []))))):=Sb.at
     have t12:(upd H11 t (.ins (gadr K "Corner") dx (putF "kept" (.ref kl) (putF "spans" (.ref sp) (putF "begun" (.ref bl) []))))) t=some (.ins (gadr K "Corner") dx (putF "kept" (.ref kl) (putF "spans" (.ref sp) (putF "begun" (.ref bl) [])))):=upd_same
     generalize upd H11 t (.ins (gadr K "Corner") dx (putF "kept" (.ref kl) (putF "spans" (.ref sp) (putF "begun" (.ref bl) []))))=H12 at b12 t12
     have b012:Sb t H H12:=b09.trans ((Sb.of s11).trans b12)
     have I12:IsI H12 t:=⟨_,_,_,t12⟩
     have hbp12:=b12.rws I11 (hbp9.same s11)
     have hbl12:=b12.lst I11 (s11 _ _ hbl9)
     have hsp12:=b12.lst I11 (s11 _ _ hsp9)
     have hkp12:=b12.rws I11 hkp11
     have hkl12:=b12.lst I11 hkl11
     have R12:=R.sb b012 hI
     clear b12 s11 I11 t11 hbp9 hbl9 hsp9 hkp hkp11 hkl11 s3 b09 t9 I9 R9 hkl
     (try dsimp? [t_Corner_init_r1,sFld,tComp,iRng1];try simp_arith [t_Corner_init_r1,sFld,tComp,iRng1])
     refine ⟨_,.inl (SqL.of R12.ha),?_⟩
     rw [List.length_map,rl,oc10,Int.toNat_natCast]
     refine ⟨(oc7 m1).1,(oc7 m1).2,comp_range (lo:=0) (W:=WEq H12 λ i zs=>zs=List.map V.int (ofF i λ i=>((L.ins0 i:Nat):Int))) (by rw [sizeLine_eq];exact oc9 m1) ⟨rfl,rfl⟩ ?_ ?_⟩
     ·rintro i zs H13 hi _ ⟨rfl,rfl⟩
      (try dsimp? [t_Corner_init_c1,tFld,caught,List.map_cons,List.map_nil,Option.join_some];try simp_arith [t_Corner_init_c1,tFld,caught,List.map_cons,List.map_nil,Option.join_some])
      refine ⟨_,_,_,t12,C.cl,C.nb,_,rfl,bl,rfl,_,.inl (SqL.of hbl12),rfl,?_⟩
      show _=List.map V.int (ofF (i+1) λ i=>((L.ins0 i:Nat):Int))
      rw [ofF_snoc,List.map_append,List.length_map,bpl]
      congr 3
      unfold Lpd.ins0
      show (L.n:Int)+(0+(i:Int))=((L.n+i:Nat):Int)
      omega
     ·rintro zs H13 _ ⟨rfl,rfl⟩ ins hins
      have s14:=Same.upd (o:=HO.lst (List.map V.int (L.insL L.ins0))) hins
      have i14:(upd H13 ins (.lst (List.map V.int (L.insL L.ins0)))) ins=some (.lst (List.map V.int (L.insL L.ins0))):=upd_same
      have nit:ins≠t:=λ e=>by rw [e,t12] at hins;cases hins
      have hinsH:H ins=none:=b012.free hins nit
      show ∃ x x_3 x_4,upd H13 ins (.lst (List.map V.int (L.insL L.ins0))) t=some (HO.ins x x_3 x_4)∧_
      have t14:=s14 _ _ t12
      have nb:∀ {a:Addr} {o:HO},H13 a=some o→a≠ins:=λ e z=>by rw [z,hins] at e;cases e
      have nt:∀ {a:Addr} {xs:List V},H13 a=some (.lst xs)→a≠t:=λ e=>ne_of e t12 (by intro z;cases z)
      refine ⟨_,_,_,t14,C.cl,C.ni,by show 3<1000;decide,q ins _ hinsH ((b012.trans (Sb.of s14)).trans Sb.at) ⟨dx,bl,sp,kl,bps,sss,kps,?_,?_,?_,?_,sl',sb',?_,?_,?_⟩⟩
      ·rw [upd_same];rfl
      ·rw [mn_upd (.inl rfl),mn_upd (.inr rfl)];exact mn_of hbl12 (nt hbl12) (nb hbl12)
      ·rw [mn_upd (.inl rfl),mn_upd (.inr rfl)];exact hbp12.mn (hbp12.notI I12) (hbp12.notN hins)
      ·rw [mn_upd (.inl rfl),mn_upd (.inr rfl)];exact mn_of hsp12 (nt hsp12) (nb hsp12)
      ·rw [mn_upd (.inl rfl),mn_upd (.inr rfl)];exact mn_of hkl12 (nt hkl12) (nb hkl12)
      ·rw [mn_upd (.inl rfl),mn_upd (.inr rfl)];exact hkp12.mn (hkp12.notI I12) (hkp12.notN hins)
      ·rw [upd_ne nit];exact i14
noncomputable def N_bits_beyond:List PySem.Str:=["column", "longs"]
noncomputable def sp_bits_beyond (K:W.Frag):Sp:=λ vs H Q _=>∃ a b xs ls,vs=[.ref a,.ref b]∧SqL K H a (List.map V.int xs)∧SqL K H b (List.map V.int ls)∧xs.length=ls.length∧xs.length≤200∧∀ (w:Int) H',Same H H'→(∀ (i:Nat) x l,xs[i]?=some x→ls[i]?=some l→x≠0→(ib x:Int) - l≤w)→(w=0∨∃ (i:Nat) (x l:Int),xs[i]?=some x∧ls[i]?=some l∧w=(ib x:Int) - l)→Q (.int w) H'
noncomputable def t_bits_beyond_c1 (K:W.Frag):TE:=(tOp rSubI (tBM0 K "int" rBits (tVar 0)) (tVar 1))
noncomputable def t_bits_beyond_g1 (K:W.Frag):TG:=(gTup K 2 (gCons (gName 0) (gCons (gName 1) gNil)))
noncomputable def t_bits_beyond (K:W.Frag):TS:=(tRet (tMaxD K (tCons (tCompGI (iZip K (tCons (tVar 0) (tCons (tVar 1) tNil))) 2 [] (t_bits_beyond_g1 K) (tTest (tOp rNe (tVar 0) (tC (.int 0)))) (t_bits_beyond_c1 K)) tNil) (tC (.int 0))))
theorem len_bits_beyond {K vs H Q E} (h:sp_bits_beyond K vs H Q E):vs.length=2:=by obtain ⟨_,_,_,_,rfl,_⟩:=h;rfl
theorem rd_bits_beyond {K vs H Q E} (h:sp_bits_beyond K vs H Q E):t_bits_beyond K { nx:=λ _ H'=>Q .non H',rt:=Q } (start N_bits_beyond vs) H:=by
 obtain ⟨a,b,xs,ls,rfl,ha,hb,el,nl,q⟩:=h
 rw [show start N_bits_beyond [V.ref a,V.ref b]=[some (.ref a),some (.ref b)] from rfl]
 (try dsimp? [t_bits_beyond,tCompGI,iZip,tMaxD];try simp_arith [t_bits_beyond,tCompGI,iZip,tMaxD])
 refine ⟨⟨_,ha⟩,⟨_,hb⟩,compGI_zip (K:=K) (a:=a) (b:=b) (xs:=List.map V.int xs) (ys:=List.map V.int ls) (λ i zs H3=>Same H H3∧∃ ns:List Int,zs=List.map V.int ns∧(∀ n∈ns,∃ (k:Nat) (x l:Int),xs[k]?=some x∧ls[k]?=some l∧n=(ib x:Int) - l)∧∀ (k:Nat) x l,k<i→xs[k]?=some x→ls[k]?=some l→x≠0→(ib x:Int) - l∈ns) (by rw [List.length_map,sizeLine_eq];omega) (by rw [List.length_map,List.length_map];exact el) ⟨Same.refl _,[],rfl,(λ _ h=>nomatch h),λ k x l h=>absurd h (Nat.not_lt_zero _)⟩ ?_ ?_ ?_⟩
 ·rintro i zs H3 _ ⟨s3,_⟩
  exact ⟨s3.seq ha,s3.seq hb⟩
 ·rintro i x y p zs H3 hx hy _ ⟨s3,ns,rfl,n1,n2⟩ hp os ho
  obtain ⟨u,rfl,hu⟩:=get_ints hx
  obtain ⟨l,rfl,hl⟩:=get_ints hy
  obtain ⟨o1,o2,rfl⟩:∃ o1 o2,os=[o1,o2]:=by
   match os,ho with
   | [o1,o2],_=>exact ⟨o1,o2,rfl⟩
  have s4:=s3.trans (Same.upd (o:=HO.tup [.int u,.int l]) hp)
  (try dsimp? [t_bits_beyond_g1,t_bits_beyond_c1,tBM0,rBits,caught,List.map_cons,List.map_nil,Option.join_some];try simp_arith [t_bits_beyond_g1,t_bits_beyond_c1,tBM0,rBits,caught,List.map_cons,List.map_nil,Option.join_some])
  refine ⟨_,SqT.of upd_same,rfl,_,_,rfl,_,_,rfl,rfl,⟨[some (.int u),some (.int l)],rfl,rfl⟩,rfl,?_⟩
  have n1':∀ n∈ns,∃ (k:Nat) (x:Int),xs[k]?=some x∧∃ l:Int,ls[k]?=some l∧n=(ib x:Int) - l:=λ n hn=>let ⟨k,x,l,e1,e2,e3⟩:=n1 n hn;⟨k,x,e1,l,e2,e3⟩
  by_cases u0:u=0
  ·rw [decide_eq_true (by rw [u0]:V.int u=V.int 0)]
   refine iteF ⟨s4,ns,rfl,n1',λ k x l' hk e1 e2 h0=>?_⟩
   by_cases e:k=i
   ·subst e
    rw [hu] at e1
    exact absurd ((Option.some.inj e1).symm.trans u0) h0
   ·exact n2 k x l' (by omega) e1 e2 h0
  ·rw [decide_eq_false (λ z=>u0 (by injection z):¬ V.int u=V.int 0)]
   refine iteT ⟨rfl,u,rfl,l,rfl,s4,ns++[(ib u:Int) - l],by rw [List.map_append];rfl,λ n hn=>?_,λ k x l' hk e1 e2 hx=>?_⟩
   ·rcases List.mem_append.mp hn with h | h
    ·exact n1' n h
    ·exact ⟨i,u,hu,l,hl,List.mem_singleton.mp h⟩
   ·by_cases e:k=i
    ·subst e
     rw [hu] at e1
     rw [hl] at e2
     obtain rfl:=Option.some.inj e1
     obtain rfl:=Option.some.inj e2
     exact List.mem_append_right _ (List.mem_singleton.mpr rfl)
    ·exact List.mem_append_left _ (n2 k x l' (by omega) e1 e2 hx)
 ·rintro zs H3 ⟨s3,ns,rfl,n1,n2⟩ p hp
  rw [List.length_map] at n2
  have s4:=s3.trans (Same.upd (o:=HO.lst (List.map V.int ns)) hp)
  have lt:∀ {k:Nat} {x:Int},xs[k]?=some x→k<xs.length:=λ e=>(List.getElem?_eq_some_iff.mp e).1
  refine ⟨ns,SqL.of upd_same,λ z=>q 0 _ s4 (λ k x l e1 e2 hx=>?_) (.inl rfl),λ _ M hM hA=>q M _ s4 (λ k x l e1 e2 hx=>hA _ (n2 k x l (lt e1) e1 e2 hx)) ?_⟩
  ·have:=n2 k x l (lt e1) e1 e2 hx
   rw [z] at this
   exact nomatch this
  ·obtain ⟨k,x,l,e1,e2,e3⟩:=n1 M hM
   exact .inr ⟨k,x,l,e1,e2,e3⟩
noncomputable def N_stretched0:List PySem.Str:=["number", "bits"]
noncomputable def sp_stretched0 (K:W.Frag):Sp:=λ vs H Q _=>∃ n b,vs=[.int n,.int b]∧0≤n∧ib n≤20000∧-1000000≤b∧b≤1000000∧∀ r,Str_ n b r→Q (.int r) H
noncomputable def t_stretched0 (K:W.Frag):TS:=(tSeq (tIfS (tTest (tOp rLtI (tVar 0) (tC (.int 0)))) tNever tNext) (tRet (tIf (tTest (tOp rGtI (tVar 1) (tC (.int 0)))) (tOp rShl (tVar 0) (tVar 1)) (tOp rShr (tVar 0) (tUn rNegI (tVar 1))))))
theorem len_stretched0 {K vs H Q E} (h:sp_stretched0 K vs H Q E):vs.length=2:=by obtain ⟨_,_,rfl,_⟩:=h;rfl
theorem rd_stretched0 {K vs H Q E} (h:sp_stretched0 K vs H Q E):t_stretched0 K { nx:=λ _ H'=>Q .non H',rt:=Q } (start N_stretched0 vs) H:=by
 obtain ⟨n,b,rfl,n0,hi,b1,b2,q⟩:=h
 rw [show start N_stretched0 [V.int n,V.int b]=[some (.int n),some (.int b)] from rfl]
 (try dsimp? [t_stretched0,tIf,rShl,rShr];try simp_arith [t_stretched0,tIf,rShl,rShr])
 rw [if_neg (by omega)]
 refine ite2 (λ h=>⟨⟨by omega,by show (ib n:Int)+b≤_;omega⟩,q _ (str_up (by omega) n0)⟩) (λ h=>⟨by omega,q _ ?_⟩)
 have:=str_down (n:=n) (b:=-b) (by omega) n0
 rwa [Int.neg_neg] at this
noncomputable def N_stretched:List PySem.Str:=["number", "bits"]
noncomputable def sp_stretched (K:W.Frag):Sp:=λ vs H Q _=>∃ n b,vs=[.int n,.int b]∧ib n≤20000∧-1000000≤b∧b≤1000000∧∀ r,Str_ n b r→Q (.int r) H
noncomputable def t_stretched (K:W.Frag):TS:=(tSeq (tIfS (tTest (tOp rLtI (tVar 0) (tC (.int 0)))) (tRet (tUn rNegI (tCall (sp_stretched0 K) [] E0 (tCons (tUn rNegI (tVar 0)) (tCons (tVar 1) tNil))))) tNext) (tRet (tIf (tTest (tOp rGtI (tVar 1) (tC (.int 0)))) (tOp rShl (tVar 0) (tVar 1)) (tOp rShr (tVar 0) (tUn rNegI (tVar 1))))))
theorem len_stretched {K vs H Q E} (h:sp_stretched K vs H Q E):vs.length=2:=by obtain ⟨_,_,rfl,_⟩:=h;rfl
theorem rd_stretched {K vs H Q E} (h:sp_stretched K vs H Q E):t_stretched K { nx:=λ _ H'=>Q .non H',rt:=Q } (start N_stretched vs) H:=by
 obtain ⟨n,b,rfl,hi,b1,b2,q⟩:=h
 rw [show start N_stretched [V.int n,V.int b]=[some (.int n),some (.int b)] from rfl]
 (try dsimp? [t_stretched,tIf,rShl,rShr];try simp_arith [t_stretched,tIf,rShl,rShr])
 refine ite2 (λ h=>⟨-n,b,rfl,by omega,by rw [ib_neg];exact hi,b1,b2,λ r hr=>⟨r,rfl,q _ (str_neg hr h)⟩⟩) (λ h=>?_)
 refine ite2 (λ h=>⟨⟨by omega,by show (ib n:Int)+b≤_;omega⟩,q _ (str_up (by omega) (by omega))⟩) (λ h=>⟨by omega,q _ ?_⟩)
 have:=str_down (n:=n) (b:=-b) (by omega) (by omega)
 rwa [Int.neg_neg] at this
noncomputable def N_shortened:List PySem.Str:=["row", "bits", "wides"]
noncomputable def sp_shortened (K:W.Frag):Sp:=λ vs H Q _=>∃ a w xs ws,∃ b:Int,vs=[.ref a,.int b,.ref w]∧SqL K H a (List.map V.int xs)∧SqL K H w (List.map V.int ws)∧xs.length=ws.length∧xs.length≤200∧(∀ x∈xs,ib x≤20000)∧(-500000≤b∧b≤500000)∧(∀ v∈ws,-500000≤v∧v≤500000) ∧
 ∀ l rs H',Same H H'→H l=none→H' l=some (.lst (List.map V.int rs))→rs.length=xs.length→(∀ (i:Nat) x v r,xs[i]?=some x→ws[i]?=some v→rs[i]?=some r→Str_ x (b - v) r)→Q (.ref l) H'
noncomputable def t_shortened_c1 (K:W.Frag):TE:=(tCall (sp_stretched K) [] E0 (tCons (tVar 0) (tCons (tOp rSubI (tVar 2) (tVar 1)) tNil)))
noncomputable def t_shortened_g1 (K:W.Frag):TG:=(gTup K 2 (gCons (gName 0) (gCons (gName 1) gNil)))
noncomputable def t_shortened (K:W.Frag):TS:=(tRet (tCompG (iZip K (tCons (tVar 0) (tCons (tVar 2) tNil))) 2 [1] (t_shortened_g1 K) (t_shortened_c1 K)))
theorem len_shortened {K vs H Q E} (h:sp_shortened K vs H Q E):vs.length=3:=by obtain ⟨_,_,_,_,_,rfl,_⟩:=h;rfl
theorem snoc_get {α:Type} {l:List α} {x y:α} {h:Nat} (e:(l++[x])[h]?=some y):(l[h]?=some y∧h<l.length)∨(h=l.length∧y=x):=by
 by_cases hlt:h<l.length
 ·rw [List.getElem?_append_left hlt] at e
  exact .inl ⟨e,hlt⟩
 ·have hh:h=l.length:=by have:=(List.getElem?_eq_some_iff.mp e).1;rw [List.length_append] at this;simp at this;omega
  rw [List.getElem?_append_right (by omega),hh,Nat.sub_self] at e
  cases e
  exact .inr ⟨hh,rfl⟩
theorem rd_shortened {K vs H Q E} (h:sp_shortened K vs H Q E):t_shortened K { nx:=λ _ H'=>Q .non H',rt:=Q } (start N_shortened vs) H:=by
 obtain ⟨a,w,xs,ws,b,rfl,ha,hw,el,nl,bx,⟨b1,b2⟩,bw,q⟩:=h
 rw [show start N_shortened [V.ref a,V.int b,V.ref w]=[some (.ref a),some (.int b),some (.ref w)] from rfl]
 (try dsimp? [t_shortened,tCompG,iZip];try simp_arith [t_shortened,tCompG,iZip])
 refine ⟨⟨_,ha⟩,⟨_,hw⟩,compG_zip (K:=K) (a:=a) (b:=w) (xs:=List.map V.int xs) (ys:=List.map V.int ws) (λ i zs H3=>Same H H3∧∃ rs:List Int,zs=List.map V.int rs∧rs.length=i∧∀ (k:Nat) x v r,xs[k]?=some x→ws[k]?=some v→rs[k]?=some r→Str_ x (b - v) r) (by rw [List.length_map,sizeLine_eq];omega) (by rw [List.length_map,List.length_map];exact el) ⟨Same.refl _,[],rfl,rfl,λ k x v r _ _ e=>by simp at e⟩ ?_ ?_ ?_⟩
 ·rintro i zs H3 _ ⟨s3,_⟩
  exact ⟨s3.seq ha,s3.seq hw⟩
 ·rintro i x y p zs H3 hx hy _ ⟨s3,rs,rfl,rl,ok⟩ hp os ho
  obtain ⟨u,rfl,hu⟩:=get_ints hx
  obtain ⟨v,rfl,hv⟩:=get_ints hy
  obtain ⟨o1,o2,rfl⟩:∃ o1 o2,os=[o1,o2]:=by
   match os,ho with
   | [o1,o2],_=>exact ⟨o1,o2,rfl⟩
  have s4:=s3.trans (Same.upd (o:=HO.tup [.int u,.int v]) hp)
  have bv:=bw v (List.mem_of_getElem? hv)
  (try dsimp? [t_shortened_g1,t_shortened_c1,caught,List.map_cons,List.map_nil,Option.join_some];try simp_arith [t_shortened_g1,t_shortened_c1,caught,List.map_cons,List.map_nil,Option.join_some])
  refine ⟨_,SqT.of upd_same,rfl,_,_,rfl,_,_,rfl,rfl,⟨[some (.int u),some (.int v)],rfl,rfl⟩,?_⟩
  refine ⟨_,rfl,u,b - v,rfl,bx u (List.mem_of_getElem? hu),by omega,by omega,λ r hr=>⟨s4,rs++[r],by rw [List.map_append];rfl,by rw [List.length_append,rl];rfl,λ k x' v' r' e1 e2 e3=>?_⟩⟩
  rcases snoc_get e3 with ⟨e3,_⟩ | ⟨ek,rfl⟩
  ·exact ok k x' v' r' e1 e2 e3
  ·rw [ek,rl,hu] at e1
   rw [ek,rl,hv] at e2
   obtain rfl:=Option.some.inj e1
   obtain rfl:=Option.some.inj e2
   exact hr
 ·rintro zs H3 _ ⟨s3,rs,rfl,rl,ok⟩ l hl
  rw [List.length_map] at rl
  exact q l rs _ (s3.trans (Same.upd hl)) (s3.free hl) upd_same rl ok
noncomputable def N_rounded:List PySem.Str:=["lists", "bits", "longs", "wides"]
structure Rnd (L L2:Lpd) (b:Nat):Prop where
 m:L2.m=L.m
 n:L2.n=L.n
 fl:L2.fl=false
 ba:∀ j k,j<L.n→k≤L.m→BB b (L2.a j k)
 bb:∀ k,k≤L.m→BB b (L2.be k)
 nn:∀ k,k≤L.m→0≤L.be k→0≤L2.be k
noncomputable def sp_rounded (K:W.Frag):Sp:=λ vs H Q _=>∃ a rps L,∃ b:Nat,vs=[.ref a,.int b]∧RlAt H a rps L∧1≤L.n∧L.n≤100∧L.m≤100∧b≤9000∧(∀ i,i≤L.m→∀ x∈L.rowL i,BB 20000 x) ∧
 ∀ l qs L2 H',Same H H'→RlAt H' l qs L2→Rnd L L2 b→Q (.ref l) H'
noncomputable def t_rounded_c1 (K:W.Frag):TE:=(tCall (sp_shortened K) [] E0 (tCons (tVar 0) (tCons (tOp rSubI (tVar 3) (tVar 1)) (tCons (tVar 2) tNil))))
noncomputable def t_rounded_g1 (K:W.Frag):TG:=(gTup K 2 (gCons (gName 0) (gCons (gName 1) gNil)))
noncomputable def t_rounded_r1 (K:W.Frag):TS:=(tRet (tCompG (iZip K (tCons (tVar 0) (tCons (tVar 2) tNil))) 2 [3,1] (t_rounded_g1 K) (t_rounded_c1 K)))
noncomputable def t_rounded_c2 (K:W.Frag):TE:=(tCall (sp_bits_beyond K) [] E0 (tCons (tCall (sp_column_of K) [] E0 (tCons (tVar 2) (tCons (tVar 0) tNil))) (tCons (tVar 1) tNil)))
noncomputable def t_rounded_r2 (K:W.Frag):TS:=(tSeq (tAsg (tComp (iRng1 (tCons (tCB (cLen K) (tCons (tOp (rIxL K) (tVar 0) (tC (.int 0))) tNil)) tNil)) [2,0] (t_rounded_c2 K)) (gName 3)) (t_rounded_r1 K))
noncomputable def t_rounded_c3 (K:W.Frag):TE:=(tCall (sp_longest K) [] E0 (tCons (tSl (rSlL K) (tVar 0) tNoPart (tPart (tUn rNegI (tC (.int 1))))) tNil))
noncomputable def t_rounded (K:W.Frag):TS:=(tSeq (tAsg (tComp (iList K (tVar 0)) [] (t_rounded_c3 K)) (gName 2)) (t_rounded_r2 K))
theorem len_rounded {K vs H Q E} (h:sp_rounded K vs H Q E):vs.length=2:=by obtain ⟨_,_,_,_,rfl,_⟩:=h;rfl
theorem rd_rounded {K vs H Q E} (h:sp_rounded K vs H Q E):t_rounded K { nx:=λ _ H'=>Q .non H',rt:=Q } (start N_rounded vs) H:=by
 obtain ⟨a,rps,L,b,rfl,R,n1,n2,m2,b2,bx,q⟩:=h
 have rl:=R.len
 rw [show start N_rounded [V.ref a,V.int b]=[some (.ref a),some (.int b),none,none] from rfl]
 (try dsimp? [t_rounded,tComp,iList];try simp_arith [t_rounded,tComp,iList])
 refine ⟨⟨_,SqL.of R.ha⟩,comp_list (K:=K) (a:=a) (xs:=List.map V.ref rps) (λ i zs H3=>Same H H3∧∃ ls:List Int,zs=List.map V.int ls∧ls.length=i∧∀ (k:Nat) l,ls[k]?=some l→(0≤l∧l≤20000)∧∀ j,j<L.n→(ib (L.a j k):Int)≤l) (by rw [List.length_map,sizeLine_eq];omega) ⟨Same.refl _,[],rfl,rfl,λ k l e=>by simp at e⟩ ?_ ?_ ?_⟩
 ·rintro i zs H3 _ ⟨s3,_⟩
  exact SqL.of (s3 _ _ R.ha)
 ·rintro i x zs H3 hi _ ⟨s3,ls,rfl,ll,lo⟩
  obtain ⟨p,rfl,hp⟩:=get_refs hi
  obtain ⟨im,hrow⟩:=(R.same s3).inv hp
  (try dsimp? [t_rounded_c3,rSlL];try simp_arith [t_rounded_c3,rSlL])
  refine ⟨_,SqL.of hrow,λ z hz=>?_⟩
  rw [cut_row]
  refine ⟨z,_,rfl,SqL.of upd_same,λ e=>?_,by rw [ofF_length];omega,λ M H4 s4 hM ⟨n,hn,eM⟩=>⟨(s3.trans (Same.upd hz)).trans s4,ls++[(M:Int)],by rw [List.map_append];rfl,by rw [List.length_append,ll];rfl,λ k l e=>?_⟩⟩
  ·have:=congrArg List.length e
   rw [ofF_length] at this
   simp at this;omega
  ·rcases snoc_get e with ⟨e,_⟩ | ⟨ek,rfl⟩
   ·exact and_assoc.mp (lo k l e)
   ·rw [ek,ll]
    obtain ⟨j,hj,rfl⟩:=ofF_mem hn
    have:ib (L.a j i)≤20000:=ib_le (bx i im _ (List.mem_append_left _ (List.mem_of_getElem? (ofF_get (λ j=>L.a j i) hj))))
    refine and_assoc.mp ⟨by omega,λ j hj=>?_⟩
    have:=hM _ (List.mem_of_getElem? (ofF_get (λ j=>L.a j i) hj))
    omega
 ·rintro zs H3 _ ⟨s3,ls,rfl,ll,lo⟩ lz hlz
  rw [List.length_map,rl] at ll
  have s4:=s3.trans (Same.upd (o:=HO.lst (List.map V.int ls)) hlz)
  have lz4:(upd H3 lz (HO.lst (List.map V.int ls))) lz=some (HO.lst (List.map V.int ls)):=upd_same
  generalize upd H3 lz (HO.lst (List.map V.int ls))=H4 at s4 lz4
  clear s3 hlz
  have R4:=R.same s4
  obtain ⟨p0,ep0,hp0⟩:=R4.row (Nat.zero_le L.m)
  (try dsimp? [t_rounded_r2,tComp,iRng1];try simp_arith [t_rounded_r2,tComp,iRng1])
  refine ⟨_,SqL.of R4.ha,V.ref p0,atI_nat (j:=0) (by rw [List.getElem?_map,ep0];rfl),p0,rfl,_,.inl (SqL.of hp0),?_⟩
  rw [List.length_map,Lpd.rowL_length,Int.toNat_natCast]
  refine ⟨by omega,by omega,comp_range (lo:=0) (W:=λ j zs H5=>Same H4 H5∧∃ ws:List Int,zs=List.map V.int ws∧ws.length=j∧∀ (k:Nat) w,ws[k]?=some w→(-20000≤w∧w≤20000)∧∀ (i:Nat) x l,i≤L.m→(L.rowL i)[k]?=some x→ls[i]?=some l→x≠0→(ib x:Int) - l≤w) (by rw [sizeLine_eq];omega) ⟨Same.refl _,[],rfl,rfl,λ k l e=>by simp at e⟩ ?_ ?_⟩
  ·rintro j zs H5 hj _ ⟨s5,ws,rfl,wl,wo⟩
   (try dsimp? [t_rounded_c2,caught,List.map_cons,List.map_nil,Option.join_some];try simp_arith [t_rounded_c2,caught,List.map_cons,List.map_nil,Option.join_some,Int.zero_add])
   refine ⟨a,rps,_,(j:Int),j,rfl,SqL.of (s5 _ _ R4.ha),(R4.same s5).hr,by rw [ofF_length];omega,λ r hr=>?_,λ c H6 s6 hc0 hc6=>?_⟩
   ·obtain ⟨i,hi,rfl⟩:=ofF_mem hr
    exact atI_nat0 (by rw [Lpd.rowL_length];omega)
   ·have e:(ofF (L.m+1) L.rowL).map (λ r=>r.getD j 0)=ofF (L.m+1) λ i=>(L.rowL i).getD j 0:=by unfold ofF;rw [List.map_map];rfl
    rw [e] at hc6
    have s46:=s5.trans s6
    refine ⟨c,lz,_,ls,rfl,SqL.of hc6,SqL.of (s46 _ _ lz4),by rw [ofF_length,ll],by rw [ofF_length];omega,λ w H7 s7 w1 w2=>⟨s46.trans s7,ws++[w],by rw [List.map_append];rfl,by rw [List.length_append,wl];rfl,λ k w' e'=>?_⟩⟩
    rcases snoc_get e' with ⟨e',_⟩ | ⟨ek,rfl⟩
    ·exact and_assoc.mp (wo k w' e')
    ·rw [ek,wl]
     refine and_assoc.mp ⟨?_,λ i x l hi ex el hx=>?_⟩
     ·rcases w2 with w0 | ⟨i,x,l,ex,el,ew⟩
      ·omega
      ·obtain ⟨him,rfl⟩:=ofF_inv ex
       have hb:ib ((L.rowL i).getD j 0)≤20000:=ib_le (bx i (by omega) _ (getD_mem (by rw [Lpd.rowL_length];omega)))
       have:=(lo i l el).1
       omega
     ·have:=w1 i x l (by rw [ofF_get _ (show i<L.m+1 by omega),getD_of ex]) el hx
      exact this
  ·rintro zs H5 _ ⟨s5,ws,rfl,wl,wo⟩ wz hwz
   have s6:=s5.trans (Same.upd (o:=HO.lst (List.map V.int ws)) hwz)
   have wz6:(upd H5 wz (HO.lst (List.map V.int ws))) wz=some (HO.lst (List.map V.int ws)):=upd_same
   generalize upd H5 wz (HO.lst (List.map V.int ws))=H6 at s6 wz6
   have s06:=s4.trans s6
   have R6:=R.same s06
   have lz6:=s6 _ _ lz4
   clear s5 hwz s6 lz4 R4 hp0 ep0
   (try dsimp? [t_rounded_r1,tCompG,iZip];try simp_arith [t_rounded_r1,tCompG,iZip])
   refine ⟨⟨_,SqL.of R6.ha⟩,⟨_,SqL.of lz6⟩,compG_zip (K:=K) (a:=a) (b:=lz) (xs:=List.map V.ref rps) (ys:=List.map V.int ls) (λ i zs H7=>Same H6 H7∧∃ qs rows,zs=List.map V.ref qs∧RwsAt H7 qs rows∧rows.length=i∧∀ (k:Nat) row,rows[k]?=some row→row.length=L.n+1∧∀ (j:Nat) x v r l,(L.rowL k)[j]?=some x→ws[j]?=some v→row[j]?=some r→ls[k]?=some l→Str_ x ((b:Int) - l - v) r) (by rw [List.length_map,sizeLine_eq];omega) (by rw [List.length_map,List.length_map];omega) ⟨Same.refl _,[],[],rfl,trivial,rfl,λ k row e=>by simp at e⟩ ?_ ?_ ?_⟩
   ·rintro i zs H7 _ ⟨s7,_⟩
    exact ⟨SqL.of (s7 _ _ R6.ha),SqL.of (s7 _ _ lz6)⟩
   ·rintro i x y p zs H7 hx hy _ ⟨s7,qs,rows,rfl,hq,ql,ok⟩ hp os ho
    obtain ⟨z,rfl,hz⟩:=get_refs hx
    obtain ⟨l,rfl,hl⟩:=get_ints hy
    obtain ⟨o1,o2,rfl⟩:∃ o1 o2,os=[o1,o2]:=by
     match os,ho with
     | [o1,o2],_=>exact ⟨o1,o2,rfl⟩
    obtain ⟨im,hrow⟩:=(R6.same s7).inv hz
    have s8:=Same.upd (o:=HO.tup [.ref z,.int l]) hp
    have bl:=(lo i l hl).1
    (try dsimp? [t_rounded_g1,t_rounded_c1,caught,List.map_cons,List.map_nil,Option.join_some];try simp_arith [t_rounded_g1,t_rounded_c1,caught,List.map_cons,List.map_nil,Option.join_some])
    refine ⟨_,SqT.of upd_same,rfl,_,_,rfl,_,_,rfl,rfl,⟨[some (.ref z),some (.int l)],rfl,rfl⟩,?_⟩
    generalize upd H7 p (HO.tup [.ref z,.int l])=H8 at s8
    refine ⟨_,rfl,z,wz,L.rowL i,ws,(b:Int) - l,rfl,SqL.of (s8 _ _ hrow),SqL.of ((s7.trans s8) _ _ wz6),by rw [Lpd.rowL_length,wl],by rw [Lpd.rowL_length];omega,λ x hx=>ib_le (bx i im x hx),⟨by omega,by omega⟩,λ v hv=>?_,λ lr rs H9 s9 hl0 hl9 rsl st=>⟨(s7.trans s8).trans s9,qs++[lr],by rw [List.map_append];rfl,rows++[rs],RwsAt.snoc ((hq.same s8).same s9) hl9,by rw [List.length_append,ql];rfl,λ k row e=>?_⟩⟩
    ·obtain ⟨j,hj⟩:=List.getElem?_of_mem hv
     have:=(wo j v hj).1
     omega
    ·rcases snoc_get e with ⟨e,_⟩ | ⟨ek,rfl⟩
     ·exact ok k row e
     ·rw [ek,ql]
      refine ⟨by rw [rsl,Lpd.rowL_length],λ j x v r l' e1 e2 e3 e4=>?_⟩
      rw [hl] at e4
      obtain rfl:=Option.some.inj e4
      exact st j x v r e1 e2 e3
   ·rintro zs H7 _ ⟨s7,qs,rows,rfl,hq,ql,ok⟩ l hl
    rw [List.length_map,rl] at ql
    have s8:=Same.upd (o:=HO.lst (List.map V.ref qs)) hl
    have rlen:∀ r∈rows,r.length=L.n+1:=λ r hr=>by
     obtain ⟨k,hk⟩:=List.getElem?_of_mem hr
     exact (ok k r hk).1
    have er:=LpR_rows ql rlen
    refine q l qs (LpR rows L.m L.n) _ ((s06.trans s7).trans s8) ⟨upd_same,by show RwsAt _ qs (ofF (L.m+1) (LpR rows L.m L.n).rowL);rw [er];exact hq.same s8⟩ ?_
    have cell:∀ (k j:Nat),k≤L.m→j<L.n+1→∀ x,(L.rowL k)[j]?=some x→BB b ((rows.getD k []).getD j 0)∧(0≤x→0≤(rows.getD k []).getD j 0):=λ k j hk hj x hx=>by
     have ek:rows[k]?=some rows[k]:=List.getElem?_eq_getElem (by omega)
     obtain ⟨len,st⟩:=ok k _ ek
     have eg:rows.getD k []=rows[k]:=by rw [List.getD_eq_getElem?_getD,ek];rfl
     have el:ls[k]?=some ls[k]:=List.getElem?_eq_getElem (by omega)
     have ew:ws[j]?=some ws[j]:=List.getElem?_eq_getElem (by omega)
     have S:=st j x _ _ _ hx ew (get_getD (show j<(rows[k]).length by omega)) el
     rw [eg]
     refine ⟨?_,S.nn⟩
     by_cases x0:x=0
     ·rw [S.zz x0];show (0:Int).natAbs<_;exact Nat.two_pow_pos _
     ·exact S.bb b (by have:=(wo j _ ew).2 k x _ hk hx el x0;omega)
    exact ⟨rfl,rfl,rfl,λ j k hj hk=>(cell k j hk (by omega) _ (L.rowL_get k hj)).1,λ k hk=>(cell k L.n hk (by omega) _ (L.rowL_last k)).1,λ k hk h0=>(cell k L.n hk (by omega) _ (L.rowL_last k)).2 h0⟩
noncomputable def N_products:List PySem.Str:=["one", "other"]
noncomputable def sp_products (K:W.Frag):Sp:=λ vs H Q _=>∃ a b,∃ n:Nat,∃ xs ys,∃ f g:Nat→Int,vs=[.ref a,.ref b]∧SqL K H a (List.map V.int xs)∧SqL K H b (List.map V.int ys)∧n≤200∧n≤xs.length∧n≤ys.length∧(xs.length≤n∨ys.length≤n)∧(∀ k,k<n→xs[k]?=some (f k)∧ys[k]?=some (g k)∧BB 20000 (f k)∧BB 20000 (g k))∧∀ H',Same H H'→Q (.int (sm n λ k=>f k*g k)) H'
noncomputable def t_products_c1 (K:W.Frag):TE:=(tOp rMulI (tVar 0) (tVar 1))
noncomputable def t_products_g1 (K:W.Frag):TG:=(gTup K 2 (gCons (gName 0) (gCons (gName 1) gNil)))
noncomputable def t_products (K:W.Frag):TS:=(tRet (tCB (cSum K) (tCons (tCompG (iZip K (tCons (tVar 0) (tCons (tVar 1) tNil))) 2 [] (t_products_g1 K) (t_products_c1 K)) tNil)))
theorem len_products {K vs H Q E} (h:sp_products K vs H Q E):vs.length=2:=by obtain ⟨_,_,_,_,_,_,_,rfl,_⟩:=h;rfl
theorem rd_products {K vs H Q E} (h:sp_products K vs H Q E):t_products K { nx:=λ _ H'=>Q .non H',rt:=Q } (start N_products vs) H:=by
 obtain ⟨a,b,n,xs,ys,f,g,rfl,hA,hB,hn,h1,h2,h3,h4,q⟩:=h
 rw [show start N_products [V.ref a,V.ref b]=[some (.ref a),some (.ref b)] from rfl]
 (dsimp! [t_products,tCompG,iZip,cSum,tVar,tRet,tCons,tNil,tCB])
 refine ⟨⟨_,hA⟩,⟨_,hB⟩,compG_zipN (K:=K) (a:=a) (b:=b) (xs:=List.map V.int xs) (ys:=List.map V.int ys) n (λ i zs H3=>Same H H3∧zs=List.map V.int (ofF i λ k=>f k*g k)) (by rw [sizeLine_eq];omega) (by rw [List.length_map];omega) (by rw [List.length_map];omega) (by rw [List.length_map,List.length_map];exact h3) ⟨Same.refl _,rfl⟩ ?_ ?_ ?_⟩
 ·rintro i zs H3 _ ⟨s3,_⟩
  exact ⟨s3.seq hA,s3.seq hB⟩
 ·rintro i x y p zs H3 hx hy hi _ ⟨s3,rfl⟩ hp os ho
  obtain ⟨e1,e2,b1,b2⟩:=h4 i hi
  obtain ⟨c,rfl,hc⟩:=get_ints hx
  obtain ⟨d,rfl,hd⟩:=get_ints hy
  rw [hc] at e1
  rw [hd] at e2
  obtain rfl:=Option.some.inj e1
  obtain rfl:=Option.some.inj e2
  obtain ⟨o1,o2,rfl⟩:∃ o1 o2,os=[o1,o2]:=by
   match os,ho with
   | [o1,o2],_=>exact ⟨o1,o2,rfl⟩
  (dsimp! [t_products_g1,t_products_c1,gName,tVar,tOp,rI,rMulI,gTup,gCons,gNil,Lca,Lna])
  refine ⟨_,SqT.of upd_same,rfl,_,_,rfl,_,_,rfl,rfl,⟨[some (.int (f i)),some (.int (g i))],rfl,rfl⟩,_,rfl,_,rfl,.b b1 b2,s3.trans (Same.upd hp),?_⟩
  rw [ofF_snoc,List.map_append];rfl
 ·rintro ys2 H3 _ ⟨s3,rfl⟩ l hl
  refine ⟨_,SqL.of upd_same,?_⟩
  rw [ofF_sum]
  exact q _ (s3.trans (Same.upd hl))
noncomputable def N_Corner_entering:List PySem.Str:=["self", "last", "lacks", "found", "place", "lack"]
noncomputable def oV:Option Nat→V
 | none=>.non
 | some f=>.int f
noncomputable def EntO (L:Lpd) (s:Nat→Nat) (i:Nat):Option Nat→Prop
 | none=>∀ c,c<i→0≤L.T s L.m (L.cv c)
 | some c=>c<i∧L.T s L.m (L.cv c)<0
noncomputable def sp_Corner_entering (K:W.Frag):Sp:=λ vs H Q _=>∃ t ins L s,vs=[.ref t]∧CorAt K H t ins L s∧L.Lim∧L.Okn s∧∀ o H',Same H H'→EntO L s (L.n+L.m) o→Q (oV o) H'
noncomputable def iv_entering (t p l:Addr) (L:Lpd) (s:Nat→Nat) (H0:Hp):Nat→St→Hp→Prop:=λ i σ H3=>∃ o o1 o2,σ=[some (.ref t),some (.ref p),some (.ref l),some (oV o),o1,o2]∧Same H0 H3∧EntO L s i o
noncomputable def t_Corner_entering_b1 (K:W.Frag):TS:=(tIfS (tAnd (tTest (tOp rLtI (tVar 5) (tC (.int 0)))) (tOr (tTest (tOp rIsN (tVar 3) (tC .non))) (tTest (tOp rLtI (tOp rMulI (tVar 5) (tOp (rIxL K) (tFld K (tVar 0) "spans") (tVar 3))) (tOp rMulI (tOp (rIxL K) (tVar 2) (tVar 3)) (tOp (rIxL K) (tFld K (tVar 0) "spans") (tVar 4))))))) (tAsg (tVar 4) (gName 3)) tNext)
noncomputable def t_Corner_entering_g1 (K:W.Frag):TG:=(gTup K 2 (gCons (gName 4) (gCons (gName 5) gNil)))
noncomputable def t_Corner_entering_r1 (K:W.Frag):TS:=(tSeq (tAsg (tC .non) (gName 3)) (tSeq (tFor (iEnum K (tVar 2)) (t_Corner_entering_g1 K) (t_Corner_entering_b1 K)) (tRet (tVar 3))))
noncomputable def t_Corner_entering_c1 (K:W.Frag):TE:=(tCall (sp_products K) [] E0 (tCons (tVar 0) (tCons (tVar 1) tNil)))
noncomputable def t_Corner_entering_r2 (K:W.Frag):TS:=(tSeq (tAsg (tOp rCat (tComp (iList K (tFld K (tVar 0) "begun")) [1] (t_Corner_entering_c1 K)) (tSl (rSlL K) (tVar 1) tNoPart (tPart (tCB (cLen K) (tCons (tFld K (tVar 0) "inside") tNil))))) (gName 2)) (t_Corner_entering_r1 K))
noncomputable def t_Corner_entering (K:W.Frag):TS:=(tSeq (tAsg (tOp (rIxL K) (tFld K (tVar 0) "kept") (tUn rNegI (tC (.int 1)))) (gName 1)) (t_Corner_entering_r2 K))
theorem len_Corner_entering {K vs H Q E} (h:sp_Corner_entering K vs H Q E):vs.length=1:=by obtain ⟨_,_,_,_,rfl,_⟩:=h;rfl
theorem cut_to {ns:List Int} {n:Nat} (h:n≤ns.length):cutV (List.map V.int ns) none (some (n:Int))=List.map V.int (ns.take n):=by
 unfold cutV
 have e:HT.sIx (List.map V.int ns).length (List.map V.int ns).length (some (n:Int))=n:=by
  show (if (n:Int)<0 then ((n:Int)+((List.map V.int ns).length:Int)).toNat else min (n:Int).toNat (List.map V.int ns).length)=n
  rw [if_neg (by omega),List.length_map,Int.toNat_natCast]
  exact Nat.min_eq_left h
 rw [HT.sIx_none,e,List.drop_zero,Nat.sub_zero,List.map_take]
theorem ofF_add {α:Type} (n m:Nat) (f:Nat→α):ofF n f++ofF m (λ k=>f (n+k))=ofF (n+m) f:=by
 induction m with
 | zero=>exact List.append_nil _
 | succ m ih=>rw [ofF_snoc,← List.append_assoc,ih,← Nat.add_assoc,ofF_snoc]
theorem keptL_take (L:Lpd) (s:Nat→Nat) (i:Nat):(L.keptL s i).take L.m=ofF L.m λ k=>L.T s i (e1 k):=by
 apply List.ext_getElem?
 intro k
 by_cases hk:k<L.m
 ·rw [List.getElem?_take_of_lt hk,L.keptL_get s i (by omega),ofF_get _ hk]
 ·rw [List.getElem?_eq_none (by rw [List.length_take];omega),List.getElem?_eq_none (by rw [ofF_length];omega)]
theorem rd_Corner_entering {K vs H Q E} (C:CorK K) (h:sp_Corner_entering K vs H Q E):t_Corner_entering K { nx:=λ _ H'=>Q .non H',rt:=Q } (start N_Corner_entering vs) H:=by
 obtain ⟨t,ins,L,s,rfl,⟨dx,b,sp,k,bs,ss,ks,P⟩,lim,ok,q⟩:=h
 have bl:=P.bl
 have kl:=P.kl
 have m1:=lim.m1
 have n1:=lim.n1
 obtain ⟨p,_,atp,hrow⟩:=P.last
 rw [show start N_Corner_entering [V.ref t]=[some (.ref t),none,none,none,none,none] from rfl]
 (try dsimp? [t_Corner_entering,tFld];try simp_arith [t_Corner_entering,tFld])
 refine ⟨_,_,_,P.ob,C.cl,C.nk,_,cfl_kept _ _ _ _,_,rfl,_,SqL.of P.Kp,_,atp,?_⟩
 (try dsimp? [t_Corner_entering_r2,tFld,tComp,iList,rCat];try simp_arith [t_Corner_entering_r2,tFld,tComp,iList,rCat])
 refine ⟨_,_,_,P.ob,C.cl,C.nb,_,cfl_begun _ _ _ _,_,rfl,⟨_,SqL.of P.B⟩,comp_list (K:=K) (a:=b) (xs:=List.map V.ref bs) (λ i zs H3=>Same H H3∧zs=List.map V.int (ofF i λ j=>L.T s L.m (L.cv j))) ?_ ⟨Same.refl _,rfl⟩ ?_ ?_ ?_⟩
 ·rw [List.length_map,sizeLine_eq];omega
 ·rintro i ys H3 _ ⟨s3,_⟩
  exact s3.seq (SqL.of P.B)
 ·rintro i x ys H3 hi _ ⟨s3,rfl⟩
  obtain ⟨pc,rfl,hp⟩:=get_refs hi
  have hin:i<L.n:=by have:=(List.getElem?_eq_some_iff.mp hp).1;omega
  obtain ⟨r,er,hcol⟩:=P.Bs.get hp
  obtain ⟨_,rfl⟩:=ofF_inv er
  (dsimp! [t_Corner_entering_c1,caught,List.map_cons,List.map_nil,Option.join_some,tVar,tCall,tCons,tNil,List.append_nil])
  refine ⟨_,_,L.m+1,_,_,L.a i,λ k=>L.T s L.m (e1 k),rfl,s3.seq (SqL.of hcol),s3.seq (SqL.of hrow),by omega,?_,?_,.inl ?_,λ j hj=>⟨ofF_get _ hj,L.keptL_get s L.m (by omega),lim.ba _ _ hin (by omega),lim.bk _ _ _ ok (Nat.le_refl _) (by omega)⟩,λ H4 s4=>⟨s3.trans s4,?_⟩⟩
  ·unfold Lpd.colL;rw [ofF_length];exact Nat.le_refl _
  ·rw [Lpd.keptL_length];omega
  ·unfold Lpd.colL;rw [ofF_length];exact Nat.le_refl _
  ·rw [L.T_prod s (Nat.le_refl _) hin,ofF_snoc,List.map_append];rfl
 ·rintro ys H3 _ ⟨s3,rfl⟩ l1 hl1
  rw [List.length_map,bl]
  have s4:=s3.trans (Same.upd (o:=HO.lst (List.map V.int (ofF L.n λ j=>L.T s L.m (L.cv j)))) hl1)
  have hl4:(upd H3 l1 (.lst (List.map V.int (ofF L.n λ j=>L.T s L.m (L.cv j))))) l1=_:=upd_same
  generalize upd H3 l1 (.lst (List.map V.int (ofF L.n λ j=>L.T s L.m (L.cv j))))=H4 at s4 hl4
  refine ⟨_,_,_,s4 _ _ P.ob,C.cl,C.ni,_,cfl_inside _ _ _ _,_,rfl,_,.inl (s4.seq (SqL.of P.hi)),?_⟩
  have il:(L.insL s).length=L.m:=by unfold Lpd.insL;rw [ofF_length]
  rw [List.length_map,il]
  refine ⟨_,s4.seq (SqL.of hrow),λ l2 hl2=>?_⟩
  rw [cut_to (by rw [Lpd.keptL_length];omega),keptL_take]
  have s5:=s4.trans (Same.upd (o:=HO.lst (List.map V.int (ofF L.m λ k=>L.T s L.m (e1 k)))) hl2)
  refine ⟨_,Same.upd hl2 _ _ hl4,_,upd_same,by rw [List.length_map,List.length_map,ofF_length,ofF_length,sizeLine_eq];omega,λ l3 hl3=>?_⟩
  have s6:=s5.trans (Same.upd (o:=HO.lst (List.map V.int (ofF L.n λ j=>L.T s L.m (L.cv j))++List.map V.int (ofF L.m λ k=>L.T s L.m (e1 k)))) hl3)
  have e:List.map V.int (ofF L.n λ j=>L.T s L.m (L.cv j))++List.map V.int (ofF L.m λ k=>L.T s L.m (e1 k))=List.map V.int (ofF (L.n+L.m) λ c=>L.T s L.m (L.cv c)):=by
   rw [← List.map_append,← ofF_add]
   congr 2
   exact ofF_congr λ k _=>by rw [L.cv_spare]
  rw [e] at s6 ⊢
  have h3:(upd (upd H4 l2 (.lst (List.map V.int (ofF L.m λ k=>L.T s L.m (e1 k))))) l3 (.lst (List.map V.int (ofF (L.n+L.m) λ c=>L.T s L.m (L.cv c))))) l3=_:=upd_same
  generalize upd (upd H4 l2 (.lst (List.map V.int (ofF L.m λ k=>L.T s L.m (e1 k))))) l3 (.lst (List.map V.int (ofF (L.n+L.m) λ c=>L.T s L.m (L.cv c))))=H6 at s6 h3
  (try dsimp? [t_Corner_entering_r1,tFor,iEnum];try simp_arith [t_Corner_entering_r1,tFor,iEnum])
  refine ⟨⟨_,SqL.of h3⟩,for_enum (K:=K) (a:=l3) (xs:=List.map V.int (ofF (L.n+L.m) λ c=>L.T s L.m (L.cv c))) (g:=t_Corner_entering_g1 K) (D:={ nx:=tRet (tVar 3) { nx:=λ _ H'=>Q .non H',rt:=Q },rt:=Q }) (iv_entering t p l3 L s H6) ?_ ?_ ?_ ?_⟩
  ·exact ⟨none,none,none,rfl,Same.refl _,λ c hc=>absurd hc (Nat.not_lt_zero _)⟩
  ·rintro i σ H7 _ ⟨_,_,_,_,s7,_⟩
   exact s7.seq (SqL.of h3)
  ·rintro i x pp σ H7 hi ⟨o,o1,o2,rfl,s7,en⟩ hpp
   obtain ⟨v,rfl,hv⟩:=get_ints hi
   obtain ⟨hin,rfl⟩:=ofF_inv hv
   have s8:=s7.trans (Same.upd (o:=HO.tup [.int i,.int (L.T s L.m (L.cv i))]) hpp)
   have stay:0≤L.T s L.m (L.cv i)∨o≠none→EntO L s (i+1) o:=λ hz=>by
    cases o with
    | none =>
     intro c hc
     by_cases hci:c=i
     ·rw [hci];exact hz.resolve_right (λ z=>z rfl)
     ·exact en c (by omega)
    | some f=>exact ⟨by have:=en.1;omega,en.2⟩
   (dsimp! [t_Corner_entering_g1,t_Corner_entering_b1,rIsN,tFld,tAsg,gName,tVar,tC,tOp,rI0,rI,rMulI,rLtI,tIfS,tTest,tNext,rIxL,tAnd,tOr,gTup,gCons,gNil,decide_eq_true_eq])
   refine ⟨_,SqT.of upd_same,rfl,_,_,rfl,_,_,rfl,rfl,_,rfl,ite2 (λ hneg=>?_) (λ hn=>⟨o,_,_,rfl,s8,stay (.inl (by omega))⟩)⟩
   cases o with
   | none =>
    simp only [oV,if_true,exists_eq_left',V.int.injEq,Option.some.injEq,exists_eq_left,V.ref.injEq,V.bl.injEq,List.cons.injEq,and_true,true_and,exists_and_left,and_assoc,exI_lit,exB_lit,exR_lit,exI_ex,exB_ex,exR_ex]
    exact ⟨some i,_,_,rfl,s8,by omega,hneg⟩
   | some f =>
    have hf:=en.1
    have ssl:=P.sl
    simp only [oV,reduceCtorEq,if_false,exists_eq_left',V.int.injEq,Option.some.injEq,exists_eq_left,V.ref.injEq,V.bl.injEq,List.cons.injEq,and_true,true_and,exists_and_left,and_assoc,exI_lit,exB_lit,exR_lit,exI_ex,exB_ex,exR_ex]
    have b1:=lim.bc s L.m i ok (Nat.le_refl _)
    have b2:=lim.bc s L.m f ok (Nat.le_refl _)
    refine ⟨_,_,_,(s6.trans s8) _ _ P.ob,C.cl,C.ns,_,cfl_spans _ _ _ _,_,rfl,_,(s6.trans s8).seq (SqL.of P.S),_,atI_nat0 (i:=f) (by omega),_,rfl,.b b1 (P.sb _ (getD_mem (by omega))),?_⟩
    refine ⟨_,s8.seq (SqL.of h3),_,atI_nat0 (i:=f) (by rw [ofF_length];omega),_,_,_,(s6.trans s8) _ _ P.ob,C.cl,C.ns,_,cfl_spans _ _ _ _,_,rfl,_,(s6.trans s8).seq (SqL.of P.S),_,atI_nat0 (i:=i) (by omega),_,rfl,_,rfl,.b (m:=20000) (by rw [getD_of (ofF_get (λ c=>L.T s L.m (L.cv c)) (show f<L.n+L.m by omega))];exact b2) (P.sb _ (getD_mem (by omega))),?_⟩
    exact ite2 (λ _=>⟨some i,_,_,rfl,s8,by omega,hneg⟩) (λ _=>⟨some f,_,_,rfl,s8,stay (.inr (by simp))⟩)
  ·rintro σ H7 ⟨o,o1,o2,rfl,s7,en⟩
   (dsimp! [tVar,tRet])
   refine q o H7 (s6.trans s7) ?_
   rw [List.length_map,ofF_length] at en
   exact en
noncomputable def N_Corner_numbers:List PySem.Str:=["self", "column"]
noncomputable def sp_Corner_numbers (K:W.Frag):Sp:=λ vs H Q _=>∃ t ins L s,∃ c:Nat,vs=[.ref t,.int c]∧CorAt K H t ins L s∧L.Lim∧L.Okn s∧c<L.n+L.m∧∀ l H',Same H H'→H l=none→H' l=some (.lst (List.map V.int (L.numL s c)))→Q (.ref l) H'
noncomputable def t_Corner_numbers_c1 (K:W.Frag):TE:=(tCall (sp_products K) [] E0 (tCons (tOp (rIxL K) (tFld K (tVar 2) "begun") (tVar 1)) (tCons (tVar 0) tNil)))
noncomputable def t_Corner_numbers (K:W.Frag):TS:=(tSeq (tIfS (tTest (tOp rLtI (tVar 1) (tCB (cLen K) (tCons (tFld K (tVar 0) "begun") tNil)))) (tRet (tComp (iList K (tFld K (tVar 0) "kept")) [1,0] (t_Corner_numbers_c1 K))) tNext) (tRet (tCall (sp_column_of K) [] E0 (tCons (tFld K (tVar 0) "kept") (tCons (tOp rSubI (tVar 1) (tCB (cLen K) (tCons (tFld K (tVar 0) "begun") tNil))) tNil)))))
theorem len_Corner_numbers {K vs H Q E} (h:sp_Corner_numbers K vs H Q E):vs.length=2:=by obtain ⟨_,_,_,_,_,rfl,_⟩:=h;rfl
theorem rd_Corner_numbers {K vs H Q E} (C:CorK K) (h:sp_Corner_numbers K vs H Q E):t_Corner_numbers K { nx:=λ _ H'=>Q .non H',rt:=Q } (start N_Corner_numbers vs) H:=by
 obtain ⟨t,ins,L,s,c,rfl,⟨dx,b,sp,k,bs,ss,ks,P⟩,lim,ok,hc,q⟩:=h
 have bl:=P.bl
 have kl:=P.kl
 have m1:=lim.m1
 rw [show start N_Corner_numbers [V.ref t,V.int c]=[some (.ref t),some (.int c)] from rfl]
 (dsimp! [t_Corner_numbers,tFld,tComp,iList,tSeq,tVar,tOp,rI0,rSubI,rLtI,tRet,tIfS,tTest,tNext,tCall,tCons,tNil,tCB,cLen,List.append_nil,decide_eq_true_eq])
 refine ⟨_,_,_,P.ob,C.cl,C.nb,_,cfl_begun _ _ _ _,_,rfl,_,.inl (SqL.of P.B),?_⟩
 rw [List.length_map,bl]
 refine ite2 (λ hlt=>?_) (λ hlt=>?_)
 ·have hcn:c<L.n:=by omega
  refine ⟨_,_,_,P.ob,C.cl,C.nk,_,cfl_kept _ _ _ _,_,rfl,⟨_,SqL.of P.Kp⟩,comp_list (K:=K) (a:=k) (xs:=List.map V.ref ks) (λ i zs H3=>Same H H3∧zs=List.map V.int (ofF i λ i=>L.T s i (L.cv c))) ?_ ⟨Same.refl _,rfl⟩ ?_ ?_ ?_⟩
  ·rw [List.length_map,sizeLine_eq];omega
  ·rintro i ys H3 _ ⟨s3,_⟩
   exact s3.seq (SqL.of P.Kp)
  ·rintro i x ys H3 hi _ ⟨s3,rfl⟩
   obtain ⟨p,rfl,hp⟩:=get_refs hi
   have him:i≤L.m:=by have:=(List.getElem?_eq_some_iff.mp hp).1;omega
   obtain ⟨r,er,hrow⟩:=P.Ks.get hp
   obtain ⟨_,rfl⟩:=ofF_inv er
   obtain ⟨pc,_,atc,hcol⟩:=P.col hcn
   (dsimp! [t_Corner_numbers_c1,tFld,caught,List.map_cons,List.map_nil,Option.join_some,tVar,tOp,tCall,tCons,tNil,rIxL,List.append_nil])
   refine ⟨_,_,_,s3 _ _ P.ob,C.cl,C.nb,_,cfl_begun _ _ _ _,_,rfl,_,s3.seq (SqL.of P.B),_,atc,?_⟩
   refine ⟨_,_,L.m+1,_,_,L.a c,λ k=>L.T s i (e1 k),rfl,s3.seq (SqL.of hcol),s3.seq (SqL.of hrow),by omega,?_,?_,.inl ?_,λ j hj=>⟨ofF_get _ hj,L.keptL_get s i (by omega),lim.ba _ _ hcn (by omega),lim.bk _ _ _ ok him (by omega)⟩,λ H4 s4=>⟨s3.trans s4,?_⟩⟩
   ·unfold Lpd.colL;rw [ofF_length];exact Nat.le_refl _
   ·rw [Lpd.keptL_length];omega
   ·unfold Lpd.colL;rw [ofF_length];exact Nat.le_refl _
   ·rw [L.T_prod s him hcn,ofF_snoc,List.map_append];rfl
  ·rintro ys H3 _ ⟨s3,rfl⟩ l hl
   rw [List.length_map,kl]
   exact q l _ (s3.trans (Same.upd hl)) (s3.free hl) upd_same
 ·have hn:L.n≤c:=by omega
  refine ⟨_,_,_,P.ob,C.cl,C.nk,_,cfl_kept _ _ _ _,_,_,_,P.ob,C.cl,C.nb,_,cfl_begun _ _ _ _,_,rfl,_,.inl (SqL.of P.B),?_⟩
  rw [List.length_map,bl]
  refine ⟨_,_,_,_,c - L.n,rfl,SqL.of P.Kp,P.Ks,by rw [ofF_length];omega,λ r hr=>?_,λ l H' s1 hl hl'=>q l H' s1 hl ?_⟩
  ·obtain ⟨i,hi,rfl⟩:=ofF_mem hr
   have:=atI_nat0 (l:=L.keptL s i) (i:=c - L.n) (by rw [Lpd.keptL_length];omega)
   rw [show ((c - L.n:Nat):Int)=(c:Int) - (L.n:Int) by omega] at this
   exact this
  ·rw [hl']
   congr 3
   unfold Lpd.numL
   unfold ofF
   rw [List.map_map]
   refine List.map_congr_left λ i hi=>?_
   have e:L.cv c=e1 (c - L.n):=by unfold Lpd.cv;rw [if_neg (by omega)]
   show (L.keptL s i).getD (c - L.n) 0=L.T s i (L.cv c)
   rw [e]
   exact getD_of (L.keptL_get s i (by omega))
noncomputable def N_is_ahead:List PySem.Str:=["row", "other", "column", "listed", "place", "mine", "yours"]
noncomputable def sp_is_ahead (K:W.Frag):Sp:=λ vs H Q _=>∃ a b l x y js,∃ c w:Nat,vs=[.ref a,.ref b,.int c,.ref l]∧SqL K H a (List.map V.int x)∧SqL K H b (List.map V.int y)∧SqL K H l (List.map (λ j:Nat=>V.int j) js)∧Ro x w∧Ro y w∧c<w∧(∀ j∈js,j<w)∧Q (.bl (decide (lx x y c js=some true))) H
noncomputable def iv_ahead (a b l:Addr) (x y:List Int) (c:Nat) (js:List Nat) (H0:Hp):Nat→St→Hp→Prop:=SEq H0 λ i σ=>∃ o1 o2 o3,σ=[some (.ref a),some (.ref b),some (.int c),some (.ref l),o1,o2,o3]∧lx x y c js=lx x y c (js.drop i)
noncomputable def t_is_ahead_r1 (K:W.Frag):TS:=(tRet (tC (.bl false)))
noncomputable def t_is_ahead_b1 (K:W.Frag):TS:=(tSeq (tAsg (tOp rMulI (tOp (rIxL K) (tVar 0) (tVar 4)) (tOp (rIxL K) (tVar 1) (tVar 2))) (gName 5)) (tSeq (tAsg (tOp rMulI (tOp (rIxL K) (tVar 1) (tVar 4)) (tOp (rIxL K) (tVar 0) (tVar 2))) (gName 6)) (tIfS (tTest (tOp rNe (tVar 5) (tVar 6))) (tRet (tOp rLtI (tVar 5) (tVar 6))) tNext)))
noncomputable def t_is_ahead (K:W.Frag):TS:=(tSeq (tFor (iList K (tVar 3)) (gName 4) (t_is_ahead_b1 K)) (t_is_ahead_r1 K))
theorem len_is_ahead {K vs H Q E} (h:sp_is_ahead K vs H Q E):vs.length=4:=by obtain ⟨_,_,_,_,_,_,_,_,rfl,_⟩:=h;rfl
theorem get_nats {js:List Nat} {i:Nat} {x:V} (h:(List.map (λ j:Nat=>V.int j) js)[i]?=some x):∃ c:Nat,x=.int c∧js[i]?=some c:=by
 rw [List.getElem?_map] at h
 cases e:js[i]? with
 | none=>rw [e] at h;cases h
 | some z=>rw [e] at h;exact ⟨z,(Option.some.inj h).symm,rfl⟩
theorem lx_drop {x y:List Int} {c:Nat} {js:List Nat} {i j:Nat} (h:js[i]?=some j):lx x y c (js.drop i)=if x.getD j 0*y.getD c 0=y.getD j 0*x.getD c 0 then lx x y c (js.drop (i+1)) else some (decide (x.getD j 0*y.getD c 0<y.getD j 0*x.getD c 0)):=by
 have hlt:i<js.length:=(List.getElem?_eq_some_iff.mp h).1
 rw [List.drop_eq_getElem_cons hlt]
 have:js[i]=j:=(List.getElem?_eq_some_iff.mp h).2
 rw [this]
 rfl
theorem rd_is_ahead {K vs H Q E} (h:sp_is_ahead K vs H Q E):t_is_ahead K { nx:=λ _ H'=>Q .non H',rt:=Q } (start N_is_ahead vs) H:=by
 obtain ⟨a,b,l,x,y,js,c,w,rfl,hA,hB,hL,⟨xl,xb⟩,⟨yl,yb⟩,hc,hj,q⟩:=h
 rw [show start N_is_ahead [V.ref a,V.ref b,V.int c,V.ref l]=[some (.ref a),some (.ref b),some (.int c),some (.ref l),none,none,none] from rfl]
 (dsimp! [t_is_ahead,tFor,iList,tSeq,gName,tVar])
 refine ⟨⟨_,hL⟩,for_list (K:=K) (a:=l) (xs:=List.map (λ j:Nat=>V.int j) js) (g:=gName 4) (D:={ nx:=t_is_ahead_r1 K { nx:=λ _ H'=>Q .non H',rt:=Q },rt:=Q }) (iv_ahead a b l x y c js H) ?_ ?_ ?_ ?_⟩
 ·exact ⟨rfl,none,none,none,rfl,rfl⟩
 ·rintro i σ H3 _ ⟨rfl,_⟩
  exact hL
 ·rintro i v σ H3 hi ⟨rfl,o1,o2,o3,rfl,e⟩
  obtain ⟨j,rfl,ej⟩:=get_nats hi
  have jw:=hj j (List.mem_of_getElem? ej)
  rw [lx_drop ej] at e
  (dsimp! [tSeq,tAsg,gName,tVar,tOp,rI0,rI,rMulI,rLtI,rNe,scal_ii,tRet,tIfS,tTest,tNext,rIxL])
  refine ⟨_,hA,_,atI_nat0 (i:=j) (by omega),_,hB,_,atI_nat0 (i:=c) (by omega),_,rfl,_,rfl,.b (xb _ (getD_mem (by omega))) (yb _ (getD_mem (by omega))),_,hB,_,atI_nat0 (i:=j) (by omega),_,hA,_,atI_nat0 (i:=c) (by omega),_,rfl,_,rfl,.b (yb _ (getD_mem (by omega))) (xb _ (getD_mem (by omega))),?_⟩
  by_cases hz:x.getD j 0*y.getD c 0=y.getD j 0*x.getD c 0
  ·rw [if_neg (by rw [decide_eq_true hz];decide)]
   rw [if_pos hz] at e
   exact ⟨rfl,_,_,_,rfl,e⟩
  ·rw [if_pos (by rw [decide_eq_false hz];rfl)]
   rw [if_neg hz] at e
   rw [e] at q
   have:decide (some (decide (x.getD j 0*y.getD c 0<y.getD j 0*x.getD c 0))=some true)=decide (x.getD j 0*y.getD c 0<y.getD j 0*x.getD c 0):=by
    by_cases h2:x.getD j 0*y.getD c 0<y.getD j 0*x.getD c 0
    ·rw [decide_eq_true h2];rfl
    ·rw [decide_eq_false h2];rfl
   rw [this] at q
   exact q
 ·rintro σ H3 ⟨rfl,o1,o2,o3,rfl,e⟩
  rw [List.length_map,List.drop_length] at e
  rw [e] at q
  dsimp only [t_is_ahead_r1,tC,tRet,exI_lit,exB_lit,exR_lit]
  exact q
noncomputable def N_leaving:List PySem.Str:=["rows", "column", "listed", "found", "place", "row"]
noncomputable def sp_leaving (K:W.Frag):Sp:=λ vs H Q _=>∃ r l ps rs js,∃ c w:Nat,vs=[.ref r,.int c,.ref l]∧SqL K H r (List.map V.ref ps)∧RwsAt H ps rs∧(∀ row∈rs,Ro row w)∧SqL K H l (List.map (λ j:Nat=>V.int j) js)∧c<w∧(∀ j∈js,j<w)∧∀ o H',Same H H'→Lv rs c js rs.length o→Q (oV o) H'
noncomputable def iv_leaving (r l:Addr) (c:Nat) (rs:List (List Int)) (js:List Nat) (H0:Hp):Nat→St→Hp→Prop:=λ i σ H3=>∃ o o1 o2,σ=[some (.ref r),some (.int c),some (.ref l),some (oV o),o1,o2]∧Same H0 H3∧Lv rs c js i o
noncomputable def t_leaving_b1 (K:W.Frag):TS:=(tIfS (tAnd (tTest (tOp rGtI (tOp (rIxL K) (tVar 5) (tVar 1)) (tC (.int 0)))) (tOr (tTest (tOp rIsN (tVar 3) (tC .non))) (tB (tCall (sp_is_ahead K) [] E0 (tCons (tVar 5) (tCons (tOp (rIxL K) (tVar 0) (tVar 3)) (tCons (tVar 1) (tCons (tVar 2) tNil)))))))) (tAsg (tVar 4) (gName 3)) tNext)
noncomputable def t_leaving_g1 (K:W.Frag):TG:=(gTup K 2 (gCons (gName 4) (gCons (gName 5) gNil)))
noncomputable def t_leaving (K:W.Frag):TS:=(tSeq (tAsg (tC .non) (gName 3)) (tSeq (tFor (iEnum K (tVar 0)) (t_leaving_g1 K) (t_leaving_b1 K)) (tRet (tVar 3))))
theorem len_leaving {K vs H Q E} (h:sp_leaving K vs H Q E):vs.length=3:=by obtain ⟨_,_,_,_,_,_,_,rfl,_⟩:=h;rfl
theorem rd_leaving {K vs H Q E} (h:sp_leaving K vs H Q E):t_leaving K { nx:=λ _ H'=>Q .non H',rt:=Q } (start N_leaving vs) H:=by
 obtain ⟨r,l,ps,rs,js,c,w,rfl,hR,hrs,hrw,hL,hc,hj,q⟩:=h
 have hpl:=hrs.length
 rw [show start N_leaving [V.ref r,V.int c,V.ref l]=[some (.ref r),some (.int c),some (.ref l),none,none,none] from rfl]
 (dsimp! [t_leaving,tFor,iEnum,tSeq,tAsg,gName,tVar,tC,tRet])
 refine ⟨⟨_,hR⟩,for_enum (K:=K) (a:=r) (xs:=List.map V.ref ps) (g:=t_leaving_g1 K) (D:={ nx:=tRet (tVar 3) { nx:=λ _ H'=>Q .non H',rt:=Q },rt:=Q }) (iv_leaving r l c rs js H) ?_ ?_ ?_ ?_⟩
 ·exact ⟨none,none,none,rfl,Same.refl _,λ k row hk=>absurd hk (Nat.not_lt_zero _)⟩
 ·rintro i σ H3 _ ⟨_,_,_,_,s3,_⟩
  exact s3.seq hR
 ·rintro i x p σ H3 hi ⟨o,o1,o2,rfl,s3,lv⟩ hp
  obtain ⟨z,rfl,hz⟩:=get_refs hi
  obtain ⟨row,er,hrow⟩:=hrs.get hz
  obtain ⟨rl,rb⟩:=hrw row (List.mem_of_getElem? er)
  have s4:Same H (upd H3 p (.tup [.int i,.ref z])):=s3.trans (Same.upd hp)
  (dsimp! [t_leaving_g1,t_leaving_b1,rIsN,tAsg,gName,tVar,tC,tOp,rI0,rGtI,tIfS,tTest,tB,tNext,tCall,tCons,tNil,rIxL,tAnd,tOr,gTup,gCons,gNil,List.append_nil,decide_eq_true_eq])
  refine ⟨_,SqT.of upd_same,rfl,_,_,rfl,_,_,rfl,rfl,_,rfl,_,SqL.of (s4 _ _ hrow),_,atI_nat0 (by omega),_,rfl,ite2 (λ hpos=>?_) (λ hn=>⟨_,_,_,rfl,s4,lv.skip er hn⟩)⟩
  cases o with
  | none =>
   simp only [oV,if_true,Option.some.injEq,exists_eq_left',exists_eq_left,V.int.injEq,V.ref.injEq,V.bl.injEq,List.cons.injEq,and_true,true_and,exists_and_left,and_assoc,exI_lit,exB_lit,exR_lit,exI_ex,exB_ex,exR_ex]
   exact ⟨some i,_,_,rfl,s4,lv.first er hpos⟩
  | some f =>
   obtain ⟨hfi,fr,hf,_⟩:=id lv
   obtain ⟨zf,hzf⟩:∃ zf,ps[f]?=some zf:=⟨_,List.getElem?_eq_getElem (by rw [hpl];exact (List.getElem?_eq_some_iff.mp hf).1)⟩
   obtain ⟨fr',ef,hfr⟩:=hrs.get hzf
   rw [hf] at ef
   obtain rfl:=Option.some.inj ef
   have atf:atI (List.map V.ref ps) (f:Int)=some (.ref zf):=atI_nat (by rw [List.getElem?_map,hzf];rfl)
   simp only [oV,reduceCtorEq,if_false,exists_eq_left',V.int.injEq,Option.some.injEq,exists_eq_left,V.ref.injEq,V.bl.injEq,List.cons.injEq,and_true,true_and,exists_and_left,and_assoc,exI_lit,exB_lit,exR_lit,exI_ex,exB_ex,exR_ex]
   refine ⟨_,s4.seq hR,_,atf,_,_,_,_,_,_,_,w,rfl,SqL.of (s4 _ _ hrow),SqL.of (s4 _ _ hfr),s4.seq hL,⟨rl,rb⟩,hrw fr (List.mem_of_getElem? hf),hc,hj,_,rfl,ite2 (λ ha=>⟨some i,_,_,rfl,s4,lv.take hf er hpos (by simpa using ha)⟩) (λ ha=>⟨some f,_,_,rfl,s4,lv.keep hf er hpos (by simpa using ha)⟩)⟩
 ·rintro σ H3 ⟨o,o1,o2,rfl,s3,lv⟩
  rw [List.length_map,hpl] at lv
  (dsimp! [tVar,tC,tOp,rI0,rNe,scal_ii,tRet,tTest])
  exact q o H3 s3 lv
noncomputable def N_Corner_leaving_by:List PySem.Str:=["self", "numbers", "rows", "spares"]
noncomputable def LvO (L:Lpd) (s:Nat→Nat) (c:Nat):Option Nat→Prop
 | none=>∀ i,i≤L.m→L.T s i (L.cv c)≤0
 | some r=>r≤L.m∧0<L.T s r (L.cv c)∧∀ i,i≤L.m→0<L.T s i (L.cv c)→¬ lp (λ p=>- (L.T s i (L.li p)*L.T s r (L.cv c) - L.T s r (L.li p)*L.T s i (L.cv c))) L.ls
noncomputable def sp_Corner_leaving_by (K:W.Frag):Sp:=λ vs H Q _=>∃ t ins L s nl,∃ c:Nat,vs=[.ref t,.ref nl]∧CorAt K H t ins L s∧L.Lim∧L.Okn s∧H nl=some (.lst (List.map V.int (L.numL s c)))∧∀ o H',Same H H'→LvO L s c o→Q (oV o) H'
noncomputable def lvr (L:Lpd) (s:Nat→Nat) (c i:Nat):List Int:=L.keptL s i++[L.T s i (L.cv c)]
noncomputable def t_Corner_leaving_by_c1 (K:W.Frag):TE:=(tOp rCat (tVar 0) (tLst (tCons (tVar 1) tNil)))
noncomputable def t_Corner_leaving_by_g1 (K:W.Frag):TG:=(gTup K 2 (gCons (gName 0) (gCons (gName 1) gNil)))
noncomputable def t_Corner_leaving_by (K:W.Frag):TS:=(tSeq (tAsg (tCompG (iZip K (tCons (tFld K (tVar 0) "kept") (tCons (tVar 1) tNil))) 2 [] (t_Corner_leaving_by_g1 K) (t_Corner_leaving_by_c1 K)) (gName 2)) (tSeq (tAsg (tCB (cLen K) (tCons (tFld K (tVar 0) "inside") tNil)) (gName 3)) (tRet (tCall (sp_leaving K) [] E0 (tCons (tVar 2) (tCons (tOp rAddI (tVar 3) (tC (.int 2))) (tCons (tOp rCat (tLst (tCons (tOp rAddI (tVar 3) (tC (.int 1))) tNil)) (tLRng (tVar 3))) tNil)))))))
theorem len_Corner_leaving_by {K vs H Q E} (h:sp_Corner_leaving_by K vs H Q E):vs.length=2:=by obtain ⟨_,_,_,_,_,_,rfl,_⟩:=h;rfl
theorem lvr_k (L:Lpd) (s:Nat→Nat) (c i:Nat) {k:Nat} (h:k≤L.m):(lvr L s c i).getD k 0=L.T s i (e1 k):=getD_of (by unfold lvr;rw [List.getElem?_append_left (by rw [Lpd.keptL_length];omega),L.keptL_get s i h])
theorem lvr_b (L:Lpd) (s:Nat→Nat) (c i:Nat):(lvr L s c i).getD (L.m+1) 0=L.T s i L.be:=getD_of (by unfold lvr;rw [List.getElem?_append_left (by rw [Lpd.keptL_length];omega),L.keptL_last s i])
theorem lvr_c (L:Lpd) (s:Nat→Nat) (c i:Nat):(lvr L s c i).getD (L.m+2) 0=L.T s i (L.cv c):=getD_of (by unfold lvr;rw [List.getElem?_append_right (by rw [Lpd.keptL_length];omega),Lpd.keptL_length,Nat.sub_self];rfl)
theorem rd_Corner_leaving_by {K vs H Q E} (C:CorK K) (h:sp_Corner_leaving_by K vs H Q E):t_Corner_leaving_by K { nx:=λ _ H'=>Q .non H',rt:=Q } (start N_Corner_leaving_by vs) H:=by
 obtain ⟨t,ins,L,s,nl,c,rfl,⟨dx,b,sp,k,bs,ss,ks,P⟩,lim,ok,hnl,q⟩:=h
 have kl:=P.kl
 have m1:=lim.m1
 have nll:(L.numL s c).length=L.m+1:=by unfold Lpd.numL;rw [ofF_length]
 rw [show start N_Corner_leaving_by [V.ref t,V.ref nl]=[some (.ref t),some (.ref nl),none,none] from rfl]
 (dsimp! [t_Corner_leaving_by,tFld,tCompG,iZip,rCat,tLRng,tSeq,tAsg,gName,tVar,tC,tOp,rI0,rAddI,tRet,tCall,tCons,tNil,tLst,tCB,cLen,List.append_nil])
 refine ⟨_,_,_,P.ob,C.cl,C.nk,_,cfl_kept _ _ _ _,_,rfl,⟨_,SqL.of P.Kp⟩,⟨_,SqL.of hnl⟩,compG_zip (K:=K) (a:=k) (b:=nl) (xs:=List.map V.ref ks) (ys:=List.map V.int (L.numL s c)) (λ i zs H3=>Same H H3∧∃ qs,zs=List.map V.ref qs∧RwsAt H3 qs (ofF i (lvr L s c))) ?_ ?_ ⟨Same.refl _,[],rfl,trivial⟩ ?_ ?_ ?_⟩
 ·rw [List.length_map,sizeLine_eq];omega
 ·rw [List.length_map,List.length_map];omega
 ·rintro i zs H3 _ ⟨s3,_⟩
  exact ⟨s3.seq (SqL.of P.Kp),s3.seq (SqL.of hnl)⟩
 ·rintro i x y p zs H3 hx hy _ ⟨s3,qs,rfl,hqs⟩ hp os ho
  obtain ⟨z,rfl,hz⟩:=get_refs hx
  obtain ⟨v,rfl,hv⟩:=get_ints hy
  obtain ⟨r,er,hrow⟩:=P.Ks.get hz
  obtain ⟨him,rfl⟩:=ofF_inv er
  obtain ⟨_,rfl⟩:=ofF_inv hv
  obtain ⟨o1,o2,rfl⟩:∃ o1 o2,os=[o1,o2]:=by
   match os,ho with
   | [o1,o2],_=>exact ⟨o1,o2,rfl⟩
  have s4:=Same.upd (o:=HO.tup [.ref z,.int (L.T s i (L.cv c))]) hp
  (dsimp! [t_Corner_leaving_by_g1,t_Corner_leaving_by_c1,rCat,gName,tVar,tOp,tCons,tNil,tLst,gTup,gCons,gNil,Lca,Lna])
  refine ⟨_,SqT.of upd_same,rfl,_,_,rfl,_,_,rfl,rfl,⟨[some (.ref z),some (.int (L.T s i (L.cv c)))],rfl,rfl⟩,sz1,λ l1 hl1=>?_⟩
  have s5:=Same.upd (o:=HO.lst [.int (L.T s i (L.cv c))]) hl1
  refine ⟨_,rfl,_,(s4.trans s5) _ _ (s3 _ _ hrow),_,upd_same,by rw [List.length_map,Lpd.keptL_length,sizeLine_eq];show L.m+2+1≤_;omega,λ l2 hl2=>?_⟩
  have s6:=Same.upd (o:=HO.lst (List.map V.int (L.keptL s i)++[V.int (L.T s i (L.cv c))])) hl2
  refine ⟨((s3.trans s4).trans s5).trans s6,qs++[l2],by rw [List.map_append];rfl,?_⟩
  rw [ofF_snoc]
  refine RwsAt.snoc (((hqs.same s4).same s5).same s6) ?_
  rw [upd_same]
  unfold lvr
  rw [List.map_append];rfl
 ·rintro zs H3 _ ⟨s3,qs,rfl,hqs⟩ l hl
  rw [List.length_map,kl] at hqs
  have s4:=s3.trans (Same.upd (o:=HO.lst (List.map V.ref qs)) hl)
  have hq4:=hqs.same (Same.upd (o:=HO.lst (List.map V.ref qs)) hl)
  have hl4:(upd H3 l (.lst (List.map V.ref qs))) l=some (.lst (List.map V.ref qs)):=upd_same
  generalize upd H3 l (.lst (List.map V.ref qs))=H4 at s4 hq4 hl4
  have il:(L.insL s).length=L.m:=by unfold Lpd.insL;rw [ofF_length]
  refine ⟨_,_,_,s4 _ _ P.ob,C.cl,C.ni,_,cfl_inside _ _ _ _,_,rfl,_,.inl (s4.seq (SqL.of P.hi)),?_⟩
  rw [List.length_map,il]
  refine ⟨sz1,λ l1 hl1=>⟨L.m,rfl,by omega,λ l2 hl2=>?_⟩⟩
  have s5:=(Same.upd (o:=HO.lst [.int ((L.m:Int)+1)]) hl1).trans (Same.upd (o:=HO.lst (List.map V.int (rngL L.m))) hl2)
  refine ⟨_,Same.upd hl2 _ _ upd_same,_,upd_same,by rw [List.length_map,rngL_length,sizeLine_eq];show 1+L.m≤_;omega,λ l3 hl3=>?_⟩
  have s6:=s5.trans (Same.upd (o:=HO.lst ([V.int ((L.m:Int)+1)]++List.map V.int (rngL L.m))) hl3)
  have e:[V.int ((L.m:Int)+1)]++List.map V.int (rngL L.m)=List.map (λ j:Nat=>V.int j) ((L.m+1)::List.range L.m):=by
   unfold rngL
   rw [List.map_map,List.map_cons]
   rfl
  refine ⟨_,_,_,_,(L.m+1)::List.range L.m,L.m+2,L.m+3,rfl,s6.seq (SqL.of hl4),hq4.same s6,λ row hr=>?_,?_,by omega,λ j hj=>?_,λ o H7 s7 lv=>?_⟩
  ·obtain ⟨i,hi,rfl⟩:=ofF_mem hr
   refine ⟨by unfold lvr;rw [List.length_append,Lpd.keptL_length];rfl,λ x hx=>?_⟩
   unfold lvr at hx
   rcases List.mem_append.mp hx with hx | hx
   ·exact lim.kept ok (by omega) x hx
   ·rw [List.mem_singleton.mp hx];exact lim.bc s i c ok (by omega)
  ·have:=SqL.of (K:=K) (upd_same (H:=upd (upd H4 l1 (.lst [.int ((L.m:Int)+1)])) l2 (.lst (List.map V.int (rngL L.m)))) (a:=l3) (o:=.lst ([V.int ((L.m:Int)+1)]++List.map V.int (rngL L.m))))
   rw [e] at this ⊢
   exact this
  ·rcases List.mem_cons.mp hj with rfl | hj
   ·omega
   ·have:=List.mem_range.mp hj;omega
  ·refine q o H7 ((s4.trans s6).trans s7) ?_
   rw [ofF_length] at lv
   cases o with
   | none =>
    intro i hi
    have:=lv i _ (by omega) (ofF_get (lvr L s c) (show i<L.m+1 by omega))
    rw [lvr_c] at this
    omega
   | some r =>
    obtain ⟨hr,fr,hfr,hp,hm⟩:=lv
    obtain ⟨_,rfl⟩:=ofF_inv hfr
    rw [lvr_c] at hp
    refine ⟨by omega,hp,λ i hi hpi=>?_⟩
    have:=(hm i _ (by omega) (ofF_get (lvr L s c) (show i<L.m+1 by omega)) (by rw [lvr_c];exact hpi)).1
    exact Lpd.lx_lp (λ k hk=>lvr_k L s c r hk) (lvr_b L s c r) (lvr_c L s c r) (λ k hk=>lvr_k L s c i hk) (lvr_b L s c i) (lvr_c L s c i) this
noncomputable def N_Corner_bottom:List PySem.Str:=["self"]
noncomputable def sp_Corner_bottom (K:W.Frag):Sp:=λ vs H Q _=>∃ t ins L s,vs=[.ref t]∧CorAt K H t ins L s∧Q (.int (L.D s)) H
noncomputable def t_Corner_bottom (K:W.Frag):TS:=(tRet (tOp (rIxL K) (tOp (rIxL K) (tFld K (tVar 0) "kept") (tUn rNegI (tC (.int 1)))) (tUn rNegI (tC (.int 2)))))
theorem len_Corner_bottom {K vs H Q E} (h:sp_Corner_bottom K vs H Q E):vs.length=1:=by obtain ⟨_,_,_,_,rfl,_⟩:=h;rfl
theorem atI_m2 {l:List Int} {x:Int} (h2:2≤l.length) (h:l[l.length - 2]?=some x):atI (List.map V.int l) (-2)=some (.int x):=by
 unfold atI ixN
 rw [List.length_map,if_neg (by omega),if_pos (by omega)]
 show (List.map V.int l)[(-2+(l.length:Int)).toNat]?=_
 rw [show (-2+(l.length:Int)).toNat=l.length - 2 by omega,List.getElem?_map,h];rfl
theorem rd_Corner_bottom {K vs H Q E} (C:CorK K) (h:sp_Corner_bottom K vs H Q E):t_Corner_bottom K { nx:=λ _ H'=>Q .non H',rt:=Q } (start N_Corner_bottom vs) H:=by
 obtain ⟨t,ins,L,s,rfl,⟨dx,b,sp,k,bs,ss,ks,P⟩,q⟩:=h
 rw [show start N_Corner_bottom [V.ref t]=[some (.ref t)] from rfl]
 (dsimp! [t_Corner_bottom,tFld,tVar,tC,tOp,tUn,rU,rNegI,tRet,rIxL])
 obtain ⟨p,hp,at1,hrow⟩:=P.last
 refine ⟨_,_,_,P.ob,C.cl,C.nk,_,cfl_kept _ _ _ _,_,rfl,_,SqL.of P.Kp,_,at1,_,rfl,_,SqL.of hrow,_,atI_m2 (by rw [Lpd.keptL_length];omega) (by rw [Lpd.keptL_length];exact L.keptL_get s L.m (Nat.le_refl _)),?_⟩
 rw [show L.m+2 - 2=L.m by omega,L.last_own];exact q
noncomputable def N_Corner_step_in:List PySem.Str:=["self", "column", "numbers", "at", "bottom", "gone", "moved", "row", "number"]
noncomputable def sp_Corner_step_in (K:W.Frag):Sp:=λ vs H Q _=>∃ t ins L s nl,∃ c r:Nat,vs=[.ref t,.int c,.ref nl,.int r]∧CorAt K H t ins L s∧L.Lim∧L.Okn s∧H nl=some (.lst (List.map V.int (L.numL s c)))∧r<L.m ∧
 ∀ H',Same (mn t ins H) (mn t ins H')→CorAt K H' t ins L (Lpd.sput s r c)→(∀ f,H f≠none→CorF K H t ins L s f→CorF K H' t ins L (Lpd.sput s r c) f)→Q .non H'
noncomputable def mvr (L:Lpd) (s:Nat→Nat) (c r i:Nat):List Int:=(ofF (L.m+2) λ k=>((L.keptL s i).getD k 0*L.T s r (L.cv c) - (L.keptL s r).getD k 0*L.T s i (L.cv c)).fdiv (L.D s))
noncomputable def iv_step (t nl mv g:Addr) (c r:Nat) (L:Lpd) (s:Nat→Nat) (H0:Hp):Nat→St→Hp→Prop:=λ i σ H3=>∃ o1 o2 qs,σ=[some (.ref t),some (.int c),some (.ref nl),some (.int r),some (.int (L.D s)),some (.ref g),some (.ref mv),o1,o2]∧Same H0 H3∧H3 mv=some (.lst (List.map V.ref qs))∧RwsAt H3 qs (ofF i (mvr L s c r))∧(∀ x∈qs,H0 x=none)∧mv∉qs
noncomputable def t_Corner_step_in_r1 (K:W.Frag):TS:=(tSeq (tAsg (tVar 5) (gSub (tVar 6) (tVar 3) rSetL)) (tSeq (sFld K (tVar 0) (tVar 6) "kept") (tAsg (tVar 1) (gSub (tFld K (tVar 0) "inside") (tVar 3) rSetL))))
noncomputable def t_Corner_step_in_c1 (K:W.Frag):TE:=(tOp rDivI (tOp rSubI (tOp rMulI (tVar 0) (tOp (rIxL K) (tVar 4) (tVar 5))) (tOp rMulI (tVar 1) (tVar 3))) (tVar 2))
noncomputable def t_Corner_step_in_g1 (K:W.Frag):TG:=(gTup K 2 (gCons (gName 0) (gCons (gName 1) gNil)))
noncomputable def t_Corner_step_in_b1 (K:W.Frag):TS:=(tDrop (tBM K "list" rAppend (tVar 6) (tCons (tCompG (iZip K (tCons (tVar 7) (tCons (tVar 5) tNil))) 2 [4,8,2,3] (t_Corner_step_in_g1 K) (t_Corner_step_in_c1 K)) tNil)))
noncomputable def t_Corner_step_in_g2 (K:W.Frag):TG:=(gTup K 2 (gCons (gName 7) (gCons (gName 8) gNil)))
noncomputable def t_Corner_step_in_r2 (K:W.Frag):TS:=(tSeq (tAsg (tLst tNil) (gName 6)) (tSeq (tFor (iZip K (tCons (tFld K (tVar 0) "kept") (tCons (tVar 2) tNil))) (t_Corner_step_in_g2 K) (t_Corner_step_in_b1 K)) (t_Corner_step_in_r1 K)))
noncomputable def t_Corner_step_in (K:W.Frag):TS:=(tSeq (tAsg (tMeth (gadr K "Corner") "bottom" (sp_Corner_bottom K) [] E0 (tVar 0) tNil) (gName 4)) (tSeq (tAsg (tOp (rIxL K) (tFld K (tVar 0) "kept") (tVar 3)) (gName 5)) (t_Corner_step_in_r2 K)))
theorem len_Corner_step_in {K vs H Q E} (h:sp_Corner_step_in K vs H Q E):vs.length=4:=by obtain ⟨_,_,_,_,_,_,_,rfl,_⟩:=h;rfl
theorem mvr_eq {L:Lpd} {s:Nat→Nat} (ok:L.Okn s) {c r i:Nat} (hr:r<L.m) (hi:i≤L.m) (hne:i≠r):mvr L s c r i=L.keptL (Lpd.sput s r c) i:=by
 have hD:=ok.ne
 have key:∀ y,(L.T s i y*L.T s r (L.cv c) - L.T s r y*L.T s i (L.cv c)).fdiv (L.D s)=L.T (Lpd.sput s r c) i y:=λ y=>by
  rw [← ok.exch (c:=c) hr (by omega) hne y]
  exact Int.mul_fdiv_cancel_left _ (by omega)
 apply List.ext_getElem?
 intro k
 unfold mvr
 by_cases hk:k≤L.m
 ·rw [ofF_get _ (by omega),L.keptL_get _ _ hk,getD_of (L.keptL_get s i hk),getD_of (L.keptL_get s r hk),key]
 ·by_cases hk1:k=L.m+1
  ·subst hk1
   rw [ofF_get _ (by omega),L.keptL_last,getD_of (L.keptL_last s i),getD_of (L.keptL_last s r),key]
  ·rw [List.getElem?_eq_none (by rw [ofF_length];omega),List.getElem?_eq_none (by rw [Lpd.keptL_length];omega)]
theorem mvr_all {L:Lpd} {s:Nat→Nat} (ok:L.Okn s) {c r:Nat} (hr:r<L.m):(ofF (L.m+1) (mvr L s c r)).set r (L.keptL s r)=ofF (L.m+1) (L.keptL (Lpd.sput s r c)):=by
 apply List.ext_getElem?
 intro k
 rw [List.getElem?_set]
 by_cases hk:k<L.m+1
 ·rw [ofF_get (L.keptL (Lpd.sput s r c)) hk]
  by_cases e:r=k
  ·subst e
   rw [if_pos rfl,if_pos (by rw [ofF_length];omega)]
   congr 1
   unfold Lpd.keptL
   rw [Lpd.Ok.same hr,ofF_congr λ k _=>(Lpd.Ok.same (L:=L) (s:=s) (c:=c) hr (e1 k)).symm]
  ·rw [if_neg e,ofF_get _ hk,mvr_eq ok hr (by omega) (Ne.symm e)]
 ·rw [List.getElem?_eq_none (l:=ofF (L.m+1) (L.keptL (Lpd.sput s r c))) (by rw [ofF_length];omega)]
  by_cases e:r=k
  ·omega
  ·rw [if_neg e,List.getElem?_eq_none (by rw [ofF_length];omega)]
theorem rd_Corner_step_in {K vs H Q E} (C:CorK K) (h:sp_Corner_step_in K vs H Q E):t_Corner_step_in K { nx:=λ _ H'=>Q .non H',rt:=Q } (start N_Corner_step_in vs) H:=by
 obtain ⟨t,ins,L,s,nl,c,r,rfl,ca,lim,ok,hnl,hr,q⟩:=h
 obtain ⟨dx,b,sp,k,bs,ss,ks,P⟩:=id ca
 have kl:=P.kl
 have m1:=lim.m1
 have il:(L.insL s).length=L.m:=by unfold Lpd.insL;rw [ofF_length]
 have nll:(L.numL s c).length=L.m+1:=by unfold Lpd.numL;rw [ofF_length]
 obtain ⟨g,hg,atg,hgr⟩:=P.row (i:=r) (by omega)
 rw [show start N_Corner_step_in [V.ref t,V.int c,V.ref nl,V.int r]=[some (.ref t),some (.int c),some (.ref nl),some (.int r),none,none,none,none,none] from rfl]
 (try dsimp? [t_Corner_step_in,tFld,tMeth];try simp_arith [t_Corner_step_in,tFld,tMeth])
 refine ⟨_,_,P.ob,rfl,_,_,_,_,rfl,ca,_,_,_,P.ob,C.cl,C.nk,_,cfl_kept _ _ _ _,_,rfl,_,SqL.of P.Kp,_,atg,?_⟩
 (try dsimp? [t_Corner_step_in_r2,tFld,tFor,iZip];try simp_arith [t_Corner_step_in_r2,tFld,tFor,iZip])
 refine ⟨sz0,λ mv hmv=>?_⟩
 have s1:=Same.upd (o:=HO.lst []) hmv
 have hm1:(upd H mv (.lst [])) mv=some (.lst []):=upd_same
 generalize e1:upd H mv (.lst [])=H1 at s1 hm1
 refine ⟨_,_,_,s1 _ _ P.ob,C.cl,C.nk,_,cfl_kept _ _ _ _,_,rfl,⟨_,s1.seq (SqL.of P.Kp)⟩,⟨_,s1.seq (SqL.of hnl)⟩,for_zip (K:=K) (a:=k) (b:=nl) (xs:=List.map V.ref ks) (ys:=List.map V.int (L.numL s c)) (g:=t_Corner_step_in_g2 K) (D:={ nx:=t_Corner_step_in_r1 K { nx:=λ _ H'=>Q .non H',rt:=Q },rt:=Q }) (iv_step t nl mv g c r L s H) ?_ ?_ ?_ ?_ ?_⟩
 ·exact ⟨none,none,[],rfl,s1,hm1,trivial,(λ _ h=>nomatch h),(λ h=>nomatch h)⟩
 ·rintro i σ H3 _ ⟨_,_,_,_,s3,_⟩
  exact ⟨s3.seq (SqL.of P.Kp),s3.seq (SqL.of hnl)⟩
 ·rw [List.length_map,List.length_map];omega
 ·rintro i x y p σ H3 hx hy ⟨o1,o2,qs,rfl,s3,hm3,hqs,hqn,hmq⟩ hp
  obtain ⟨z,rfl,hz⟩:=get_refs hx
  obtain ⟨v,rfl,hv⟩:=get_ints hy
  obtain ⟨row,er,hrow⟩:=P.Ks.get hz
  obtain ⟨him,rfl⟩:=ofF_inv er
  obtain ⟨_,rfl⟩:=ofF_inv hv
  have s4:=Same.upd (o:=HO.tup [.ref z,.int (L.T s i (L.cv c))]) hp
  (dsimp! [t_Corner_step_in_g2,t_Corner_step_in_b1,tDrop,tBM,rAppend,tCompG,iZip,gName,tVar,tCons,tNil,gTup,gCons,gNil])
  refine ⟨_,SqT.of upd_same,rfl,_,_,rfl,_,_,rfl,rfl,?_⟩
  have hp4:=s4 _ _ hm3
  have hq4:=hqs.same s4
  generalize upd H3 p (.tup [.ref z,.int (L.T s i (L.cv c))])=H4 at s4 hp4 hq4
  have s04:=s3.trans s4
  have bD:=lim.bD s ok
  have D0:=ok.ne
  have br:=lim.bc s r c ok (by omega)
  have bi:=lim.bc s i c ok (by omega)
  refine ⟨.inl ⟨rfl,_,SqL.of hp4⟩,_,rfl,⟨_,s04.seq (SqL.of hrow)⟩,⟨_,s04.seq (SqL.of hgr)⟩,compG_zip (K:=K) (a:=z) (b:=g) (xs:=List.map V.int (L.keptL s i)) (ys:=List.map V.int (L.keptL s r)) (λ j zs H5=>Same H4 H5∧zs=List.map V.int (ofF j λ k=>((L.keptL s i).getD k 0*L.T s r (L.cv c) - (L.keptL s r).getD k 0*L.T s i (L.cv c)).fdiv (L.D s))) ?_ ?_ ⟨Same.refl _,rfl⟩ ?_ ?_ ?_⟩
  ·rw [List.length_map,Lpd.keptL_length,sizeLine_eq];omega
  ·rw [List.length_map,List.length_map,Lpd.keptL_length,Lpd.keptL_length]
  ·rintro j zs H5 _ ⟨s5,_⟩
   exact ⟨(s04.trans s5).seq (SqL.of hrow),(s04.trans s5).seq (SqL.of hgr)⟩
  ·rintro j x y pp zs H5 hx hy _ ⟨s5,rfl⟩ hpp os ho
   obtain ⟨u,rfl,hu⟩:=get_ints hx
   obtain ⟨w,rfl,hw⟩:=get_ints hy
   obtain ⟨q1,q2,rfl⟩:∃ o1 o2,os=[o1,o2]:=by
    match os,ho with
    | [o1,o2],_=>exact ⟨o1,o2,rfl⟩
   have s6:=Same.upd (o:=HO.tup [.int u,.int w]) hpp
   have bu:=lim.kept ok (show i≤L.m by omega) u (List.mem_of_getElem? hu)
   have bw:=lim.kept ok (show r≤L.m by omega) w (List.mem_of_getElem? hw)
   have eu:=getD_of hu
   have ew:=getD_of hw
   (dsimp! [t_Corner_step_in_g1,t_Corner_step_in_c1,caught,List.map_cons,List.map_nil,Option.join_some,gName,tVar,tOp,rI0,rI,rSubI,rMulI,rDivI,rIxL,gTup,gCons,gNil,Lca,Lna])
   refine ⟨_,SqT.of upd_same,rfl,_,_,rfl,_,_,rfl,rfl,⟨[some (.int u),some (.int w)],rfl,rfl⟩,?_⟩
   refine ⟨_,((s04.trans s5).trans s6).seq (SqL.of hnl),_,atI_nat (j:=r) (v:=V.int (L.T s r (L.cv c))) (by rw [List.getElem?_map];unfold Lpd.numL;rw [ofF_get _ (by omega)];rfl),?_⟩
   refine ⟨_,rfl,_,rfl,.b bu br,_,rfl,.b bw bi,⟨by omega,bD⟩,s5.trans s6,?_⟩
   rw [ofF_snoc,List.map_append,eu,ew];rfl
  ·rintro zs H5 _ ⟨s5,rfl⟩ l hl
   rw [List.length_map,Lpd.keptL_length] at *
   have s6:=Same.upd (o:=HO.lst (List.map V.int (mvr L s c r i))) hl
   have hl6:(upd H5 l (.lst (List.map V.int (mvr L s c r i)))) l=some (.lst (List.map V.int (mvr L s c r i))):=upd_same
   have hm6:=s6 _ _ (s5 _ _ hp4)
   have hq6:=hq4.same (s5.trans s6)
   have s06:=s04.trans (s5.trans s6)
   have hlH:H l=none:=(s04.trans s5).free hl
   have hlm:l≠mv:=λ e=>by rw [e,s5 _ _ hp4] at hl;cases hl
   show ∃ x,upd H5 l (.lst (List.map V.int (mvr L s c r i))) mv=some (HO.lst x)∧x.length<sizeLine∧iv_step t nl mv g c r L s H (i+1) _ (upd (upd H5 l (.lst (List.map V.int (mvr L s c r i)))) mv (HO.lst (x++[V.ref l])))
   generalize upd H5 l (.lst (List.map V.int (mvr L s c r i)))=H6 at *
   refine ⟨_,hm6,by rw [List.length_map,hqs.length,ofF_length,sizeLine_eq];omega,_,_,qs++[l],rfl,s06.put hmv,?_,?_,λ x hx=>?_,λ hx=>?_⟩
   ·rw [upd_same,List.map_append];rfl
   ·refine RwsAt.put ?_ ?_
    ·intro hx
     rcases List.mem_append.mp hx with hx | hx
     ·exact hmq hx
     ·exact hlm (List.mem_singleton.mp hx).symm
    ·rw [ofF_snoc]
     exact RwsAt.snoc hq6 hl6
   ·rcases List.mem_append.mp hx with hx | hx
    ·exact hqn x hx
    ·rw [List.mem_singleton.mp hx];exact hlH
   ·rcases List.mem_append.mp hx with hx | hx
    ·exact hmq hx
    ·exact hlm (List.mem_singleton.mp hx).symm
 ·rintro σ H3 ⟨o1,o2,qs,rfl,s3,hm3,hqs,hqn,hmq⟩
  rw [List.length_map,kl] at hqs
  (dsimp! [t_Corner_step_in_r1,gSub,rSetL,sFld,tFld,tSeq,tAsg,tVar])
  have hql:qs.length=L.m+1:=by rw [hqs.length,ofF_length]
  have tmv:t≠mv:=ne_of_none P.ob hmv
  have imv:ins≠mv:=ne_of_none P.hi hmv
  have tin:t≠ins:=ne_of P.ob P.hi (by intro z;cases z)
  have hgm:mn t ins H g=some (.lst (List.map V.int (L.keptL s r))):=by
   obtain ⟨_,e1,e2⟩:=P.hks.get hg
   obtain ⟨_,rfl⟩:=ofF_inv e1
   exact e2
  have gti:g≠t∧g≠ins:=by
   constructor
   ·rintro rfl;unfold mn at hgm;rw [if_pos (.inl rfl)] at hgm;cases hgm
   ·rintro rfl;unfold mn at hgm;rw [if_pos (.inr rfl)] at hgm;cases hgm
  have gmv:mv≠g:=λ e=>by rw [e,hgr] at hmv;cases hmv
  have eset:(List.map V.ref qs).set r (V.ref g)=List.map V.ref (qs.set r g):=by rw [List.map_set]
  have s4:Same H (upd H3 mv (.lst (List.map V.ref (qs.set r g)))):=s3.put hmv
  have hrows:RwsAt (upd H3 mv (.lst (List.map V.ref (qs.set r g)))) (qs.set r g) (ofF (L.m+1) (L.keptL (Lpd.sput s r c))):=by
   rw [← mvr_all ok hr]
   refine RwsAt.put (λ hx=>?_) (RwsAt.setr (s3 _ _ hgr) r hqs)
   rcases List.mem_or_eq_of_mem_set hx with hx | hx
   ·exact hmq hx
   ·exact gmv hx
  have hmv4:(upd H3 mv (.lst (List.map V.ref (qs.set r g)))) mv=some (.lst (List.map V.ref (qs.set r g))):=upd_same
  refine ⟨_,hm3,_,by rw [List.length_map,hql];exact ixN_int (by omega) (by omega),?_⟩
  rw [Int.toNat_natCast,eset]
  generalize upd H3 mv (.lst (List.map V.ref (qs.set r g)))=H4 at s4 hrows hmv4
  refine ⟨_,_,_,s4 _ _ P.ob,C.cl,C.nk,by show 4<1000;decide,_,_,_,upd_same,C.cl,C.ni,_,cfl_inside b sp mv ins,_,rfl,_,(by rw [upd_ne tin.symm];exact s4 _ _ P.hi),_,(by rw [List.length_map,il];exact ixN_int (by omega) (by omega)),?_⟩
  rw [Int.toNat_natCast,cfl_put]
  have em:∀ o o',mn t ins (upd (upd H4 t o) ins o')=mn t ins H4:=λ o o'=>by rw [mn_upd (.inr rfl),mn_upd (.inl rfl)]
  have sm4:Same (mn t ins H) (mn t ins H4):=mn_mono s4
  have P5:CorP K (upd (upd H4 t (.ins (gadr K "Corner") dx (cfl b sp mv ins))) ins (.lst ((List.map V.int (L.insL s)).set r (V.int c)))) t ins L (Lpd.sput s r c) dx b sp mv bs ss (qs.set r g):=by
   refine ⟨?_,?_,?_,?_,P.sl,P.sb,?_,?_,?_⟩
   ·rw [upd_ne tin,upd_same]
   ·rw [em];exact sm4 _ _ P.hb
   ·rw [em];exact P.hbs.same sm4
   ·rw [em];exact sm4 _ _ P.hs
   ·rw [em];exact mn_of hmv4 tmv.symm imv.symm
   ·rw [em]
    refine hrows.mn (λ hx=>?_) (λ hx=>?_)
    ·rcases List.mem_or_eq_of_mem_set hx with hx | hx
     ·have:=hqn _ hx;rw [P.ob] at this;cases this
     ·exact gti.1 hx.symm
    ·rcases List.mem_or_eq_of_mem_set hx with hx | hx
     ·have:=hqn _ hx;rw [P.hi] at this;cases this
     ·exact gti.2 hx.symm
   ·rw [upd_same,← List.map_set]
    unfold Lpd.insL
    rw [ofF_set]
    congr 3
    refine ofF_congr λ k _=>?_
    unfold Lpd.sput
    split <;> rfl
  refine q _ (by rw [em];exact sm4) ⟨_,_,_,_,_,_,_,P5⟩ λ f hf0 F=>?_
  obtain ⟨n1,n2,n3,n4,n5⟩:=F.of P
  refine ⟨_,_,_,_,_,_,_,P5,n1,n2,λ e=>hf0 (by rw [e];exact hmv),n4,λ hx=>?_⟩
  rcases List.mem_or_eq_of_mem_set hx with hx | hx
  ·exact hf0 (hqn _ hx)
  ·exact n5 (by rw [hx];exact List.mem_of_getElem? hg)
noncomputable def N_unstopped:List PySem.Str:=["corner", "column", "numbers", "at"]
noncomputable def sp_unstopped (K:W.Frag):Sp:=λ vs H Q _=>∃ t ins L s,vs=[.ref t]∧CorAt K H t ins L s∧L.Lim∧L.Okx s∧ins_ok L s ∧
 ∀ o s' H',Same (mn t ins H) (mn t ins H')→CorAt K H' t ins L s'→L.Okx s'→ins_ok L s'→UnO L s' o→Q (oV o) H'
noncomputable def iv_unst (K:W.Frag) (t ins:Addr) (L:Lpd) (H0:Hp) (σ:St) (H3:Hp) (s:Nat→Nat) (o:Option Nat):Prop:=(∃ o1 o2,σ=[some (.ref t),some (oV o),o1,o2])∧Same (mn t ins H0) (mn t ins H3)∧CorAt K H3 t ins L s∧L.Okx s∧ins_ok L s∧EntO L s (L.n+L.m) o
open Classical in
noncomputable def mu_un (K:W.Frag) (t ins:Addr) (L:Lpd) (H0:Hp) (σ:St) (H3:Hp):Nat:=if h:∃ s,∃ o,iv_unst K t ins L H0 σ H3 s o then L.mu (Classical.choose h) else 0
noncomputable def t_unstopped_r1 (K:W.Frag):TS:=(tRet (tC .non))
noncomputable def t_unstopped_b1 (K:W.Frag):TS:=(tSeq (tAsg (tMeth (gadr K "Corner") "numbers" (sp_Corner_numbers K) [] E0 (tVar 0) (tCons (tVar 1) tNil)) (gName 2)) (tSeq (tAsg (tMeth (gadr K "Corner") "leaving_by" (sp_Corner_leaving_by K) [] E0 (tVar 0) (tCons (tVar 2) tNil)) (gName 3)) (tSeq (tIfS (tTest (tOp rIsN (tVar 3) (tC .non))) (tRet (tVar 1)) tNext) (tSeq (tDrop (tMeth (gadr K "Corner") "step_in" (sp_Corner_step_in K) [] E0 (tVar 0) (tCons (tVar 1) (tCons (tVar 2) (tCons (tVar 3) tNil))))) (tAsg (tMeth (gadr K "Corner") "entering" (sp_Corner_entering K) [] E0 (tVar 0) tNil) (gName 1))))))
noncomputable def t_unstopped (K:W.Frag):TS:=(tSeq (tAsg (tMeth (gadr K "Corner") "entering" (sp_Corner_entering K) [] E0 (tVar 0) tNil) (gName 1)) (tSeq (tWhile (tTest (tOp rNotN (tVar 1) (tC .non))) (t_unstopped_b1 K)) (t_unstopped_r1 K)))
theorem len_unstopped {K vs H Q E} (h:sp_unstopped K vs H Q E):vs.length=1:=by obtain ⟨_,_,_,_,rfl,_⟩:=h;rfl
theorem insL_inj {L:Lpd} {s s':Nat→Nat} (h:L.insL s=L.insL s') {i:Nat} (hi:i<L.m):s i=s' i:=by
 unfold Lpd.insL at h
 have h1:=ofF_get (λ i=>(s i:Int)) hi
 rw [h,ofF_get (λ i=>(s' i:Int)) hi] at h1
 have:=Option.some.inj h1
 omega
theorem D_congr {L:Lpd} {s s':Nat→Nat} (h:∀ i,i<L.m→s i=s' i):L.B s=L.B s':=by
 funext i
 unfold Lpd.B
 by_cases hi:i<L.m
 ·rw [if_pos hi,if_pos hi,h i hi]
 ·rw [if_neg hi,if_neg hi]
theorem mu_congr {L:Lpd} {s s':Nat→Nat} (h:∀ i,i<L.m→s i=s' i):L.mu s=L.mu s':=by
 have e:=D_congr h
 unfold Lpd.mu Lpd.Fur Lpd.T Lpd.D
 rw [e]
theorem CorAt.ins_eq {K:W.Frag} {H:Hp} {t ins:Addr} {L:Lpd} {s s':Nat→Nat} (h:CorAt K H t ins L s) (h':CorAt K H t ins L s'):∀ i,i<L.m→s i=s' i:=λ i hi=>by
 obtain ⟨_,_,_,_,_,_,_,P⟩:=h
 obtain ⟨_,_,_,_,_,_,_,P'⟩:=h'
 have e:=P.hi.symm.trans P'.hi
 injection e with e
 injection e with e
 exact insL_inj (List.map_inj_right (λ a b h=>by injection h) |>.mp e) hi
theorem mu_un_eq {K:W.Frag} {t ins:Addr} {L:Lpd} {H0:Hp} {σ:St} {H3:Hp} {s:Nat→Nat} {o:Option Nat} (h:iv_unst K t ins L H0 σ H3 s o):mu_un K t ins L H0 σ H3=L.mu s:=by
 unfold mu_un
 have hx:∃ s,∃ o,iv_unst K t ins L H0 σ H3 s o:=⟨s,o,h⟩
 rw [dif_pos hx]
 obtain ⟨o',h'⟩:=Classical.choose_spec hx
 exact mu_congr (h'.2.2.1.ins_eq h.2.2.1)
theorem mu_step {L:Lpd} {s s':Nat→Nat} (o:L.Okx s) (o':L.Okx s') (hs:ins_ok L s') (h:L.Fur s s'):L.mu s'<L.mu s:=by
 have e:∀ i,i<L.m→s' i=Lpd.sf (ofF L.m s') i:=λ i hi=>by
  unfold Lpd.sf
  rw [List.getD_eq_getElem?_getD,ofF_get _ hi];rfl
 rw [mu_congr e]
 have eB:=D_congr e
 have eD:L.D s'=L.D (Lpd.sf (ofF L.m s')):=by unfold Lpd.D;rw [eB]
 refine Lpd.mu_lt o.pos (eD ▸ o'.pos) (ofF_length _ _) (λ c hc=>?_) ?_
 ·obtain ⟨k,hk,rfl⟩:=ofF_mem hc
  exact hs k hk
 ·unfold Lpd.Fur Lpd.T Lpd.D at h ⊢
  rw [← eB];exact h
theorem rd_unstopped {K vs H Q E} (h:sp_unstopped K vs H Q E):t_unstopped K { nx:=λ _ H'=>Q .non H',rt:=Q } (start N_unstopped vs) H:=by
 obtain ⟨t,ins,L,s,rfl,ca,lim,ok,io,q⟩:=h
 obtain ⟨dx,b,sp,k,bs,ss,ks,P⟩:=id ca
 rw [show start N_unstopped [V.ref t]=[some (.ref t),none,none,none] from rfl]
 (dsimp! [t_unstopped,tMeth,tSeq,tAsg,gName,tVar,tNil,List.append_nil])
 refine ⟨_,_,P.ob,rfl,_,_,_,_,rfl,ca,lim,ok.n,λ o H1 s1 en=>?_⟩
 refine while_by (λ σ H'=>∃ s o,iv_unst K t ins L H σ H' s o) (mu_un K t ins L H) ⟨s,o,⟨_,_,rfl⟩,mn_mono s1,ca.same s1,ok,io,en⟩ ?_ ?_
 ·rintro σ H3 ⟨s3,o3,iv⟩
  have emu:=mu_un_eq iv
  rw [emu]
  obtain ⟨⟨q1,q2,rfl⟩,sm3,ca3,ok3,io3,en3⟩:=iv
  (dsimp! [rNotN,tVar,tC,tOp,tTest])
  cases o3 with
  | none =>
   (try dsimp only [t_unstopped_r1,tC,tRet,exI_lit,exB_lit,exR_lit];try simp only [oV,decide_true,Bool.not_true,Bool.false_eq_true,if_false,t_unstopped_r1,tC,tRet,Option.some.injEq,exists_eq_left',exists_eq_left,V.int.injEq,V.ref.injEq,V.bl.injEq,List.cons.injEq,and_true,true_and,exists_and_left,and_assoc,exI_lit,exB_lit,exR_lit,exI_ex,exB_ex,exR_ex])
   exact q none s3 H3 sm3 ca3 ok3 io3 en3
  | some c =>
   (try dsimp only [t_unstopped_b1,tMeth,rIsN,tDrop,tSeq,tAsg,gName,tVar,tC,tOp,tRet,tIfS,tTest,tNext,tCons,tNil,Lq0,Lq1,Ls0,Ls1,exI_lit,exB_lit,exR_lit];try simp only [oV,reduceCtorEq,decide_false,Bool.not_false,if_true,t_unstopped_b1,tMeth,rIsN,tDrop,tSeq,tAsg,gName,tVar,tC,tOp,tRet,tIfS,tTest,tNext,tCons,tNil,Lq0,Lq1,Ls0,Ls1,Option.some.injEq,exists_eq_left',V.ref.injEq,V.bl.injEq,true_and,List.append_nil,exists_and_left,decide_eq_true_eq,exists_eq_left,V.int.injEq,List.cons.injEq,and_true,and_assoc,exI_lit,exB_lit,exR_lit,exI_ex,exB_ex,exR_ex])
   obtain ⟨dx3,b3,sp3,k3,bs3,ss3,ks3,P3⟩:=id ca3
   refine ⟨_,_,P3.ob,rfl,_,_,_,_,_,rfl,ca3,lim,ok3.n,en3.1,λ nl H4 s4 hn4 hnl=>?_⟩
   refine ⟨_,_,(P3.same s4).ob,rfl,_,_,_,_,_,_,rfl,ca3.same s4,lim,ok3.n,hnl,λ o5 H5 s5 lv=>?_⟩
   have sm5:Same (mn t ins H) (mn t ins H5):=sm3.trans (mn_mono (s4.trans s5))
   have ca5:=ca3.same (s4.trans s5)
   cases o5 with
   | none =>
    simp only [oV,if_true,exists_eq_left',V.int.injEq,Option.some.injEq,exists_eq_left,V.ref.injEq,V.bl.injEq,List.cons.injEq,and_true,true_and,exists_and_left,and_assoc,exI_lit,exB_lit,exR_lit,exI_ex,exB_ex,exR_ex]
    exact q (some c) s3 H5 sm5 ca5 ok3 io3 ⟨en3.1,en3.2,λ i hi=>lv i (by omega)⟩
   | some r =>
    obtain ⟨hr,hp,hmin⟩:=lv
    have hrm:r<L.m:=by
     have:=en3.2
     rcases Nat.lt_or_ge r L.m with h | h
     ·exact h
     ·have:r=L.m:=by omega
      subst this;omega
    have ok':=ok3.step hrm hp λ i hi hpi=>hmin i (by omega) hpi
    have io':ins_ok L (Lpd.sput s3 r c):=λ i hi=>by
     unfold Lpd.sput;split
     ·exact en3.1
     ·exact io3 i hi
    have fur:=ok3.further (r:=r) (c:=c) hrm en3.2
    simp only [oV,reduceCtorEq,if_false,exists_eq_left',V.int.injEq,Option.some.injEq,exists_eq_left,V.ref.injEq,V.bl.injEq,List.cons.injEq,and_true,true_and,exists_and_left,and_assoc,exI_lit,exB_lit,exR_lit,exI_ex,exB_ex,exR_ex]
    refine ⟨_,_,(P3.same (s4.trans s5)).ob,rfl,_,_,_,_,_,_,_,rfl,ca5,lim,ok3.n,s5 _ _ hnl,hrm,λ H6 sm6 ca6 _=>?_⟩
    obtain ⟨dx6,b6,sp6,k6,bs6,ss6,ks6,P6⟩:=id ca6
    refine ⟨_,_,P6.ob,rfl,_,_,_,_,rfl,ca6,lim,ok'.n,λ o7 H7 s7 en7=>?_⟩
    have iv7:iv_unst K t ins L H [some (.ref t),some (oV o7),some (.ref nl),some (.int r)] H7 (Lpd.sput s3 r c) o7:=⟨⟨_,_,rfl⟩,(sm5.trans sm6).trans (mn_mono s7),ca6.same s7,ok',io',en7⟩
    refine ⟨⟨_,_,iv7⟩,?_⟩
    rw [mu_un_eq iv7]
    exact mu_step ok3 ok' io' fur
 ·intro σ H' Q1 Q2 im h
  dsimp only [tTest,tOp,tUn,rNotN] at h ⊢
  first
  | (obtain ⟨v,hv,hx,e⟩:=tVar_el h
     exact tVar_in hv ⟨hx,im _ _ e⟩)
  | (obtain ⟨v,hv,hx,b,hb,e⟩:=tVar_el h
     exact tVar_in hv ⟨hx,b,hb,im _ _ e⟩)
noncomputable def N_turned_round:List PySem.Str:=["row"]
noncomputable def sp_turned_round (K:W.Frag):Sp:=λ vs H Q _=>∃ a ns,vs=[.ref a]∧SqL K H a (List.map V.int ns)∧ns.length≤200∧∀ l H',Same H H'→H l=none→H' l=some (.lst (List.map V.int (ns.map λ x=>-x)))→Q (.ref l) H'
noncomputable def t_turned_round_c1 (K:W.Frag):TE:=(tUn rNegI (tVar 0))
noncomputable def t_turned_round (K:W.Frag):TS:=(tRet (tComp (iList K (tVar 0)) [] (t_turned_round_c1 K)))
theorem len_turned_round {K vs H Q E} (h:sp_turned_round K vs H Q E):vs.length=1:=by obtain ⟨_,_,rfl,_⟩:=h;rfl
theorem rd_turned_round {K vs H Q E} (h:sp_turned_round K vs H Q E):t_turned_round K { nx:=λ _ H'=>Q .non H',rt:=Q } (start N_turned_round vs) H:=by
 obtain ⟨a,ns,rfl,ha,nl,q⟩:=h
 rw [show start N_turned_round [V.ref a]=[some (.ref a)] from rfl]
 (try dsimp? [t_turned_round,tComp,iList];try simp_arith [t_turned_round,tComp,iList])
 refine ⟨⟨_,ha⟩,comp_list (K:=K) (a:=a) (xs:=List.map V.int ns) (λ i zs H3=>H3=H∧zs=List.map V.int ((ns.take i).map λ x=>-x)) (by rw [List.length_map,sizeLine_eq];omega) ⟨rfl,rfl⟩ ?_ ?_ ?_⟩
 ·rintro i zs H3 _ ⟨rfl,_⟩
  exact ha
 ·rintro i x zs H3 hi _ ⟨rfl,rfl⟩
  obtain ⟨n,rfl,hn⟩:=get_ints hi
  (try dsimp? [t_turned_round_c1];try simp_arith [t_turned_round_c1])
  rw [take_snoc hn,List.map_append,List.map_append];rfl
 ·rintro zs H3 _ ⟨rfl,rfl⟩ p hp
  rw [List.length_map,List.take_length]
  exact q p _ (Same.upd hp) hp upd_same
noncomputable def N_Corner_comes_to:List PySem.Str:=["self", "inside", "first", "free", "column", "numbers", "places"]
noncomputable def sp_Corner_comes_to (K:W.Frag):Sp:=λ vs H Q _=>∃ t ins L g,∃ gs:List Nat,vs=[.ref t,.ref g]∧CorAt K H t ins L L.ins0∧L.Lim∧L.fl=false∧1≤L.m∧mn t ins H g=some (.lst (List.map V.int (gs.map λ c:Nat=>(c:Int))))∧gs.length=L.m ∧
 (∀ H',Same (mn t ins H) (mn t ins H')→Q (.bl false) H') ∧
 ∀ L2 s H',(L2=L∨L2=L.flip)→Same (mn t ins H) (mn t ins H')→CorAt K H' t ins L2 s→L2.Ok s→ins_ok L2 s→Q (.bl true) H'
noncomputable def t_Corner_comes_to_r1 (K:W.Frag):TS:=(tRet (tOp rGeI (tCB (cMinL K) (tCons (tCall (sp_column_of K) [] E0 (tCons (tSl (rSlL K) (tFld K (tVar 0) "kept") tNoPart (tPart (tUn rNegI (tC (.int 1))))) (tCons (tUn rNegI (tC (.int 1))) tNil))) tNil)) (tC (.int 0))))
noncomputable def t_Corner_comes_to_c1 (K:W.Frag):TE:=(tCall (sp_turned_round K) [] E0 (tCons (tVar 0) tNil))
noncomputable def t_Corner_comes_to_r2 (K:W.Frag):TS:=(tSeq (tIfS (tTest (tOp rLtI (tMeth (gadr K "Corner") "bottom" (sp_Corner_bottom K) [] E0 (tVar 0) tNil) (tC (.int 0)))) (sFld K (tVar 0) (tComp (iList K (tFld K (tVar 0) "kept")) [] (t_Corner_comes_to_c1 K)) "kept") tNext) (t_Corner_comes_to_r1 K))
noncomputable def t_Corner_comes_to_c2 (K:W.Frag):TE:=(tVar 0)
noncomputable def t_Corner_comes_to_r3 (K:W.Frag):TS:=(tSeq (tDrop (tMeth (gadr K "Corner") "step_in" (sp_Corner_step_in K) [] E0 (tVar 0) (tCons (tVar 4) (tCons (tVar 5) (tCons (tOp (rIxL K) (tVar 6) (tC (.int 0))) tNil))))) (tDrop (tBM K "list" rRemove (tVar 3) (tCons (tOp (rIxL K) (tVar 6) (tC (.int 0))) tNil))))
noncomputable def t_Corner_comes_to_r4 (K:W.Frag):TS:=(tSeq (tIfS (tNot (tTru K (tVar 6))) (tRet (tC (.bl false))) tNext) (t_Corner_comes_to_r3 K))
noncomputable def t_Corner_comes_to_c3 (K:W.Frag):TE:=(tVar 0)
noncomputable def t_Corner_comes_to_r5 (K:W.Frag):TS:=(tSeq (tAsg (tCompI (iList K (tVar 3)) [5] (tTest (tOp rNe (tOp (rIxL K) (tVar 1) (tVar 0)) (tC (.int 0)))) (t_Corner_comes_to_c3 K)) (gName 6)) (t_Corner_comes_to_r4 K))
noncomputable def t_Corner_comes_to_b1 (K:W.Frag):TS:=(tSeq (tAsg (tMeth (gadr K "Corner") "numbers" (sp_Corner_numbers K) [] E0 (tVar 0) (tCons (tVar 4) tNil)) (gName 5)) (t_Corner_comes_to_r5 K))
noncomputable def t_Corner_comes_to_r6 (K:W.Frag):TS:=(tSeq (tFor (iList K (tCompI (iList K (tVar 1)) [2] (tTest (tOp rLtI (tVar 0) (tVar 1))) (t_Corner_comes_to_c2 K))) (gName 4) (t_Corner_comes_to_b1 K)) (t_Corner_comes_to_r2 K))
noncomputable def t_Corner_comes_to_c4 (K:W.Frag):TE:=(tVar 0)
noncomputable def t_Corner_comes_to_r7 (K:W.Frag):TS:=(tSeq (tAsg (tCompI (iRng1 (tCons (tCB (cLen K) (tCons (tVar 1) tNil)) tNil)) [1,2] (tTest (tOp (rIn K true) (tOp rAddI (tVar 2) (tVar 0)) (tVar 1))) (t_Corner_comes_to_c4 K)) (gName 3)) (t_Corner_comes_to_r6 K))
noncomputable def t_Corner_comes_to (K:W.Frag):TS:=(tSeq (tAsg (tCB (cLen K) (tCons (tFld K (tVar 0) "begun") tNil)) (gName 2)) (t_Corner_comes_to_r7 K))
theorem len_Corner_comes_to {K vs H Q E} (h:sp_Corner_comes_to K vs H Q E):vs.length=2:=by obtain ⟨_,_,_,_,_,rfl,_⟩:=h;rfl
theorem RwsAt.take {H:Hp}:∀ {ps:List Addr} {rs:List (List Int)} (i:Nat),RwsAt H ps rs→RwsAt H (ps.take i) (rs.take i)
 | _,_,0,_=>trivial
 | [],[],_+1,_=>trivial
 | _::_,_::_,i+1,h=>⟨h.1,RwsAt.take i h.2⟩
 | [],_::_,_,h=>h.elim
 | _::_,[],_,h=>h.elim
theorem ofF_take {α:Type} {n i:Nat} {f:Nat→α} (h:i≤n):(ofF n f).take i=ofF i f:=by
 unfold ofF;rw [← List.map_take,List.take_range,Nat.min_eq_left h]
theorem ofF_map {α β:Type} {n:Nat} {f:Nat→α} {g:α→β}:(ofF n f).map g=ofF n λ k=>g (f k):=by unfold ofF;rw [List.map_map];rfl
theorem rd_comes_r1 {K:W.Frag} (C:CorK K) {Q:VK} {G:Hp} {t ins:Addr} {L:Lpd} {s:Nat→Nat} {o1 o2 o3 o4 o5 o6:Option V} (ca:CorAt K G t ins L s) (lim:L.Lim) (m1:1≤L.m)
  (k0:∀ H',Same G H'→Q (.bl false) H') (k1:∀ H',Same G H'→(∀ i,i<L.m→0≤L.T s i L.be)→Q (.bl true) H') :
  t_Corner_comes_to_r1 K { nx:=λ _ H'=>Q .non H',rt:=Q } [some (.ref t),o1,o2,o3,o4,o5,o6] G:=by
 obtain ⟨dx,b,sp,k,bs,ss,ks,P⟩:=ca
 have kl:=P.kl
 have ml:=lim.m1
 (try dsimp? [t_Corner_comes_to_r1,tFld,rSlL,cMinL];try simp_arith [t_Corner_comes_to_r1,tFld,rSlL,cMinL])
 refine ⟨_,_,_,P.ob,C.cl,C.nk,_,cfl_kept b sp k ins,k,rfl,_,SqL.of P.Kp,λ z hz=>?_⟩
 have ec:cutV (List.map V.ref ks) none (some (-1))=List.map V.ref (ks.take L.m):=by rw [cut_last,List.length_map,kl,Nat.add_sub_cancel,List.map_take]
 rw [ec]
 have hks:RwsAt G (ks.take L.m) (ofF L.m (L.keptL s)):=by have:=P.Ks.take L.m;rwa [ofF_take (Nat.le_succ _)] at this
 refine ⟨z,_,_,-1,L.m+1,rfl,SqL.of upd_same,hks.same (Same.upd hz),by rw [ofF_length];omega,λ r hr=>?_,λ l H1 s1 hl hl1=>?_⟩
 ·obtain ⟨i,hi,rfl⟩:=ofF_mem hr
  rw [getD_of (L.keptL_last s i)]
  exact atI_last (by rw [List.length_map,Lpd.keptL_length,List.getElem?_map,show L.m+2 - 1=L.m+1 by omega,L.keptL_last];rfl)
 ·have s01:=(Same.upd (o:=HO.lst (List.map V.ref (ks.take L.m))) hz).trans s1
  rw [ofF_map,ofF_congr λ i _=>getD_of (L.keptL_last s i)] at hl1
  refine ⟨l,rfl,_,SqL.of hl1,λ e=>?_,λ M hM hA=>?_⟩
  ·have:=congrArg List.length e
   rw [ofF_length] at this
   simp at this;omega
  ·by_cases h0:0≤M
   ·rw [decide_eq_true h0]
    refine k1 H1 s01 λ i hi=>?_
    have:=hA _ (List.mem_of_getElem? (ofF_get (λ i=>L.T s i L.be) hi))
    omega
   ·rw [decide_eq_false h0]
    exact k0 H1 s01
theorem rd_comes_r2 {K:W.Frag} (C:CorK K) {Q:VK} {G:Hp} {t ins:Addr} {L:Lpd} {s:Nat→Nat} {o1 o2 o3 o4 o5 o6:Option V} (ca:CorAt K G t ins L s) (lim:L.Lim) (m1:1≤L.m) (ok:L.Okn s) (io:ins_ok L s)
  (k0:∀ H',Same (mn t ins G) (mn t ins H')→Q (.bl false) H') (k1:∀ L2 H',(L2=L∨L2=L.flip)→Same (mn t ins G) (mn t ins H')→CorAt K H' t ins L2 s→L2.Ok s→ins_ok L2 s→Q (.bl true) H') :
  t_Corner_comes_to_r2 K { nx:=λ _ H'=>Q .non H',rt:=Q } [some (.ref t),o1,o2,o3,o4,o5,o6] G:=by
 obtain ⟨dx,b,sp,k,bs,ss,ks,P⟩:=id ca
 have kl:=P.kl
 have ml:=lim.m1
 have tin:t≠ins:=ne_of P.ob P.hi (by intro z;cases z)
 have D0:=ok.ne
 (try dsimp? [t_Corner_comes_to_r2,tMeth,tComp,iList,sFld,tFld];try simp_arith [t_Corner_comes_to_r2,tMeth,tComp,iList,sFld,tFld,if_true])
 refine ⟨_,_,P.ob,rfl,t,ins,L,s,rfl,ca,_,rfl,ite2 (λ hD=>?_) (λ hD=>?_)⟩
 ·refine ⟨_,_,_,P.ob,C.cl,C.nk,_,cfl_kept b sp k ins,k,rfl,⟨_,SqL.of P.Kp⟩,comp_list (K:=K) (a:=k) (xs:=List.map V.ref ks) (λ i zs H3=>Same G H3∧∃ qs,zs=List.map V.ref qs∧RwsAt H3 qs (ofF i (L.flip.keptL s))∧∀ x∈qs,G x=none) ?_ ⟨Same.refl _,[],rfl,trivial,(λ _ h=>nomatch h)⟩ ?_ ?_ ?_⟩
  ·rw [List.length_map,kl,sizeLine_eq];omega
  ·rintro i zs H3 _ ⟨s3,_⟩
   exact SqL.of (s3 _ _ P.Kp)
  ·rintro i x zs H3 hi _ ⟨s3,qs,rfl,hq,qn⟩
   obtain ⟨z,rfl,hz⟩:=get_refs hi
   obtain ⟨row,er,hrow⟩:=(P.Ks.same s3).get hz
   obtain ⟨hin,rfl⟩:=ofF_inv er
   (try dsimp? [t_Corner_comes_to_c1];try simp_arith [t_Corner_comes_to_c1])
   refine ⟨z,_,rfl,SqL.of hrow,by rw [Lpd.keptL_length];omega,λ l H4 s4 hl hl4=>⟨s3.trans s4,qs++[l],by rw [List.map_append];rfl,?_,λ x hx=>?_⟩⟩
   ·rw [ofF_snoc]
    exact RwsAt.snoc (hq.same s4) (by rw [hl4,L.flip_kept])
   ·rcases List.mem_append.mp hx with hx | hx
    ·exact qn x hx
    ·rw [List.mem_singleton.mp hx];exact s3.free hl
  ·rintro zs H3 _ ⟨s3,qs,rfl,hq,qn⟩ p hp
   rw [List.length_map,kl] at hq
   have s4:=s3.trans (Same.upd (o:=HO.lst (List.map V.ref qs)) hp)
   have hq4:=hq.same (Same.upd (o:=HO.lst (List.map V.ref qs)) hp)
   have p4:(upd H3 p (HO.lst (List.map V.ref qs))) p=some (HO.lst (List.map V.ref qs)):=upd_same
   have p0:G p=none:=s3.free hp
   generalize upd H3 p (HO.lst (List.map V.ref qs))=H4 at s4 hq4 p4
   refine ⟨_,_,_,s4 _ _ P.ob,C.cl,C.nk,by show 4<1000;decide,?_⟩
   rw [cfl_put]
   have em:∀ o,mn t ins (upd H4 t o)=mn t ins H4:=λ o=>mn_upd (.inl rfl)
   have sm4:Same (mn t ins G) (mn t ins H4):=mn_mono s4
   have ca2:CorAt K (upd H4 t (.ins (gadr K "Corner") dx (cfl b sp p ins))) t ins L.flip s:=by
    refine ⟨dx,b,sp,p,bs,ss,qs,upd_same,?_,?_,?_,P.sl,P.sb,?_,?_,?_⟩
    ·rw [em];exact sm4 _ _ P.hb
    ·rw [em];exact P.hbs.same sm4
    ·rw [em];exact sm4 _ _ P.hs
    ·rw [em];exact mn_of p4 (ne_of_none P.ob p0).symm (ne_of_none P.hi p0).symm
    ·rw [em]
     exact hq4.mn (λ hx=>by have:=qn _ hx;rw [P.ob] at this;cases this) (λ hx=>by have:=qn _ hx;rw [P.hi] at this;cases this)
    ·rw [upd_ne tin.symm];exact s4 _ _ P.hi
   have sm5:Same (mn t ins G) (mn t ins (upd H4 t (.ins (gadr K "Corner") dx (cfl b sp p ins)))):=by rw [em];exact sm4
   generalize upd H4 t (.ins (gadr K "Corner") dx (cfl b sp p ins))=H5 at ca2 sm5
   refine rd_comes_r1 C ca2 lim.flip m1 (λ H' s'=>k0 H' (sm5.trans (mn_mono s'))) λ H' s' h0=>k1 L.flip H' (.inr rfl) (sm5.trans (mn_mono s')) (ca2.same s') ⟨?_,ok.cr,h0⟩ io
   rw [Lpd.flip_D];omega
 ·refine rd_comes_r1 C ca lim m1 (λ H' s'=>k0 H' (mn_mono s')) λ H' s' h0=>k1 L H' (.inl rfl) (mn_mono s') (ca.same s') ⟨by omega,ok.cr,h0⟩ io
structure CmAt (K:W.Frag) (H0 H:Hp) (t ins f cl:Addr) (L:Lpd) (s:Nat→Nat) (fr cs:List Nat):Prop where
 sm:Same (mn t ins H0) (mn t ins H)
 ca:CorF K H t ins L s f
 ok:L.Okn s
 io:ins_ok L s
 f0:H0 f=none
 hf:mn t ins H f=some (.lst (List.map V.int (fr.map λ i:Nat=>(i:Int))))
 fm:∀ x∈fr,x<L.m
 fl:fr.length≤L.m
 hc:mn t ins H cl=some (.lst (List.map V.int (cs.map λ i:Nat=>(i:Int))))
 cf:cl≠f
noncomputable def iv_comes (K:W.Frag) (H0:Hp) (t ins g f cl:Addr) (L:Lpd) (cs:List Nat):Nat→St→Hp→Prop:=λ _ σ H3=>∃ s fr o4 o5 o6,σ=[some (.ref t),some (.ref g),some (.int L.n),some (.ref f),o4,o5,o6]∧CmAt K H0 H3 t ins f cl L s fr cs
theorem first_at:∀ {l:List Nat} {r:Nat},r∈l→∃ j:Nat,l[j]?=some r∧∀ m:Nat,m<j→l[m]?≠some r
 | [],_,h=>nomatch h
 | a::l,r,h=>by
  by_cases e:a=r
  ·exact ⟨0,by rw [e];rfl,λ m hm=>absurd hm (Nat.not_lt_zero _)⟩
  ·rcases List.mem_cons.mp h with h | h
   ·exact absurd h.symm e
   ·obtain ⟨j,h1,h2⟩:=first_at h
    refine ⟨j+1,by simpa using h1,λ m hm=>?_⟩
    cases m with
    | zero=>intro z;exact e (by simpa using z)
    | succ m=>have:=h2 m (by omega);simpa using this
theorem get_nts {ns:List Nat} {i:Nat} {x:V} (h:(List.map V.int (ns.map λ i:Nat=>(i:Int)))[i]?=some x):∃ y:Nat,x=.int (y:Int)∧ns[i]?=some y:=by
 rw [List.getElem?_map,List.getElem?_map] at h
 cases e:ns[i]? with
 | none=>rw [e] at h;cases h
 | some y=>rw [e] at h;exact ⟨y,(Option.some.inj h).symm,rfl⟩
theorem rd_comes_b1 {K:W.Frag} {D:Ends} {H0 G:Hp} {t ins g f cl:Addr} {L:Lpd} {s:Nat→Nat} {fr cs:List Nat} {c:Nat} {o5 o6:Option V} (lim:L.Lim) (I:CmAt K H0 G t ins f cl L s fr cs) (hc:c<L.n)
  (k0:∀ H',Same (mn t ins H0) (mn t ins H')→D.rt (.bl false) H') (k1:∀ s' fr' o5 o6 H',CmAt K H0 H' t ins f cl L s' fr' cs→D.nx [some (.ref t),some (.ref g),some (.int L.n),some (.ref f),some (.int c),o5,o6] H') :
  t_Corner_comes_to_b1 K D [some (.ref t),some (.ref g),some (.int L.n),some (.ref f),some (.int c),o5,o6] G:=by
 obtain ⟨dx,b,sp,k,bs,ss,ks,P⟩:=id I.ca.at
 (try dsimp? [t_Corner_comes_to_b1,tMeth];try simp_arith [t_Corner_comes_to_b1,tMeth,if_true])
 refine ⟨_,_,P.ob,rfl,t,ins,L,s,c,rfl,I.ca.at,lim,I.ok,by omega,λ nl H1 s1 hn hn1=>?_⟩
 have ml:=lim.m1
 have fl:=I.fl
 have hf1:=s1 _ _ (mn_same _ _ I.hf)
 (try dsimp? [t_Corner_comes_to_r5,tCompI,iList];try simp_arith [t_Corner_comes_to_r5,tCompI,iList])
 refine ⟨⟨_,SqL.of hf1⟩,comp_listI (K:=K) (a:=f) (xs:=List.map V.int (fr.map λ i:Nat=>(i:Int))) (λ i zs H3=>H3=H1∧∃ ps:List Nat,zs=List.map V.int (ps.map λ i:Nat=>(i:Int))∧∀ x∈ps,x∈fr∧L.T s x (L.cv c)≠0) (by rw [List.length_map,List.length_map,sizeLine_eq];omega) ⟨rfl,[],rfl,(λ _ h=>nomatch h)⟩ ?_ ?_ ?_⟩
 ·rintro i zs H3 _ ⟨rfl,_⟩
  exact SqL.of hf1
 ·rintro i x zs H3 hi _ ⟨rfl,ps,rfl,hp⟩
  obtain ⟨y,rfl,hy⟩:=get_nts hi
  have ym:=I.fm y (List.mem_of_getElem? hy)
  (try dsimp? [t_Corner_comes_to_c3,caught,List.map_cons,List.map_nil,Option.join_some];try simp_arith [t_Corner_comes_to_c3,caught,List.map_cons,List.map_nil,Option.join_some])
  refine ⟨_,SqL.of hn1,V.int (L.T s y (L.cv c)),atI_nat (by rw [List.getElem?_map];unfold Lpd.numL;rw [ofF_get _ (by omega)];rfl),rfl,?_⟩
  by_cases h0:L.T s y (L.cv c)=0
  ·rw [decide_eq_true (by rw [h0]:V.int (L.T s y (L.cv c))=V.int 0)]
   exact iteF ⟨ps,rfl,hp⟩
  ·rw [decide_eq_false (λ z=>h0 (by injection z):¬ V.int (L.T s y (L.cv c))=V.int 0)]
   refine iteT ⟨ps++[y],by rw [List.map_append,List.map_append];rfl,λ x hx=>?_⟩
   rcases List.mem_append.mp hx with hx | hx
   ·exact hp x hx
   ·rw [List.mem_singleton.mp hx];exact ⟨List.mem_of_getElem? hy,h0⟩
 ·rintro zs H3 ⟨rfl,ps,rfl,hp⟩ p hp3
  have s2:=Same.upd (o:=HO.lst (List.map V.int (ps.map λ i:Nat=>(i:Int)))) hp3
  have p2:(upd H3 p (HO.lst (List.map V.int (ps.map λ i:Nat=>(i:Int))))) p=some (HO.lst (List.map V.int (ps.map λ i:Nat=>(i:Int)))):=upd_same
  generalize upd H3 p (HO.lst (List.map V.int (ps.map λ i:Nat=>(i:Int))))=H2 at s2 p2
  have s12:=s1.trans s2
  (try dsimp? [t_Corner_comes_to_r4,tTru];try simp_arith [t_Corner_comes_to_r4,tTru])
  refine ⟨_,.inl ⟨_,SqL.of p2,rfl⟩,?_⟩
  cases ps with
  | nil=>exact iteT (k0 H2 (I.sm.trans (mn_mono s12)))
  | cons r pr =>
   obtain ⟨rf,rn⟩:=hp r List.mem_cons_self
   have rm:=I.fm r rf
   have P2:=P.same s12
   refine iteF ?_
   (try dsimp? [t_Corner_comes_to_r3,tDrop,tMeth,tBM,rRemove];try simp_arith [t_Corner_comes_to_r3,tDrop,tMeth,tBM,rRemove,if_true])
   have pti:p≠t∧p≠ins:=⟨(ne_of_none (s1 _ _ P.ob) hp3).symm,(ne_of_none (s1 _ _ P.hi) hp3).symm⟩
   have fti:f≠t∧f≠ins:=by
    have hf:=I.hf
    constructor
    ·rintro rfl;unfold mn at hf;rw [if_pos (.inl rfl)] at hf;cases hf
    ·rintro rfl;unfold mn at hf;rw [if_pos (.inr rfl)] at hf;cases hf
   have pf:p≠f:=λ e=>by rw [e,hf1] at hp3;cases hp3
   have F2:=I.ca.same s12
   refine ⟨_,_,P2.ob,rfl,_,SqL.of p2,V.int r,atI0,t,ins,L,s,nl,c,r,rfl,F2.at,lim,I.ok,s2 _ _ hn1,rm,λ H4 sm4 ca4 ff=>?_⟩
   have F4:=ff f (by rw [s12 _ _ (mn_same _ _ I.hf)];exact λ z=>nomatch z) F2
   have f4:=sm4 _ _ (mn_mono s12 _ _ I.hf)
   have p4:=sm4 _ _ (mn_of p2 pti.1 pti.2)
   have c4:=sm4 _ _ (mn_mono s12 _ _ I.hc)
   obtain ⟨j,hj,hno⟩:=first_at rf
   refine ⟨.inl ⟨rfl,_,SqL.of (mn_same _ _ f4)⟩,_,SqL.of (mn_same _ _ p4),V.int r,atI0,fr.map λ i:Nat=>(i:Int),(r:Int),rfl,mn_same _ _ f4,j,by rw [List.getElem?_map,hj];rfl,λ m hm e=>?_,?_⟩
   ·rw [List.getElem?_map] at e
    cases e2:fr[m]? with
    | none=>rw [e2] at e;cases e
    | some y =>
     rw [e2] at e
     have:(y:Int)=r:=Option.some.inj e
     exact hno m hm (by rw [e2];congr 1;omega)
   ·have er:(fr.map λ i:Nat=>(i:Int)).eraseIdx j=(fr.eraseIdx j).map λ i:Nat=>(i:Int):=(eraseM _ _ _).symm
    rw [er]
    have em:=mn_updO (H:=H4) (o:=HO.lst (List.map V.int ((fr.eraseIdx j).map λ i:Nat=>(i:Int)))) fti.1 fti.2
    have h0f:mn t ins H0 f=none:=by unfold mn;rw [if_neg (λ z=>z.elim fti.1 fti.2)];exact I.f0
    refine k1 (Lpd.sput s r c) (fr.eraseIdx j) _ _ _ ⟨by rw [em];exact ((I.sm.trans (mn_mono s12)).trans sm4).put h0f,F4.upd fti.1 fti.2,I.ok.step rm rn,λ i hi=>?_,I.f0,by rw [em,upd_same],λ x hx=>I.fm x (List.mem_of_mem_eraseIdx hx),Nat.le_trans (List.length_eraseIdx_le _ _) I.fl,by rw [em,upd_ne I.cf];exact c4,I.cf⟩
    unfold Lpd.sput
    split
    ·omega
    ·exact I.io i hi
theorem rd_Corner_comes_to {K vs H Q E} (C:CorK K) (h:sp_Corner_comes_to K vs H Q E):t_Corner_comes_to K { nx:=λ _ H'=>Q .non H',rt:=Q } (start N_Corner_comes_to vs) H:=by
 obtain ⟨t,ins,L,g,gs,rfl,ca,lim,fl,m1,hg,gl,k0,k1⟩:=h
 obtain ⟨dx,b,sp,k,bs,ss,ks,P⟩:=id ca
 have ml:=lim.m1
 rw [show start N_Corner_comes_to [V.ref t,V.ref g]=[some (.ref t),some (.ref g),none,none,none,none,none] from rfl]
 (try dsimp? [t_Corner_comes_to,tFld];try simp_arith [t_Corner_comes_to,tFld])
 refine ⟨_,_,_,P.ob,C.cl,C.nb,_,cfl_begun b sp k ins,b,rfl,_,.inl (SqL.of P.B),?_⟩
 rw [List.length_map,P.bl]
 (try dsimp? [t_Corner_comes_to_r7,tCompI,iRng1];try simp_arith [t_Corner_comes_to_r7,tCompI,iRng1])
 have hgH:=mn_same _ _ hg
 refine ⟨_,.inl (SqL.of hgH),?_⟩
 rw [List.length_map,List.length_map,gl,Int.toNat_natCast]
 refine ⟨by omega,by omega,comp_rngI (lo:=0) (W:=λ j zs H'=>H'=H∧∃ fr:List Nat,zs=List.map V.int (fr.map λ i:Nat=>(i:Int))∧(∀ x∈fr,x<L.m)∧fr.length≤j) (by rw [sizeLine_eq];omega) ⟨rfl,[],rfl,(λ _ h=>nomatch h),Nat.le_refl _⟩ ?_ ?_⟩
 ·rintro j zs H' hj _ ⟨rfl,fr,rfl,fm,frl⟩
  (try dsimp? [t_Corner_comes_to_c4,rIn,caught,List.map_cons,List.map_nil,Option.join_some];try simp_arith [t_Corner_comes_to_c4,rIn,caught,List.map_cons,List.map_nil,Option.join_some,Int.zero_add])
  refine ⟨_,.inl (SqL.of hgH),rfl,?_,?_⟩
  ·rw [List.all_eq_true]
   intro v hv
   obtain ⟨c,_,rfl⟩:=List.mem_map.mp hv
   rfl
  ·refine ite2 (λ _=>⟨fr++[j],by rw [List.map_append,List.map_append];rfl,λ x hx=>?_,by rw [List.length_append];show fr.length+1≤j+1;omega⟩) (λ _=>⟨fr,rfl,fm,by omega⟩)
   rcases List.mem_append.mp hx with hx | hx
   ·exact fm x hx
   ·rw [List.mem_singleton.mp hx];exact hj
 ·rintro zs H' ⟨rfl,fr,rfl,fm,frl⟩ f hf
  have s1:=Same.upd (o:=HO.lst (List.map V.int (fr.map λ i:Nat=>(i:Int)))) hf
  have f1:(upd H' f (HO.lst (List.map V.int (fr.map λ i:Nat=>(i:Int))))) f=some (HO.lst (List.map V.int (fr.map λ i:Nat=>(i:Int)))):=upd_same
  generalize upd H' f (HO.lst (List.map V.int (fr.map λ i:Nat=>(i:Int))))=H1 at s1 f1
  have hg1:=s1 _ _ hgH
  (try dsimp? [t_Corner_comes_to_r6,tFor,tCompI,iList];try simp_arith [t_Corner_comes_to_r6,tFor,tCompI,iList])
  refine ⟨⟨_,SqL.of hg1⟩,comp_listI (K:=K) (a:=g) (xs:=List.map V.int (gs.map λ i:Nat=>(i:Int))) (λ i zs H3=>H3=H1∧∃ cs:List Nat,zs=List.map V.int (cs.map λ i:Nat=>(i:Int))∧∀ x∈cs,x<L.n) (by rw [List.length_map,List.length_map,sizeLine_eq];omega) ⟨rfl,[],rfl,(λ _ h=>nomatch h)⟩ ?_ ?_ ?_⟩
  ·rintro i zs H3 _ ⟨rfl,_⟩
   exact SqL.of hg1
  ·rintro i x zs H3 hi _ ⟨rfl,cs,rfl,hc⟩
   obtain ⟨y,rfl,hy⟩:=get_nts hi
   (try dsimp? [t_Corner_comes_to_c2,caught,List.map_cons,List.map_nil,Option.join_some];try simp_arith [t_Corner_comes_to_c2,caught,List.map_cons,List.map_nil,Option.join_some])
   by_cases h0:(y:Int)<(L.n:Int)
   ·rw [if_pos h0]
    refine ⟨cs++[y],by rw [List.map_append,List.map_append];rfl,λ x hx=>?_⟩
    rcases List.mem_append.mp hx with hx | hx
    ·exact hc x hx
    ·rw [List.mem_singleton.mp hx];omega
   ·rw [if_neg h0]
    exact ⟨cs,rfl,hc⟩
  ·rintro zs H3 ⟨rfl,cs,rfl,hc⟩ cl hcl
   have s2:=Same.upd (o:=HO.lst (List.map V.int (cs.map λ i:Nat=>(i:Int)))) hcl
   have c2:(upd H3 cl (HO.lst (List.map V.int (cs.map λ i:Nat=>(i:Int))))) cl=some (HO.lst (List.map V.int (cs.map λ i:Nat=>(i:Int)))):=upd_same
   have ncf:cl≠f:=λ e=>by rw [e,f1] at hcl;cases hcl
   have nct:cl≠t∧cl≠ins:=⟨(ne_of_none (s1 _ _ P.ob) hcl).symm,(ne_of_none (s1 _ _ P.hi) hcl).symm⟩
   have nft:f≠t∧f≠ins:=⟨(ne_of_none P.ob hf).symm,(ne_of_none P.hi hf).symm⟩
   have f2:=s2 _ _ f1
   generalize upd H3 cl (HO.lst (List.map V.int (cs.map λ i:Nat=>(i:Int))))=H2 at s2 c2 f2
   have s12:=s1.trans s2
   have I:CmAt K H' H2 t ins f cl L L.ins0 fr cs:=⟨mn_mono s12,((ca.fresh hf).same s12),Lpd.Okn.start fl,λ i hi=>by show L.n+i<L.n+L.m;omega,hf,mn_of f2 nft.1 nft.2,fm,frl,mn_of c2 nct.1 nct.2,ncf⟩
   refine ⟨⟨_,SqL.of c2⟩,for_list (K:=K) (a:=cl) (xs:=List.map V.int (cs.map λ i:Nat=>(i:Int))) (g:=gName 4) (D:={ nx:=t_Corner_comes_to_r2 K { nx:=λ _ H'=>Q .non H',rt:=Q },rt:=Q }) (iv_comes K H' t ins g f cl L cs) ⟨_,_,_,_,_,rfl,I⟩ ?_ ?_ ?_⟩
   ·rintro i σ H4 _ ⟨_,_,_,_,_,_,I4⟩
    exact SqL.of (mn_same _ _ I4.hc)
   ·rintro i x σ H4 hi ⟨s,fr4,o4,o5,o6,rfl,I4⟩
    obtain ⟨y,rfl,hy⟩:=get_nts hi
    show t_Corner_comes_to_b1 K _ [some (.ref t),some (.ref g),some (.int L.n),some (.ref f),some (.int y),o5,o6] H4
    exact rd_comes_b1 lim I4 (hc y (List.mem_of_getElem? hy)) (λ H5 sm=>k0 H5 sm) λ s' fr' o5 o6 H5 I5=>⟨s',fr',_,o5,o6,rfl,I5⟩
   ·rintro σ H4 ⟨s,fr4,o4,o5,o6,rfl,I4⟩
    exact rd_comes_r2 C I4.ca.at lim m1 I4.ok I4.io (λ H5 sm=>k0 H5 (I4.sm.trans sm)) λ L2 H5 e sm ca5 ok5 io5=>k1 L2 s H5 e (I4.sm.trans sm) ca5 ok5 io5
noncomputable def N_Corner_ends_with:List PySem.Str:=["self", "column", "numbers"]
noncomputable def sp_Corner_ends_with (K:W.Frag):Sp:=λ vs H Q _=>∃ t ins L s,∃ o:Option Nat,vs=[.ref t,oV o]∧CorAt K H t ins L s∧L.Lim∧L.Okn s∧(∀ c,o=some c→c<L.n+L.m)∧(∀ H',Same H H'→Q (.bl false) H')∧∀ H',Same H H'→UnO L s o→Q (.bl true) H'
noncomputable def t_Corner_ends_with (K:W.Frag):TS:=(tSeq (tIfS (tTest (tOp rIsN (tVar 1) (tC .non))) (tRet (tOp rIsN (tMeth (gadr K "Corner") "entering" (sp_Corner_entering K) [] E0 (tVar 0) tNil) (tC .non))) tNext) (tSeq (tAsg (tMeth (gadr K "Corner") "numbers" (sp_Corner_numbers K) [] E0 (tVar 0) (tCons (tVar 1) tNil)) (gName 2)) (tRet (tAndV (tOp rLtI (tOp (rIxL K) (tVar 2) (tUn rNegI (tC (.int 1)))) (tC (.int 0))) (tOp rIsN (tMeth (gadr K "Corner") "leaving_by" (sp_Corner_leaving_by K) [] E0 (tVar 0) (tCons (tVar 2) tNil)) (tC .non))))))
theorem len_Corner_ends_with {K vs H Q E} (h:sp_Corner_ends_with K vs H Q E):vs.length=2:=by obtain ⟨_,_,_,_,_,rfl,_⟩:=h;rfl
theorem rd_Corner_ends_with {K vs H Q E} (C:CorK K) (h:sp_Corner_ends_with K vs H Q E):t_Corner_ends_with K { nx:=λ _ H'=>Q .non H',rt:=Q } (start N_Corner_ends_with vs) H:=by
 obtain ⟨t,ins,L,s,o,rfl,ca,lim,ok,hc,k0,k1⟩:=h
 obtain ⟨dx,b,sp,k,bs,ss,ks,P⟩:=id ca
 rw [show start N_Corner_ends_with [V.ref t,oV o]=[some (.ref t),some (oV o),none] from rfl]
 (try dsimp? [t_Corner_ends_with,tMeth,rIsN];try simp_arith [t_Corner_ends_with,tMeth,rIsN,if_true])
 cases o with
 | none =>
  rw [if_pos (show oV none=V.non from rfl)]
  refine ⟨_,_,P.ob,rfl,t,ins,L,s,rfl,ca,lim,ok,λ o H1 s1 en=>?_⟩
  cases o with
  | none=>rw [decide_eq_true (show oV none=V.non from rfl)];exact k1 H1 s1 en
  | some c=>rw [decide_eq_false (show ¬ oV (some c)=V.non from λ z=>nomatch z)];exact k0 H1 s1
 | some c =>
  rw [if_neg (show ¬ oV (some c)=V.non from λ z=>nomatch z)]
  refine ⟨_,_,P.ob,rfl,t,ins,L,s,c,rfl,ca,lim,ok,hc c rfl,λ nl H1 s1 hn hn1=>⟨nl,rfl,_,SqL.of hn1,V.int (L.T s L.m (L.cv c)),atI_last (by rw [List.length_map];unfold Lpd.numL;rw [ofF_length,Nat.add_sub_cancel,List.getElem?_map,ofF_get _ (Nat.lt_succ_self _)];rfl),_,rfl,ite2 (λ h=>⟨_,_,(P.same s1).ob,rfl,t,ins,L,s,nl,c,rfl,ca.same s1,lim,ok,hn1,λ o H2 s2 lv=>?_⟩) (λ h=>k0 H1 s1)⟩⟩
  cases o with
  | none=>rw [decide_eq_true (show oV none=V.non from rfl)];exact k1 H2 (s1.trans s2) ⟨hc c rfl,h,λ i hi=>lv i (Nat.le_of_lt hi)⟩
  | some r=>rw [decide_eq_false (show ¬ oV (some r)=V.non from λ z=>nomatch z)];exact k0 H2 (s1.trans s2)
noncomputable def N_last_corner:List PySem.Str:=["lists", "bits", "guess", "column", "corner"]
structure LcIn (H:Hp) (a:Addr) (rps:List Addr) (L:Lpd) (q:Nat):Prop where
 R:RlAt H a rps L
 fl:L.fl=false
 m1:1≤L.m
 n1:1≤L.n
 F:Fit L.m L.n q
 ba:∀ j k,j<L.n→k≤L.m→BB q (L.a j k)
 bb:∀ k,k≤L.m→BB q (L.be k)
 nn:∀ k,k<L.m→0≤L.be k
structure LcOut (K:W.Frag) (H:Hp) (p t ins:Addr) (L L2:Lpd) (s:Nat→Nat) (o:Option Nat):Prop where
 e:L2=L∨L2=L.flip
 hp:H p=some (.tup [.ref t,oV o])
 ca:CorAt K H t ins L2 s
 ok:L2.Ok s
 io:ins_ok L2 s
 un:UnO L2 s o
noncomputable def sp_last_corner (K:W.Frag):Sp:=λ vs H Q _=>∃ a rps L q,vs=[.ref a]∧LcIn H a rps L q∧∀ p t ins L2 s o H',Same H H'→LcOut K H' p t ins L L2 s o→Q (.ref p) H'
noncomputable def t_last_corner_r1 (K:W.Frag):TS:=(tRet (tTup (tCons (tVar 4) (tCons (tVar 3) tNil))))
noncomputable def t_last_corner_r2 (K:W.Frag):TS:=(tSeq (tAsg (tCall (sp_unstopped K) [] E0 (tCons (tVar 4) tNil)) (gName 3)) (t_last_corner_r1 K))
noncomputable def t_last_corner_r3 (K:W.Frag):TS:=(tSeq (tAsg (tMake (gadr K "Corner") (sp_Corner_init K) [] E0 (tCons (tVar 0) tNil)) (gName 4)) (t_last_corner_r2 K))
noncomputable def t_last_corner_c1 (K:W.Frag):TE:=(tCall (sp_longest K) [] E0 (tCons (tVar 0) tNil))
noncomputable def t_last_corner_r4 (K:W.Frag):TS:=(tAsg (tOp rMulI (tC (.int 2)) (tVar 1)) (gName 1))
noncomputable def t_last_corner_r5 (K:W.Frag):TS:=(tSeq (tIfS (tAnd (tB (tMeth (gadr K "Corner") "comes_to" (sp_Corner_comes_to K) [] E0 (tVar 4) (tCons (tFld K (tVar 2) "inside") tNil))) (tB (tMeth (gadr K "Corner") "ends_with" (sp_Corner_ends_with K) [] E0 (tVar 4) (tCons (tVar 3) tNil)))) (tRet (tTup (tCons (tVar 4) (tCons (tVar 3) tNil)))) tNext) (t_last_corner_r4 K))
noncomputable def t_last_corner_r6 (K:W.Frag):TS:=(tSeq (tAsg (tMake (gadr K "Corner") (sp_Corner_init K) [] E0 (tCons (tVar 0) tNil)) (gName 4)) (t_last_corner_r5 K))
noncomputable def t_last_corner_r7 (K:W.Frag):TS:=(tSeq (tAsg (tCall (sp_unstopped K) [] E0 (tCons (tVar 2) tNil)) (gName 3)) (t_last_corner_r6 K))
noncomputable def t_last_corner_b1 (K:W.Frag):TS:=(tSeq (tAsg (tMake (gadr K "Corner") (sp_Corner_init K) [] E0 (tCons (tCall (sp_rounded K) [] E0 (tCons (tVar 0) (tCons (tVar 1) tNil))) tNil)) (gName 2)) (t_last_corner_r7 K))
noncomputable def t_last_corner_r8 (K:W.Frag):TS:=(tSeq (tWhile (tTest (tOp rLtI (tVar 1) (tCB (cMaxL K) (tCons (tComp (iList K (tVar 0)) [] (t_last_corner_c1 K)) tNil)))) (t_last_corner_b1 K)) (t_last_corner_r3 K))
noncomputable def t_last_corner (K:W.Frag):TS:=(tSeq (tAsg (tC (.int 40)) (gName 1)) (t_last_corner_r8 K))
theorem len_last_corner {K vs H Q E} (h:sp_last_corner K vs H Q E):vs.length=1:=by obtain ⟨_,_,_,_,rfl,_⟩:=h;rfl
theorem LcIn.same {H H':Hp} {a:Addr} {rps:List Addr} {L:Lpd} {q:Nat} (h:LcIn H a rps L q) (s:Same H H'):LcIn H' a rps L q:=⟨h.R.same s,h.fl,h.m1,h.n1,h.F,h.ba,h.bb,h.nn⟩
theorem LcIn.lim {H:Hp} {a:Addr} {rps:List Addr} {L:Lpd} {q:Nat} (h:LcIn H a rps L q):L.Lim:=h.F.lim h.ba h.bb
theorem LcIn.row {H:Hp} {a:Addr} {rps:List Addr} {L:Lpd} {q:Nat} (h:LcIn H a rps L q) {i:Nat} (hi:i≤L.m):∀ x∈L.rowL i,BB q x:=λ x hx=>by
 rcases Lpd.rowL_mem hx with ⟨j,hj,rfl⟩ | rfl
 ·exact h.ba j i hj hi
 ·exact h.bb i hi
theorem LcIn.q9 {H:Hp} {a:Addr} {rps:List Addr} {L:Lpd} {q:Nat} (h:LcIn H a rps L q):q≤9000:=by have:=h.F.le;omega
theorem same_mn {H H1 H2:Hp} {t i:Addr} (s:Same H H1) (ht:H t=none) (hi:H i=none) (m:Same (mn t i H1) (mn t i H2)):Same H H2:=λ b o e=>mn_same _ _ (m b o (mn_of (s b o e) (ne_of_none e ht) (ne_of_none e hi)))
theorem make_corner {K:W.Frag} {G:Hp} {a:Addr} {rps:List Addr} {L:Lpd} {P:Addr→Hp→Prop} (R:RlAt G a rps L) (lim:L.Lim) (fl:L.fl=false) (k:∀ t ins H',G t=none→G ins=none→Same G H'→CorAt K H' t ins L L.ins0→P t H') :
  ∀ (x dx:Addr),G x=none→G dx=none→dx≠x→sp_Corner_init K [.ref x,.ref a] (upd (upd G dx (.own x)) x (.ins (gadr K "Corner") dx [])) (λ v H2=>v=.non∧P x H2) E0:=by
 intro t dx ht hdx ne
 have s1:Same G (upd (upd G dx (.own t)) t (.ins (gadr K "Corner") dx [])):=(Same.upd hdx).put ht
 refine ⟨t,dx,a,rps,L,rfl,upd_same,R.same s1,lim,fl,λ ins H' hi b ca=>⟨rfl,k t ins H' ht (s1.free hi) (λ b' o e=>b b' o (s1 b' o e) (ne_of_none e ht)) ca⟩⟩
theorem rd_last_r3 {K:W.Frag} {Q:VK} {H G:Hp} {a:Addr} {rps:List Addr} {L:Lpd} {q:Nat} {o1 o2 o3 o4:Option V} (I:LcIn G a rps L q) (s:Same H G) (k:∀ p t ins L2 s o H',Same H H'→LcOut K H' p t ins L L2 s o→Q (.ref p) H') :
  t_last_corner_r3 K { nx:=λ _ H'=>Q .non H',rt:=Q } [some (.ref a),o1,o2,o3,o4] G:=by
 (try dsimp? [t_last_corner_r3,tMake];try simp_arith [t_last_corner_r3,tMake])
 refine make_corner I.R I.lim I.fl λ t ins H1 ht hi s1 ca=>?_
 (try dsimp? [t_last_corner_r2];try simp_arith [t_last_corner_r2])
 refine ⟨t,ins,L,L.ins0,rfl,ca,I.lim,Lpd.Okx.start I.fl I.nn,λ i hi=>by show L.n+i<L.n+L.m;omega,λ o s' H2 sm ca2 ok2 io2 un2=>?_⟩
 (try dsimp? [t_last_corner_r1];try simp_arith [t_last_corner_r1])
 refine ⟨sz2,λ p hp=>k p t ins L s' o _ ((s.trans (same_mn s1 ht hi sm)).trans (Same.upd hp)) ⟨.inl rfl,upd_same,ca2.same (Same.upd hp),ok2.w,io2,un2⟩⟩
theorem rd_last_b1 {K:W.Frag} (C:CorK K) {D:Ends} {H G:Hp} {a:Addr} {rps:List Addr} {L:Lpd} {q b:Nat} {o2 o3 o4:Option V} (I:LcIn G a rps L q) (s:Same H G) (b1:1≤b) (bq:b<q) (k:∀ p t ins L2 s o H',Same H H'→LcOut K H' p t ins L L2 s o→D.rt (.ref p) H')
  (kn:∀ o2 o3 o4 H',Same H H'→D.nx [some (.ref a),some (.int ((2*b:Nat):Int)),o2,o3,o4] H') :
  t_last_corner_b1 K D [some (.ref a),some (.int b),o2,o3,o4] G:=by
 have q9:=I.q9
 (try dsimp? [t_last_corner_b1,tMake];try simp_arith [t_last_corner_b1,tMake])
 refine ⟨a,rps,L,b,rfl,I.R,I.n1,I.F.n1,I.F.m1,by omega,λ i hi x hx=>(I.row hi x hx).mono (by omega),λ l qs L2 H1 s1 R2 rn=>?_⟩
 have lim2:L2.Lim:=by
  have F2:Fit L2.m L2.n q:=by rw [rn.m,rn.n];exact I.F
  exact F2.lim (λ j k hj hk=>(rn.ba j k (by rw [← rn.n];exact hj) (by rw [← rn.m];exact hk)).mono (by omega)) λ k hk=>(rn.bb k (by rw [← rn.m];exact hk)).mono (by omega)
 show ∀ (x dx:Addr),_
 refine make_corner R2 lim2 rn.fl λ t ins H2 ht hi s2 ca=>?_
 (try dsimp? [t_last_corner_r7];try simp_arith [t_last_corner_r7])
 refine ⟨t,ins,L2,L2.ins0,rfl,ca,lim2,Lpd.Okx.start rn.fl (λ i hi=>rn.nn i (by have:=rn.m;omega) (I.nn i (by have:=rn.m;omega))),λ i hi=>by show L2.n+i<L2.n+L2.m;omega,λ o s' H3 sm ca3 ok3 io3 un3=>?_⟩
 have s03:Same G H3:=same_mn (s1.trans s2) (s1.free ht) (s1.free hi) sm
 have I3:=I.same s03
 obtain ⟨dx3,b3,sp3,k3,bs3,ss3,ks3,P3⟩:=id ca3
 (try dsimp? [t_last_corner_r6,tMake];try simp_arith [t_last_corner_r6,tMake])
 refine make_corner I3.R I3.lim I3.fl λ t2 ins2 H4 ht2 hi2 s4 ca4=>?_
 have P4:=P3.same s4
 obtain ⟨dx4,b4,sp4,k4,bs4,ss4,ks4,PT⟩:=id ca4
 have r4:∀ H',Same H H'→t_last_corner_r4 K D [some (.ref a),some (.int b),some (.ref t),some (oV o),some (.ref t2)] H':=λ H' s'=>by
  (try dsimp? [t_last_corner_r4];try simp_arith [t_last_corner_r4])
  refine ⟨.l (by show (2:Int).natAbs<2 ^ 64;decide),?_⟩
  rw [show (2:Int)*(b:Int)=((2*b:Nat):Int) by omega]
  exact kn _ _ _ H' s'
 have s04:=s.trans s03
 have e1:L2.insL s'=(ofF L.m s').map λ c:Nat=>(c:Int):=by unfold Lpd.insL;rw [rn.m,ofF_map]
 have hi4:=P4.hi
 rw [e1] at hi4
 have n1:ins≠t2:=ne_of_none P3.hi ht2
 have n2:ins≠ins2:=ne_of_none P3.hi hi2
 (try dsimp? [t_last_corner_r5,tMeth,tFld];try simp_arith [t_last_corner_r5,tMeth,tFld,if_true])
 refine ⟨_,_,PT.ob,rfl,_,_,_,P4.ob,C.cl,C.ni,_,cfl_inside b3 sp3 k3 ins,t2,ins2,L,ins,ofF L.m s',rfl,ca4,I3.lim,I3.fl,I3.m1,mn_of hi4 n1 n2,ofF_length _ _,λ H5 sm5=>⟨false,rfl,iteF (iteF (r4 H5 ?_))⟩,λ L3 s3 H5 e5 sm5 ca5 ok5 io5=>⟨true,rfl,iteT ?_⟩⟩
 ·exact same_mn (s04.trans s4) (s04.free ht2) (s04.free hi2) sm5
 ·have s5:=same_mn (s04.trans s4) (s04.free ht2) (s04.free hi2) sm5
  obtain ⟨dx5,b5,sp5,k5,bs5,ss5,ks5,P5⟩:=id ca5
  have lim3:L3.Lim∧L3.n=L.n∧L3.m=L.m:=by
   rcases e5 with rfl | rfl
   ·exact ⟨I3.lim,rfl,rfl⟩
   ·exact ⟨I3.lim.flip,rfl,rfl⟩
  refine ⟨_,_,P5.ob,rfl,t2,ins2,L3,s3,o,rfl,ca5,lim3.1,ok5.n,λ c ec=>?_,λ H6 s6=>⟨false,rfl,iteF (r4 H6 (s5.trans s6))⟩,λ H6 s6 un=>⟨true,rfl,iteT ⟨sz2,λ p hp=>k p t2 ins2 L3 s3 o _ ((s5.trans s6).trans (Same.upd hp)) ⟨e5,upd_same,(ca5.same s6).same (Same.upd hp),ok5,io5,un⟩⟩⟩⟩
  subst ec
  have:=un3.1
  rw [rn.n,rn.m] at this
  rw [lim3.2.1,lim3.2.2]
  exact this
theorem rd_last_corner {K vs H Q E} (C:CorK K) (h:sp_last_corner K vs H Q E):t_last_corner K { nx:=λ _ H'=>Q .non H',rt:=Q } (start N_last_corner vs) H:=by
 obtain ⟨a,rps,L,q,rfl,I,k⟩:=h
 rw [show start N_last_corner [V.ref a]=[some (.ref a),none,none,none,none] from rfl]
 (try dsimp? [t_last_corner,t_last_corner_r8,tWhile,tComp,iList,cMaxL];try simp_arith [t_last_corner,t_last_corner_r8,tWhile,tComp,iList,cMaxL])
 have q9:=I.q9
 have rl:=I.R.len
 have ml:=I.F.m1
 refine ⟨λ m σ H3=>∃ (b:Nat) (o2 o3 o4:Option V),σ=[some (.ref a),some (.int b),o2,o3,o4]∧m=9000 - b∧1≤b∧Same H H3,⟨9000 - 40,40,none,none,none,rfl,rfl,by decide,Same.refl _⟩,?_⟩
 rintro m σ H3 ⟨b,o2,o3,o4,rfl,rfl,b1,s3⟩
 have I3:=I.same s3
 simp only [Lq0,Lq1]
 refine ⟨a,rfl,⟨_,SqL.of I3.R.ha⟩,comp_list (K:=K) (a:=a) (xs:=List.map V.ref rps) (λ i zs H4=>Same H3 H4∧∃ ls:List Int,zs=List.map V.int ls∧ls.length=i∧∀ l∈ls,l≤q) (by rw [List.length_map,sizeLine_eq];omega) ⟨Same.refl _,[],rfl,rfl,(λ _ h=>nomatch h)⟩ ?_ ?_ ?_⟩
 ·rintro i zs H4 _ ⟨s4,_⟩
  exact SqL.of (s4 _ _ I3.R.ha)
 ·rintro i x zs H4 hi _ ⟨s4,ls,rfl,ll,lq⟩
  obtain ⟨p,rfl,hp⟩:=get_refs hi
  obtain ⟨im,hrow⟩:=(I3.R.same s4).inv hp
  (try dsimp? [t_last_corner_c1];try simp_arith [t_last_corner_c1])
  refine ⟨p,_,rfl,SqL.of hrow,λ e=>?_,by rw [Lpd.rowL_length];have:=I.F.n1;omega,λ M H5 s5 _ ⟨n,hn,eM⟩=>⟨s4.trans s5,ls++[(M:Int)],by rw [List.map_append];rfl,by rw [List.length_append,ll];rfl,λ l hl=>?_⟩⟩
  ·have:=congrArg List.length e
   rw [Lpd.rowL_length] at this
   simp at this
  ·rcases List.mem_append.mp hl with hl | hl
   ·exact lq l hl
   ·rw [List.mem_singleton.mp hl,← eM]
    have:=ib_le (I.row im n hn)
    omega
 ·rintro zs H4 _ ⟨s4,ls,rfl,ll,lq⟩ p hp
  rw [List.length_map,rl] at ll
  refine ⟨ls,SqL.of upd_same,λ e=>by rw [e] at ll;simp at ll,λ M hM hA=>⟨_,rfl,?_⟩⟩
  have s5:=(s3.trans s4).trans (Same.upd (o:=HO.lst (List.map V.int ls)) hp)
  have Mq:=lq M hM
  refine ite2 (λ h=>⟨λ σ' H'=>∃ o2 o3 o4,σ'=[some (.ref a),some (.int ((2*b:Nat):Int)),o2,o3,o4]∧Same H H',λ σ' H' ⟨o2,o3,o4,e,s'⟩=>⟨9000 - 2*b,by omega,2*b,o2,o3,o4,e,rfl,by omega,s'⟩,?_⟩) (λ h=>?_)
  ·exact rd_last_b1 C (I.same s5) s5 b1 (by omega) k λ o2 o3 o4 H' s'=>⟨o2,o3,o4,rfl,s'⟩
  ·exact rd_last_r3 (I.same s5) s5 k
noncomputable def N_over:List PySem.Str:=["one", "other"]
noncomputable def sp_over (K:W.Frag):Sp:=λ vs H Q _=>∃ p q a b c d,vs=[.ref p,.ref q]∧Tw K H p q a b c d∧0<b∧0<c∧BB 9000 (b*c)∧∀ r H',Same H H'→H' r=some (.tup [.int (lo2 (a*d) (b*c)).1,.int (lo2 (a*d) (b*c)).2])→Q (.ref r) H'
noncomputable def t_over (K:W.Frag):TS:=(tRet (tCall (sp_ratio K) [] E0 (tCons (tOp rMulI (tOp (rIxT K) (tVar 0) (tC (.int 0))) (tOp (rIxT K) (tVar 1) (tC (.int 1)))) (tCons (tOp rMulI (tOp (rIxT K) (tVar 0) (tC (.int 1))) (tOp (rIxT K) (tVar 1) (tC (.int 0)))) tNil))))
theorem len_over {K vs H Q E} (h:sp_over K vs H Q E):vs.length=2:=by obtain ⟨p,q,a,b,c,d,rfl,_⟩:=h;rfl
theorem rd_over {K vs H Q E} (h:sp_over K vs H Q E):t_over K { nx:=λ _ H'=>Q .non H',rt:=Q } (start N_over vs) H:=by
 obtain ⟨p,q,a,b,c,d,rfl,⟨hp,hq,ba,bb,bc,bd⟩,b0,c0,b9,k⟩:=h
 rw [show start N_over [V.ref p,V.ref q]=[some (.ref p),some (.ref q)] from rfl]
 (dsimp! [t_over,tVar,tC,tOp,rI,rMulI,tRet,tCall,tCons,tNil,rIxT,List.append_nil])
 refine ⟨_,hp,_,atI0,_,hq,_,atI1,_,rfl,_,rfl,.b ba bd,_,hp,_,atI1,_,hq,_,atI0,_,rfl,_,rfl,.b bb bc,?_⟩
 have z:0<b*c:=Int.mul_pos b0 c0
 refine ⟨_,_,rfl,by omega,b9,λ x y r H' s h l=>k r H' s ?_⟩
 obtain ⟨e1,e2⟩:=l.uniq z (lo2_lo z)
 rw [← e1,← e2];exact h
noncomputable def N_Corner_spread:List PySem.Str:=["self", "numbers", "told", "number", "column"]
noncomputable def sp_Corner_spread (K:W.Frag):Sp:=λ vs H Q _=>∃ t ins L s nl,∃ f:Nat→Int,vs=[.ref t,.ref nl]∧CorAt K H t ins L s∧L.Lim∧L.Ok s∧H nl=some (.lst (List.map V.int (ofF (L.m+1) f))) ∧
 ∀ l ps H',Same H H'→H l=none→H' l=some (.lst (List.map V.ref ps))→FrsAt K H' ps (ofF L.n (sprF L s f L.m))→Q (.ref l) H'
noncomputable def iv_spread (K:W.Frag) (t nl l:Addr) (L:Lpd) (s:Nat→Nat) (f:Nat→Int) (H0:Hp):Nat→St→Hp→Prop:=λ i σ H3=>∃ o1 o2 ps,σ=[some (.ref t),some (.ref nl),some (.ref l),o1,o2]∧Same H0 H3∧H3 l=some (.lst (List.map V.ref ps))∧FrsAt K H3 ps (ofF L.n (sprF L s f i))
noncomputable def t_Corner_spread_b1 (K:W.Frag):TS:=(tIfS (tTest (tOp rLtI (tVar 4) (tCB (cLen K) (tCons (tVar 2) tNil)))) (tAsg (tCall (sp_ratio K) [] E0 (tCons (tVar 3) (tCons (tMeth (gadr K "Corner") "bottom" (sp_Corner_bottom K) [] E0 (tVar 0) tNil) tNil))) (gSub (tVar 2) (tVar 4) rSetL)) tNext)
noncomputable def t_Corner_spread_g1 (K:W.Frag):TG:=(gTup K 2 (gCons (gName 3) (gCons (gName 4) gNil)))
noncomputable def t_Corner_spread_c1 (K:W.Frag):TE:=(tTup (tCons (tC (.int 0)) (tCons (tC (.int 1)) tNil)))
noncomputable def t_Corner_spread (K:W.Frag):TS:=(tSeq (tAsg (tComp (iList K (tFld K (tVar 0) "begun")) [] (t_Corner_spread_c1 K)) (gName 2)) (tSeq (tFor (iZip K (tCons (tVar 1) (tCons (tFld K (tVar 0) "inside") tNil))) (t_Corner_spread_g1 K) (t_Corner_spread_b1 K)) (tRet (tVar 2))))
theorem len_Corner_spread {K vs H Q E} (h:sp_Corner_spread K vs H Q E):vs.length=2:=by obtain ⟨_,_,_,_,_,_,rfl,_⟩:=h;rfl
theorem lo2_zero {D:Int} (h:0<D):lo2 0 D=(0,1):=by
 have:Lo 0 D 0 1:=⟨by decide,by decide,by simp,Nat.le_refl _,by omega⟩
 exact (this.is h).symm
theorem ofF_setA {α:Type} {n i:Nat} {f:Nat→α} {v:α}:(ofF n f).set i v=ofF n λ k=>if k=i then v else f k:=by
 apply List.ext_getElem?
 intro k
 rw [List.getElem?_set]
 by_cases hk:k<n
 ·rw [ofF_get (λ k=>if k=i then v else f k) hk]
  by_cases e:i=k
  ·rw [if_pos e,if_pos (by rw [ofF_length];omega),if_pos e.symm]
  ·rw [if_neg e,if_neg (Ne.symm e),ofF_get _ hk]
 ·rw [List.getElem?_eq_none (l:=ofF n λ k=>if k=i then v else f k) (by rw [ofF_length];omega)]
  by_cases e:i=k
  ·rw [if_pos e,if_neg (by rw [ofF_length];omega)]
  ·rw [if_neg e,List.getElem?_eq_none (by rw [ofF_length];omega)]
theorem spr_step {L:Lpd} {s:Nat→Nat} (ok:L.Ok s) {f:Nat→Int} {i j:Nat} (hi:i<L.m):Lpd.spr (i+1) s f j=if j=s i then f i else Lpd.spr i s f j:=by
 show Lpd.spr i s f j+(if s i=j then f i else 0)=_
 by_cases e:s i=j
 ·rw [if_pos e,if_pos e.symm]
  have:Lpd.spr i s f j=0:=sm_zero' λ k hk=>if_neg λ z=>ok.inj (show k<L.m by omega) hi (by omega) (z.trans e.symm)
  rw [this,Int.zero_add]
 ·rw [if_neg e,if_neg (Ne.symm e),Int.add_zero]
theorem rd_Corner_spread {K vs H Q E} (C:CorK K) (h:sp_Corner_spread K vs H Q E):t_Corner_spread K { nx:=λ _ H'=>Q .non H',rt:=Q } (start N_Corner_spread vs) H:=by
 obtain ⟨t,ins,L,s,nl,f,rfl,ca,lim,ok,hnl,q⟩:=h
 obtain ⟨dx,b,sp,k,bs,ss,ks,P⟩:=id ca
 have bl:=P.bl
 have n1:=lim.n1
 have m1:=lim.m1
 have D0:=ok.pos
 rw [show start N_Corner_spread [V.ref t,V.ref nl]=[some (.ref t),some (.ref nl),none,none,none] from rfl]
 (dsimp! [t_Corner_spread,tFld,tComp,iList,tFor,iZip,tSeq,tAsg,gName,tVar,tRet,tCons,tNil])
 refine ⟨_,_,_,P.ob,C.cl,C.nb,_,cfl_begun _ _ _ _,_,rfl,⟨_,SqL.of P.B⟩,comp_list (K:=K) (a:=b) (xs:=List.map V.ref bs) (λ i zs H3=>Same H H3∧∃ ps,zs=List.map V.ref ps∧FrsAt K H3 ps (ofF i λ _=>((0,1):Int×Int))) ?_ ⟨Same.refl _,[],rfl,trivial⟩ ?_ ?_ ?_⟩
 ·rw [List.length_map,sizeLine_eq];omega
 ·rintro i zs H3 _ ⟨s3,_⟩
  exact s3.seq (SqL.of P.B)
 ·rintro i x zs H3 hi _ ⟨s3,ps,rfl,hps⟩
  dsimp only [t_Corner_spread_c1,tC,tCons,tNil,tTup,exI_lit,exB_lit,exR_lit]
  refine ⟨sz2,λ p hp=>⟨s3.trans (Same.upd hp),ps++[p],by rw [List.map_append];rfl,?_⟩⟩
  rw [ofF_snoc]
  exact FrsAt.snoc (hps.same (Same.upd hp)) (SqT.of upd_same)
 ·rintro zs H3 _ ⟨s3,ps,rfl,hps⟩ l hl
  rw [List.length_map,bl] at hps
  have s4:=s3.trans (Same.upd (o:=HO.lst (List.map V.ref ps)) hl)
  have hp4:=hps.same (Same.upd (o:=HO.lst (List.map V.ref ps)) hl)
  have hl4:(upd H3 l (.lst (List.map V.ref ps))) l=some (.lst (List.map V.ref ps)):=upd_same
  have hlH:=s3.free hl
  generalize upd H3 l (.lst (List.map V.ref ps))=H4 at s4 hp4 hl4
  have il:(L.insL s).length=L.m:=by unfold Lpd.insL;rw [ofF_length]
  refine ⟨_,_,_,s4 _ _ P.ob,C.cl,C.ni,_,cfl_inside _ _ _ _,_,rfl,⟨_,s4.seq (SqL.of hnl)⟩,⟨_,s4.seq (SqL.of P.hi)⟩,for_zipN (K:=K) (a:=nl) (b:=ins) (xs:=List.map V.int (ofF (L.m+1) f)) (ys:=List.map V.int (L.insL s)) (g:=t_Corner_spread_g1 K) (D:={ nx:=tRet (tVar 2) { nx:=λ _ H'=>Q .non H',rt:=Q },rt:=Q }) L.m (iv_spread K t nl l L s f H) ?_ ?_ ?_ ?_ ?_ ?_ ?_⟩
  ·refine ⟨none,none,ps,rfl,s4,hl4,?_⟩
   have:(ofF L.n λ _=>((0,1):Int×Int))=ofF L.n (sprF L s f 0):=ofF_congr λ j _=>by
    unfold sprF
    show _=lo2 0 _
    rw [lo2_zero D0]
   rw [← this];exact hp4
  ·rintro i σ H5 _ ⟨_,_,_,_,s5,_⟩
   exact ⟨s5.seq (SqL.of hnl),s5.seq (SqL.of P.hi)⟩
  ·rw [List.length_map,ofF_length];omega
  ·rw [List.length_map,il];exact Nat.le_refl _
  ·rw [List.length_map,List.length_map,il];exact .inr (Nat.le_refl _)
  ·rintro i x y p σ H5 hx hy hi ⟨o1,o2,ps5,rfl,s5,hl5,hp5⟩ hp
   obtain ⟨v,rfl,hv⟩:=get_ints hx
   obtain ⟨w,rfl,hw⟩:=get_ints hy
   obtain ⟨_,rfl⟩:=ofF_inv hv
   obtain ⟨_,rfl⟩:=ofF_inv hw
   have s6:=Same.upd (o:=HO.tup [.int (f i),.int (s i)]) hp
   have psl:ps5.length=L.n:=by rw [hp5.length,ofF_length]
   (dsimp! [t_Corner_spread_g1,t_Corner_spread_b1,tMeth,tAsg,gName,tVar,tOp,rI0,rLtI,tIfS,tTest,tNext,tCall,tCons,tNil,tCB,cLen,gTup,gCons,gNil,List.append_nil,decide_eq_true_eq])
   refine ⟨_,SqT.of upd_same,rfl,_,_,rfl,_,_,rfl,rfl,?_⟩
   have hl6:=s6 _ _ hl5
   have hp6:=hp5.same s6
   have s06:=s5.trans s6
   generalize upd H5 p (.tup [.int (f i),.int (s i)])=H6 at s06 hl6 hp6
   refine ⟨_,.inl (SqL.of hl6),?_⟩
   rw [List.length_map,psl]
   refine ⟨_,rfl,ite2 (λ hlt=>?_) (λ hlt=>?_)⟩
   ·have hsn:s i<L.n:=by omega
    refine ⟨_,_,s06 _ _ P.ob,rfl,_,_,_,_,rfl,ca.same s06,_,_,rfl,Int.ne_of_gt D0,lim.bD s ok.n,λ x y r H7 s7 hr7 lo=>?_⟩
    (dsimp! [gSub,rSetL,tVar])
    refine ⟨_,s7 _ _ hl6,_,by rw [List.length_map,psl];exact ixN_int (by omega) (by omega),?_⟩
    rw [Int.toNat_natCast]
    refine ⟨_,_,ps5.set (s i) r,rfl,(s06.trans s7).put hlH,by rw [upd_same,List.map_set],?_⟩
    have e:ofF L.n (sprF L s f (i+1))=(ofF L.n (sprF L s f i)).set (s i) (x,y):=by
     rw [ofF_setA]
     refine ofF_congr λ j hj=>?_
     unfold sprF
     rw [spr_step ok hi]
     by_cases e:j=s i
     ·rw [if_pos e,if_pos e,lo.is D0]
     ·rw [if_neg e,if_neg e]
    rw [e]
    exact FrsAt.off (s7 _ _ hl6) (FrsAt.set (SqT.of hr7) (s i) (hp6.same s7))
   ·refine ⟨_,_,ps5,rfl,s06,hl6,?_⟩
    have e:ofF L.n (sprF L s f (i+1))=ofF L.n (sprF L s f i):=ofF_congr λ j hj=>by
     unfold sprF
     rw [spr_step ok hi,if_neg (by omega)]
    rw [e];exact hp6
  ·rintro σ H5 ⟨o1,o2,ps5,rfl,s5,hl5,hp5⟩
   (dsimp! [tVar,tRet])
   exact q l ps5 H5 s5 hlH hl5 hp5
noncomputable def N_Corner_xs:List PySem.Str:=["self"]
noncomputable def sp_Corner_xs (K:W.Frag):Sp:=λ vs H Q _=>∃ t ins L s,vs=[.ref t]∧CorAt K H t ins L s∧L.Lim∧L.Ok s ∧
 ∀ l ps H',Same H H'→H l=none→H' l=some (.lst (List.map V.ref ps))→FrsAt K H' ps (ofF L.n (sprF L s (λ i=>L.T s i L.be) L.m))→Q (.ref l) H'
noncomputable def t_Corner_xs (K:W.Frag):TS:=(tRet (tMeth (gadr K "Corner") "spread" (sp_Corner_spread K) [] E0 (tVar 0) (tCons (tCall (sp_column_of K) [] E0 (tCons (tFld K (tVar 0) "kept") (tCons (tUn rNegI (tC (.int 1))) tNil))) tNil)))
theorem len_Corner_xs {K vs H Q E} (h:sp_Corner_xs K vs H Q E):vs.length=1:=by obtain ⟨_,_,_,_,rfl,_⟩:=h;rfl
theorem atI_end {l:List Int} {x:Int} (h:l[l.length - 1]?=some x):atI (List.map V.int l) (-1)=some (.int x):=atI_last (by rw [List.length_map,List.getElem?_map,h];rfl)
theorem rd_Corner_xs {K vs H Q E} (C:CorK K) (h:sp_Corner_xs K vs H Q E):t_Corner_xs K { nx:=λ _ H'=>Q .non H',rt:=Q } (start N_Corner_xs vs) H:=by
 obtain ⟨t,ins,L,s,rfl,ca,lim,ok,q⟩:=h
 obtain ⟨dx,b,sp,k,bs,ss,ks,P⟩:=id ca
 have m1:=lim.m1
 rw [show start N_Corner_xs [V.ref t]=[some (.ref t)] from rfl]
 (dsimp! [t_Corner_xs,tFld,tMeth,tVar,tC,tUn,rU,rNegI,tRet,tCall,tCons,tNil,List.append_nil])
 refine ⟨_,_,P.ob,rfl,_,_,_,P.ob,C.cl,C.nk,_,cfl_kept _ _ _ _,_,_,_,_,L.m+1,rfl,SqL.of P.Kp,P.Ks,by rw [ofF_length];omega,λ r hr=>?_,λ nl H1 s1 hn hnl=>?_⟩
 ·obtain ⟨i,hi,rfl⟩:=ofF_mem hr
  rw [getD_of (L.keptL_last s i)]
  exact atI_end (by rw [Lpd.keptL_length];exact L.keptL_last s i)
 ·have e:(ofF (L.m+1) (L.keptL s)).map (λ r=>r.getD (L.m+1) 0)=ofF (L.m+1) λ i=>L.T s i L.be:=by
   unfold ofF
   rw [List.map_map]
   exact List.map_congr_left λ i _=>getD_of (L.keptL_last s i)
  rw [e] at hnl
  refine ⟨_,_,_,_,_,_,rfl,ca.same s1,lim,ok,hnl,λ l ps H2 s2 hl hl2 hp=>q l ps H2 (s1.trans s2) (s1.free hl) hl2 hp⟩
noncomputable def N_Corner_ways:List PySem.Str:=["self", "column", "told"]
noncomputable def sp_Corner_ways (K:W.Frag):Sp:=λ vs H Q _=>∃ t ins L s,∃ c:Nat,vs=[.ref t,.int c]∧CorAt K H t ins L s∧L.Lim∧L.Ok s∧c<L.n+L.m∧(∀ i,i<L.m→s i≠c) ∧
 ∀ l ps H',Same H H'→H l=none→H' l=some (.lst (List.map V.ref ps))→FrsAt K H' ps (ofF L.n (wayF L s c))→Q (.ref l) H'
noncomputable def t_Corner_ways_c1 (K:W.Frag):TE:=(tUn rNegI (tVar 0))
noncomputable def t_Corner_ways (K:W.Frag):TS:=(tSeq (tAsg (tMeth (gadr K "Corner") "spread" (sp_Corner_spread K) [] E0 (tVar 0) (tCons (tComp (iList K (tMeth (gadr K "Corner") "numbers" (sp_Corner_numbers K) [] E0 (tVar 0) (tCons (tVar 1) tNil))) [] (t_Corner_ways_c1 K)) tNil)) (gName 2)) (tSeq (tIfS (tTest (tOp rLtI (tVar 1) (tCB (cLen K) (tCons (tVar 2) tNil)))) (tAsg (tTup (tCons (tC (.int 1)) (tCons (tC (.int 1)) tNil))) (gSub (tVar 2) (tVar 1) rSetL)) tNext) (tRet (tVar 2))))
theorem len_Corner_ways {K vs H Q E} (h:sp_Corner_ways K vs H Q E):vs.length=2:=by obtain ⟨_,_,_,_,_,rfl,_⟩:=h;rfl
theorem lo2_one {D:Int} (h:0<D):lo2 D D=(1,1):=by
 have:Lo D D 1 1:=⟨by decide,by decide,by rw [Int.mul_comm],by omega,by omega⟩
 exact (this.is h).symm
theorem rd_Corner_ways {K vs H Q E} (C:CorK K) (h:sp_Corner_ways K vs H Q E):t_Corner_ways K { nx:=λ _ H'=>Q .non H',rt:=Q } (start N_Corner_ways vs) H:=by
 obtain ⟨t,ins,L,s,c,rfl,ca,lim,ok,hc,hout,q⟩:=h
 obtain ⟨dx,b,sp,k,bs,ss,ks,P⟩:=id ca
 have m1:=lim.m1
 have D0:=ok.pos
 rw [show start N_Corner_ways [V.ref t,V.int c]=[some (.ref t),some (.int c),none] from rfl]
 (dsimp! [t_Corner_ways,tMeth,tComp,iList,tSeq,tAsg,gName,tVar,tC,tOp,rI0,rLtI,tRet,tIfS,tTest,tNext,tCons,tNil,tTup,tCB,cLen,List.append_nil,decide_eq_true_eq])
 refine ⟨_,_,P.ob,rfl,_,_,P.ob,rfl,_,_,_,_,_,rfl,ca,lim,ok.n,hc,λ nl H1 s1 hn hnl=>?_⟩
 have nll:(L.numL s c).length=L.m+1:=by unfold Lpd.numL;rw [ofF_length]
 refine ⟨_,rfl,⟨_,SqL.of hnl⟩,comp_list (K:=K) (a:=nl) (xs:=List.map V.int (L.numL s c)) (WEq H1 λ i zs=>zs=List.map V.int (ofF i λ i=>- L.T s i (L.cv c))) ?_ ⟨rfl,rfl⟩ ?_ ?_ ?_⟩
 ·rw [List.length_map,nll,sizeLine_eq];omega
 ·rintro i zs H3 _ ⟨rfl,_⟩
  exact SqL.of hnl
 ·rintro i x zs H3 hi _ ⟨rfl,rfl⟩
  obtain ⟨v,rfl,hv⟩:=get_ints hi
  obtain ⟨_,rfl⟩:=ofF_inv hv
  (dsimp! [t_Corner_ways_c1,tVar,tUn,rU,rNegI])
  refine ⟨rfl,?_⟩
  show _=List.map V.int (ofF (i+1) λ i=>- L.T s i (L.cv c))
  rw [ofF_snoc,List.map_append];rfl
 ·rintro zs H3 _ ⟨rfl,rfl⟩ l1 hl1
  rw [List.length_map,nll]
  have s2:=s1.trans (Same.upd (o:=HO.lst (List.map V.int (ofF (L.m+1) λ i=>- L.T s i (L.cv c)))) hl1)
  refine ⟨_,_,_,_,_,λ i=>- L.T s i (L.cv c),rfl,ca.same s2,lim,ok,upd_same,λ l ps H4 s4 hl hl4 hps=>?_⟩
  have psl:ps.length=L.n:=by rw [hps.length,ofF_length]
  have s04:=s2.trans s4
  have hlH:=s2.free hl
  refine ⟨_,rfl,_,.inl (SqL.of hl4),?_⟩
  rw [List.length_map,psl]
  have same:∀ j,j≠c→wayF L s c j=sprF L s (λ i=>- L.T s i (L.cv c)) L.m j:=λ j hj=>by
   unfold wayF sprF
   rw [if_neg hj,Int.add_zero]
  refine ite2 (λ hlt=>⟨sz2,λ p hp=>?_⟩) (λ hlt=>?_)
  ·(dsimp! [gSub,rSetL,tVar,tRet])
   have s5:=Same.upd (o:=HO.tup [.int 1,.int 1]) hp
   refine ⟨_,s5 _ _ hl4,_,by rw [List.length_map,psl];exact ixN_int (by omega) (by omega),?_⟩
   rw [Int.toNat_natCast]
   refine q l (ps.set c p) _ ((s04.trans s5).put hlH) hlH (by rw [upd_same,List.map_set]) ?_
   have e:ofF L.n (wayF L s c)=(ofF L.n (sprF L s (λ i=>- L.T s i (L.cv c)) L.m)).set c (1,1):=by
    rw [ofF_setA]
    refine ofF_congr λ j hj=>?_
    by_cases e:j=c
    ·rw [if_pos e]
     unfold wayF
     have:Lpd.spr L.m s (λ i=>- L.T s i (L.cv c)) j=0:=sm_zero' λ i hi=>if_neg λ z=>hout i hi (z.trans e)
     rw [this,if_pos e,Int.zero_add,lo2_one D0]
    ·rw [if_neg e,same j e]
   rw [e]
   exact FrsAt.off (s5 _ _ hl4) (FrsAt.set (g:=((1,1):Int×Int)) (SqT.of upd_same) c (hps.same s5))
  ·refine q l ps H4 s04 hlH hl4 ?_
   have e:ofF L.n (wayF L s c)=ofF L.n (sprF L s (λ i=>- L.T s i (L.cv c)) L.m):=ofF_congr λ j hj=>same j (by omega)
   rw [e];exact hps
noncomputable def N_Corner_ys:List PySem.Str:=["self"]
noncomputable def sp_Corner_ys (K:W.Frag):Sp:=λ vs H Q _=>∃ t ins L s,vs=[.ref t]∧CorAt K H t ins L s∧L.Lim∧L.Ok s ∧
 ∀ l ps H',Same H H'→H l=none→H' l=some (.lst (List.map V.ref ps))→FrsAt K H' ps (ofF L.m λ k=>lo2 (L.T s L.m (e1 k)) (L.D s))→Q (.ref l) H'
noncomputable def t_Corner_ys_c1 (K:W.Frag):TE:=(tCall (sp_ratio K) [] E0 (tCons (tVar 0) (tCons (tMeth (gadr K "Corner") "bottom" (sp_Corner_bottom K) [] E0 (tVar 1) tNil) tNil)))
noncomputable def t_Corner_ys (K:W.Frag):TS:=(tRet (tComp (iList K (tSl (rSlL K) (tOp (rIxL K) (tFld K (tVar 0) "kept") (tUn rNegI (tC (.int 1)))) tNoPart (tPart (tCB (cLen K) (tCons (tFld K (tVar 0) "inside") tNil))))) [0] (t_Corner_ys_c1 K)))
theorem len_Corner_ys {K vs H Q E} (h:sp_Corner_ys K vs H Q E):vs.length=1:=by obtain ⟨_,_,_,_,rfl,_⟩:=h;rfl
theorem rd_Corner_ys {K vs H Q E} (C:CorK K) (h:sp_Corner_ys K vs H Q E):t_Corner_ys K { nx:=λ _ H'=>Q .non H',rt:=Q } (start N_Corner_ys vs) H:=by
 obtain ⟨t,ins,L,s,rfl,ca,lim,ok,q⟩:=h
 obtain ⟨dx,b,sp,k,bs,ss,ks,P⟩:=id ca
 have m1:=lim.m1
 have D0:=ok.pos
 have il:(L.insL s).length=L.m:=by unfold Lpd.insL;rw [ofF_length]
 obtain ⟨p,_,atp,hrow⟩:=P.last
 rw [show start N_Corner_ys [V.ref t]=[some (.ref t)] from rfl]
 (dsimp! [t_Corner_ys,tFld,tComp,iList,tVar,tC,tOp,tUn,rU,rNegI,tRet,tCons,tNil,tCB,cLen,tSl,tPart,tNoPart,rSlL,rIxL])
 refine ⟨_,_,_,P.ob,C.cl,C.nk,_,cfl_kept _ _ _ _,_,rfl,_,SqL.of P.Kp,_,atp,_,_,_,P.ob,C.cl,C.ni,_,cfl_inside _ _ _ _,_,rfl,_,.inl (SqL.of P.hi),?_⟩
 rw [List.length_map,il]
 refine ⟨_,rfl,_,SqL.of hrow,λ l1 hl1=>?_⟩
 rw [cut_to (by rw [Lpd.keptL_length];omega),keptL_take]
 have s1:=Same.upd (o:=HO.lst (List.map V.int (ofF L.m λ k=>L.T s L.m (e1 k)))) hl1
 have h1:(upd H l1 (.lst (List.map V.int (ofF L.m λ k=>L.T s L.m (e1 k))))) l1=some (.lst (List.map V.int (ofF L.m λ k=>L.T s L.m (e1 k)))):=upd_same
 generalize upd H l1 (.lst (List.map V.int (ofF L.m λ k=>L.T s L.m (e1 k))))=H1 at s1 h1
 refine ⟨⟨_,SqL.of h1⟩,comp_list (K:=K) (a:=l1) (xs:=List.map V.int (ofF L.m λ k=>L.T s L.m (e1 k))) (λ i zs H3=>Same H1 H3∧∃ ps,zs=List.map V.ref ps∧FrsAt K H3 ps (ofF i λ k=>lo2 (L.T s L.m (e1 k)) (L.D s))) ?_ ⟨Same.refl _,[],rfl,trivial⟩ ?_ ?_ ?_⟩
 ·rw [List.length_map,ofF_length,sizeLine_eq];omega
 ·rintro i zs H3 _ ⟨s3,_⟩
  exact s3.seq (SqL.of h1)
 ·rintro i x zs H3 hi _ ⟨s3,ps,rfl,hps⟩
  obtain ⟨v,rfl,hv⟩:=get_ints hi
  obtain ⟨him,rfl⟩:=ofF_inv hv
  (dsimp! [t_Corner_ys_c1,tMeth,caught,List.map_cons,List.map_nil,Option.join_some,tVar,tCall,tCons,tNil,List.append_nil])
  refine ⟨_,_,(s1.trans s3) _ _ P.ob,rfl,_,_,_,_,rfl,ca.same (s1.trans s3),_,_,rfl,Int.ne_of_gt D0,lim.bD s ok.n,λ x y r H7 s7 hr7 lo=>⟨s3.trans s7,ps++[r],by rw [List.map_append];rfl,?_⟩⟩
  rw [ofF_snoc]
  refine FrsAt.snoc (hps.same s7) ?_
  rw [← lo.is D0]
  exact SqT.of hr7
 ·rintro zs H3 _ ⟨s3,ps,rfl,hps⟩ l hl
  rw [List.length_map,ofF_length] at hps
  exact q l ps _ ((s1.trans s3).trans (Same.upd hl)) ((s1.trans s3).free hl) upd_same (hps.same (Same.upd hl))
noncomputable def N_best:List PySem.Str:=["rows", "bounds", "goal", "bound", "made", "limits", "aims", "lists", "ended", "xs"]
structure BeIn (K:W.Frag) (H:Hp) (a b c:Addr) (rps bps gps:List Addr) (frs:List (List (Int×Int))) (fb fg:List (Int×Int)):Prop where
 ha:H a=some (.lst (List.map V.ref rps))
 hr:RfAt K H rps frs
 hb:H b=some (.lst (List.map V.ref bps))
 hbs:FrsAt K H bps fb
 hg:H c=some (.lst (List.map V.ref gps))
 hgs:FrsAt K H gps fg
 gb:∀ f∈fb,G9 f
noncomputable def wordO:Option Nat→Str
 | none=>"best"
 | some _=>"endless"
noncomputable def wayO (fl:Bool) (frs:List (List (Int×Int))) (fb fg:List (Int×Int)) (s:Nat→Nat):Option Nat→List (Int×Int)
 | none=>ofF frs.length λ k=>fov (ftm (lo2 ((LpOf fl frs fb fg).T s frs.length (e1 k)) ((LpOf fl frs fb fg).D s)) (whF (frs.getD k []))) (whF fg)
 | some c=>ofF fg.length (wayF (LpOf fl frs fb fg) s c)
structure BeOut (K:W.Frag) (H':Hp) (v:Addr) (fl:Bool) (frs:List (List (Int×Int))) (fb fg:List (Int×Int)) (s:Nat→Nat) (o:Option Nat) (x w:Addr) (xp wp:List Addr):Prop where
 ok:(LpOf fl frs fb fg).Ok s
 io:ins_ok (LpOf fl frs fb fg) s
 un:UnO (LpOf fl frs fb fg) s o
 hv:H' v=some (.tup [.str (wordO o),.ref x,.ref w])
 hx:H' x=some (.lst (List.map V.ref xp))
 hxs:FrsAt K H' xp (ofF fg.length λ j=>fov (sprF (LpOf fl frs fb fg) s (λ i=>(LpOf fl frs fb fg).T s i (LpOf fl frs fb fg).be) frs.length j) (whF (bnF frs fb)))
 hw:H' w=some (.lst (List.map V.ref wp))
 hws:FrsAt K H' wp (wayO fl frs fb fg s o)
noncomputable def sp_best (K:W.Frag):Sp:=λ vs H Q _=>∃ a b c rps bps gps frs fb fg,vs=[.ref a,.ref b,.ref c]∧BeIn K H a b c rps bps gps frs fb fg ∧
 (∀ f∈fb,0≤f.1)∧BeO frs fb fg∧1≤frs.length∧1≤fg.length∧∀ v fl s o x w xp wp H',Same H H'→H x=none→H w=none→BeOut K H' v fl frs fb fg s o x w xp wp→Q (.ref v) H'
noncomputable def iv_best (a b c:Addr) (H0:Hp) (fb:List (Int×Int)):Nat→St→Hp→Prop:=λ i σ H3=>∃ o1,σ=[some (.ref a),some (.ref b),some (.ref c),o1,none,none,none,none,none,none]∧Same H0 H3∧∀ f∈fb.take i,0≤f.1
noncomputable def t_best_c1 (K:W.Frag):TE:=(tCall (sp_over K) [] E0 (tCons (tCall (sp_times K) [] E0 (tCons (tVar 0) (tCons (tOp (rIxT K) (tVar 1) (tC (.int 0))) tNil))) (tCons (tOp (rIxT K) (tVar 2) (tC (.int 0))) tNil)))
noncomputable def t_best_g1 (K:W.Frag):TG:=(gTup K 2 (gCons (gName 0) (gCons (gName 1) gNil)))
noncomputable def t_best_r1 (K:W.Frag):TS:=(tSeq (tIfS (tTest (tOp rNotN (tOp (rIxT K) (tVar 8) (tC (.int 1))) (tC .non))) (tRet (tTup (tCons (tC (.str "endless")) (tCons (tVar 9) (tCons (tMeth (gadr K "Corner") "ways" (sp_Corner_ways K) [] E0 (tOp (rIxT K) (tVar 8) (tC (.int 0))) (tCons (tOp (rIxT K) (tVar 8) (tC (.int 1))) tNil)) tNil))))) tNext) (tRet (tTup (tCons (tC (.str "best")) (tCons (tVar 9) (tCons (tCompG (iZip K (tCons (tMeth (gadr K "Corner") "ys" (sp_Corner_ys K) [] E0 (tOp (rIxT K) (tVar 8) (tC (.int 0))) tNil) (tCons (tVar 4) tNil))) 2 [6] (t_best_g1 K) (t_best_c1 K)) tNil))))))
noncomputable def t_best_c2 (K:W.Frag):TE:=(tCall (sp_over K) [] E0 (tCons (tVar 0) (tCons (tOp (rIxT K) (tVar 1) (tC (.int 0))) tNil)))
noncomputable def t_best_r2 (K:W.Frag):TS:=(tSeq (tAsg (tComp (iList K (tMeth (gadr K "Corner") "xs" (sp_Corner_xs K) [] E0 (tOp (rIxT K) (tVar 8) (tC (.int 0))) tNil)) [5] (t_best_c2 K)) (gName 9)) (t_best_r1 K))
noncomputable def t_best_r3 (K:W.Frag):TS:=(tSeq (tAsg (tCall (sp_last_corner K) [] E0 (tCons (tOp rCat (tVar 7) (tLst (tCons (tOp rCat (tCall (sp_turned_round K) [] E0 (tCons (tOp (rIxT K) (tVar 6) (tC (.int 1))) tNil)) (tLst (tCons (tC (.int 0)) tNil))) tNil))) tNil)) (gName 8)) (t_best_r2 K))
noncomputable def t_best_c3 (K:W.Frag):TE:=(tOp rCat (tOp (rIxT K) (tVar 0) (tC (.int 1))) (tLst (tCons (tVar 1) tNil)))
noncomputable def t_best_g2 (K:W.Frag):TG:=(gTup K 2 (gCons (gName 0) (gCons (gName 1) gNil)))
noncomputable def t_best_r4 (K:W.Frag):TS:=(tSeq (tAsg (tCompG (iZip K (tCons (tVar 4) (tCons (tOp (rIxT K) (tVar 5) (tC (.int 1))) tNil))) 2 [] (t_best_g2 K) (t_best_c3 K)) (gName 7)) (t_best_r3 K))
noncomputable def t_best_c4 (K:W.Frag):TE:=(tCall (sp_times K) [] E0 (tCons (tVar 0) (tCons (tOp (rIxT K) (tVar 1) (tC (.int 0))) tNil)))
noncomputable def t_best_g3 (K:W.Frag):TG:=(gTup K 2 (gCons (gName 0) (gCons (gName 1) gNil)))
noncomputable def t_best_r5 (K:W.Frag):TS:=(tSeq (tAsg (tCall (sp_whole K) [] E0 (tCons (tCompG (iZip K (tCons (tVar 1) (tCons (tVar 4) tNil))) 2 [] (t_best_g3 K) (t_best_c4 K)) tNil)) (gName 5)) (tSeq (tAsg (tCall (sp_whole K) [] E0 (tCons (tVar 2) tNil)) (gName 6)) (t_best_r4 K)))
noncomputable def t_best_c5 (K:W.Frag):TE:=(tCall (sp_whole K) [] E0 (tCons (tVar 0) tNil))
noncomputable def t_best_r6 (K:W.Frag):TS:=(tSeq (tAsg (tComp (iList K (tVar 0)) [] (t_best_c5 K)) (gName 4)) (t_best_r5 K))
noncomputable def t_best_b1 (K:W.Frag):TS:=(tIfS (tB (tCall (sp_below K) [] E0 (tCons (tVar 3) (tCons (tTup (tCons (tC (.int 0)) (tCons (tC (.int 1)) tNil))) tNil)))) tNever tNext)
noncomputable def t_best (K:W.Frag):TS:=(tSeq (tFor (iList K (tVar 1)) (gName 3) (t_best_b1 K)) (t_best_r6 K))
theorem len_best {K vs H Q E} (h:sp_best K vs H Q E):vs.length=3:=by obtain ⟨_,_,_,_,_,_,_,_,_,rfl,_⟩:=h;rfl
structure BeMid (K:W.Frag) (G:Hp) (md lv lf ll av af ag:Addr) (ms:List Addr) (frs:List (List (Int×Int))) (fb fg:List (Int×Int)):Prop where
 hmd:G md=some (.lst (List.map V.ref ms))
 hm:MdAt G ms frs
 hlv:G lv=some (.tup [.ref lf,.ref ll])
 hlf:G lf=some (.tup [.int (whF (bnF frs fb)).1,.int (whF (bnF frs fb)).2])
 hll:G ll=some (.lst (List.map V.int (whL (bnF frs fb))))
 hav:G av=some (.tup [.ref af,.ref ag])
 haf:G af=some (.tup [.int (whF fg).1,.int (whF fg).2])
 hag:G ag=some (.lst (List.map V.int (whL fg)))
theorem BeMid.same {K:W.Frag} {G G':Hp} {md lv lf ll av af ag:Addr} {ms:List Addr} {frs:List (List (Int×Int))} {fb fg:List (Int×Int)} (h:BeMid K G md lv lf ll av af ag ms frs fb fg) (s:Same G G'):BeMid K G' md lv lf ll av af ag ms frs fb fg :=
 ⟨s _ _ h.hmd,h.hm.same s,s _ _ h.hlv,s _ _ h.hlf,s _ _ h.hll,s _ _ h.hav,s _ _ h.haf,s _ _ h.hag⟩
theorem ofF_getD (l:List Int):ofF l.length (λ j=>l.getD j 0)=l:=by
 refine List.ext_getElem? λ j=>?_
 by_cases h:j<l.length
 ·rw [ofF_get _ h,get_getD h]
 ·rw [List.getElem?_eq_none (by rw [ofF_length];omega),List.getElem?_eq_none (by omega)]
theorem rowL_of {e:Bool} {frs:List (List (Int×Int))} {fb fg:List (Int×Int)} (B:BeO frs fb fg) {i:Nat} {r:List (Int×Int)} (er:frs[i]?=some r):(LpOf e frs fb fg).rowL i=whL r++[(whL (bnF frs fb)).getD i 0]:=by
 unfold Lpd.rowL
 have hl:=(List.getElem?_eq_some_iff.mp er).1
 have eq:frs.getD i []=r:=by rw [List.getD_eq_getElem?_getD,er];rfl
 have e1:ofF fg.length (λ j=>(LpOf e frs fb fg).a j i)=whL r:=by
  rw [show (λ j=>(LpOf e frs fb fg).a j i)=λ j=>(whL r).getD j 0 from funext λ j=>by
   show (if i<frs.length then (whL (frs.getD i [])).getD j 0 else _)=_
   rw [if_pos hl,eq],← B.lr r (List.mem_of_getElem? er),← whL_length]
  exact ofF_getD _
 show ofF fg.length (λ j=>(LpOf e frs fb fg).a j i)++_=_
 rw [e1];rfl
theorem rowL_goal {e:Bool} {frs:List (List (Int×Int))} {fb fg:List (Int×Int)} (B:BeO frs fb fg):(LpOf e frs fb fg).rowL frs.length=((whL fg).map λ x=>-x)++[0]:=by
 unfold Lpd.rowL
 have e1:ofF fg.length (λ j=>(LpOf e frs fb fg).a j frs.length)=(whL fg).map λ x=>-x:=by
  conv=>rhs;rw [← ofF_getD (whL fg),whL_length]
  unfold ofF
  rw [List.map_map]
  refine List.map_congr_left λ j _=>?_
  show (if frs.length<frs.length then _ else _)=_
  rw [if_neg (Nat.lt_irrefl _)];rfl
 have e2:(whL (bnF frs fb)).getD frs.length 0=0:=by
  rw [List.getD_eq_getElem?_getD,List.getElem?_eq_none (by rw [whL_length,bnF_length B.lb];exact Nat.le_refl _)];rfl
 show ofF fg.length (λ j=>(LpOf e frs fb fg).a j frs.length)++[(whL (bnF frs fb)).getD frs.length 0]=_
 rw [e1,e2]
theorem gbn_of {frs:List (List (Int×Int))} {fb fg:List (Int×Int)} (B:BeO frs fb fg):∀ f∈bnF frs fb,G9 f:=λ f hf=>by
 have bnl:=bnF_length B.lb
 obtain ⟨i,hi⟩:=List.getElem?_of_mem hf
 have hil:i<frs.length:=by have:=(List.getElem?_eq_some_iff.mp hi).1;omega
 have hib:i<fb.length:=by rw [B.lb];exact hil
 have e1:=List.getElem?_eq_getElem hil
 have e2:=List.getElem?_eq_getElem hib
 rw [bnF_get e2 e1] at hi
 obtain rfl:=Option.some.inj hi
 have wp:=whF_pos λ f hf=>(B.gr _ (List.getElem_mem hil) f hf).1
 have tb:=B.tb _ (List.getElem_mem hib) _ (List.getElem_mem hil)
 have z:=Int.mul_pos (B.gb _ (List.getElem_mem hib)).1 wp.2
 have lo:=lo2_lo (t:=(fb[i]).1*(whF frs[i]).1) z
 exact ⟨lo.pos,(lo.bb tb.2 tb.1).1,(lo.bb tb.2 tb.1).2⟩
theorem rd_best_r2 {K:W.Frag} {Q:VK} {H G:Hp} {a b c md lv lf ll av af ag:Addr} {ms:List Addr} {frs:List (List (Int×Int))} {fb fg:List (Int×Int)} (B:BeO frs fb fg) (M:BeMid K G md lv lf ll av af ag ms frs fb fg) (s0:Same H G) {p t ins:Addr} {L2:Lpd} {s:Nat→Nat} {o:Option Nat} (O:LcOut K G p t ins (LpOf false frs fb fg) L2 s o)
  (q:∀ v fl s o x w xp wp H',Same H H'→H x=none→H w=none→BeOut K H' v fl frs fb fg s o x w xp wp→Q (.ref v) H') {o3 o7 o9:Option V} :
  t_best_r2 K { nx:=λ _ H'=>Q .non H',rt:=Q } [some (.ref a),some (.ref b),some (.ref c),o3,some (.ref md),some (.ref lv),some (.ref av),o7,some (.ref p),o9] G:=by
 obtain ⟨fl,e2⟩:∃ fl,L2=LpOf fl frs fb fg:=by
  rcases O.e with e | e
  ·exact ⟨false,e⟩
  ·exact ⟨true,e⟩
 subst e2
 have ok:=O.ok
 have io:=O.io
 have un:=O.un
 have ca15:=O.ca
 have hp0:=O.hp
 have gbn:=gbn_of B
 have lim:=B.lim fl
 have m1:frs.length≤100:=lim.m1
 have n1:fg.length≤100:=lim.n1
 have msl:=M.hm.length
 have D0:=ok.pos
 obtain ⟨dx5,b5,sp5,k5,bs5,ss5,ks5,P⟩:=id ca15
 have wb:=whF_pos λ f hf=>(gbn f hf).1
 have wg:=whF_pos λ f hf=>(B.gg f hf).1
 (try dsimp? [t_best_r2,tMeth,tComp,iList];try simp_arith [t_best_r2,tMeth,tComp,iList])
 refine ⟨_,SqT.of hp0,_,atI0,_,rfl,_,_,P.ob,rfl,_,_,_,_,rfl,ca15,lim,ok,λ xl xps H16 s16 hxl hxl16 hxs=>?_⟩
 have s016:=s16
 have xpl:xps.length=fg.length:=by rw [hxs.length,ofF_length];rfl
 have sbb:∀ j,BB 20000 (Lpd.spr (LpOf fl frs fb fg).m s (λ i=>(LpOf fl frs fb fg).T s i (LpOf fl frs fb fg).be) j):=spr_bb ok λ i hi=>lim.bb s i ok.n (by omega)
 refine ⟨_,rfl,⟨_,SqL.of hxl16⟩,comp_list (K:=K) (a:=xl) (xs:=List.map V.ref xps) (λ i zs H17=>Same H16 H17∧∃ ps,zs=List.map V.ref ps∧FrsAt K H17 ps (ofF i λ j=>fov (sprF (LpOf fl frs fb fg) s (λ i=>(LpOf fl frs fb fg).T s i (LpOf fl frs fb fg).be) frs.length j) (whF (bnF frs fb)))) ?_ ⟨Same.refl _,[],rfl,trivial⟩ ?_ ?_ ?_⟩
 ·rw [List.length_map,xpl,sizeLine_eq];omega
 ·rintro i zs H17 _ ⟨s17,_⟩
  exact s17.seq (SqL.of hxl16)
 ·rintro i x zs H17 hi _ ⟨s17,ps,rfl,hps⟩
  obtain ⟨p,rfl,hp⟩:=get_refs hi
  obtain ⟨f,ef,hF⟩:=hxs.get hp
  obtain ⟨hin,rfl⟩:=ofF_inv ef
  have lo:=lo2_lo (t:=Lpd.spr (LpOf fl frs fb fg).m s (λ i=>(LpOf fl frs fb fg).T s i (LpOf fl frs fb fg).be) i) D0
  have lbb:=lo.bb (sbb i) ((lim.bD s ok.n).mono (show 9000≤20000 by decide))
  have lle:(lo2 (Lpd.spr (LpOf fl frs fb fg).m s (λ i=>(LpOf fl frs fb fg).T s i (LpOf fl frs fb fg).be) i) ((LpOf fl frs fb fg).D s)).2≤(LpOf fl frs fb fg).D s:=by have h1:=lo.by_;have h2:=lo.pos;omega
  (try dsimp? [t_best_c2,caught,List.map_cons,List.map_nil,Option.join_some];try simp_arith [t_best_c2,caught,List.map_cons,List.map_nil,Option.join_some])
  refine ⟨_,SqT.of ((s016.trans s17) _ _ M.hlv),_,atI0,_,_,_,_,_,_,rfl,⟨s17.tup hF,SqT.of ((s016.trans s17) _ _ M.hlf),lbb.1,lbb.2,B.wb.1,B.wb.2⟩,lo.pos,wb.1,bb_mul_le (B.ox fl s ok.n) (Int.le_of_lt lo.pos) lle (Int.le_of_lt wb.1),λ r H18 s18 hr=>⟨s17.trans s18,ps++[r],by rw [List.map_append];rfl,?_⟩⟩
  rw [ofF_snoc]
  exact FrsAt.snoc (hps.same s18) (SqT.of hr)
 ·rintro zs H17 _ ⟨s17,xp,rfl,hxp⟩ xv hxv
  rw [List.length_map,xpl] at hxp
  have s18:=s17.trans (Same.upd (o:=HO.lst (List.map V.ref xp)) hxv)
  have hxp18:=hxp.same (Same.upd (o:=HO.lst (List.map V.ref xp)) hxv)
  have hxv18:(upd H17 xv (.lst (List.map V.ref xp))) xv=some (.lst (List.map V.ref xp)):=upd_same
  generalize upd H17 xv (.lst (List.map V.ref xp))=H18 at s18 hxp18 hxv18
  have hxvH:H xv=none:=((s0.trans s016).trans s17).free hxv
  clear s17 hxp hxv
  have s018:=s016.trans s18
  have ca18:=ca15.same (s16.trans s18)
  have P18:=P.same (s16.trans s18)
  (try dsimp? [t_best_r1,rNotN,tMeth];try simp_arith [t_best_r1,rNotN,tMeth])
  refine ⟨_,SqT.of ((s16.trans s18) _ _ hp0),_,atI1,?_⟩
  cases o with
  | some c =>
   (try dsimp? [t_best_r1];try simp_arith [t_best_r1,oV,reduceCtorEq,decide_false,Bool.not_false,if_true])
   refine ⟨_,SqT.of ((s16.trans s18) _ _ hp0),_,atI0,_,rfl,_,_,P18.ob,rfl,_,SqT.of ((s16.trans s18) _ _ hp0),_,atI1,_,_,_,_,_,rfl,ca18,lim,ok,un.1,λ i hi=>Lpd.out un.2.1 hi,λ wl wp H19 s19 hwl hwl19 hws=>⟨sz3,λ v hv=>?_⟩⟩
   have s20:=Same.upd (o:=HO.tup [.str "endless",.ref xv,.ref wl]) hv
   exact q v fl s (some c) xv wl xp wp _ (((s0.trans s018).trans s19).trans s20) hxvH ((s0.trans s018).free hwl) ⟨ok,io,un,upd_same,s20 _ _ (s19 _ _ hxv18),(hxp18.same s19).same s20,s20 _ _ hwl19,hws.same s20⟩
  | none =>
   (try dsimp? [t_best_r1,tCompG,iZip];try simp_arith [t_best_r1,oV,decide_true,Bool.not_true,Bool.false_eq_true,if_false,tCompG,iZip])
   refine ⟨_,SqT.of ((s16.trans s18) _ _ hp0),_,atI0,?_⟩
   refine ⟨_,_,P18.ob,rfl,_,_,_,_,rfl,ca18,lim,ok,λ yl yps H19 s19 hyl hyl19 hys=>?_⟩
   have ypl:yps.length=frs.length:=by rw [hys.length,ofF_length];rfl
   have s019:=s018.trans s19
   refine ⟨_,rfl,⟨_,SqL.of hyl19⟩,⟨_,SqL.of (s019 _ _ M.hmd)⟩,compG_zip (K:=K) (a:=yl) (b:=md) (xs:=List.map V.ref yps) (ys:=List.map V.ref ms) (λ i zs H20=>Same H19 H20∧∃ ps,zs=List.map V.ref ps∧FrsAt K H20 ps (ofF i λ k=>fov (ftm (lo2 ((LpOf fl frs fb fg).T s frs.length (e1 k)) ((LpOf fl frs fb fg).D s)) (whF (frs.getD k []))) (whF fg))) ?_ ?_ ⟨Same.refl _,[],rfl,trivial⟩ ?_ ?_ ?_⟩
   ·rw [List.length_map,ypl,sizeLine_eq];omega
   ·rw [List.length_map,List.length_map,ypl,msl]
   ·rintro i zs H20 _ ⟨s20,_⟩
    exact ⟨s20.seq (SqL.of hyl19),s20.seq (SqL.of (s019 _ _ M.hmd))⟩
   ·rintro i x y p zs H20 hx hy _ ⟨s20,ps,rfl,hps⟩ hp os ho
    obtain ⟨py,rfl,hpy⟩:=get_refs hx
    obtain ⟨pm,rfl,hpm⟩:=get_refs hy
    obtain ⟨f,ef,hF⟩:=hys.get hpy
    obtain ⟨him,rfl⟩:=ofF_inv ef
    obtain ⟨r,rf,rl2,er,hv,hrf,hrl⟩:=M.hm.get hpm
    have hrm:=List.mem_of_getElem? er
    have erd:frs.getD i []=r:=by rw [List.getD_eq_getElem?_getD,er];rfl
    obtain ⟨o2,o3,rfl⟩:∃ o1 o2,os=[o1,o2]:=by
     match os,ho with
     | [o1,o2],_=>exact ⟨o1,o2,rfl⟩
    have s21:=s20.trans (Same.upd (o:=HO.tup [.ref py,.ref pm]) hp)
    have w:=whF_pos λ f hf=>(B.gr r hrm f hf).1
    have him':i<frs.length:=him
    obtain ⟨oy1,oy2⟩:=B.oy fl s ok.n r hrm
    have oy2:=oy2 i him'
    have lo:=lo2_lo (t:=(LpOf fl frs fb fg).T s frs.length (e1 i)) D0
    have lbb:=lo.bb (lim.bk s frs.length i ok.n (Nat.le_refl _) (Nat.le_of_lt him')) ((lim.bD s ok.n).mono (show 9000≤20000 by decide))
    have lle:(lo2 ((LpOf fl frs fb fg).T s frs.length (e1 i)) ((LpOf fl frs fb fg).D s)).2≤(LpOf fl frs fb fg).D s:=by have h1:=lo.by_;have h2:=lo.pos;omega
    (try dsimp? [t_best_g1,t_best_c1,caught,List.map_cons,List.map_nil,Option.join_some];try simp_arith [t_best_g1,t_best_c1,caught,List.map_cons,List.map_nil,Option.join_some])
    refine ⟨_,SqT.of upd_same,rfl,_,_,rfl,_,_,rfl,rfl,⟨[some (.ref py),some (.ref pm)],rfl,rfl⟩,_,rfl,_,SqT.of ((s019.trans s21) _ _ hv),_,atI0,?_⟩
    have b1:BB 9000 ((LpOf fl frs fb fg).D s*(whF r).2):=oy1.of_le (by
     rw [Int.natAbs_mul ((LpOf fl frs fb fg).D s*(whF r).2)]
     exact Nat.le_mul_of_pos_right _ (by omega))
    have b2:=bb_mul_le b1 (Int.le_of_lt lo.pos) lle (Int.le_of_lt w.2)
    have z2:=Int.mul_pos lo.pos w.2
    have lo3:=lo2_lo (t:=(lo2 ((LpOf fl frs fb fg).T s frs.length (e1 i)) ((LpOf fl frs fb fg).D s)).1*(whF r).1) z2
    have le3:=lo2_le (t:=(lo2 ((LpOf fl frs fb fg).T s frs.length (e1 i)) ((LpOf fl frs fb fg).D s)).1*(whF r).1) z2
    have b4:BB 20000 ((lo2 ((LpOf fl frs fb fg).T s frs.length (e1 i)) ((LpOf fl frs fb fg).D s)).1*(whF r).1):=oy2.of_le (by
     rw [Int.natAbs_mul,Int.natAbs_mul]
     exact Nat.mul_le_mul lo.bx (Nat.le_refl _))
    have bb3:=lo3.bb b4 (b2.mono (show 9000≤20000 by decide))
    refine ⟨_,_,_,_,_,_,rfl,⟨s21.tup hF,SqT.of ((s019.trans s21) _ _ hrf),lbb.1,lbb.2,(B.wr r hrm).1,(B.wr r hrm).2⟩,lo.pos,w.2,b2,λ u H22 s22 hu=>?_⟩
    have b5:BB 9000 ((lo2 ((LpOf fl frs fb fg).T s frs.length (e1 i)) ((LpOf fl frs fb fg).D s)).2*(whF r).2*(whF fg).1):=bb_mul_le oy1 (Int.le_of_lt z2) (Int.mul_le_mul_of_nonneg_right lle (Int.le_of_lt w.2)) (Int.le_of_lt wg.1)
    refine ⟨_,SqT.of ((s019.trans (s21.trans s22)) _ _ M.hav),_,atI0,_,_,_,_,_,_,rfl,⟨SqT.of hu,SqT.of ((s019.trans (s21.trans s22)) _ _ M.haf),bb3.1,bb3.2,B.wg.1,B.wg.2⟩,lo3.pos,wg.1,bb_mul_le b5 (Int.le_of_lt lo3.pos) le3 (Int.le_of_lt wg.1),λ z H23 s23 hz=>⟨s21.trans (s22.trans s23),ps++[z],by rw [List.map_append];rfl,?_⟩⟩
    rw [ofF_snoc]
    refine FrsAt.snoc (((hps.same (Same.upd hp)).same s22).same s23) ?_
    rw [erd]
    exact SqT.of hz
   ·rintro zs H20 _ ⟨s20,wp,rfl,hwp⟩ wl hwl
    rw [List.length_map,ypl] at hwp
    refine ⟨sz3,λ v hv=>?_⟩
    have s21:=(Same.upd (o:=HO.lst (List.map V.ref wp)) hwl).trans (Same.upd (o:=HO.tup [.str "best",.ref xv,.ref wl]) hv)
    exact q v fl s none xv wl xp wp _ (((s0.trans s019).trans s20).trans s21) hxvH (((s0.trans s019).trans s20).free hwl) ⟨ok,io,un,upd_same,s21 _ _ ((s19.trans s20) _ _ hxv18),(hxp18.same (s19.trans s20)).same s21,Same.upd hv _ _ upd_same,hwp.same s21⟩
theorem rd_best_r4 {K:W.Frag} {Q:VK} {H G:Hp} {a b c md lv lf ll av af ag:Addr} {ms:List Addr} {frs:List (List (Int×Int))} {fb fg:List (Int×Int)} (B:BeO frs fb fg) (al:∀ f∈fb,0≤f.1) (hm1:1≤frs.length) (hn1:1≤fg.length) (M:BeMid K G md lv lf ll av af ag ms frs fb fg) (s0:Same H G)
  (q:∀ v fl s o x w xp wp H',Same H H'→H x=none→H w=none→BeOut K H' v fl frs fb fg s o x w xp wp→Q (.ref v) H') {o3 o7 o8 o9:Option V} :
  t_best_r4 K { nx:=λ _ H'=>Q .non H',rt:=Q } [some (.ref a),some (.ref b),some (.ref c),o3,some (.ref md),some (.ref lv),some (.ref av),o7,o8,o9] G:=by
 have lim:=B.lim false
 have m1:frs.length≤100:=lim.m1
 have n1:fg.length≤100:=lim.n1
 have msl:=M.hm.length
 have bnl:=bnF_length B.lb
 have wl:(whL (bnF frs fb)).length=frs.length:=by rw [whL_length,bnl]
 (try dsimp? [t_best_r4,tCompG,iZip];try simp_arith [t_best_r4,tCompG,iZip])
 refine ⟨_,SqT.of M.hlv,_,atI1,_,rfl,⟨_,SqL.of M.hmd⟩,⟨_,SqL.of M.hll⟩,compG_zip (K:=K) (a:=md) (b:=ll) (xs:=List.map V.ref ms) (ys:=List.map V.int (whL (bnF frs fb))) (λ i zs H6=>Same G H6∧∃ ls,zs=List.map V.ref ls∧RwsAt H6 ls (ofF i (LpOf false frs fb fg).rowL)) ?_ ?_ ⟨Same.refl _,[],rfl,trivial⟩ ?_ ?_ ?_⟩
 ·rw [List.length_map,sizeLine_eq,msl];omega
 ·rw [List.length_map,List.length_map,msl,wl]
 ·rintro i zs H6 _ ⟨s6,_⟩
  exact ⟨s6.seq (SqL.of M.hmd),s6.seq (SqL.of M.hll)⟩
 ·rintro i x y p zs H6 hx hy _ ⟨s6,ls,rfl,hls⟩ hp os ho
  obtain ⟨pm,rfl,hpm⟩:=get_refs hx
  obtain ⟨v,rfl,hv⟩:=get_ints hy
  obtain ⟨r,rf,rl,er,hv2,hrf,hrl⟩:=M.hm.get hpm
  obtain ⟨o2,o3,rfl⟩:∃ o1 o2,os=[o1,o2]:=by
   match os,ho with
   | [o1,o2],_=>exact ⟨o1,o2,rfl⟩
  have hrm:=List.mem_of_getElem? er
  have s7:=s6.trans (Same.upd (o:=HO.tup [.ref pm,.int v]) hp)
  (try dsimp? [t_best_g2,t_best_c3,rCat,caught,List.map_cons,List.map_nil,Option.join_some];try simp_arith [t_best_g2,t_best_c3,rCat,caught,List.map_cons,List.map_nil,Option.join_some])
  refine ⟨_,SqT.of upd_same,rfl,_,_,rfl,_,_,rfl,rfl,⟨[some (.ref pm),some (.int v)],rfl,rfl⟩,_,rfl,_,SqT.of (s7 _ _ hv2),_,atI1,?_⟩
  refine ⟨sz1,λ l2 hl2=>⟨_,rfl,_,Same.upd hl2 _ _ (s7 _ _ hrl),_,upd_same,by rw [List.length_map,whL_length,B.lr r hrm,sizeLine_eq];show fg.length+1≤_;omega,λ l3 hl3=>?_⟩⟩
  refine ⟨(s7.trans (Same.upd hl2)).trans (Same.upd hl3),ls++[l3],by rw [List.map_append];rfl,?_⟩
  rw [ofF_snoc]
  refine RwsAt.snoc (((hls.same (Same.upd hp)).same (Same.upd hl2)).same (Same.upd hl3)) ?_
  rw [upd_same,rowL_of B er,getD_of hv,List.map_append];rfl
 ·rintro zs H6 _ ⟨s6,ls,rfl,hls⟩ l7 hl7
  rw [List.length_map,msl] at hls
  have s7:=s6.trans (Same.upd (o:=HO.lst (List.map V.ref ls)) hl7)
  have hls7:=hls.same (Same.upd (o:=HO.lst (List.map V.ref ls)) hl7)
  have hl77:(upd H6 l7 (.lst (List.map V.ref ls))) l7=some (.lst (List.map V.ref ls)):=upd_same
  generalize upd H6 l7 (.lst (List.map V.ref ls))=H7 at s7 hls7 hl77
  have lsl:ls.length=frs.length:=by rw [hls7.length,ofF_length]
  (try dsimp? [t_best_r3,rCat];try simp_arith [t_best_r3,rCat])
  refine ⟨_,SqT.of (s7 _ _ M.hav),_,atI1,_,_,rfl,SqL.of (s7 _ _ M.hag),by rw [whL_length];omega,λ lt H8 s8 _ hlt=>⟨sz1,λ l0 hl0=>⟨_,rfl,_,Same.upd hl0 _ _ hlt,_,upd_same,by rw [List.length_map,List.length_map,whL_length,sizeLine_eq];show fg.length+1≤_;omega,λ lg hlg=>⟨sz1,λ l1 hl1=>?_⟩⟩⟩⟩
  have s9:=((s7.trans s8).trans (Same.upd (o:=HO.lst [.int 0]) hl0)).trans (Same.upd (o:=HO.lst (List.map V.int ((whL fg).map λ x=>-x)++[.int 0])) hlg)
  have s79:=(s8.trans (Same.upd (o:=HO.lst [.int 0]) hl0)).trans (Same.upd (o:=HO.lst (List.map V.int ((whL fg).map λ x=>-x)++[.int 0])) hlg)
  have hlg9:(upd (upd H8 l0 (.lst [.int 0])) lg (.lst (List.map V.int ((whL fg).map λ x=>-x)++[.int 0]))) lg=some (.lst (List.map V.int ((LpOf false frs fb fg).rowL frs.length))):=by rw [upd_same,rowL_goal B,List.map_append];rfl
  generalize upd (upd H8 l0 (.lst [.int 0])) lg (.lst (List.map V.int ((whL fg).map λ x=>-x)++[.int 0]))=H9 at s9 s79 hlg9 hl1
  refine ⟨_,Same.upd hl1 _ _ (s79 _ _ hl77),_,upd_same,by rw [List.length_map,lsl,sizeLine_eq];show frs.length+1≤_;omega,λ l2 hl2=>?_⟩
  have s10:=(Same.upd (o:=HO.lst [.ref lg]) hl1).trans (Same.upd (o:=HO.lst (List.map V.ref ls++[.ref lg])) hl2)
  have R:RlAt (upd (upd H9 l1 (.lst [.ref lg])) l2 (.lst (List.map V.ref ls++[.ref lg]))) l2 (ls++[lg]) (LpOf false frs fb fg):=by
   refine ⟨by rw [upd_same,List.map_append];rfl,?_⟩
   show RwsAt _ _ (ofF (frs.length+1) _)
   rw [ofF_snoc]
   exact RwsAt.snoc ((hls7.same s79).same s10) (s10 _ _ hlg9)
  generalize upd (upd H9 l1 (.lst [.ref lg])) l2 (.lst (List.map V.ref ls++[.ref lg]))=H10 at s10 R
  obtain ⟨q0,F,f1,f2⟩:=B.fit
  have I:LcIn H10 l2 (ls++[lg]) (LpOf false frs fb fg) q0:=⟨R,rfl,hm1,hn1,F,λ j k _ _=>f1 j k,λ k _=>f2 k,λ i _=>whL_nonneg (λ f hf=>(gbn_of B f hf).1) (bnF_nonneg B al) i⟩
  exact ⟨l2,_,_,_,rfl,I,λ p t ins L2 s o H11 s11 O=>rd_best_r2 B (M.same ((s9.trans s10).trans s11)) (s0.trans ((s9.trans s10).trans s11)) O q⟩
theorem rd_best {K vs H Q E} (h:sp_best K vs H Q E):t_best K { nx:=λ _ H'=>Q .non H',rt:=Q } (start N_best vs) H:=by
 obtain ⟨a,b,c,rps,bps,gps,frs,fb,fg,rfl,I,qn,B,hm1,hn1,q⟩:=h
 have bpl:=I.hbs.length
 rw [show start N_best [V.ref a,V.ref b,V.ref c]=[some (.ref a),some (.ref b),some (.ref c),none,none,none,none,none,none,none] from rfl]
 (dsimp! [t_best,tFor,iList,tSeq,gName,tVar])
 refine ⟨⟨_,SqL.of I.hb⟩,for_list (K:=K) (a:=b) (xs:=List.map V.ref bps) (g:=gName 3) (D:={ nx:=t_best_r6 K { nx:=λ _ H'=>Q .non H',rt:=Q },rt:=Q }) (iv_best a b c H fb) ?_ ?_ ?_ ?_⟩
 ·exact ⟨none,rfl,Same.refl _,(λ _ h=>nomatch h)⟩
 ·rintro i σ H3 _ ⟨_,_,s3,_⟩
  exact s3.seq (SqL.of I.hb)
 ·rintro i x σ H3 hi ⟨o1,rfl,s3,al⟩
  obtain ⟨p,rfl,hp⟩:=get_refs hi
  obtain ⟨f,ef,hF⟩:=I.hbs.get hp
  have hm:=List.mem_of_getElem? ef
  have gf:=I.gb f hm
  have one:BB 20000 (1:Int):=by show (1:Int).natAbs<2 ^ 20000;exact Nat.one_lt_two_pow (by decide)
  have zer:BB 20000 (0:Int):=by show (0:Int).natAbs<2 ^ 20000;exact Nat.two_pow_pos _
  (dsimp! [tNever,gName,tVar,tC,tIfS,tB,tNext,tCall,tCons,tNil,tTup,tNever,List.append_nil])
  refine ⟨sz2,λ z hz=>?_⟩
  have s4:=s3.trans (Same.upd (o:=HO.tup [.int 0,.int 1]) hz)
  refine ⟨_,_,_,_,_,_,rfl,⟨s4.tup hF,SqT.of upd_same,gf.2.1,gf.2.2.mono (by decide),zer,one⟩,_,rfl,ite2 (λ hn=>?_) (λ hn=>?_)⟩
  ·have:=qn f hm;simp only [decide_eq_true_eq,Int.mul_one,Int.zero_mul] at hn;omega
  ·refine ⟨_,rfl,s4,λ g hg=>?_⟩
   rw [take_snoc ef] at hg
   rcases List.mem_append.mp hg with hg | hg
   ·exact al g hg
   ·rw [List.mem_singleton.mp hg];simp only [decide_eq_true_eq,Int.mul_one,Int.zero_mul] at hn;omega
 ·rintro σ H3 ⟨o1,rfl,s3,al⟩
  rw [List.length_map,bpl,List.take_length] at al
  have rpl:=I.hr.length
  have m1:frs.length≤100:=(B.lim false).m1
  have n1:fg.length≤100:=(B.lim false).n1
  (try dsimp? [t_best_r6,tComp,iList];try simp_arith [t_best_r6,tComp,iList])
  refine ⟨⟨_,s3.seq (SqL.of I.ha)⟩,comp_list (K:=K) (a:=a) (xs:=List.map V.ref rps) (λ i zs H4=>Same H H4∧∃ ms,zs=List.map V.ref ms∧MdAt H4 ms (frs.take i)) ?_ ⟨s3,[],rfl,trivial⟩ ?_ ?_ ?_⟩
  ·rw [List.length_map,sizeLine_eq];omega
  ·rintro i zs H4 _ ⟨s4,_⟩
   exact s4.seq (SqL.of I.ha)
  ·rintro i x zs H4 hi _ ⟨s4,ms,rfl,hms⟩
   obtain ⟨p,rfl,hp⟩:=get_refs hi
   obtain ⟨r,qs,er,hrow,hfr⟩:=I.hr.get hp
   have hrm:=List.mem_of_getElem? er
   (dsimp! [t_best_c5,tVar,tCall,tCons,tNil,List.append_nil])
   refine ⟨_,_,_,rfl,s4.seq (SqL.of hrow),hfr.same s4,B.gr r hrm,by rw [B.lr r hrm];omega,B.cr r hrm,λ v f l H5 s5 hv hf hl=>⟨s4.trans s5,ms++[v],by rw [List.map_append];rfl,?_⟩⟩
   rw [take_snoc er]
   exact MdAt.append (show MdAt H5 [v] [r] from ⟨⟨f,l,hv,hf,hl⟩,trivial⟩) (hms.same s5)
  ·rintro zs H4 _ ⟨s4,ms,rfl,hms⟩ md hmd
   rw [List.length_map,rpl,List.take_length] at hms
   have s5:=s4.trans (Same.upd (o:=HO.lst (List.map V.ref ms)) hmd)
   have hm5:=hms.same (Same.upd (o:=HO.lst (List.map V.ref ms)) hmd)
   have hmd5:(upd H4 md (.lst (List.map V.ref ms))) md=some (.lst (List.map V.ref ms)):=upd_same
   generalize upd H4 md (.lst (List.map V.ref ms))=H5 at s5 hm5 hmd5
   clear s4 hms hmd s3
   have msl:=hm5.length
   (try dsimp? [t_best_r5,tCompG,iZip];try simp_arith [t_best_r5,tCompG,iZip])
   refine ⟨⟨_,s5.seq (SqL.of I.hb)⟩,⟨_,SqL.of hmd5⟩,compG_zip (K:=K) (a:=b) (b:=md) (xs:=List.map V.ref bps) (ys:=List.map V.ref ms) (λ i zs H6=>Same H5 H6∧∃ ts,zs=List.map V.ref ts∧FrsAt K H6 ts ((bnF frs fb).take i)) ?_ ?_ ⟨Same.refl _,[],rfl,trivial⟩ ?_ ?_ ?_⟩
   ·rw [List.length_map,sizeLine_eq,bpl,B.lb];omega
   ·rw [List.length_map,List.length_map,bpl,B.lb,msl]
   ·rintro i zs H6 _ ⟨s6,_⟩
    exact ⟨(s5.trans s6).seq (SqL.of I.hb),s6.seq (SqL.of hmd5)⟩
   ·rintro i x y p zs H6 hx hy _ ⟨s6,ts,rfl,hts⟩ hp os ho
    obtain ⟨pb,rfl,hpb⟩:=get_refs hx
    obtain ⟨pm,rfl,hpm⟩:=get_refs hy
    obtain ⟨f,ef,hF⟩:=I.hbs.get hpb
    obtain ⟨r,rf,rl,er,hv,hrf,hrl⟩:=hm5.get hpm
    obtain ⟨o2,o3,rfl⟩:∃ o1 o2,os=[o1,o2]:=by
     match os,ho with
     | [o1,o2],_=>exact ⟨o1,o2,rfl⟩
    have hrm:=List.mem_of_getElem? er
    have hfm:=List.mem_of_getElem? ef
    have gf:=B.gb f hfm
    have s7:=s6.trans (Same.upd (o:=HO.tup [.ref pb,.ref pm]) hp)
    have wp:=whF_pos λ f hf=>(B.gr r hrm f hf).1
    (try dsimp? [t_best_g3,t_best_c4];try simp_arith [t_best_g3,t_best_c4])
    refine ⟨_,SqT.of upd_same,rfl,_,_,rfl,_,_,rfl,rfl,⟨[some (.ref pb),some (.ref pm)],rfl,rfl⟩,_,rfl,_,SqT.of (s7 _ _ hv),_,atI0,?_⟩
    refine ⟨_,_,_,_,_,_,rfl,⟨(s5.trans s7).tup hF,SqT.of (s7 _ _ hrf),gf.2.1,gf.2.2.mono (by decide),(B.wr r hrm).1,(B.wr r hrm).2⟩,gf.1,wp.2,(B.tb f hfm r hrm).1,λ t H8 s8 ht=>⟨s7.trans s8,ts++[t],by rw [List.map_append];rfl,?_⟩⟩
    rw [take_snoc (bnF_get ef er)]
    exact FrsAt.snoc ((hts.same (Same.upd hp)).same s8) (SqT.of ht)
   ·rintro zs H6 _ ⟨s6,ts,rfl,hts⟩ tl htl
    have bnl:=bnF_length B.lb
    rw [List.length_map,bpl,B.lb,← bnl,List.take_length] at hts
    have s7:=s6.trans (Same.upd (o:=HO.lst (List.map V.ref ts)) htl)
    have hts7:=hts.same (Same.upd (o:=HO.lst (List.map V.ref ts)) htl)
    have htl7:(upd H6 tl (.lst (List.map V.ref ts))) tl=some (.lst (List.map V.ref ts)):=upd_same
    generalize upd H6 tl (.lst (List.map V.ref ts))=H7 at s7 hts7 htl7
    clear s6 hts htl
    have gbn:=gbn_of B
    refine ⟨_,_,_,rfl,SqL.of htl7,hts7,gbn,by omega,B.cb,λ lv lf ll H8 s8 hlv hlf hll=>?_⟩
    have s08:=s5.trans (s7.trans s8)
    refine ⟨_,_,_,rfl,s08.seq (SqL.of I.hg),I.hgs.same s08,B.gg,by omega,B.cg,λ av af al' H9 s9 hav haf hal=>?_⟩
    exact rd_best_r4 B al hm1 hn1 ⟨s9 _ _ (s8 _ _ (s7 _ _ hmd5)),hm5.same (s7.trans (s8.trans s9)),s9 _ _ hlv,s9 _ _ hlf,s9 _ _ hll,hav,haf,hal⟩ (s08.trans s9) q
noncomputable def N_l_whole:List PySem.Str:=["_law_found"]
noncomputable def sp_l_whole (_:W.Frag):Sp:=λ vs H Q _=>∃ i,vs=[.int i]∧Q (.bl true) H
noncomputable def t_l_whole (K:W.Frag):TS:=(tRet (tAndV (tCB cIsB (tCons (tVar 0) (tCons (tC (.ty "int")) tNil))) (tNotV (tCB cIsB (tCons (tVar 0) (tCons (tC (.ty "bool")) tNil))))))
theorem len_l_whole {K vs H Q E} (h:sp_l_whole K vs H Q E):vs.length=1:=by obtain ⟨a,rfl,_⟩:=h;rfl
theorem rd_l_whole {K vs H Q E} (h:sp_l_whole K vs H Q E):t_l_whole K { nx:=λ _ H'=>Q .non H',rt:=Q } (start N_l_whole vs) H:=by
 obtain ⟨i,rfl,q⟩:=h
 rw [show start N_l_whole [V.int i]=[some (.int i)] from rfl]
 (try dsimp only [t_l_whole,tVar,tC,tRet,tCons,tNil,tCB,cIsB,tAndV,tNotV,Lq0,exI_lit,exB_lit,exR_lit];try simp only [t_l_whole,tVar,tC,tRet,tCons,tNil,tCB,cIsB,tAndV,tNotV,Lq0,Option.some.injEq,exists_eq_left',V.bl.injEq,V.ty.injEq,List.cons.injEq,and_true,exists_and_left,and_assoc,exists_eq_left,V.int.injEq,V.ref.injEq,true_and,exI_lit,exB_lit,exR_lit,exI_ex,exB_ex,exR_ex])
 exact ⟨true,.inl ⟨rfl,rfl⟩,iteT ⟨false,.inr ⟨rfl,rfl⟩,q⟩⟩
noncomputable def N_l_list:List PySem.Str:=["_law_found", "_law_many", "_law_one"]
noncomputable def sp_l_list (K:W.Frag):Sp:=λ vs H Q _=>∃ l ps,∃ n:Nat,∃ f:Nat→Int×Int,vs=[.ref l,.int n]∧H l=some (.lst (List.map V.ref ps))∧FrsAt K H ps (ofF n f)∧(∀ k,k<n→Fok (f k))∧Q (.bl true) H
noncomputable def t_l_list_r1 (K:W.Frag):TS:=(tRet (tC (.bl true)))
noncomputable def t_l_list_r2 (K:W.Frag):TS:=(tIfS (tOr (tTest (tOp rLtI (tOp (rIxT K) (tVar 2) (tC (.int 1))) (tC (.int 1)))) (tOr (tTest (tOp rLtI (tOp (rIxT K) (tVar 2) (tC (.int 0))) (tC (.int 0)))) (tTest (tOp rNe (tCall (sp_l_divisor K) [] E0 (tCons (tOp (rIxT K) (tVar 2) (tC (.int 0))) (tCons (tOp (rIxT K) (tVar 2) (tC (.int 1))) tNil))) (tC (.int 1)))))) (tRet (tC (.bl false))) tNext)
noncomputable def t_l_list_b1 (K:W.Frag):TS:=(tSeq (tIfS (tOr (tNot (tB (tCB (cIsT K) (tCons (tVar 2) (tCons (tC (.ty "tuple")) tNil))))) (tOr (tTest (tOp rNe (tCB (cLen K) (tCons (tVar 2) tNil)) (tC (.int 2)))) (tOr (tNot (tB (tCall (sp_l_whole K) [] E0 (tCons (tOp (rIxT K) (tVar 2) (tC (.int 0))) tNil)))) (tNot (tB (tCall (sp_l_whole K) [] E0 (tCons (tOp (rIxT K) (tVar 2) (tC (.int 1))) tNil))))))) (tRet (tC (.bl false))) tNext) (t_l_list_r2 K))
noncomputable def t_l_list_r3 (K:W.Frag):TS:=(tSeq (tFor (iList K (tVar 0)) (gName 2) (t_l_list_b1 K)) (t_l_list_r1 K))
noncomputable def t_l_list (K:W.Frag):TS:=(tSeq (tIfS (tOr (tNot (tB (tCB cIsB2 (tCons (tVar 0) (tCons (tC (.ty "list")) tNil))))) (tTest (tOp rNe (tCB (cLen K) (tCons (tVar 0) tNil)) (tVar 1)))) (tRet (tC (.bl false))) tNext) (t_l_list_r3 K))
theorem len_l_list {K vs H Q E} (h:sp_l_list K vs H Q E):vs.length=2:=by obtain ⟨_,_,_,_,rfl,_⟩:=h;rfl
theorem rd_l_list {K vs H Q E} (h:sp_l_list K vs H Q E):t_l_list K { nx:=λ _ H'=>Q .non H',rt:=Q } (start N_l_list vs) H:=by
 obtain ⟨l,ps,n,f,rfl,hl,hf,hk,q⟩:=h
 have pl:ps.length=n:=by rw [hf.length,ofF_length]
 rw [show start N_l_list [V.ref l,V.int n]=[some (.ref l),some (.int n),none] from rfl]
 (try dsimp only [t_l_list,cIsB2,tSeq,tVar,tC,tOp,rNe,scal_ii,tRet,tIfS,tTest,tB,tNot,tNext,tCons,tNil,tCB,cLen,tOr,Lq0,Lq1,exI_lit,exB_lit,exR_lit];try simp only [t_l_list,cIsB2,tSeq,tVar,tC,tOp,rNe,scal_ii,tRet,tIfS,tTest,tB,tNot,tNext,tCons,tNil,tCB,cLen,tOr,Lq0,Lq1,Option.some.injEq,exists_eq_left',V.int.injEq,V.ref.injEq,V.bl.injEq,V.ty.injEq,List.cons.injEq,and_true,true_and,exists_and_left,and_assoc,exists_eq_left,exI_lit,exB_lit,exR_lit,exI_ex,exB_ex,exR_ex])
 refine ⟨true,.inr ⟨_,_,rfl,hl,rfl,rfl⟩,iteF ⟨_,.inl (SqL.of hl),?_⟩⟩
 rw [List.length_map,pl]
 refine iteNS rfl ?_
 (dsimp! [t_l_list_r3,tFor,iList,tSeq,gName,tVar])
 refine ⟨⟨_,SqL.of hl⟩,for_list (K:=K) (a:=l) (xs:=List.map V.ref ps) (g:=gName 2) (D:={ nx:=t_l_list_r1 K { nx:=λ _ H'=>Q .non H',rt:=Q },rt:=Q }) (SEq H λ _ σ=>∃ o,σ=[some (.ref l),some (.int n),o]) ⟨rfl,none,rfl⟩ ?_ ?_ ?_⟩
 ·rintro i σ H3 _ ⟨rfl,_⟩
  exact SqL.of hl
 ·rintro i x σ H3 hi ⟨rfl,o,rfl⟩
  obtain ⟨p,rfl,hp⟩:=get_refs hi
  obtain ⟨g,eg,hG⟩:=hf.get hp
  obtain ⟨hin,rfl⟩:=ofF_inv eg
  obtain ⟨f0,fg,fn⟩:=hk i hin
  (try dsimp only [cIsT,tSeq,gName,tVar,tC,tOp,rNe,scal_ii,tRet,tIfS,tTest,tB,tNot,tNext,tCall,tCons,tNil,tCB,cLen,rIxT,tOr,Lq0,Lq1,Ls0,Ls1,exI_lit,exB_lit,exR_lit];try simp only [cIsT,sp_l_whole,tSeq,gName,tVar,tC,tOp,rNe,scal_ii,tRet,tIfS,tTest,tB,tNot,tNext,tCall,tCons,tNil,tCB,cLen,rIxT,tOr,Lq0,Lq1,Ls0,Ls1,Option.some.injEq,exists_eq_left',V.int.injEq,V.ref.injEq,V.bl.injEq,List.cons.injEq,and_true,true_and,List.append_nil,exists_and_left,exists_eq_left,and_assoc,exI_lit,exB_lit,exR_lit,exI_ex,exB_ex,exR_ex])
  refine ⟨_,hG,iteF ⟨_,.inr hG,iteF ⟨_,hG,_,atI0,_,rfl,iteF ⟨_,hG,_,atI1,_,rfl,iteF ?_⟩⟩⟩⟩
  ·(try dsimp only [t_l_list_r2,tVar,tC,tOp,rI0,rLtI,rNe,scal_ii,tRet,tIfS,tTest,tNext,tCall,tCons,tNil,rIxT,tOr,Lq0,Lq1,exI_lit,exB_lit,exR_lit];try simp only [t_l_list_r2,sp_l_divisor,tVar,tC,tOp,rI0,rLtI,rNe,scal_ii,tRet,tIfS,tTest,tNext,tCall,tCons,tNil,rIxT,tOr,Lq0,Lq1,Option.some.injEq,exists_eq_left',V.int.injEq,V.ref.injEq,V.bl.injEq,List.cons.injEq,and_true,true_and,List.append_nil,exists_and_left,decide_eq_true_eq,and_assoc,exists_eq_left,exI_lit,exB_lit,exR_lit,exI_ex,exB_ex,exR_ex])
   refine ⟨_,hG,_,atI1,_,rfl,?_⟩
   rw [if_neg (by omega)]
   refine ⟨_,hG,_,atI0,_,rfl,?_⟩
   rw [if_neg (by omega)]
   refine ⟨_,hG,_,atI0,_,hG,_,atI1,_,rfl,_,rfl,iteNS (by rw [fg];rfl) ⟨rfl,_,rfl⟩⟩
 ·rintro σ H3 ⟨rfl,o,rfl⟩
  dsimp only [t_l_list_r1,tC,tRet,exI_lit,exB_lit,exR_lit]
  exact q
noncomputable def N_l_at_most:List PySem.Str:=["_law_one", "_law_other"]
noncomputable def sp_l_at_most (K:W.Frag):Sp:=λ vs H Q _=>∃ p q a b c d,vs=[.ref p,.ref q]∧SqT K H p [.int a,.int b]∧SqT K H q [.int c,.int d]∧BB 9000000 a∧BB 9000000 b∧BB 9000000 c∧BB 9000000 d∧Q (.bl (decide (a*d≤c*b))) H
noncomputable def t_l_at_most (K:W.Frag):TS:=(tRet (tOp rLeI (tOp rMulI (tOp (rIxT K) (tVar 0) (tC (.int 0))) (tOp (rIxT K) (tVar 1) (tC (.int 1)))) (tOp rMulI (tOp (rIxT K) (tVar 1) (tC (.int 0))) (tOp (rIxT K) (tVar 0) (tC (.int 1))))))
theorem len_l_at_most {K vs H Q E} (h:sp_l_at_most K vs H Q E):vs.length=2:=by obtain ⟨_,_,_,_,_,_,rfl,_⟩:=h;rfl
theorem rd_l_at_most {K vs H Q E} (h:sp_l_at_most K vs H Q E):t_l_at_most K { nx:=λ _ H'=>Q .non H',rt:=Q } (start N_l_at_most vs) H:=by
 obtain ⟨p,q,a,b,c,d,rfl,hp,hq,ba,bb,bc,bd,k⟩:=h
 rw [show start N_l_at_most [V.ref p,V.ref q]=[some (.ref p),some (.ref q)] from rfl]
 (dsimp! [t_l_at_most,tVar,tC,tOp,rI0,rI,rMulI,rLeI,tRet,rIxT])
 exact ⟨_,hp,_,atI0,_,hq,_,atI1,_,rfl,_,rfl,.b ba bd,_,hq,_,atI0,_,hp,_,atI1,_,rfl,_,rfl,.b bc bb,k⟩
noncomputable def N_l_products:List PySem.Str:=["_law_ones", "_law_others", "_law_top", "_law_bottom", "_law_one", "_law_other"]
noncomputable def sp_l_products (K:W.Frag):Sp:=λ vs H Q _=>∃ a b ps qs,∃ n:Nat,∃ f g:Nat→Int×Int,vs=[.ref a,.ref b]∧H a=some (.lst (List.map V.ref ps))∧H b=some (.lst (List.map V.ref qs))∧FrsAt K H ps (ofF n f)∧FrsAt K H qs (ofF n g)∧n≤100∧(∀ k,k<n→G4 (f k)∧G4 (g k)) ∧
 ∀ p H',Same H H'→H' p=some (.tup [.int (prdF n f g).1,.int (prdF n f g).2])→Q (.ref p) H'
noncomputable def iv_prod (a b:Addr) (f g:Nat→Int×Int) (H0:Hp):Nat→St→Hp→Prop:=λ i σ H3=>∃ o1 o2,σ=[some (.ref a),some (.ref b),some (.int (prdF i f g).1),some (.int (prdF i f g).2),o1,o2]∧Same H0 H3
noncomputable def t_l_products_r1 (K:W.Frag):TS:=(tRet (tTup (tCons (tVar 2) (tCons (tVar 3) tNil))))
noncomputable def t_l_products_b1 (K:W.Frag):TS:=(tSeq (tAsg (tOp rAddI (tOp rMulI (tOp rMulI (tVar 2) (tOp (rIxT K) (tVar 4) (tC (.int 1)))) (tOp (rIxT K) (tVar 5) (tC (.int 1)))) (tOp rMulI (tOp rMulI (tOp (rIxT K) (tVar 4) (tC (.int 0))) (tOp (rIxT K) (tVar 5) (tC (.int 0)))) (tVar 3))) (gName 2)) (tAsg (tOp rMulI (tOp rMulI (tVar 3) (tOp (rIxT K) (tVar 4) (tC (.int 1)))) (tOp (rIxT K) (tVar 5) (tC (.int 1)))) (gName 3)))
noncomputable def t_l_products_g1 (K:W.Frag):TG:=(gTup K 2 (gCons (gName 4) (gCons (gName 5) gNil)))
noncomputable def t_l_products (K:W.Frag):TS:=(tSeq (tAsg (tC (.int 0)) (gName 2)) (tSeq (tAsg (tC (.int 1)) (gName 3)) (tSeq (tFor (iZip K (tCons (tVar 0) (tCons (tVar 1) tNil))) (t_l_products_g1 K) (t_l_products_b1 K)) (t_l_products_r1 K))))
theorem len_l_products {K vs H Q E} (h:sp_l_products K vs H Q E):vs.length=2:=by obtain ⟨_,_,_,_,_,_,_,rfl,_⟩:=h;rfl
theorem rd_l_products {K vs H Q E} (h:sp_l_products K vs H Q E):t_l_products K { nx:=λ _ H'=>Q .non H',rt:=Q } (start N_l_products vs) H:=by
 obtain ⟨a,b,ps,qs,n,f,g,rfl,ha,hb,hf,hg,hn,hk,q⟩:=h
 have pl:ps.length=n:=by rw [hf.length,ofF_length]
 have ql:qs.length=n:=by rw [hg.length,ofF_length]
 rw [show start N_l_products [V.ref a,V.ref b]=[some (.ref a),some (.ref b),none,none,none,none] from rfl]
 (dsimp! [t_l_products,tFor,iZip,tSeq,tAsg,gName,tVar,tC,tCons,tNil])
 refine ⟨⟨_,SqL.of ha⟩,⟨_,SqL.of hb⟩,for_zip (K:=K) (a:=a) (b:=b) (xs:=List.map V.ref ps) (ys:=List.map V.ref qs) (g:=t_l_products_g1 K) (D:={ nx:=t_l_products_r1 K { nx:=λ _ H'=>Q .non H',rt:=Q },rt:=Q }) (iv_prod a b f g H) ⟨none,none,rfl,Same.refl _⟩ ?_ ?_ ?_ ?_⟩
 ·rintro i σ H3 _ ⟨_,_,_,s3⟩
  exact ⟨s3.seq (SqL.of ha),s3.seq (SqL.of hb)⟩
 ·rw [List.length_map,List.length_map];omega
 ·rintro i x y p σ H3 hx hy ⟨o1,o2,rfl,s3⟩ hp
  obtain ⟨z,rfl,hz⟩:=get_refs hx
  obtain ⟨w,rfl,hw⟩:=get_refs hy
  obtain ⟨f',ef,hF⟩:=hf.get hz
  obtain ⟨g',eg,hG⟩:=hg.get hw
  obtain ⟨hin,rfl⟩:=ofF_inv ef
  obtain ⟨_,rfl⟩:=ofF_inv eg
  have s4:=s3.trans (Same.upd (o:=HO.tup [.ref z,.ref w]) hp)
  have hF4:=s4.tup hF
  have hG4:=s4.tup hG
  obtain ⟨⟨f1,f2⟩,⟨g1,g2⟩⟩:=hk i hin
  obtain ⟨pb1,pb2⟩:=prdF_bb (f:=f) (g:=g) (q:=40000) (n:=i) λ k hk'=>by have:=hk k (by omega);exact ⟨this.1.1,this.1.2,this.2.1,this.2.2⟩
  have pb1:=pb1.mono (show (40000+40000+1)*i+1≤9000000 by omega)
  have pb2:=pb2.mono (show (40000+40000+1)*i+1≤9000000 by omega)
  (dsimp! [t_l_products_g1,t_l_products_b1,tSeq,tAsg,gName,tVar,tC,tOp,rI0,rI,rAddI,rMulI,rIxT,gTup,gCons,gNil])
  refine ⟨_,SqT.of upd_same,rfl,_,_,rfl,_,_,rfl,rfl,?_⟩
  generalize upd H3 p (.tup [.ref z,.ref w])=H4 at s4 hF4 hG4
  (try dsimp? [t_l_products_b1];try simp_arith [t_l_products_b1])
  refine ⟨_,rfl,_,hF4,_,atI1,_,rfl,.b pb1 f2,_,rfl,_,hG4,_,atI1,_,rfl,.b (pb1.mul f2) g2,_,rfl,_,hF4,_,atI0,_,rfl,_,hG4,_,atI0,_,rfl,_,rfl,.b f1 g1,.b (f1.mul g1) pb2,_,rfl,_,hF4,_,atI1,_,rfl,.b pb2 f2,_,rfl,_,hG4,_,atI1,_,rfl,.b (pb2.mul f2) g2,_,_,rfl,s4⟩
 ·rintro σ H3 ⟨o1,o2,rfl,s3⟩
  (dsimp! [t_l_products_r1,tVar,tRet,tCons,tNil,tTup])
  rw [List.length_map,pl]
  refine ⟨sz2,λ p hp=>q p _ (s3.trans (Same.upd hp)) upd_same⟩
noncomputable def N_l_allowed:List PySem.Str:=["_law_rows", "_law_bounds", "_law_xs", "_law_row", "_law_bound"]
noncomputable def sp_l_allowed (K:W.Frag):Sp:=λ vs H Q _=>∃ r b x rps bps xps frs,∃ n:Nat,∃ fb xf:Nat→Int×Int,vs=[.ref r,.ref b,.ref x]∧H r=some (.lst (List.map V.ref rps))∧RfAt K H rps frs∧H b=some (.lst (List.map V.ref bps))∧FrsAt K H bps (ofF frs.length fb)∧H x=some (.lst (List.map V.ref xps))∧FrsAt K H xps (ofF n xf) ∧
 n≤100∧frs.length≤100∧(∀ row∈frs,row.length=n∧∀ f∈row,G4 f)∧(∀ k,k<frs.length→G4 (fb k))∧(∀ k,k<n→G4 (xf k))∧(∀ i,i<frs.length→(prdF n (rwF frs i) xf).1*(fb i).2≤(fb i).1*(prdF n (rwF frs i) xf).2)∧∀ H',Same H H'→Q (.bl true) H'
noncomputable def t_l_allowed_r1 (K:W.Frag):TS:=(tRet (tC (.bl true)))
noncomputable def t_l_allowed_b1 (K:W.Frag):TS:=(tIfS (tNot (tB (tCall (sp_l_at_most K) [] E0 (tCons (tCall (sp_l_products K) [] E0 (tCons (tVar 3) (tCons (tVar 2) tNil))) (tCons (tVar 4) tNil))))) (tRet (tC (.bl false))) tNext)
noncomputable def t_l_allowed_g1 (K:W.Frag):TG:=(gTup K 2 (gCons (gName 3) (gCons (gName 4) gNil)))
noncomputable def t_l_allowed (K:W.Frag):TS:=(tSeq (tFor (iZip K (tCons (tVar 0) (tCons (tVar 1) tNil))) (t_l_allowed_g1 K) (t_l_allowed_b1 K)) (t_l_allowed_r1 K))
theorem len_l_allowed {K vs H Q E} (h:sp_l_allowed K vs H Q E):vs.length=3:=by obtain ⟨_,_,_,_,_,_,_,_,_,_,rfl,_⟩:=h;rfl
theorem rwF_g4 {frs:List (List (Int×Int))} {n i j:Nat} (hg:∀ row∈frs,row.length=n∧∀ f∈row,G4 f) (hi:i<frs.length) (hj:j<n):G4 (rwF frs i j):=by
 have hm:frs.getD i []∈frs:=by rw [List.getD_eq_getElem?_getD,List.getElem?_eq_getElem hi];exact List.getElem_mem hi
 obtain ⟨h1,h2⟩:=hg _ hm
 unfold rwF
 generalize frs.getD i []=l at *
 refine h2 _ ?_
 rw [List.getD_eq_getElem?_getD,List.getElem?_eq_getElem (by omega)];exact List.getElem_mem _
theorem prdF_b9 {n:Nat} {f g:Nat→Int×Int} (hn:n≤100) (hk:∀ k,k<n→G4 (f k)∧G4 (g k)):BB 9000000 (prdF n f g).1∧BB 9000000 (prdF n f g).2:=by
 obtain ⟨h1,h2⟩:=prdF_bb (f:=f) (g:=g) (q:=40000) (n:=n) λ k hk'=>by have:=hk k hk';exact ⟨this.1.1,this.1.2,this.2.1,this.2.2⟩
 exact ⟨h1.mono (by omega),h2.mono (by omega)⟩
theorem rd_l_allowed {K vs H Q E} (h:sp_l_allowed K vs H Q E):t_l_allowed K { nx:=λ _ H'=>Q .non H',rt:=Q } (start N_l_allowed vs) H:=by
 obtain ⟨r,b,x,rps,bps,xps,frs,n,fb,xf,rfl,hr,hrs,hb,hbs,hx,hxs,n1,m1,hg,hgb,hgx,hle,q⟩:=h
 have rpl:=hrs.length
 have bpl:bps.length=frs.length:=by rw [hbs.length,ofF_length]
 rw [show start N_l_allowed [V.ref r,V.ref b,V.ref x]=[some (.ref r),some (.ref b),some (.ref x),none,none] from rfl]
 (dsimp! [t_l_allowed,tFor,iZip,tSeq,tVar,tCons,tNil])
 refine ⟨⟨_,SqL.of hr⟩,⟨_,SqL.of hb⟩,for_zip (K:=K) (a:=r) (b:=b) (xs:=List.map V.ref rps) (ys:=List.map V.ref bps) (g:=t_l_allowed_g1 K) (D:={ nx:=t_l_allowed_r1 K { nx:=λ _ H'=>Q .non H',rt:=Q },rt:=Q }) (λ _ σ H3=>∃ o1 o2,σ=[some (.ref r),some (.ref b),some (.ref x),o1,o2]∧Same H H3) ⟨none,none,rfl,Same.refl _⟩ ?_ ?_ ?_ ?_⟩
 ·rintro i σ H3 _ ⟨_,_,_,s3⟩
  exact ⟨s3.seq (SqL.of hr),s3.seq (SqL.of hb)⟩
 ·rw [List.length_map,List.length_map];omega
 ·rintro i x' y p σ H3 hx' hy ⟨o1,o2,rfl,s3⟩ hp
  obtain ⟨z,rfl,hz⟩:=get_refs hx'
  obtain ⟨w,rfl,hw⟩:=get_refs hy
  obtain ⟨row,qs,er,hrow,hfr⟩:=hrs.get hz
  obtain ⟨g',eg,hG⟩:=hbs.get hw
  obtain ⟨hin,rfl⟩:=ofF_inv eg
  have hrm:=List.mem_of_getElem? er
  have s4:=s3.trans (Same.upd (o:=HO.tup [.ref z,.ref w]) hp)
  rw [row_ofF er,(hg row hrm).1] at hfr
  (dsimp! [t_l_allowed_g1,t_l_allowed_b1,gName,tVar,tC,tRet,tIfS,tB,tNot,tNext,tCall,tCons,tNil,gTup,gCons,gNil,List.append_nil])
  refine ⟨_,SqT.of upd_same,rfl,_,_,rfl,_,_,rfl,rfl,?_⟩
  have gk:∀ k,k<n→G4 (rwF frs i k)∧G4 (xf k):=λ k hk=>⟨rwF_g4 hg hin hk,hgx k hk⟩
  obtain ⟨p1,p2⟩:=prdF_b9 n1 gk
  refine ⟨_,_,_,_,n,rwF frs i,xf,rfl,s4 _ _ hrow,s4 _ _ hx,hfr.same s4,hxs.same s4,n1,gk,λ pp H5 s5 hpp=>?_⟩
  refine ⟨_,_,_,_,_,_,rfl,SqT.of hpp,(s4.trans s5).tup hG,p1,p2,(hgb i hin).1.mono (by decide),(hgb i hin).2.mono (by decide),_,rfl,?_⟩
  rw [decide_eq_true (hle i hin)]
  exact iteF (s4.trans s5)
 ·rintro σ H3 ⟨o1,o2,rfl,s3⟩
  dsimp only [t_l_allowed_r1,tC,tRet,exI_lit,exB_lit,exR_lit]
  exact q H3 s3
noncomputable def N_l_right:List PySem.Str:=["_law_found", "_law_rows", "_law_bounds", "_law_goal", "_law_j", "_law_left", "_law_right_here"]
noncomputable def sp_l_right (K:W.Frag):Sp:=λ vs H Q _=>∃ v r b g rps bps gps frs fb fg fl s o x w xp wp,vs=[.ref v,.ref r,.ref b,.ref g]∧BeOut K H v fl frs fb fg s o x w xp wp∧BeO frs fb fg∧H r=some (.lst (List.map V.ref rps))∧RfAt K H rps frs∧H b=some (.lst (List.map V.ref bps))∧FrsAt K H bps fb∧H g=some (.lst (List.map V.ref gps))∧FrsAt K H gps fg∧∀ H',Same H H'→Q (.bl true) H'
noncomputable def t_l_right_r1 (K:W.Frag):TS:=(tSeq (tAsg (tCall (sp_l_products K) [] E0 (tCons (tVar 3) (tCons (tOp (rIxT K) (tVar 0) (tC (.int 1))) tNil))) (gName 5)) (tSeq (tAsg (tCall (sp_l_products K) [] E0 (tCons (tVar 2) (tCons (tOp (rIxT K) (tVar 0) (tC (.int 2))) tNil))) (gName 6)) (tRet (tOp rEq (tOp rMulI (tOp (rIxT K) (tVar 5) (tC (.int 0))) (tOp (rIxT K) (tVar 6) (tC (.int 1)))) (tOp rMulI (tOp (rIxT K) (tVar 6) (tC (.int 0))) (tOp (rIxT K) (tVar 5) (tC (.int 1))))))))
noncomputable def t_l_right_c1 (K:W.Frag):TE:=(tOp (rIxL K) (tVar 0) (tVar 1))
noncomputable def t_l_right_b1 (K:W.Frag):TS:=(tIfS (tNot (tB (tCall (sp_l_at_most K) [] E0 (tCons (tOp (rIxL K) (tVar 3) (tVar 4)) (tCons (tCall (sp_l_products K) [] E0 (tCons (tOp (rIxT K) (tVar 0) (tC (.int 2))) (tCons (tComp (iList K (tVar 1)) [4] (t_l_right_c1 K)) tNil))) tNil))))) (tRet (tC (.bl false))) tNext)
noncomputable def t_l_right_r2 (K:W.Frag):TS:=(tSeq (tFor (iRng1 (tCons (tCB (cLen K) (tCons (tVar 3) tNil)) tNil)) (gName 4) (t_l_right_b1 K)) (t_l_right_r1 K))
noncomputable def t_l_right_r3 (K:W.Frag):TS:=(tSeq (tIfS (tOr (tTest (tOp rNe (tOp (rIxT K) (tVar 0) (tC (.int 0))) (tC (.str "best")))) (tNot (tB (tCall (sp_l_list K) [] E0 (tCons (tOp (rIxT K) (tVar 0) (tC (.int 2))) (tCons (tCB (cLen K) (tCons (tVar 1) tNil)) tNil)))))) (tRet (tC (.bl false))) tNext) (t_l_right_r2 K))
noncomputable def t_l_right_r4 (K:W.Frag):TS:=(tRet (tOp rGtI (tOp (rIxT K) (tCall (sp_l_products K) [] E0 (tCons (tVar 3) (tCons (tOp (rIxT K) (tVar 0) (tC (.int 2))) tNil))) (tC (.int 0))) (tC (.int 0))))
noncomputable def t_l_right_c2 (K:W.Frag):TE:=(tTup (tCons (tC (.int 0)) (tCons (tC (.int 1)) tNil)))
noncomputable def t_l_right_r5 (K:W.Frag):TS:=(tSeq (tIfS (tTest (tOp rEq (tOp (rIxT K) (tVar 0) (tC (.int 0))) (tC (.str "endless")))) (tSeq (tIfS (tOr (tNot (tB (tCall (sp_l_list K) [] E0 (tCons (tOp (rIxT K) (tVar 0) (tC (.int 2))) (tCons (tCB (cLen K) (tCons (tVar 3) tNil)) tNil))))) (tNot (tB (tCall (sp_l_allowed K) [] E0 (tCons (tVar 1) (tCons (tComp (iList K (tVar 1)) [] (t_l_right_c2 K)) (tCons (tOp (rIxT K) (tVar 0) (tC (.int 2))) tNil))))))) (tRet (tC (.bl false))) tNext) (t_l_right_r4 K)) tNext) (t_l_right_r3 K))
noncomputable def t_l_right_r6 (K:W.Frag):TS:=(tSeq (tIfS (tNot (tB (tCall (sp_l_allowed K) [] E0 (tCons (tVar 1) (tCons (tVar 2) (tCons (tOp (rIxT K) (tVar 0) (tC (.int 1))) tNil)))))) (tRet (tC (.bl false))) tNext) (t_l_right_r5 K))
noncomputable def t_l_right (K:W.Frag):TS:=(tSeq (tIfS (tOr (tNot (tB (tCB cIsB2 (tCons (tVar 0) (tCons (tC (.ty "tuple")) tNil))))) (tOr (tTest (tOp rNe (tCB (cLen K) (tCons (tVar 0) tNil)) (tC (.int 3)))) (tNot (tB (tCall (sp_l_list K) [] E0 (tCons (tOp (rIxT K) (tVar 0) (tC (.int 1))) (tCons (tCB (cLen K) (tCons (tVar 3) tNil)) tNil))))))) (tRet (tC (.bl false))) tNext) (t_l_right_r6 K))
theorem len_l_right {K vs H Q E} (h:sp_l_right K vs H Q E):vs.length=4:=by obtain ⟨_,_,_,_,_,_,_,_,_,_,_,_,_,_,_,_,_,rfl,_⟩:=h;rfl
theorem rd_l_right {K vs H Q E} (h:sp_l_right K vs H Q E):t_l_right K { nx:=λ _ H'=>Q .non H',rt:=Q } (start N_l_right vs) H:=by
 obtain ⟨v,r,b,g,rps,bps,gps,frs,fb,fg,fl,s,o,x,w,xp,wp,rfl,out,B,hr,hrs,hb,hbs,hg,hgs,q⟩:=h
 have rpl:=hrs.length
 have gpl:=hgs.length
 have m1:frs.length≤100:=(B.lim fl).m1
 have n1:fg.length≤100:=(B.lim fl).n1
 have ok:=out.ok
 have io:=out.io
 have hfb:fb=ofF frs.length λ k=>fb.getD k (0,1):=by rw [← B.lb];exact list_ofF fb (0,1)
 have hfg:fg=ofF fg.length λ k=>fg.getD k (0,1):=list_ofF fg (0,1)
 have hbs':FrsAt K H bps (ofF frs.length λ k=>fb.getD k (0,1)):=by rw [← hfb];exact hbs
 have hgs':FrsAt K H gps (ofF fg.length λ k=>fg.getD k (0,1)):=by rw [← hfg];exact hgs
 have gb4:∀ k,k<frs.length→G4 (fb.getD k (0,1)):=λ k hk=>(B.gb _ (by rw [List.getD_eq_getElem?_getD,List.getElem?_eq_getElem (by rw [B.lb];exact hk)];exact List.getElem_mem _)).g4
 have gg4:∀ k,k<fg.length→G4 (fg.getD k (0,1)):=λ k hk=>(B.gg _ (by rw [List.getD_eq_getElem?_getD,List.getElem?_eq_getElem hk];exact List.getElem_mem _)).g4
 have gr4:∀ row∈frs,row.length=fg.length∧∀ f∈row,G4 f:=λ row h=>⟨B.lr row h,λ f hf=>(B.gr row h f hf).g4⟩
 have hxs:FrsAt K H xp (ofF fg.length (xF fl frs fb fg s)):=out.hxs
 rw [show start N_l_right [V.ref v,V.ref r,V.ref b,V.ref g]=[some (.ref v),some (.ref r),some (.ref b),some (.ref g),none,none,none] from rfl]
 (try dsimp only [t_l_right,cIsB2,tSeq,tVar,tC,tOp,rNe,scal_ii,tRet,tIfS,tTest,tB,tNot,tNext,tCall,tCons,tNil,tCB,cLen,rIxT,tOr,Lq0,Lq1,exI_lit,exB_lit,exR_lit];try simp only [t_l_right,cIsB2,tSeq,tVar,tC,tOp,rNe,scal_ii,tRet,tIfS,tTest,tB,tNot,tNext,tCall,tCons,tNil,tCB,cLen,rIxT,tOr,Lq0,Lq1,Option.some.injEq,exists_eq_left',V.int.injEq,V.ref.injEq,V.bl.injEq,V.ty.injEq,List.cons.injEq,and_true,true_and,List.append_nil,exists_and_left,and_assoc,exists_eq_left,exI_lit,exB_lit,exR_lit,exI_ex,exB_ex,exR_ex])
 refine ⟨true,.inl ⟨rfl,rfl,_,out.hv⟩,iteF ⟨_,.inr (SqT.of out.hv),iteF ⟨_,SqT.of out.hv,_,atI1,_,.inl (SqL.of hg),?_⟩⟩⟩
 rw [List.length_map,gpl]
 refine ⟨_,_,fg.length,xF fl frs fb fg s,rfl,out.hx,hxs,λ k hk=>⟨(xF_ok B ok k).1,(xF_ok B ok k).2.1,(xF_ok B ok k).2.2.1⟩,_,rfl,iteF ?_⟩
 (dsimp! [t_l_right_r6,tSeq,tVar,tC,tOp,tRet,tIfS,tB,tNot,tNext,tCall,tCons,tNil,rIxT,List.append_nil])
 refine ⟨_,SqT.of out.hv,_,atI1,_,_,_,_,_,_,frs,fg.length,λ k=>fb.getD k (0,1),xF fl frs fb fg s,rfl,hr,hrs,hb,hbs',out.hx,hxs,n1,m1,gr4,gb4,λ k _=>xF_bb B ok k,λ i hi=>xs_allowed B ok io hi,λ H1 s1=>⟨_,rfl,iteF ?_⟩⟩
 have hv1:=s1 _ _ out.hv
 have hx1:=s1 _ _ out.hx
 have hxs1:=hxs.same s1
 have hw1:=s1 _ _ out.hw
 have hws1:=out.hws.same s1
 have hr1:=s1 _ _ hr
 have hrs1:=hrs.same s1
 have hb1:=s1 _ _ hb
 have hbs1:=hbs'.same s1
 have hg1:=s1 _ _ hg
 have hgs1:=hgs'.same s1
 have un:=out.un
 (dsimp! [t_l_right_r5,tSeq,tVar,tC,tOp,rEq,scal_ii,tRet,tIfS,tTest,tB,tNot,tNext,tCall,tCons,tNil,tCB,cLen,rIxT,tOr,List.append_nil,decide_eq_true_eq])
 refine ⟨_,SqT.of hv1,_,atI0,?_⟩
 cases o with
 | some c =>
  have hws2:FrsAt K H1 wp (ofF fg.length (wayF (LpOf fl frs fb fg) s c)):=hws1
  refine ⟨rfl,?_⟩
  rw [if_pos (show V.str (wordO (some c))=V.str "endless" from rfl)]
  refine ⟨_,SqT.of hv1,_,atI2,_,.inl (SqL.of hg1),?_⟩
  rw [List.length_map,gpl]
  refine ⟨_,_,fg.length,wayF (LpOf fl frs fb fg) s c,rfl,hw1,hws2,λ k _=>⟨(wF_ok ok un k).1,(wF_ok ok un k).2.1,(wF_ok ok un k).2.2.1⟩,_,rfl,iteF ?_⟩
  (dsimp! [tComp,iList,tVar])
  refine ⟨⟨_,SqL.of hr1⟩,comp_list (K:=K) (a:=r) (xs:=List.map V.ref rps) (λ i zs H3=>Same H1 H3∧∃ ps,zs=List.map V.ref ps∧FrsAt K H3 ps (ofF i λ _=>((0,1):Int×Int))) ?_ ⟨Same.refl _,[],rfl,trivial⟩ ?_ ?_ ?_⟩
  ·rw [List.length_map,sizeLine_eq];omega
  ·rintro i zs H3 _ ⟨s3,_⟩
   exact s3.seq (SqL.of hr1)
  ·rintro i x' zs H3 hi _ ⟨s3,ps,rfl,hps⟩
   dsimp only [t_l_right_c2,tC,tCons,tNil,tTup,exI_lit,exB_lit,exR_lit]
   refine ⟨sz2,λ p hp=>⟨s3.trans (Same.upd hp),ps++[p],by rw [List.map_append];rfl,?_⟩⟩
   rw [ofF_snoc]
   exact FrsAt.snoc (hps.same (Same.upd hp)) (SqT.of upd_same)
  ·rintro zs H3 _ ⟨s3,ps,rfl,hps⟩ l hl
   rw [List.length_map,rpl] at hps
   have s4:=s3.trans (Same.upd (o:=HO.lst (List.map V.ref ps)) hl)
   have hp4:=hps.same (Same.upd (o:=HO.lst (List.map V.ref ps)) hl)
   have hl4:(upd H3 l (.lst (List.map V.ref ps))) l=some (.lst (List.map V.ref ps)):=upd_same
   generalize upd H3 l (.lst (List.map V.ref ps))=H4 at s4 hp4 hl4
   have one4:BB 40000 (1:Int):=by show (1:Int).natAbs<2 ^ 40000;exact Nat.one_lt_two_pow (by decide)
   have zer4:BB 40000 (0:Int):=by show (0:Int).natAbs<2 ^ 40000;exact Nat.two_pow_pos _
   refine ⟨_,SqT.of (s4 _ _ hv1),_,atI2,_,_,_,_,_,_,frs,fg.length,λ _=>(0,1),wayF (LpOf fl frs fb fg) s c,rfl,s4 _ _ hr1,hrs1.same s4,hl4,hp4,s4 _ _ hw1,hws2.same s4,n1,m1,gr4,λ _ _=>⟨zer4,one4⟩,λ k _=>wF_bb B ok c k,λ i hi=>?_,λ H5 s5=>⟨_,rfl,iteF ?_⟩⟩
   ·have:=ways_allowed B ok io un hi
    show _*1≤0*_
    rw [Int.mul_one,Int.zero_mul];exact this
   ·have s15:=s4.trans s5
    (dsimp! [t_l_right_r4,tVar,tC,tOp,rI0,rGtI,tRet,tCall,tCons,tNil,rIxT,List.append_nil])
    refine ⟨_,SqT.of (s15 _ _ hv1),_,atI2,_,_,_,_,fg.length,λ k=>fg.getD k (0,1),wayF (LpOf fl frs fb fg) s c,rfl,s15 _ _ hg1,s15 _ _ hw1,hgs1.same s15,hws2.same s15,n1,λ k hk=>⟨gg4 k hk,wF_bb B ok c k⟩,λ p H6 s6 hp=>⟨_,rfl,_,SqT.of hp,_,atI0,_,rfl,?_⟩⟩
    rw [decide_eq_true (ways_goal_pos B ok io un)]
    exact q _ ((s1.trans s15).trans s6)
 | none =>
  have hws2:FrsAt K H1 wp (ofF frs.length (yF fl frs fb fg s)):=hws1
  refine ⟨rfl,?_⟩
  rw [if_neg (by decide +kernel)]
  (dsimp! [t_l_right_r3,tSeq,tVar,tC,tOp,rNe,scal_ii,tRet,tIfS,tTest,tB,tNot,tNext,tCall,tCons,tNil,tCB,cLen,rIxT,tOr,List.append_nil])
  refine ⟨_,SqT.of hv1,_,atI0,rfl,?_⟩
  rw [decide_eq_true (show V.str (wordO none)=V.str "best" from rfl)]
  refine iteF ⟨_,SqT.of hv1,_,atI2,_,.inl (SqL.of hr1),?_⟩
  rw [List.length_map,rpl]
  refine ⟨_,_,frs.length,yF fl frs fb fg s,rfl,hw1,hws2,λ k hk=>⟨(yF_ok B ok un hk).1,(yF_ok B ok un hk).2.1,(yF_ok B ok un hk).2.2.1⟩,_,rfl,iteF ?_⟩
  (dsimp! [t_l_right_r2,tFor,iRng1,tSeq,gName,tVar,tCons,tNil,tCB,cLen])
  refine ⟨_,.inl (SqL.of hg1),?_⟩
  rw [List.length_map,gpl,Int.toNat_natCast]
  refine ⟨by omega,by omega,for_range (lo:=0) (n:=fg.length) (g:=gName 4) (D:={ nx:=t_l_right_r1 K { nx:=λ _ H'=>Q .non H',rt:=Q },rt:=Q }) (λ _ σ H3=>(∃ o1,σ=[some (.ref v),some (.ref r),some (.ref b),some (.ref g),o1,none,none])∧Same H1 H3) ⟨⟨none,rfl⟩,Same.refl _⟩ ?_ ?_⟩
  ·rintro j σ H3 hj ⟨⟨o1,rfl⟩,s3⟩
   have hjg:j<gps.length:=by omega
   have eg:=List.getElem?_eq_getElem hjg
   obtain ⟨g',eg',hG⟩:=hgs1.get eg
   obtain ⟨_,rfl⟩:=ofF_inv eg'
   have atg:atI (List.map V.ref gps) (0+(j:Int))=some (.ref gps[j]):=by rw [Int.zero_add];exact atI_nat (by rw [List.getElem?_map,eg];rfl)
   (dsimp! [tComp,iList,gName,tVar,tC,tOp,tRet,tIfS,tB,tNot,tNext,tCall,tCons,tNil,rIxL,rIxT,List.append_nil])
   refine ⟨_,SqL.of (s3 _ _ hg1),_,atg,_,SqT.of (s3 _ _ hv1),_,atI2,⟨_,SqL.of (s3 _ _ hr1)⟩,comp_list (K:=K) (a:=r) (xs:=List.map V.ref rps) (λ i zs H4=>H4=H3∧∃ ps,zs=List.map V.ref ps∧FrsAt K H3 ps (ofF i λ i=>rwF frs i j)) ?_ ⟨rfl,[],rfl,trivial⟩ ?_ ?_ ?_⟩
   ·rw [List.length_map,sizeLine_eq];omega
   ·rintro i zs H4 _ ⟨rfl,_⟩
    exact SqL.of (s3 _ _ hr1)
   ·rintro i x' zs H4 hi _ ⟨rfl,ps,rfl,hps⟩
    obtain ⟨z,rfl,hz⟩:=get_refs hi
    obtain ⟨row,qs,er,hrow,hfr⟩:=hrs1.get hz
    have hrm:=List.mem_of_getElem? er
    have hql:qs.length=fg.length:=by rw [hfr.length,B.lr row hrm]
    rw [row_ofF er,B.lr row hrm] at hfr
    have eq':=List.getElem?_eq_getElem (show j<qs.length by omega)
    obtain ⟨f',ef',hF⟩:=hfr.get eq'
    obtain ⟨_,rfl⟩:=ofF_inv ef'
    (dsimp! [t_l_right_c1,caught,List.map_cons,List.map_nil,Option.join_some,tVar,tOp,rIxL])
    refine ⟨_,SqL.of (s3 _ _ hrow),_,by rw [Int.zero_add];exact atI_nat (by rw [List.getElem?_map,eq'];rfl),ps++[qs[j]],by rw [List.map_append];rfl,?_⟩
    rw [ofF_snoc]
    exact FrsAt.snoc hps (s3.tup hF)
   ·rintro zs H4 _ ⟨rfl,ps,rfl,hps⟩ l hl
    rw [List.length_map,rpl] at hps
    have s4:=s3.trans (Same.upd (o:=HO.lst (List.map V.ref ps)) hl)
    have gk:∀ k,k<frs.length→G4 (yF fl frs fb fg s k)∧G4 (rwF frs k j):=λ k hk=>⟨yF_bb B ok hk,rwF_g4 gr4 hk hj⟩
    obtain ⟨p1,p2⟩:=prdF_b9 m1 gk
    refine ⟨_,_,_,_,frs.length,yF fl frs fb fg s,λ i=>rwF frs i j,rfl,s4 _ _ hw1,upd_same,hws2.same s4,hps.same (Same.upd hl),m1,gk,λ p H5 s5 hp=>?_⟩
    refine ⟨_,_,_,_,_,_,rfl,(s4.trans s5).tup hG,SqT.of hp,(gg4 j hj).1.mono (by decide),(gg4 j hj).2.mono (by decide),p1,p2,_,rfl,?_⟩
    rw [decide_eq_true (ys_pay B ok un hj)]
    exact iteF ⟨⟨_,rfl⟩,s4.trans s5⟩
  ·rintro σ H3 ⟨⟨o1,rfl⟩,s3⟩
   (dsimp! [t_l_right_r1,tSeq,tAsg,gName,tVar,tC,tOp,rI,rMulI,rEq,scal_ii,tRet,tCall,tCons,tNil,rIxT,List.append_nil])
   refine ⟨_,SqT.of (s3 _ _ hv1),_,atI1,_,_,_,_,fg.length,λ k=>fg.getD k (0,1),xF fl frs fb fg s,rfl,s3 _ _ hg1,s3 _ _ hx1,hgs1.same s3,hxs1.same s3,n1,λ k hk=>⟨gg4 k hk,xF_bb B ok k⟩,λ p H4 s4 hp=>?_⟩
   have s34:=s3.trans s4
   refine ⟨_,SqT.of (s34 _ _ hv1),_,atI2,_,_,_,_,frs.length,λ k=>fb.getD k (0,1),yF fl frs fb fg s,rfl,s34 _ _ hb1,s34 _ _ hw1,hbs1.same s34,hws2.same s34,m1,λ k hk=>⟨gb4 k hk,yF_bb B ok hk⟩,λ p2 H5 s5 hp2=>?_⟩
   obtain ⟨p1,p2'⟩:=prdF_b9 n1 (f:=λ k=>fg.getD k (0,1)) (g:=xF fl frs fb fg s) λ k hk=>⟨gg4 k hk,xF_bb B ok k⟩
   obtain ⟨r1,r2⟩:=prdF_b9 m1 (f:=λ k=>fb.getD k (0,1)) (g:=yF fl frs fb fg s) λ k hk=>⟨gb4 k hk,yF_bb B ok hk⟩
   refine ⟨_,rfl,_,SqT.of (s5 _ _ hp),_,atI0,_,rfl,_,SqT.of hp2,_,atI1,_,rfl,_,rfl,.b p1 r2,_,rfl,_,SqT.of hp2,_,atI0,_,rfl,_,SqT.of (s5 _ _ hp),_,atI1,_,rfl,_,rfl,.b r1 p2',?_⟩
   rw [decide_eq_true (both_same B ok io un)]
   exact q _ ((s1.trans s34).trans s5)
noncomputable def N_law:List PySem.Str:=["_law_script", "_law_rows", "_law_bounds", "_law_goal", "_law_handed", "_law_others", "_law_found", "_law_kept", "_law_row"]
noncomputable def sp_law (K:W.Frag):Sp:=λ vs H Q _=>∃ a ns,vs=[.ref a]∧SqL K H a (List.map V.int ns)∧ns.length≤63∧∀ H',Q (.bl true) H'
noncomputable def t_law_r1 (K:W.Frag):TS:=(tRet (tOp (rEqX K) (tVar 6) (tVar 7)))
noncomputable def t_law_c1 (K:W.Frag):TE:=(tCB (cList K) (tCons (tVar 0) tNil))
noncomputable def t_law_r2 (K:W.Frag):TS:=(tSeq (tAsg (tComp (iList K (tVar 4)) [] (t_law_c1 K)) (gName 1)) (tSeq (tIfS (tNot (tB (tCall (sp_l_right K) [] E0 (tCons (tCall (sp_best K) [] E0 (tCons (tVar 4) (tCons (tOp (rIxL K) (tVar 5) (tC (.int 0))) (tCons (tOp (rIxL K) (tVar 5) (tC (.int 1))) tNil)))) (tCons (tVar 1) (tCons (tVar 2) (tCons (tVar 3) tNil))))))) (tRet (tC (.bl false))) tNext) (t_law_r1 K)))
noncomputable def t_law_b1 (K:W.Frag):TS:=(tSeq (tAsg (tTup (tCons (tOp rSubI (tC (.int 3)) (tOp (rIxT K) (tOp (rIxL K) (tVar 8) (tC (.int 0))) (tC (.int 0)))) (tCons (tOp (rIxT K) (tOp (rIxL K) (tVar 8) (tC (.int 0))) (tC (.int 1))) tNil))) (gSub (tVar 8) (tC (.int 0)) rSetL)) (tAsg (tTup (tCons (tOp rDivI (tOp (rIxT K) (tOp (rIxL K) (tVar 8) (tC (.int 0))) (tC (.int 0))) (tCall (sp_l_divisor K) [] E0 (tCons (tOp (rIxT K) (tOp (rIxL K) (tVar 8) (tC (.int 0))) (tC (.int 0))) (tCons (tOp (rIxT K) (tOp (rIxL K) (tVar 8) (tC (.int 0))) (tC (.int 1))) tNil)))) (tCons (tOp rDivI (tOp (rIxT K) (tOp (rIxL K) (tVar 8) (tC (.int 0))) (tC (.int 1))) (tCall (sp_l_divisor K) [] E0 (tCons (tOp (rIxT K) (tOp (rIxL K) (tVar 8) (tC (.int 0))) (tC (.int 0))) (tCons (tOp (rIxT K) (tOp (rIxL K) (tVar 8) (tC (.int 0))) (tC (.int 1))) tNil)))) tNil))) (gSub (tVar 8) (tC (.int 0)) rSetL)))
noncomputable def t_law_r3 (K:W.Frag):TS:=(tSeq (tAsg (tTup (tCons (tOp (rIxT K) (tVar 6) (tC (.int 0))) (tCons (tCB (cList K) (tCons (tOp (rIxT K) (tVar 6) (tC (.int 1))) tNil)) (tCons (tCB (cList K) (tCons (tOp (rIxT K) (tVar 6) (tC (.int 2))) tNil)) tNil)))) (gName 7)) (tSeq (tFor (iList K (tVar 4)) (gName 8) (t_law_b1 K)) (t_law_r2 K)))
noncomputable def t_law_r4 (K:W.Frag):TS:=(tSeq (tIfS (tOr (tTest (tOp (rNeD K 1) (tVar 4) (tVar 1))) (tTest (tOp (rNeD K 1) (tVar 5) (tLst (tCons (tVar 2) (tCons (tVar 3) tNil)))))) (tRet (tC (.bl false))) tNext) (t_law_r3 K))
noncomputable def t_law_c2 (K:W.Frag):TE:=(tCB (cList K) (tCons (tVar 0) tNil))
noncomputable def t_law (K:W.Frag):TS:=(tSeq (tAsg (tCall (sp_l_drawn K) [] E0 (tCons (tVar 0) tNil)) (gTup K 3 (gCons (gName 1) (gCons (gName 2) (gCons (gName 3) gNil))))) (tSeq (tAsg (tComp (iList K (tVar 1)) [] (t_law_c2 K)) (gName 4)) (tSeq (tAsg (tLst (tCons (tCB (cList K) (tCons (tVar 2) tNil)) (tCons (tCB (cList K) (tCons (tVar 3) tNil)) tNil))) (gName 5)) (tSeq (tAsg (tCall (sp_best K) [] E0 (tCons (tVar 4) (tCons (tOp (rIxL K) (tVar 5) (tC (.int 0))) (tCons (tOp (rIxL K) (tVar 5) (tC (.int 1))) tNil)))) (gName 6)) (tSeq (tIfS (tNot (tB (tCall (sp_l_right K) [] E0 (tCons (tVar 6) (tCons (tVar 1) (tCons (tVar 2) (tCons (tVar 3) tNil))))))) (tRet (tC (.bl false))) tNext) (t_law_r4 K))))))
theorem len_law {K vs H Q E} (h:sp_law K vs H Q E):vs.length=1:=by obtain ⟨a,ns,rfl,_⟩:=h;rfl
theorem sz_le (w:Nat):2≤szP w∧szP w≤200∧1≤szR w∧szR w≤20:=by
 unfold szP szR
 by_cases h1:w≤1
 ·rw [if_pos h1,if_pos h1];decide
 ·rw [if_neg h1,if_neg h1];split <;> decide
theorem Gp.mono {p r p' r':Nat} {f:Int×Int} (h:Gp p r f) (hp:p≤p') (hr:r≤r'):Gp p' r' f:=⟨h.1,h.2.1.mono hp,h.2.2.mono hr⟩
theorem lc_one {fs:List (Int×Int)} (h:∀ f∈fs,f.2=1):lc fs=1:=by
 have a:=lc_all fs 1 (by decide) (λ f hf=>by rw [h f hf];decide)
 have d:lc fs∣1:=a.2.2.2 1 (Int.dvd_refl _) λ f hf=>by rw [h f hf];exact Int.dvd_refl _
 have h1:=Int.le_of_dvd (by decide) d
 have h2:0<lc fs:=a.1
 omega
theorem gp_one {p:Nat} {f:Int×Int} (h:Gp p 1 f):f.2=1:=by
 have h1:=h.1
 have h2:f.2.natAbs<2 ^ 1:=h.2.2
 omega
theorem Drw.beo {frs frs':List (List (Int×Int))} {fb fg:List (Int×Int)} {w:Nat} (D:Drw frs fb fg w) (hl:frs'.length=frs.length) (gr:∀ row∈frs',row.length=fg.length∧∀ f∈row,Gp (szP w+1) (szR w) f):BeO frs' fb fg:=by
 have one:BB 1 (1:Int):=by show (1:Int).natAbs<2 ^ 1;decide
 have hb:fb.length=frs'.length:=by rw [hl];exact D.bl
 have go:∀ p r m n:Nat,szP w=p→szR w=r→frs.length≤m→fg.length≤n→m≤100→n≤100→p+1+(1+r*n)≤9000→p+(1+r*n)+(1+(r+(p+1+(1+r*n)))*m)≤9000→r+(p+1+(1+r*n))≤9000→r≤9000 →
   (m+1)*(p+1+(1+r*n))+(m+1)*(m+1)+1+(p+1+(1+r*n))+(1+r*n)+(1+(r+(p+1+(1+r*n)))*m)≤9000 →
   (m+1)*(p+1+p+(1+r*n)+(1+(r+(p+1+(1+r*n)))*m))+(p+1+p+(1+r*n)+(1+(r+(p+1+(1+r*n)))*m))+(m+1)*(m+1)+1≤9000→BeO frs' fb fg:=λ p r m n ep er hm hn m1 n1 i2 i3 i4 i5 i7 i8 =>
  beo_std (p+1) r p r (λ row h=>(gr row h).1) hb (λ row h f hf=>ep ▸ er ▸ (gr row h).2 f hf) (λ f hf=>ep ▸ er ▸ (D.gg f hf).mono (Nat.le_succ _) (Nat.le_refl _)) (λ f hf=>ep ▸ er ▸ (D.gb f hf).1) m n (by rw [hl];exact hm) hn (Nat.le_add_left 1 p) m1 n1 i2 i3 i4 i5 i5 i7 i8
 have low:w≤1→frs.length≤20→fg.length≤20→BeO frs' fb fg:=λ hw h1 h2=>by
  have ep:szP w=2:=by unfold szP;rw [if_pos hw]
  have er:szR w=1:=by unfold szR;rw [if_pos hw]
  have gr':∀ row∈frs',∀ f∈row,Gp 3 1 f:=λ row h f hf=>by have:=(gr row h).2 f hf;rw [ep,er] at this;exact this
  have gg':∀ f∈fg,Gp 3 1 f:=λ f hf=>by have:=(D.gg f hf).mono (Nat.le_succ _) (Nat.le_refl _);rw [ep,er] at this;exact this
  have gb':∀ f∈fb,Gp 2 1 f:=λ f hf=>ep ▸ er ▸ (D.gb f hf).1
  have hl1:∀ row∈frs',BB 1 (lc row):=λ row h=>by rw [lc_one λ f hf=>gp_one (gr' row h f hf)];exact one
  have hlg:BB 1 (lc fg):=by rw [lc_one λ f hf=>gp_one (gg' f hf)];exact one
  have gbn:=bnF_gp 3 1 2 1 1 hb gr' gb' hl1 (by decide)
  have hf:frs'.length≤20:=by omega
  have hlm:BB 101 (lc (bnF frs' fb)):=(lc_bbp gbn).mono (by rw [bnF_length hb];omega)
  have e1:(frs'.length+1)*(frs'.length+1)≤21*21:=Nat.mul_le_mul (by omega) (by omega)
  exact beo_of 3 1 2 1 1 101 (λ row h=>(gr row h).1) hb gr' gg' gb' hl1 hlg hlm (by decide) (by omega) (by omega) (by decide) (by decide) (by decide) (by decide) (by decide) (by omega) (by omega)
 by_cases hw:w≤1
 ·have:=D.sz
  exact low hw (by omega) (by omega)
 by_cases hw2:w=2
 ·have h:=D.sz
  exact go 30 20 4 4 (by unfold szP;rw [if_neg hw,if_pos hw2]) (by unfold szR;rw [if_neg hw]) (by omega) (by omega) (by decide) (by decide) (by decide) (by decide) (by decide) (by decide) (by decide) (by decide)
 ·have h:=D.sz
  have h3:=D.w3
  exact go 200 20 2 2 (by unfold szP;rw [if_neg hw,if_neg hw2]) (by unfold szR;rw [if_neg hw]) (by omega) (by omega) (by decide) (by decide) (by decide) (by decide) (by decide) (by decide) (by decide) (by decide)
theorem Drw.len {frs:List (List (Int×Int))} {fb fg:List (Int×Int)} {w:Nat} (D:Drw frs fb fg w):frs.length≤20∧fg.length≤20:=by
 rcases D.sz with ⟨h1,h2,_⟩ | ⟨h1,h2,_⟩ | ⟨h1,h2⟩ <;> omega
theorem CpAt.new {H:Hp} {qs rps:List Addr} {p:Addr} (h:CpAt H qs rps) (hp:H p=none):p∉qs:=λ hm=>by
 obtain ⟨j,hj⟩:=List.getElem?_of_mem hm
 have hjl:j<rps.length:=by have:=(List.getElem?_eq_some_iff.mp hj).1;rw [h.length] at this;exact this
 obtain ⟨_,e,_⟩:=h.get hj (List.getElem?_eq_getElem hjl)
 rw [e] at hp;cases hp
theorem cp_rows {K:W.Frag} {r:Addr} {rps:List Addr} {frs:List (List (Int×Int))} {σ:St} {H1:Hp} {fin:List V→Hp→Prop} (hr:H1 r=some (.lst (List.map V.ref rps))) (hf:RfAt K H1 rps frs) (hz:rps.length≤20)
  (k:∀ qs H2,Same H1 H2→CpAt H2 qs rps→qs.Nodup→(∀ q∈qs,H1 q=none)→fin (List.map V.ref qs) H2):CompRd (Itl K r) σ [] (t_law_c1 K) H1 fin:=by
 refine comp_list (K:=K) (a:=r) (xs:=List.map V.ref rps) (λ i zs H11=>Same H1 H11∧∃ qs,zs=List.map V.ref qs∧CpAt H11 qs (rps.take i)∧qs.Nodup∧∀ q∈qs,H1 q=none) ?_ ⟨Same.refl _,[],rfl,trivial,List.nodup_nil,(λ _ h=>nomatch h)⟩ ?_ ?_ ?_
 ·rw [List.length_map,sizeLine_eq];omega
 ·rintro i zs H11 _ ⟨s11,_⟩
  exact SqL.of (s11 _ _ hr)
 ·rintro i x' zs H11 hi _ ⟨s11,qs,rfl,hq,nd,nw⟩
  obtain ⟨z,rfl,hz'⟩:=get_refs hi
  obtain ⟨row,rs,er,hz10,_⟩:=hf.get hz'
  (dsimp! [t_law_c1,cList,tVar,tCons,tNil,tCB])
  refine ⟨_,.inl (SqL.of (s11 _ _ hz10)),λ p hp=>⟨s11.trans (Same.upd hp),qs++[p],by rw [List.map_append];rfl,?_,?_,?_⟩⟩
  ·rw [take_snoc hz']
   refine CpAt.append (show CpAt _ [p] [z] from ⟨⟨rs,upd_same,Same.upd hp _ _ (s11 _ _ hz10),λ e=>?_⟩,trivial⟩) (hq.same (Same.upd hp))
   rw [e,s11 _ _ hz10] at hp;cases hp
  ·have hn:p∉qs:=hq.new hp
   exact List.nodup_append.mpr ⟨nd,by simp,λ x hx y hy e=>hn (by rw [← List.mem_singleton.mp hy,← e];exact hx)⟩
  ·intro q hq'
   rcases List.mem_append.mp hq' with h | h
   ·exact nw q h
   ·rw [List.mem_singleton.mp h];exact s11.free hp
 ·rintro zs H11 _ ⟨s11,qs,rfl,hq,nd,nw⟩
  rw [List.length_map,List.take_length] at hq
  exact k qs H11 s11 hq nd nw
structure LwF (K:W.Frag) (H:Hp) (hd ot ob og b g v x wy:Addr) (qs bps gps xp wp:List Addr) (wd:Str) (frs:List (List (Int×Int))) (fb fg:List (Int×Int)):Prop where
 hhd:H hd=some (.lst (List.map V.ref qs))
 hrf:RfAt K H qs frs
 hot:H ot=some (.lst [V.ref ob,V.ref og])
 hob:H ob=some (.lst (List.map V.ref bps))
 hbs:FrsAt K H bps fb
 hog:H og=some (.lst (List.map V.ref gps))
 hgs:FrsAt K H gps fg
 hb:H b=some (.lst (List.map V.ref bps))
 hg:H g=some (.lst (List.map V.ref gps))
 hv:H v=some (.tup [.str wd,.ref x,.ref wy])
 hx:H x=some (.lst (List.map V.ref xp))
 hw:H wy=some (.lst (List.map V.ref wp))
 nhd:hd∉qs
 not:ot∉qs
 nob:ob∉qs
 nog:og∉qs
 nb:b∉qs
 ng:g∉qs
 nx:x∉qs
 nw:wy∉qs
 nd:qs.Nodup
noncomputable def gq (x y:Int):Int:=(Int.gcd (3 - x) y:Nat)
noncomputable def tb1t (K:W.Frag) (k:Int):TE:=tOp (rIxT K) (tOp (rIxL K) (tVar 8) (tC (.int 0))) (tC (.int k))
noncomputable def tb1a (K:W.Frag):TS:=(tAsg (tTup (tCons (tOp rSubI (tC (.int 3)) (tb1t K 0)) (tCons (tb1t K 1) tNil))) (gSub (tVar 8) (tC (.int 0)) rSetL))
noncomputable def tb1d (K:W.Frag) (k:Int):TE:=tOp rDivI (tb1t K k) (tCall (sp_l_divisor K) [] E0 (tCons (tb1t K 0) (tCons (tb1t K 1) tNil)))
noncomputable def tb1b (K:W.Frag):TS:=(tAsg (tTup (tCons (tb1d K 0) (tCons (tb1d K 1) tNil))) (gSub (tVar 8) (tC (.int 0)) rSetL))
theorem set_sub8 {H:Hp} {q p0 p1:Addr} {rs:List Addr} {o0 o1 o2 o3 o4 o5 o6 o7:Option V} {k:St→Hp→Prop} (hq:H q=some (.lst (List.map V.ref (p0::rs)))) (h:k [o0,o1,o2,o3,o4,o5,o6,o7,some (.ref q)] (upd H q (.lst (List.map V.ref (p1::rs))))) :
  gSub (tVar 8) (tC (.int 0)) rSetL (.ref p1) [o0,o1,o2,o3,o4,o5,o6,o7,some (.ref q)] H k:=by
 (try dsimp? [gSub,rSetL];try simp_arith [gSub,rSetL])
 exact ⟨_,hq,0,ixN_int (k:=0) (by decide) (by rw [List.length_map,List.length_cons];omega),h⟩
theorem tb1t_ok {K:W.Frag} {H:Hp} {q p0:Addr} {rs:List Addr} {x y:Int} {o0 o1 o2 o3 o4 o5 o6 o7:Option V} {Q:VK} {k:Int} {v:V} (hq:SqL K H q (List.map V.ref (p0::rs))) (hp:SqT K H p0 [.int x,.int y]) (hk:atI [V.int x,V.int y] k=some v) (h:Q v H) :
  tb1t K k [o0,o1,o2,o3,o4,o5,o6,o7,some (.ref q)] H Q:=by
 (try dsimp only [tSeq,tAsg,gName,tVar,tC,tOp,tUn,rI0,rI,rU,rAddI,rSubI,rMulI,rDivI,rDivC,rModI,rPowI,rNegI,rLtI,rLeI,rGtI,rGeI,rEq,rNe,scal_ii,tRet,tIfS,tTest,tB,tNot,tNext,tCall,tCons,tNil,tTup,tLst,tCB,cAbs,cLen,cIsB,tSl,tPart,tNoPart,rSlL,rIxL,rIxT,tAndV,tOrV,tAnd,tOr,tNotV,tPar,tNever,gTup,gCons,gNil,Lq0,Lq1,Ls0,Ls1,Lca,Lna,exI_lit,exB_lit,exR_lit];try simp_arith [tb1t])
 exact ⟨_,hq,_,atI0,_,hp,_,hk,h⟩
theorem tb1d_ok {K:W.Frag} {H:Hp} {q p0:Addr} {rs:List Addr} {x y z:Int} {o0 o1 o2 o3 o4 o5 o6 o7:Option V} {Q:VK} {k:Int} (hq:SqL K H q (List.map V.ref (p0::rs))) (hp:SqT K H p0 [.int x,.int y]) (hk:atI [V.int x,V.int y] k=some (V.int z)) (hc:CDivB z (Int.gcd x y:Nat)) (h:Q (.int (z.fdiv (Int.gcd x y:Nat))) H) :
  tb1d K k [o0,o1,o2,o3,o4,o5,o6,o7,some (.ref q)] H Q :=
 tb1t_ok hq hp hk (tb1t_ok hq hp atI0 (tb1t_ok hq hp atI1 ⟨x,y,rfl,⟨hc,h⟩⟩))
theorem law_b1 {K:W.Frag} {H:Hp} {q p0:Addr} {rs:List Addr} {x y:Int} {o0 o1 o2 o3 o4 o5 o6 o7:Option V} {D:Ends} (hq:H q=some (.lst (List.map V.ref (p0::rs)))) (hp:SqT K H p0 [.int x,.int y]) (hy:0<y) (by9:BB 9000 y)
  (k:∀ p1,H p1=none→∀ p2,(upd (upd H p1 (.tup [.int (3 - x),.int y])) q (.lst (List.map V.ref (p1::rs)))) p2=none →
   D.nx [o0,o1,o2,o3,o4,o5,o6,o7,some (.ref q)] (upd (upd (upd (upd H p1 (.tup [.int (3 - x),.int y])) q (.lst (List.map V.ref (p1::rs)))) p2 (.tup [.int ((3 - x).fdiv (gq x y)),.int (y.fdiv (gq x y))])) q (.lst (List.map V.ref (p2::rs))))) :
  t_law_b1 K D [o0,o1,o2,o3,o4,o5,o6,o7,some (.ref q)] H:=by
 have gp:(0:Int)<gq x y:=by
  have h:0<Int.gcd (3 - x) y:=Int.gcd_pos_of_ne_zero_right _ (by omega)
  unfold gq;omega
 have bg:CDivB (3 - x) (gq x y)∧CDivB y (gq x y):=by
  have h:BB 9000 (gq x y):=by
   refine by9.of_le ?_
   have:Int.gcd (3 - x) y≤y.natAbs:=Nat.le_of_dvd (by omega) (Int.gcd_dvd_natAbs_right _ _)
   unfold gq;omega
  exact ⟨⟨by omega,h⟩,⟨by omega,h⟩⟩
 show tb1a K { D with nx:=λ σ' H'=>tb1b K D σ' H' } [o0,o1,o2,o3,o4,o5,o6,o7,some (.ref q)] H
 have hqL:SqL K H q (List.map V.ref (p0::rs)):=SqL.of hq
 refine tb1t_ok hqL hp atI0 (tb1t_ok hqL hp atI1 ⟨sz2,λ p1 hp1=>?_⟩)
 have hqp:q≠p1:=λ e=>by rw [← e,hq] at hp1;cases hp1
 refine set_sub8 (by rw [upd_ne hqp];exact hq) ?_
 have q5r:(upd (upd H p1 (.tup [.int (3 - x),.int y])) q (.lst (List.map V.ref (p1::rs)))) q=some (.lst (List.map V.ref (p1::rs))):=upd_same
 have q5:=SqL.of (K:=K) q5r
 have t5:SqT K (upd (upd H p1 (.tup [.int (3 - x),.int y])) q (.lst (List.map V.ref (p1::rs)))) p1 [.int (3 - x),.int y]:=SqT.of (by rw [upd_ne (Ne.symm hqp)];exact upd_same)
 have k':=k p1 hp1
 generalize upd (upd H p1 (.tup [.int (3 - x),.int y])) q (.lst (List.map V.ref (p1::rs)))=H5 at q5r q5 t5 k' ⊢
 refine tb1d_ok q5 t5 atI0 bg.1 (tb1d_ok q5 t5 atI1 bg.2 ⟨sz2,λ p2 hp2=>?_⟩)
 have hqp2:q≠p2:=λ e=>by rw [← e,q5r] at hp2;cases hp2
 exact set_sub8 (by rw [upd_ne hqp2];exact q5r) (k' p2 hp2)
theorem RfAt.new {K:W.Frag} {H:Hp} {qs:List Addr} {frs:List (List (Int×Int))} {p:Addr} (h:RfAt K H qs frs) (hp:H p=none):p∉qs:=λ hm=>by
 obtain ⟨_,_,_,e,_⟩:=h.has hm
 rw [e] at hp;cases hp
theorem law_r2 {K:W.Frag} {H:Hp} {a r hd ot ob og b g v x wy x2 w2 kp:Addr} {qs bps gps xp wp:List Addr} {wd:Str} {frs:List (List (Int×Int))} {fb fg:List (Int×Int)} {Q:VK} {o8:Option V} (F:LwF K H hd ot ob og b g v x wy qs bps gps xp wp wd frs fb fg) (hl:frs.length≤20) (B:BeO frs fb fg) (hm1:1≤frs.length) (hn1:1≤fg.length) (gb9:∀ f∈fb,G9 f) (gn:∀ f∈fb,0≤f.1)
  (hk:H kp=some (.tup [.str wd,.ref x2,.ref w2])) (hx2:H x2=some (.lst (List.map V.ref xp))) (hw2:H w2=some (.lst (List.map V.ref wp))) (nx:x≠x2) (nw:wy≠w2) (q:∀ H',Q (.bl true) H') :
  t_law_r2 K { nx:=λ _ H'=>Q .non H',rt:=Q } [some (.ref a),some (.ref r),some (.ref b),some (.ref g),some (.ref hd),some (.ref ot),some (.ref v),some (.ref kp),o8] H:=by
 have ql:=F.hrf.length
 (dsimp! [t_law_r2,tComp,iList,tSeq,tAsg,gName,tVar,tC,tOp,tRet,tIfS,tB,tNot,tNext,tCall,tCons,tNil,rIxL,List.append_nil])
 refine ⟨⟨_,SqL.of F.hhd⟩,cp_rows F.hhd F.hrf (by omega) λ qs2 H2 s2 hq _ _ r2 hr2=>?_⟩
 have s3:=s2.trans (Same.upd (o:=HO.lst (List.map V.ref qs2)) hr2)
 have hq3:=hq.same (Same.upd (o:=HO.lst (List.map V.ref qs2)) hr2)
 have r3:(upd H2 r2 (.lst (List.map V.ref qs2))) r2=some (.lst (List.map V.ref qs2)):=upd_same
 generalize upd H2 r2 (.lst (List.map V.ref qs2))=H3 at s3 hq3 r3
 refine ⟨_,SqL.of (s3 _ _ F.hot),_,atI0,_,SqL.of (s3 _ _ F.hot),_,atI1,hd,ob,og,qs,bps,gps,frs,fb,fg,rfl,⟨s3 _ _ F.hhd,F.hrf.same s3,s3 _ _ F.hob,F.hbs.same s3,s3 _ _ F.hog,F.hgs.same s3,gb9⟩,gn,B,hm1,hn1,λ v' fl s o x' wy' xp' wp' H4 s4 _ _ out=>?_⟩
 have s34:=s3.trans s4
 refine ⟨v',r2,b,g,qs2,bps,gps,frs,fb,fg,fl,s,o,x',wy',xp',wp',rfl,out,B,s4 _ _ r3,(hq3.rf (F.hrf.same s3)).same s4,s34 _ _ F.hb,F.hbs.same s34,s34 _ _ F.hg,F.hgs.same s34,λ H5 s5=>⟨_,rfl,iteF ?_⟩⟩
 have s45:=s34.trans s5
 (dsimp! [t_law_r1,rEqX,tVar,tOp,tRet])
 refine ⟨_,SqT.of (s45 _ _ F.hv),_,SqT.of (s45 _ _ hk),rfl,?_,q _⟩
 have eqL:∀ {p p2:Addr} {rs:List Addr},H p=some (.lst (List.map V.ref rs))→H p2=some (.lst (List.map V.ref rs))→p≠p2→DEq K H5 1 (.ref p) (.ref p2) true:=λ {p p2 rs} h1 h2 ne=>.inr ⟨λ e=>ne (by injection e),REq.refs (SqL.of (s45 _ _ h1)) (SqL.of (s45 _ _ h2))⟩
 intro j x' y' hx hy
 match j,hx,hy with
 | 0,hx,hy=>cases hx;cases hy;exact .inl ⟨rfl,_,rfl⟩
 | 1,hx,hy=>cases hx;cases hy;exact .inr (eqL F.hx hx2 nx)
 | 2,hx,hy=>cases hx;cases hy;exact .inr (eqL F.hw hw2 nw)
 | j+3,hx,_=>simp at hx
theorem gq_new {p r:Nat} {x y:Int} (g:Gp p r (x,y)) (hp:2≤p):Gp (p+1) r ((3 - x).fdiv (gq x y),y.fdiv (gq x y)):=by
 obtain ⟨hy,bx,by_⟩:=g
 have hy:0<y:=hy
 have gp:0<Int.gcd (3 - x) y:=Int.gcd_pos_of_ne_zero_right _ (by omega)
 have gd:(gq x y)∣y:=Int.gcd_dvd_right ..
 have g1:0<gq x y:=by unfold gq;omega
 rw [Int.fdiv_eq_ediv_of_nonneg _ (by omega),Int.fdiv_eq_ediv_of_nonneg _ (by omega)]
 refine ⟨Int.ediv_pos_of_pos_of_dvd hy (by omega) gd,?_,?_⟩
 ·have h1:Int.natAbs x<2 ^ p:=bx
  have h2:(2:Nat) ^ 2≤2 ^ p:=Nat.pow_le_pow_right (by decide) hp
  have h3:Int.natAbs ((3 - x) / gq x y)≤Int.natAbs (3 - x):=Int.natAbs_ediv_le_natAbs _ _
  show Int.natAbs ((3 - x) / gq x y)<2 ^ (p+1)
  rw [Nat.pow_succ];omega
 ·exact by_.of_le (Int.natAbs_ediv_le_natAbs _ _)
noncomputable def ivL (K:W.Frag) (H0:Hp) (σ0:St) (qs:List Addr) (m n w:Nat):Nat→St→Hp→Prop:=λ i σ H=>∃ o8 frs',σ=σ0++[o8]∧Same (mq qs H0) H∧RfAt K H qs frs'∧frs'.length=m∧(∀ row∈frs',row.length=n∧∀ f∈row,Gp (szP w+1) (szR w) f)∧∀ k row,i≤k→frs'[k]?=some row→∀ f∈row,Gp (szP w) (szR w) f
theorem law_r3 {K:W.Frag} {H:Hp} {a r hd ot ob og b g v x wy:Addr} {qs bps gps xp wp:List Addr} {wd:Str} {frs:List (List (Int×Int))} {fb fg:List (Int×Int)} {w:Nat} {Q:VK} (F:LwF K H hd ot ob og b g v x wy qs bps gps xp wp wd frs fb fg) (D:Drw frs fb fg w) (gb9:∀ f∈fb,G9 f) (gn:∀ f∈fb,0≤f.1) (q:∀ H',Q (.bl true) H') :
  t_law_r3 K { nx:=λ _ H'=>Q .non H',rt:=Q } [some (.ref a),some (.ref r),some (.ref b),some (.ref g),some (.ref hd),some (.ref ot),some (.ref v),none,none] H:=by
 (dsimp! [t_law_r3,cList,tFor,iList,tSeq,tAsg,gName,tVar,tC,tOp,tCons,tNil,tTup,tCB,rIxT])
 refine ⟨_,SqT.of F.hv,_,atI0,_,SqT.of F.hv,_,atI1,_,rfl,_,.inl (SqL.of F.hx),λ x2 hx2=>?_⟩
 have x2q:=F.hrf.new hx2
 have s1:=Same.upd (o:=HO.lst (List.map V.ref xp)) hx2
 have x21:(upd H x2 (.lst (List.map V.ref xp))) x2=some (.lst (List.map V.ref xp)):=upd_same
 have nxx:x≠x2:=λ e=>by rw [← e,F.hx] at hx2;cases hx2
 generalize upd H x2 (.lst (List.map V.ref xp))=H1 at s1 x21
 refine ⟨_,SqT.of (s1 _ _ F.hv),_,atI2,_,rfl,_,.inl (SqL.of (s1 _ _ F.hw)),λ w2 hw2=>⟨sz3,λ kp hkp=>?_⟩⟩
 have w2q:=(F.hrf.same s1).new hw2
 have nww:wy≠w2:=λ e=>by rw [← e,s1 _ _ F.hw] at hw2;cases hw2
 have s2:=Same.upd (o:=HO.lst (List.map V.ref wp)) hw2
 have w22:(upd H1 w2 (.lst (List.map V.ref wp))) w2=some (.lst (List.map V.ref wp)):=upd_same
 generalize upd H1 w2 (.lst (List.map V.ref wp))=H2 at s2 w22 hkp
 have kpq:=(F.hrf.same (s1.trans s2)).new hkp
 have s3:=Same.upd (o:=HO.tup [V.str wd,V.ref x2,V.ref w2]) hkp
 have kp3:(upd H2 kp (.tup [V.str wd,V.ref x2,V.ref w2])) kp=some (.tup [V.str wd,V.ref x2,V.ref w2]):=upd_same
 have x23:=s3 _ _ (s2 _ _ x21)
 have w23:=s3 _ _ w22
 have s03:=s1.trans (s2.trans s3)
 generalize upd H2 kp (.tup [V.str wd,V.ref x2,V.ref w2])=H3 at s3 kp3 x23 w23 s03
 clear s1 s2 s3 x21 w22 hx2 hw2 hkp
 have rf3:=F.hrf.same s03
 have hm:∀ q∈qs,∃ xs,H3 q=some (.lst xs):=λ q' hq'=>by
  obtain ⟨_,rs,_,e,_⟩:=rf3.has hq'
  exact ⟨_,e⟩
 have hd3:=mq_of (s03 _ _ F.hhd) F.nhd
 refine ⟨⟨_,SqL.of (s03 _ _ F.hhd)⟩,for_list (K:=K) (a:=hd) (xs:=List.map V.ref qs) (g:=gName 8) (D:={ nx:=t_law_r2 K { nx:=λ _ H'=>Q .non H',rt:=Q },rt:=Q }) (ivL K H3 [some (.ref a),some (.ref r),some (.ref b),some (.ref g),some (.ref hd),some (.ref ot),some (.ref v),some (.ref kp)] qs frs.length fg.length w) ?_ ?_ ?_ ?_⟩
 ·exact ⟨none,frs,rfl,mq_same,rf3,rfl,λ row h=>⟨(D.gr row h).1,λ f hf=>((D.gr row h).2 f hf).mono (Nat.le_succ _) (Nat.le_refl _)⟩,λ k row _ h=>(D.gr row (List.mem_of_getElem? h)).2⟩
 ·rintro i σ H4 _ ⟨_,_,_,s4,_⟩
  exact SqL.of (s4 _ _ hd3)
 ·rintro i x' σ H4 hi ⟨o8,frs',rfl,s4,rf4,fl,gr,gk⟩
  obtain ⟨q',rfl,hq'⟩:=get_refs hi
  obtain ⟨row,rs,er,hq4,hrow⟩:=rf4.get hq'
  have rin:=List.mem_of_getElem? er
  have rl:=(gr row rin).1
  have gi:=gk i row (Nat.le_refl _) er
  have n1:=D.n1
  show t_law_b1 K _ [some (.ref a),some (.ref r),some (.ref b),some (.ref g),some (.ref hd),some (.ref ot),some (.ref v),some (.ref kp),some (.ref q')] H4
  match rs,row,hrow,rl,hq4,er,gi,rin with
  | p0::rs,(x0,y0)::row,hrow,rl,hq4,er,gi,rin =>
   have g0:=gi (x0,y0) List.mem_cons_self
   have zz:=sz_le w
   refine law_b1 hq4 hrow.1 g0.1 (g0.2.2.mono (Nat.le_trans zz.2.2.2 (by decide))) λ p1 hp1 p2 hp2=>?_
   have hqm:q'∈qs:=List.mem_of_getElem? hq'
   have t1:=Same.upd (o:=HO.tup [V.int (3 - x0),V.int y0]) hp1
   have rf5:=RfAt.setv (refs:=p1::rs) (g:=(3 - x0,y0)::row) (t1 _ _ hq4) ⟨SqT.of upd_same,hrow.2.same t1⟩ F.nd hq' (rf4.same t1)
   have s5:Same (mq qs H3) (upd (upd H4 p1 (.tup [.int (3 - x0),.int y0])) q' (.lst (List.map V.ref (p1::rs)))):=(s4.trans t1).put (mq_in hqm)
   have fr5:FrsAt K (upd (upd H4 p1 (.tup [.int (3 - x0),.int y0])) q' (.lst (List.map V.ref (p1::rs)))) rs row:=FrsAt.off (t1 _ _ hq4) (hrow.2.same t1)
   have q5:(upd (upd H4 p1 (.tup [.int (3 - x0),.int y0])) q' (.lst (List.map V.ref (p1::rs)))) q'=some (.lst (List.map V.ref (p1::rs))):=upd_same
   generalize upd (upd H4 p1 (.tup [.int (3 - x0),.int y0])) q' (.lst (List.map V.ref (p1::rs)))=H5 at rf5 s5 fr5 q5 hp2
   have t2:=Same.upd (o:=HO.tup [V.int ((3 - x0).fdiv (gq x0 y0)),V.int (y0.fdiv (gq x0 y0))]) hp2
   have rf7:=RfAt.setv (refs:=p2::rs) (g:=((3 - x0).fdiv (gq x0 y0),y0.fdiv (gq x0 y0))::row) (t2 _ _ q5) ⟨SqT.of upd_same,fr5.same t2⟩ F.nd hq' (rf5.same t2)
   rw [List.set_set] at rf7
   have gn':=gq_new g0 zz.1
   refine ⟨_,_,rfl,(s5.trans t2).put (mq_in hqm),rf7,by rw [List.length_set];exact fl,λ row' h=>?_,λ k row' hk h=>?_⟩
   ·rcases List.mem_or_eq_of_mem_set h with h | rfl
    ·exact gr row' h
    ·refine ⟨rl,λ f hf=>?_⟩
     rcases List.mem_cons.mp hf with rfl | hf
     ·exact gn'
     ·exact (gr _ rin).2 f (List.mem_cons_of_mem _ hf)
   ·rw [List.getElem?_set,if_neg (by omega)] at h
    exact gk k row' (by omega) h
  | [],[],_,rl,_,_,_,_=>simp at rl;omega
  | [],_::_,h,_,_,_,_,_=>exact h.elim
  | _::_,[],h,_,_,_,_,_=>exact h.elim
 ·rintro σ H4 ⟨o8,frs',rfl,s4,rf4,fl,gr,_⟩
  have B:BeO frs' fb fg:=D.beo fl gr
  exact law_r2 (x2:=x2) (w2:=w2) ⟨s4 _ _ hd3,rf4,s4 _ _ (mq_of (s03 _ _ F.hot) F.not),s4 _ _ (mq_of (s03 _ _ F.hob) F.nob),(FrsAt.mq hm (F.hbs.same s03)).same s4,s4 _ _ (mq_of (s03 _ _ F.hog) F.nog),(FrsAt.mq hm (F.hgs.same s03)).same s4,s4 _ _ (mq_of (s03 _ _ F.hb) F.nb),s4 _ _ (mq_of (s03 _ _ F.hg) F.ng),s4 _ _ (mq_of (s03 _ _ F.hv) λ hv=>by obtain ⟨_,e⟩:=hm _ hv;rw [s03 _ _ F.hv] at e;cases e),s4 _ _ (mq_of (s03 _ _ F.hx) F.nx),s4 _ _ (mq_of (s03 _ _ F.hw) F.nw),F.nhd,F.not,F.nob,F.nog,F.nb,F.ng,F.nx,F.nw,F.nd⟩ (by have:=D.len;omega) B (by have:=D.m1;omega) D.n1 gb9 gn (s4 _ _ (mq_of kp3 kpq)) (s4 _ _ (mq_of x23 x2q)) (s4 _ _ (mq_of w23 w2q)) nxx nww q
theorem rd_law {K vs H Q E} (h:sp_law K vs H Q E):t_law K { nx:=λ _ H'=>Q .non H',rt:=Q } (start N_law vs) H:=by
 obtain ⟨a,ns,rfl,hS,hn,q⟩:=h
 rw [show start N_law [V.ref a]=[some (.ref a),none,none,none,none,none,none,none,none] from rfl]
 (dsimp! [t_law,tComp,iList,cList,tSeq,tAsg,gName,tVar,tC,tOp,tRet,tIfS,tB,tNot,tNext,tCall,tCons,tNil,tLst,tCB,rIxL,gTup,gCons,gNil,List.append_nil])
 refine ⟨_,_,rfl,hS,hn,λ pt r b g rps bps gps frs fb fg w H1 hpt hr hrs hb hbs hg hgs D=>?_⟩
 clear hS
 have rpl:=hrs.length
 have lb:=D.len
 refine ⟨_,rfl,_,SqT.of hpt,rfl,_,_,rfl,_,_,rfl,_,_,rfl,rfl,r,rfl,⟨_,SqL.of hr⟩,cp_rows hr hrs (by omega) λ qs H2 s2 hq nd nw hd hhd=>?_⟩
 have hdq:hd∉qs:=hq.new hhd
 have s3:=s2.trans (Same.upd (o:=HO.lst (List.map V.ref qs)) hhd)
 have hq3:=hq.same (Same.upd (o:=HO.lst (List.map V.ref qs)) hhd)
 have hd3:(upd H2 hd (.lst (List.map V.ref qs))) hd=some (.lst (List.map V.ref qs)):=upd_same
 generalize upd H2 hd (.lst (List.map V.ref qs))=H3 at s3 hq3 hd3
 refine ⟨_,rfl,_,.inl (SqL.of (s3 _ _ hb)),λ ob hob=>?_⟩
 have s4:=Same.upd (o:=HO.lst (List.map V.ref bps)) hob
 have obq:=hq3.new hob
 have ob4:(upd H3 ob (.lst (List.map V.ref bps))) ob=some (.lst (List.map V.ref bps)):=upd_same
 have nob:b≠ob:=λ e=>by rw [← e,s3 _ _ hb] at hob;cases hob
 generalize upd H3 ob (.lst (List.map V.ref bps))=H4 at s4 ob4
 refine ⟨_,rfl,_,.inl (SqL.of (s4 _ _ (s3 _ _ hg))),λ og hog=>⟨sz2,λ ot hot=>?_⟩⟩
 have s5:=Same.upd (o:=HO.lst (List.map V.ref gps)) hog
 have ogq:=(hq3.same s4).new hog
 have og5:(upd H4 og (.lst (List.map V.ref gps))) og=some (.lst (List.map V.ref gps)):=upd_same
 have nog:g≠og:=λ e=>by rw [← e,s4 _ _ (s3 _ _ hg)] at hog;cases hog
 generalize upd H4 og (.lst (List.map V.ref gps))=H5 at s5 og5 hot
 have s6:=Same.upd (o:=HO.lst [V.ref ob,V.ref og]) hot
 have otq:=(hq3.same (s4.trans s5)).new hot
 have ot6:(upd H5 ot (.lst [V.ref ob,V.ref og])) ot=some (.lst [V.ref ob,V.ref og]):=upd_same
 have s36:=s4.trans (s5.trans s6)
 have ob6:=s6 _ _ (s5 _ _ ob4)
 have og6:=s6 _ _ og5
 generalize upd H5 ot (.lst [V.ref ob,V.ref og])=H6 at s6 ot6 ob6 og6 s36
 have s16:=s3.trans s36
 have hd6:=s36 _ _ hd3
 have hq6:=hq3.same s36
 clear s6 s5 s4 s36 s3 hq3 hd3 hq hhd hob hog hot ob4 og5 s2
 have hr6:=s16 _ _ hr
 have hrs6:=hrs.same s16
 have hb6:=s16 _ _ hb
 have hbs6:=hbs.same s16
 have hg6:=s16 _ _ hg
 have hgs6:=hgs.same s16
 have bq:b∉qs:=λ hm=>by rw [nw b hm] at hb;cases hb
 have gq:g∉qs:=λ hm=>by rw [nw g hm] at hg;cases hg
 clear s16 hb hbs hg hgs hr hrs hpt nw
 have gb9:∀ f∈fb,G9 f:=λ f hf=>have z:=sz_le w;(D.gb f hf).1.mono (Nat.le_trans z.2.1 (by decide)) (Nat.le_trans z.2.2.2 (by decide))
 have gn:∀ f∈fb,0≤f.1:=λ f hf=>(D.gb f hf).2
 have B:BeO frs fb fg:=D.beo rfl λ row h=>⟨(D.gr row h).1,λ f hf=>((D.gr row h).2 f hf).mono (Nat.le_succ _) (Nat.le_refl _)⟩
 refine ⟨_,SqL.of ot6,_,atI0,_,SqL.of ot6,_,atI1,hd,ob,og,qs,bps,gps,frs,fb,fg,rfl,⟨hd6,hq6.rf hrs6,ob6,hbs6,og6,hgs6,gb9⟩,gn,B,D.m1,D.n1,λ v fl s o x wy xp wp H7 s7 nx nwy out=>?_⟩
 refine ⟨v,r,b,g,rps,bps,gps,frs,fb,fg,fl,s,o,x,wy,xp,wp,rfl,out,B,s7 _ _ hr6,hrs6.same s7,s7 _ _ hb6,hbs6.same s7,s7 _ _ hg6,hgs6.same s7,λ H8 s8=>?_⟩
 refine ⟨_,rfl,iteF ?_⟩
 have hd8:=s8 _ _ (s7 _ _ hd6)
 have ot8:=s8 _ _ (s7 _ _ ot6)
 have s68:=s7.trans s8
 have hq8:=hq6.same s68
 (dsimp! [t_law_r4,rNeD,tSeq,tVar,tC,tOp,tRet,tIfS,tTest,tNext,tCons,tNil,tLst,tOr])
 refine ⟨true,hq8.req hd8 (s68 _ _ hr6),iteF ⟨sz2,λ p2 hp2=>?_⟩⟩
 have s9:=Same.upd (o:=HO.lst [V.ref b,V.ref g]) hp2
 have hp9:(upd H8 p2 (.lst [V.ref b,V.ref g])) p2=some (.lst (List.map V.ref [b,g])):=upd_same
 generalize upd H8 p2 (.lst [V.ref b,V.ref g])=H9 at s9 hp9
 have s69:=s68.trans s9
 refine ⟨true,CpAt.req (ps:=[ob,og]) (qs:=[b,g]) ⟨⟨_,s69 _ _ ob6,s69 _ _ hb6,Ne.symm nob⟩,⟨_,s69 _ _ og6,s69 _ _ hg6,Ne.symm nog⟩,trivial⟩ (s9 _ _ ot8) hp9,iteF ?_⟩
 have s79:=s8.trans s9
 exact law_r3 (w:=w) ⟨s9 _ _ hd8,(hq6.rf hrs6).same s69,s9 _ _ ot8,s69 _ _ ob6,hbs6.same s69,s69 _ _ og6,hgs6.same s69,s69 _ _ hb6,s69 _ _ hg6,s79 _ _ out.hv,s79 _ _ out.hx,s79 _ _ out.hw,hdq,otq,obq,ogq,bq,gq,hq6.new nx,hq6.new nwy,nd⟩ D gb9 gn q
noncomputable def top (i:Nat):Stmt:=PySem.Challenge.pw_mixplay_k26_whole_best.main.body.getD i (.Pass ⟨0,0,0,0⟩)
noncomputable abbrev s_l_numbers:Stmt:=top 35
noncomputable abbrev s_l_divisor:Stmt:=top 36
noncomputable abbrev s_l_fraction:Stmt:=top 37
noncomputable abbrev s_l_drawn:Stmt:=top 38
noncomputable abbrev s_below:Stmt:=top 9
noncomputable abbrev s_divisor:Stmt:=top 5
noncomputable abbrev s_cleared:Stmt:=top 13
noncomputable abbrev s_ratio:Stmt:=top 6
noncomputable abbrev s_shared:Stmt:=top 11
noncomputable abbrev s_plain:Stmt:=top 12
noncomputable abbrev s_whole:Stmt:=top 19
noncomputable abbrev s_times:Stmt:=top 7
noncomputable abbrev s_longest:Stmt:=top 23
noncomputable abbrev s_column_of:Stmt:=top 21
noncomputable abbrev s_span:Stmt:=top 22
noncomputable abbrev s_unit:Stmt:=top 20
noncomputable abbrev s_Corner_init:Stmt:=inClass (top 29) 0
noncomputable abbrev s_bits_beyond:Stmt:=top 24
noncomputable abbrev s_stretched:Stmt:=top 25
noncomputable abbrev s_shortened:Stmt:=top 26
noncomputable abbrev s_rounded:Stmt:=top 27
noncomputable abbrev s_products:Stmt:=top 14
noncomputable abbrev s_Corner_entering:Stmt:=inClass (top 29) 3
noncomputable abbrev s_Corner_numbers:Stmt:=inClass (top 29) 2
noncomputable abbrev s_is_ahead:Stmt:=top 15
noncomputable abbrev s_leaving:Stmt:=top 16
noncomputable abbrev s_Corner_leaving_by:Stmt:=inClass (top 29) 4
noncomputable abbrev s_Corner_bottom:Stmt:=inClass (top 29) 1
noncomputable abbrev s_Corner_step_in:Stmt:=inClass (top 29) 5
noncomputable abbrev s_unstopped:Stmt:=top 30
noncomputable abbrev s_turned_round:Stmt:=top 28
noncomputable abbrev s_Corner_comes_to:Stmt:=inClass (top 29) 6
noncomputable abbrev s_Corner_ends_with:Stmt:=inClass (top 29) 7
noncomputable abbrev s_last_corner:Stmt:=top 31
noncomputable abbrev s_over:Stmt:=top 8
noncomputable abbrev s_Corner_spread:Stmt:=inClass (top 29) 8
noncomputable abbrev s_Corner_xs:Stmt:=inClass (top 29) 9
noncomputable abbrev s_Corner_ways:Stmt:=inClass (top 29) 11
noncomputable abbrev s_Corner_ys:Stmt:=inClass (top 29) 10
noncomputable abbrev s_best:Stmt:=top 32
noncomputable abbrev s_l_whole:Stmt:=top 34
noncomputable abbrev s_l_list:Stmt:=top 39
noncomputable abbrev s_l_at_most:Stmt:=top 41
noncomputable abbrev s_l_products:Stmt:=top 40
noncomputable abbrev s_l_allowed:Stmt:=top 42
noncomputable abbrev s_l_right:Stmt:=top 43
noncomputable abbrev s_law:Stmt:=top 44
structure Bn (K:W.Frag) (mg:Str→Option Value) (x:Str) (st:Stmt) (f:Addr) (fd:FuncData) (ps:List Str):Prop where
 F:Fun K x x st f fd
 b:Binds K fd ps []
 m:mg x=some (.ref f)
structure BnM (K:W.Frag) (C:Addr) (m q:Str) (st:Stmt) (f:Addr) (fd:FuncData) (ps:List Str):Prop where
 F:Fun K m q st f fd
 b:Binds K fd ps []
 m:Meth K C m f
set_option genInjectivity false in
set_option genSizeOf false in
structure Ad where
 f_l_numbers:Addr
 d_l_numbers:FuncData
 f_l_divisor:Addr
 d_l_divisor:FuncData
 f_l_fraction:Addr
 d_l_fraction:FuncData
 f_l_drawn:Addr
 d_l_drawn:FuncData
 f_below:Addr
 d_below:FuncData
 f_divisor:Addr
 d_divisor:FuncData
 f_cleared:Addr
 d_cleared:FuncData
 f_ratio:Addr
 d_ratio:FuncData
 f_shared:Addr
 d_shared:FuncData
 f_plain:Addr
 d_plain:FuncData
 f_whole:Addr
 d_whole:FuncData
 f_times:Addr
 d_times:FuncData
 f_longest:Addr
 d_longest:FuncData
 f_column_of:Addr
 d_column_of:FuncData
 f_span:Addr
 d_span:FuncData
 f_unit:Addr
 d_unit:FuncData
 f_Corner_init:Addr
 d_Corner_init:FuncData
 f_bits_beyond:Addr
 d_bits_beyond:FuncData
 f_stretched:Addr
 d_stretched:FuncData
 f_shortened:Addr
 d_shortened:FuncData
 f_rounded:Addr
 d_rounded:FuncData
 f_products:Addr
 d_products:FuncData
 f_Corner_entering:Addr
 d_Corner_entering:FuncData
 f_Corner_numbers:Addr
 d_Corner_numbers:FuncData
 f_is_ahead:Addr
 d_is_ahead:FuncData
 f_leaving:Addr
 d_leaving:FuncData
 f_Corner_leaving_by:Addr
 d_Corner_leaving_by:FuncData
 f_Corner_bottom:Addr
 d_Corner_bottom:FuncData
 f_Corner_step_in:Addr
 d_Corner_step_in:FuncData
 f_unstopped:Addr
 d_unstopped:FuncData
 f_turned_round:Addr
 d_turned_round:FuncData
 f_Corner_comes_to:Addr
 d_Corner_comes_to:FuncData
 f_Corner_ends_with:Addr
 d_Corner_ends_with:FuncData
 f_last_corner:Addr
 d_last_corner:FuncData
 f_over:Addr
 d_over:FuncData
 f_Corner_spread:Addr
 d_Corner_spread:FuncData
 f_Corner_xs:Addr
 d_Corner_xs:FuncData
 f_Corner_ways:Addr
 d_Corner_ways:FuncData
 f_Corner_ys:Addr
 d_Corner_ys:FuncData
 f_best:Addr
 d_best:FuncData
 f_l_whole:Addr
 d_l_whole:FuncData
 f_l_list:Addr
 d_l_list:FuncData
 f_l_at_most:Addr
 d_l_at_most:FuncData
 f_l_products:Addr
 d_l_products:FuncData
 f_l_allowed:Addr
 d_l_allowed:FuncData
 f_l_right:Addr
 d_l_right:FuncData
 f_law:Addr
 d_law:FuncData
structure Tx (K:W.Frag) (mg:Str→Option Value) (a:Ad):Prop where
 l_numbers:Bn K mg "_law_numbers" s_l_numbers a.f_l_numbers a.d_l_numbers ["_law_script", "_law_many"]
 l_divisor:Bn K mg "_law_divisor" s_l_divisor a.f_l_divisor a.d_l_divisor ["_law_one", "_law_other"]
 l_fraction:Bn K mg "_law_fraction" s_l_fraction a.f_l_fraction a.d_l_fraction ["_law_number", "_law_way"]
 l_drawn:Bn K mg "_law_drawn" s_l_drawn a.f_l_drawn a.d_l_drawn ["_law_script"]
 below:Bn K mg "below" s_below a.f_below a.d_below ["one", "other"]
 divisor:Bn K mg "divisor" s_divisor a.f_divisor a.d_divisor ["one", "other"]
 cleared:Bn K mg "cleared" s_cleared a.f_cleared a.d_cleared ["row"]
 ratio:Bn K mg "ratio" s_ratio a.f_ratio a.d_ratio ["top", "bottom"]
 shared:Bn K mg "shared" s_shared a.f_shared a.d_shared ["row"]
 plain:Bn K mg "plain" s_plain a.f_plain a.d_plain ["row"]
 whole:Bn K mg "whole" s_whole a.f_whole a.d_whole ["row"]
 times:Bn K mg "times" s_times a.f_times a.d_times ["one", "other"]
 longest:Bn K mg "longest" s_longest a.f_longest a.d_longest ["row"]
 column_of:Bn K mg "column_of" s_column_of a.f_column_of a.d_column_of ["rows", "place"]
 span:Bn K mg "span" s_span a.f_span a.d_span ["column"]
 unit:Bn K mg "unit" s_unit a.f_unit a.d_unit ["many", "place"]
 Corner_init:BnM K (gadr K "Corner") "__init__" "Corner.__init__" s_Corner_init a.f_Corner_init a.d_Corner_init ["self", "lists"]
 bits_beyond:Bn K mg "bits_beyond" s_bits_beyond a.f_bits_beyond a.d_bits_beyond ["column", "longs"]
 stretched:Bn K mg "stretched" s_stretched a.f_stretched a.d_stretched ["number", "bits"]
 shortened:Bn K mg "shortened" s_shortened a.f_shortened a.d_shortened ["row", "bits", "wides"]
 rounded:Bn K mg "rounded" s_rounded a.f_rounded a.d_rounded ["lists", "bits"]
 products:Bn K mg "products" s_products a.f_products a.d_products ["one", "other"]
 Corner_entering:BnM K (gadr K "Corner") "entering" "Corner.entering" s_Corner_entering a.f_Corner_entering a.d_Corner_entering ["self"]
 Corner_numbers:BnM K (gadr K "Corner") "numbers" "Corner.numbers" s_Corner_numbers a.f_Corner_numbers a.d_Corner_numbers ["self", "column"]
 is_ahead:Bn K mg "is_ahead" s_is_ahead a.f_is_ahead a.d_is_ahead ["row", "other", "column", "listed"]
 leaving:Bn K mg "leaving" s_leaving a.f_leaving a.d_leaving ["rows", "column", "listed"]
 Corner_leaving_by:BnM K (gadr K "Corner") "leaving_by" "Corner.leaving_by" s_Corner_leaving_by a.f_Corner_leaving_by a.d_Corner_leaving_by ["self", "numbers"]
 Corner_bottom:BnM K (gadr K "Corner") "bottom" "Corner.bottom" s_Corner_bottom a.f_Corner_bottom a.d_Corner_bottom ["self"]
 Corner_step_in:BnM K (gadr K "Corner") "step_in" "Corner.step_in" s_Corner_step_in a.f_Corner_step_in a.d_Corner_step_in ["self", "column", "numbers", "at"]
 unstopped:Bn K mg "unstopped" s_unstopped a.f_unstopped a.d_unstopped ["corner"]
 turned_round:Bn K mg "turned_round" s_turned_round a.f_turned_round a.d_turned_round ["row"]
 Corner_comes_to:BnM K (gadr K "Corner") "comes_to" "Corner.comes_to" s_Corner_comes_to a.f_Corner_comes_to a.d_Corner_comes_to ["self", "inside"]
 Corner_ends_with:BnM K (gadr K "Corner") "ends_with" "Corner.ends_with" s_Corner_ends_with a.f_Corner_ends_with a.d_Corner_ends_with ["self", "column"]
 last_corner:Bn K mg "last_corner" s_last_corner a.f_last_corner a.d_last_corner ["lists"]
 over:Bn K mg "over" s_over a.f_over a.d_over ["one", "other"]
 Corner_spread:BnM K (gadr K "Corner") "spread" "Corner.spread" s_Corner_spread a.f_Corner_spread a.d_Corner_spread ["self", "numbers"]
 Corner_xs:BnM K (gadr K "Corner") "xs" "Corner.xs" s_Corner_xs a.f_Corner_xs a.d_Corner_xs ["self"]
 Corner_ways:BnM K (gadr K "Corner") "ways" "Corner.ways" s_Corner_ways a.f_Corner_ways a.d_Corner_ways ["self", "column"]
 Corner_ys:BnM K (gadr K "Corner") "ys" "Corner.ys" s_Corner_ys a.f_Corner_ys a.d_Corner_ys ["self"]
 best:Bn K mg "best" s_best a.f_best a.d_best ["rows", "bounds", "goal"]
 l_whole:Bn K mg "_law_whole" s_l_whole a.f_l_whole a.d_l_whole ["_law_found"]
 l_list:Bn K mg "_law_list" s_l_list a.f_l_list a.d_l_list ["_law_found", "_law_many"]
 l_at_most:Bn K mg "_law_at_most" s_l_at_most a.f_l_at_most a.d_l_at_most ["_law_one", "_law_other"]
 l_products:Bn K mg "_law_products" s_l_products a.f_l_products a.d_l_products ["_law_ones", "_law_others"]
 l_allowed:Bn K mg "_law_allowed" s_l_allowed a.f_l_allowed a.d_l_allowed ["_law_rows", "_law_bounds", "_law_xs"]
 l_right:Bn K mg "_law_right" s_l_right a.f_l_right a.d_l_right ["_law_found", "_law_rows", "_law_bounds", "_law_goal"]
 law:Bn K mg "law" s_law a.f_law a.d_law ["_law_script"]
 n_abs:mg "abs" = none
 n_bool:mg "bool" = none
 n_enumerate:mg "enumerate" = none
 n_int:mg "int" = none
 n_isinstance:mg "isinstance" = none
 n_len:mg "len" = none
 n_list:mg "list" = none
 n_max:mg "max" = none
 n_min:mg "min" = none
 n_range:mg "range" = none
 n_sum:mg "sum" = none
 n_tuple:mg "tuple" = none
 n_zip:mg "zip" = none
 c_Corner:mg "Corner" = some (.ref (gadr K "Corner"))
 mk_Corner:Mk K (gadr K "Corner") a.f_Corner_init
 ct:CorK K
 g_BITS:∃ t,mg "BITS" = some (.int 40 t)
section
variable {P:Program} {w:World} {K:W.Frag} {mg:Str→Option Value} {base:Heap} {a:Ad}
theorem sc_l_numbers:FnScope N_l_numbers ["_law_script", "_law_many"] (defScope s_l_numbers):=⟨rfl,rfl,rfl,by decide +kernel,rfl,by decide +kernel,by decide +kernel⟩
theorem ok_l_numbers (T:Tx K mg a):FnOk P w K mg base CX0 1 a.f_l_numbers a.d_l_numbers ["_law_script", "_law_many"] (sp_l_numbers K):=by
 refine T.l_numbers.F.ok sc_l_numbers (λ vs H Q E h=>len_l_numbers h) (λ cdv A outer s H vs Q E hr h=>⟨t_l_numbers K,(pss_cons (ps_setComp (i:=2) (FS:=defScope s_l_numbers) (N:=N_l_numbers) (x:="_law_k") (ys:=[]) (caps:=[]) ⟨by decide +kernel,rfl,by decide +kernel,rfl,by decide +kernel,rfl,by decide +kernel,rfl,by decide +kernel⟩ rfl rfl rfl sc_l_numbers.nd rfl (Or.inl rfl) (pi_range1 rfl T.n_range (pa_cons (pv 1) pa_nil)) (λ _ _ _ _=>pe_int)) (pss_cons (ps_for PassesOwn.never rfl (pi_range1 rfl T.n_range (pa_cons (pe_callB (call_max2 rfl) rfl T.n_max bt_max (pa_cons (pv 1) (pa_cons (pe_callB (call_min2 rfl) rfl T.n_min bt_min (pa_cons (pe_callB call_len_seq rfl T.n_len bt_len (pa_cons (pv 0) pa_nil)) (pa_cons pe_int pa_nil))) pa_nil))) pa_nil)) (pg_name (i:=3) sc_l_numbers.nd rfl (Or.inl rfl)) (pss_cons (ps_set (i:=4) sc_l_numbers.nd rfl (Or.inl rfl) pe_int) (pss_cons (ps_if (pt_cmpR op_gt (pe_callB call_len_seq rfl T.n_len bt_len (pa_cons (pv 0) pa_nil)) pe_int (nomark _)) (pss_one (ps_set (i:=4) sc_l_numbers.nd rfl (Or.inl rfl) (pe_op op_mod (pe_ix ix_list (pv 0) (pe_op op_mod (pv 3) (pe_callB (call_min2 rfl) rfl T.n_min bt_min (pa_cons (pe_callB call_len_seq rfl T.n_len bt_len (pa_cons (pv 0) pa_nil)) (pa_cons pe_int pa_nil)))) (λ _ _=>rfl)) (pe_op op_add (pe_op op_pow pe_int pe_int) pe_int)))) pss_nil) (pss_cons (ps_set (i:=5) sc_l_numbers.nd rfl (Or.inl rfl) (pe_op op_mod (pv 3) (pv 1))) (pss_one (ps_asg (pe_op op_mod (pe_op op_add (pe_op op_add (pe_op op_mulB (pe_ix ix_list (pv 2) (pv 5) (λ _ _=>rfl)) pe_int) (pv 4)) (pe_op op_mulB (pv 3) (pv 3))) (pe_op op_add (pe_op op_pow pe_int pe_int) pe_int)) (pg_sub (pv 2) (pv 5) set_list))))))) (pss_one (ps_ret (pv 2))))),rd_l_numbers h⟩)
theorem sc_l_divisor:FnScope N_l_divisor ["_law_one", "_law_other"] (defScope s_l_divisor):=⟨rfl,rfl,rfl,by decide +kernel,rfl,by decide +kernel,by decide +kernel⟩
theorem ok_l_divisor (T:Tx K mg a):FnOk P w K mg base CX0 1 a.f_l_divisor a.d_l_divisor ["_law_one", "_law_other"] (sp_l_divisor K):=by
 refine T.l_divisor.F.ok sc_l_divisor (λ vs H Q E h=>len_l_divisor h) (λ cdv A outer s H vs Q E hr h=>⟨t_l_divisor K,(pss_cons (ps_set (i:=0) sc_l_divisor.nd rfl (Or.inl rfl) (pe_callB call_abs rfl T.n_abs bt_abs (pa_cons (pv 0) pa_nil))) (pss_cons (ps_set (i:=1) sc_l_divisor.nd rfl (Or.inl rfl) (pe_callB call_abs rfl T.n_abs bt_abs (pa_cons (pv 1) pa_nil))) (pss_cons (ps_while PassesOwn.never (pt_cmpR op_gt (pv 1) pe_int (nomark _)) (pss_one (ps_par (i:=0) (j:=1) rfl sc_l_divisor.nd rfl rfl (by decide) rfl rfl (pa_cons (pv 1) (pa_cons (pe_op op_mod (pv 0) (pv 1)) pa_nil)) rfl))) (pss_one (ps_ret (pv 0)))))),rd_l_divisor h⟩)
theorem sc_l_fraction:FnScope N_l_fraction ["_law_number", "_law_way"] (defScope s_l_fraction):=⟨rfl,rfl,rfl,by decide +kernel,rfl,by decide +kernel,by decide +kernel⟩
theorem ok_l_fraction (T:Tx K mg a):FnOk P w K mg base CX0 2 a.f_l_fraction a.d_l_fraction ["_law_number", "_law_way"] (sp_l_fraction K):=by
 refine T.l_fraction.F.ok sc_l_fraction (λ vs H Q E h=>len_l_fraction h) (λ cdv A outer s H vs Q E hr h=>⟨t_l_fraction K,(pss_cons (ps_if (PW.pt (pw_or (pt_cmpR op_eq (pv 1) pe_int (nomark _)) (pw_or1 (pt_cmpR op_eq (pv 1) pe_int (nomark _))))) (pss_one (ps_ret (pe_tup (pa_cons (pe_op op_sub (pe_op op_mod (pe_op op_mod (pe_op op_mulB (pv 0) pe_int) pe_int) pe_int) pe_int) (pa_cons pe_int pa_nil))))) pss_nil) (pss_cons (ps_set (i:=2) sc_l_fraction.nd rfl (Or.inl rfl) (pe_op op_sub (pe_op op_mod (pv 0) (pe_op op_add (pe_op op_mulB pe_int (pe_op op_pow pe_int pe_int)) pe_int)) (pe_op op_pow pe_int pe_int))) (pss_cons (ps_if (pt_cmpR op_eq (pv 1) pe_int (nomark _)) (pss_one (ps_set (i:=2) sc_l_fraction.nd rfl (Or.inl rfl) (pe_op op_sub (pe_op op_mod (pe_op op_mulB (pv 0) pe_int) (pe_op op_add (pe_op op_mulB pe_int (pe_op op_pow pe_int pe_int)) pe_int)) (pe_op op_pow pe_int pe_int)))) pss_nil) (pss_cons (ps_set (i:=3) sc_l_fraction.nd rfl (Or.inl rfl) (pe_op op_add pe_int (pe_op op_mod (pe_op op_mod (pe_op op_mulB (pv 0) pe_int) pe_int) (pe_ix ix_list (pe_lst (pa_cons pe_int (pa_cons pe_int pa_nil))) (pe_op op_mod (pe_op op_fdiv (pv 0) pe_int) pe_int) (λ _ _=>rfl))))) (pss_cons (ps_set (i:=4) sc_l_fraction.nd rfl (Or.inl rfl) (pe_call (ok_l_divisor T) (hr.mono (by decide)) rfl T.l_divisor.m T.l_divisor.F.kp T.l_divisor.b .nil pass0 (pa_cons (pv 2) (pa_cons (pv 3) pa_nil)))) (pss_one (ps_ret (pe_tup (pa_cons (pe_op op_fdivB (pv 2) (pv 4)) (pa_cons (pe_op op_fdivB (pv 3) (pv 4)) pa_nil)))))))))),rd_l_fraction h⟩)
theorem sc_l_drawn:FnScope N_l_drawn ["_law_script"] (defScope s_l_drawn):=⟨rfl,rfl,rfl,by decide +kernel,rfl,by decide +kernel,by decide +kernel⟩
theorem ok_l_drawn (T:Tx K mg a):FnOk P w K mg base CX0 3 a.f_l_drawn a.d_l_drawn ["_law_script"] (sp_l_drawn K):=by
 refine T.l_drawn.F.ok sc_l_drawn (λ vs H Q E h=>len_l_drawn h) (λ cdv A outer s H vs Q E hr h=>⟨t_l_drawn K,(pss_cons (ps_set (i:=1) sc_l_drawn.nd rfl (Or.inr rfl) (pe_call (ok_l_numbers T) (hr.mono (by decide)) rfl T.l_numbers.m T.l_numbers.F.kp T.l_numbers.b .nil pass0 (pa_cons (pv 0) (pa_cons pe_int pa_nil)))) (pss_cons (ps_set (i:=2) sc_l_drawn.nd rfl (Or.inr rfl) (pe_op op_mod (pe_ix ix_list (pv 1) pe_int (λ _ _=>rfl)) pe_int)) (pss_cons (ps_set (i:=3) sc_l_drawn.nd rfl (Or.inl rfl) (pe_ix ix_list (pe_lst (pa_cons pe_int (pa_cons pe_int (pa_cons pe_int (pa_cons pe_int pa_nil))))) (pv 2) (λ _ _=>rfl))) (pss_cons (ps_set (i:=4) sc_l_drawn.nd rfl (Or.inl rfl) (pe_op op_add pe_int (pe_op op_mod (pe_ix ix_list (pv 1) pe_int (λ _ _=>rfl)) (pv 3)))) (pss_cons (ps_set (i:=5) sc_l_drawn.nd rfl (Or.inl rfl) (pe_op op_add pe_int (pe_op op_mod (pe_ix ix_list (pv 1) pe_int (λ _ _=>rfl)) (pv 3)))) (pss_cons (ps_if (pt_cmpR op_eq (pe_op op_mod (pe_ix ix_list (pv 1) pe_int (λ _ _=>rfl)) pe_int) pe_int (nomark _)) (pss_one (ps_asg (pe_tup (pa_cons pe_int (pa_cons (pe_op op_add pe_int (pe_op op_mod (pe_ix ix_list (pv 1) pe_int (λ _ _=>rfl)) pe_int)) (pa_cons (pe_op op_mod (pv 2) pe_int) pa_nil)))) (pg_tup (n:=3) rfl (pgs_cons (pg_name (i:=4) sc_l_drawn.nd rfl (Or.inl rfl)) (pgs_cons (pg_name (i:=5) sc_l_drawn.nd rfl (Or.inl rfl)) (pgs_cons (pg_name (i:=2) sc_l_drawn.nd rfl (Or.inr rfl)) pgs_nil)))))) pss_nil) (pss_cons (ps_if (pt_cmpR op_eq (pe_op op_mod (pe_ix ix_list (pv 1) pe_int (λ _ _=>rfl)) pe_int) pe_int (nomark _)) (pss_one (ps_asg (pe_tup (pa_cons (pe_op op_add pe_int (pe_op op_mod (pe_ix ix_list (pv 1) pe_int (λ _ _=>rfl)) pe_int)) (pa_cons pe_int (pa_cons (pe_op op_mod (pv 2) pe_int) pa_nil)))) (pg_tup (n:=3) rfl (pgs_cons (pg_name (i:=4) sc_l_drawn.nd rfl (Or.inl rfl)) (pgs_cons (pg_name (i:=5) sc_l_drawn.nd rfl (Or.inl rfl)) (pgs_cons (pg_name (i:=2) sc_l_drawn.nd rfl (Or.inr rfl)) pgs_nil)))))) pss_nil) (pss_cons (ps_if (pt_cmpR op_eq (pe_op op_mod (pe_ix ix_list (pv 1) pe_int (λ _ _=>rfl)) pe_int) pe_int (nomark _)) (pss_one (ps_asg (pe_tup (pa_cons (pe_op op_add pe_int (pe_op op_mod (pe_ix ix_list (pv 1) pe_int (λ _ _=>rfl)) pe_int)) (pa_cons (pe_op op_add pe_int (pe_op op_mod (pe_ix ix_list (pv 1) pe_int (λ _ _=>rfl)) pe_int)) (pa_cons (pe_op op_mod (pv 2) pe_int) pa_nil)))) (pg_tup (n:=3) rfl (pgs_cons (pg_name (i:=4) sc_l_drawn.nd rfl (Or.inl rfl)) (pgs_cons (pg_name (i:=5) sc_l_drawn.nd rfl (Or.inl rfl)) (pgs_cons (pg_name (i:=2) sc_l_drawn.nd rfl (Or.inr rfl)) pgs_nil)))))) pss_nil) (pss_cons (ps_set (i:=6) sc_l_drawn.nd rfl (Or.inl rfl) (pe_lst pa_nil)) (pss_cons (ps_for PassesOwn.never rfl (pi_range1 rfl T.n_range (pa_cons (pv 4) pa_nil)) (pg_name (i:=7) sc_l_drawn.nd rfl (Or.inr rfl)) (pss_cons (ps_set (i:=8) sc_l_drawn.nd rfl (Or.inr rfl) (pe_op op_add pe_int (pe_op op_mulB (pe_op op_fdiv (pv 7) pe_int) pe_int))) (pss_one (ps_expr (pe_bm PySem.F.plainAttrs_list PySem.F.slot_list_append PySem.F.type_list_append mt_append (pv 6) (pa_cons (pe_comp (FS:=defScope s_l_drawn) (N:=N_l_drawn) (x:="_law_j") (ys:=["_law_way", "_law_head", "_law_by", "_law_k"]) (caps:=[2,1,8,7]) ⟨by decide +kernel,rfl,by decide +kernel,rfl,by decide +kernel,rfl,by decide +kernel,rfl,by decide +kernel⟩ rfl rfl rfl (pi_range1 rfl T.n_range (pa_cons (pv 5) pa_nil)) (λ _ _ _ _=>(pe_call (ok_l_fraction T) (hr.mono (by decide)) rfl T.l_fraction.m T.l_fraction.F.kp T.l_fraction.b .nil pass0 (pa_cons (pe_op op_mulB (pe_ix ix_list (pv 2) (pe_op op_add pe_int (pe_op op_mod (pe_op op_add (pe_op op_mulB pe_int (pv 4)) (pv 0)) pe_int)) (λ _ _=>rfl)) (pe_op op_add (pv 3) (pe_op op_mulB (pe_op op_fdiv (pv 0) pe_int) pe_int))) (pa_cons (pv 1) pa_nil))))) pa_nil)))))) (pss_cons (ps_if (PW.pt (pw_and (pt_cmpR op_eq (pe_op op_mod (pe_ix ix_list (pv 1) pe_int (λ _ _=>rfl)) pe_int) pe_int (nomark _)) (pw_and1 (pt_cmpR op_gt (pv 4) pe_int (nomark _))))) (pss_one (ps_asg (pe_callTy call_list_of rfl T.n_list bt_list (pa_cons (pe_ix ix_list (pv 6) pe_int (λ _ _=>rfl)) pa_nil)) (pg_sub (pv 6) pe_int set_list))) pss_nil) (pss_cons (ps_if (pt_cmpR op_eq (pe_op op_mod (pe_ix ix_list (pv 1) pe_int (λ _ _=>rfl)) pe_int) pe_int (nomark _)) (pss_one (ps_asg (pe_comp (FS:=defScope s_l_drawn) (N:=N_l_drawn) (x:="_law_j") (ys:=[]) (caps:=[]) ⟨by decide +kernel,rfl,by decide +kernel,rfl,by decide +kernel,rfl,by decide +kernel,rfl,by decide +kernel⟩ rfl rfl rfl (pi_range1 rfl T.n_range (pa_cons (pv 5) pa_nil)) (λ _ _ _ _=>(pe_tup (pa_cons pe_int (pa_cons pe_int pa_nil))))) (pg_sub (pv 6) pe_int set_list))) pss_nil) (pss_cons (ps_set (i:=9) sc_l_drawn.nd rfl (Or.inl rfl) (pe_lst pa_nil)) (pss_cons (ps_for PassesOwn.never rfl (pi_range1 rfl T.n_range (pa_cons (pv 4) pa_nil)) (pg_name (i:=7) sc_l_drawn.nd rfl (Or.inr rfl)) (pss_cons (ps_set (i:=10) sc_l_drawn.nd rfl (Or.inl rfl) (pe_op op_mulB (pe_ix ix_list (pv 1) (pe_op op_add pe_int (pe_op op_mod (pv 7) pe_int)) (λ _ _=>rfl)) (pe_op op_add pe_int (pe_op op_mulB (pe_op op_fdiv (pv 7) pe_int) pe_int)))) (pss_cons (ps_asg (pe_call (ok_l_fraction T) (hr.mono (by decide)) rfl T.l_fraction.m T.l_fraction.F.kp T.l_fraction.b .nil pass0 (pa_cons (pv 10) (pa_cons (pv 2) pa_nil))) (pg_tup (n:=2) rfl (pgs_cons (pg_name (i:=11) sc_l_drawn.nd rfl (Or.inl rfl)) (pgs_cons (pg_name (i:=12) sc_l_drawn.nd rfl (Or.inl rfl)) pgs_nil)))) (pss_cons (ps_if (PW.pt (pw_or (pt_cmpR op_eq (pe_op op_mod (pe_ix ix_list (pv 1) pe_int (λ _ _=>rfl)) pe_int) pe_int (nomark _)) (pw_or1 (PW.pt (pw_and (pt_cmpR op_eq (pe_op op_mod (pe_ix ix_list (pv 1) pe_int (λ _ _=>rfl)) pe_int) pe_int (nomark _)) (pw_and1 (pt_cmpR op_eq (pe_op op_mod (pe_op op_fdiv (pv 10) pe_int) pe_int) pe_int (nomark _)))))))) (pss_one (ps_asg (pe_tup (pa_cons pe_int (pa_cons pe_int pa_nil))) (pg_tup (n:=2) rfl (pgs_cons (pg_name (i:=11) sc_l_drawn.nd rfl (Or.inl rfl)) (pgs_cons (pg_name (i:=12) sc_l_drawn.nd rfl (Or.inl rfl)) pgs_nil))))) pss_nil) (pss_one (ps_expr (pe_bm PySem.F.plainAttrs_list PySem.F.slot_list_append PySem.F.type_list_append mt_append (pv 9) (pa_cons (pe_tup (pa_cons (pe_callB call_abs rfl T.n_abs bt_abs (pa_cons (pv 11) pa_nil)) (pa_cons (pv 12) pa_nil))) pa_nil)))))))) (pss_cons (ps_setComp (i:=13) (FS:=defScope s_l_drawn) (N:=N_l_drawn) (x:="_law_j") (ys:=["_law_way", "_law_head"]) (caps:=[2,1]) ⟨by decide +kernel,rfl,by decide +kernel,rfl,by decide +kernel,rfl,by decide +kernel,rfl,by decide +kernel⟩ rfl rfl rfl sc_l_drawn.nd rfl (Or.inl rfl) (pi_range1 rfl T.n_range (pa_cons (pv 5) pa_nil)) (λ _ _ _ _=>(pe_call (ok_l_fraction T) (hr.mono (by decide)) rfl T.l_fraction.m T.l_fraction.F.kp T.l_fraction.b .nil pass0 (pa_cons (pe_op op_mulB (pe_ix ix_list (pv 2) (pe_op op_add pe_int (pe_op op_mod (pv 0) pe_int)) (λ _ _=>rfl)) (pe_op op_add pe_int (pe_op op_mulB (pe_op op_fdiv (pv 0) pe_int) pe_int))) (pa_cons (pv 1) pa_nil))))) (pss_one (ps_ret (pe_tup (pa_cons (pv 6) (pa_cons (pv 9) (pa_cons (pv 13) pa_nil))))))))))))))))))))),rd_l_drawn h⟩)
theorem sc_below:FnScope N_below ["one", "other"] (defScope s_below):=⟨rfl,rfl,rfl,by decide +kernel,rfl,by decide +kernel,by decide +kernel⟩
theorem ok_below (T:Tx K mg a):FnOk P w K mg base CX0 1 a.f_below a.d_below ["one", "other"] (sp_below K):=by
 refine T.below.F.ok sc_below (λ vs H Q E h=>len_below h) (λ cdv A outer s H vs Q E hr h=>⟨t_below K,(pss_one (ps_ret (pe_cmpR op_lt (pe_op op_mulB (pe_ix ix_tup (pv 0) pe_int (λ _ _=>rfl)) (pe_ix ix_tup (pv 1) pe_int (λ _ _=>rfl))) (pe_op op_mulB (pe_ix ix_tup (pv 1) pe_int (λ _ _=>rfl)) (pe_ix ix_tup (pv 0) pe_int (λ _ _=>rfl))) (nomark _)))),rd_below h⟩)
theorem sc_divisor:FnScope N_divisor ["one", "other"] (defScope s_divisor):=⟨rfl,rfl,rfl,by decide +kernel,rfl,by decide +kernel,by decide +kernel⟩
theorem ok_divisor (T:Tx K mg a):FnOk P w K mg base CX0 1 a.f_divisor a.d_divisor ["one", "other"] (sp_divisor K):=by
 refine T.divisor.F.ok sc_divisor (λ vs H Q E h=>len_divisor h) (λ cdv A outer s H vs Q E hr h=>⟨t_divisor K,(pss_cons (ps_set (i:=2) sc_divisor.nd rfl (Or.inl rfl) (pe_callB call_abs rfl T.n_abs bt_abs (pa_cons (pv 0) pa_nil))) (pss_cons (ps_set (i:=3) sc_divisor.nd rfl (Or.inl rfl) (pe_callB call_abs rfl T.n_abs bt_abs (pa_cons (pv 1) pa_nil))) (pss_cons (ps_while PassesOwn.never (pt_cmpR op_ne (pv 3) pe_int (nomark _)) (pss_cons (ps_set (i:=4) sc_divisor.nd rfl (Or.inl rfl) (pe_op op_mod (pv 2) (pv 3))) (pss_cons (ps_set (i:=2) sc_divisor.nd rfl (Or.inl rfl) (pv 3)) (pss_one (ps_set (i:=3) sc_divisor.nd rfl (Or.inl rfl) (pv 4)))))) (pss_one (ps_ret (pv 2)))))),rd_divisor h⟩)
theorem sc_cleared:FnScope N_cleared ["row"] (defScope s_cleared):=⟨rfl,rfl,rfl,by decide +kernel,rfl,by decide +kernel,by decide +kernel⟩
theorem ok_cleared (T:Tx K mg a):FnOk P w K mg base CX0 2 a.f_cleared a.d_cleared ["row"] (sp_cleared K):=by
 refine T.cleared.F.ok sc_cleared (λ vs H Q E h=>len_cleared h) (λ cdv A outer s H vs Q E hr h=>⟨t_cleared K,(pss_cons (ps_set (i:=1) sc_cleared.nd rfl (Or.inr rfl) pe_int) (pss_cons (ps_for PassesOwn.never rfl (pi_list (pv 0)) (pg_name (i:=2) sc_cleared.nd rfl (Or.inl rfl)) (pss_one (ps_set (i:=1) sc_cleared.nd rfl (Or.inr rfl) (pe_op op_mulB (pv 1) (pe_op op_fdivB (pe_ix ix_tup (pv 2) pe_int (λ _ _=>rfl)) (pe_call (ok_divisor T) (hr.mono (by decide)) rfl T.divisor.m T.divisor.F.kp T.divisor.b .nil pass0 (pa_cons (pv 1) (pa_cons (pe_ix ix_tup (pv 2) pe_int (λ _ _=>rfl)) pa_nil)))))))) (pss_one (ps_ret (pe_tup (pa_cons (pv 1) (pa_cons (pe_comp (FS:=defScope s_cleared) (N:=N_cleared) (x:="fraction") (ys:=["number"]) (caps:=[1]) ⟨by decide +kernel,rfl,by decide +kernel,rfl,by decide +kernel,rfl,by decide +kernel,rfl,by decide +kernel⟩ rfl rfl rfl (pi_list (pv 0)) (λ _ _ _ _=>(pe_op op_mulB (pe_ix ix_tup (pv 0) pe_int (λ _ _=>rfl)) (pe_op op_fdivB (pv 1) (pe_ix ix_tup (pv 0) pe_int (λ _ _=>rfl)))))) pa_nil))))))),rd_cleared h⟩)
theorem sc_ratio:FnScope N_ratio ["top", "bottom"] (defScope s_ratio):=⟨rfl,rfl,rfl,by decide +kernel,rfl,by decide +kernel,by decide +kernel⟩
theorem ok_ratio (T:Tx K mg a):FnOk P w K mg base CX0 2 a.f_ratio a.d_ratio ["top", "bottom"] (sp_ratio K):=by
 refine T.ratio.F.ok sc_ratio (λ vs H Q E h=>len_ratio h) (λ cdv A outer s H vs Q E hr h=>⟨t_ratio K,(pss_cons (ps_if (pt_cmpR op_eq (pv 1) pe_int (nomark _)) (pss_one ps_never) pss_nil) (pss_cons (ps_set (i:=2) sc_ratio.nd rfl (Or.inl rfl) (pe_call (ok_divisor T) (hr.mono (by decide)) rfl T.divisor.m T.divisor.F.kp T.divisor.b .nil pass0 (pa_cons (pv 0) (pa_cons (pv 1) pa_nil)))) (pss_cons (ps_if (pt_cmpR op_lt (pv 1) pe_int (nomark _)) (pss_one (ps_set (i:=2) sc_ratio.nd rfl (Or.inl rfl) (pe_un un_neg (pv 2)))) pss_nil) (pss_one (ps_ret (pe_tup (pa_cons (pe_op op_fdivB (pv 0) (pv 2)) (pa_cons (pe_op op_fdivB (pv 1) (pv 2)) pa_nil)))))))),rd_ratio h⟩)
theorem sc_shared:FnScope N_shared ["row"] (defScope s_shared):=⟨rfl,rfl,rfl,by decide +kernel,rfl,by decide +kernel,by decide +kernel⟩
theorem ok_shared (T:Tx K mg a):FnOk P w K mg base CX0 2 a.f_shared a.d_shared ["row"] (sp_shared K):=by
 refine T.shared.F.ok sc_shared (λ vs H Q E h=>len_shared h) (λ cdv A outer s H vs Q E hr h=>⟨t_shared K,(pss_cons (ps_set (i:=1) sc_shared.nd rfl (Or.inl rfl) pe_int) (pss_cons (ps_for PassesOwn.never rfl (pi_list (pv 0)) (pg_name (i:=2) sc_shared.nd rfl (Or.inl rfl)) (pss_cons (ps_set (i:=1) sc_shared.nd rfl (Or.inl rfl) (pe_call (ok_divisor T) (hr.mono (by decide)) rfl T.divisor.m T.divisor.F.kp T.divisor.b .nil pass0 (pa_cons (pv 1) (pa_cons (pv 2) pa_nil)))) (pss_one (ps_if (pt_cmpR op_eq (pv 1) pe_int (nomark _)) (pss_one (ps_ret (pv 1))) pss_nil)))) (pss_one (ps_ret (pv 1))))),rd_shared h⟩)
theorem sc_plain:FnScope N_plain ["row"] (defScope s_plain):=⟨rfl,rfl,rfl,by decide +kernel,rfl,by decide +kernel,by decide +kernel⟩
theorem ok_plain (T:Tx K mg a):FnOk P w K mg base CX0 3 a.f_plain a.d_plain ["row"] (sp_plain K):=by
 refine T.plain.F.ok sc_plain (λ vs H Q E h=>len_plain h) (λ cdv A outer s H vs Q E hr h=>⟨t_plain K,(pss_cons (ps_set (i:=1) sc_plain.nd rfl (Or.inr rfl) (pe_call (ok_shared T) (hr.mono (by decide)) rfl T.shared.m T.shared.F.kp T.shared.b .nil pass0 (pa_cons (pv 0) pa_nil))) (pss_cons (ps_if (pt_cmpR op_lt (pv 1) pe_int (nomark _)) (pss_one (ps_ret (pe_callTy call_list_of rfl T.n_list bt_list (pa_cons (pv 0) pa_nil)))) pss_nil) (pss_one (ps_ret (pe_comp (FS:=defScope s_plain) (N:=N_plain) (x:="number") (ys:=["common"]) (caps:=[1]) ⟨by decide +kernel,rfl,by decide +kernel,rfl,by decide +kernel,rfl,by decide +kernel,rfl,by decide +kernel⟩ rfl rfl rfl (pi_list (pv 0)) (λ _ _ _ _=>(pe_op op_fdivB (pv 0) (pv 1)))))))),rd_plain h⟩)
theorem sc_whole:FnScope N_whole ["row"] (defScope s_whole):=⟨rfl,rfl,rfl,by decide +kernel,rfl,by decide +kernel,by decide +kernel⟩
theorem ok_whole (T:Tx K mg a):FnOk P w K mg base CX0 4 a.f_whole a.d_whole ["row"] (sp_whole K):=by
 refine T.whole.F.ok sc_whole (λ vs H Q E h=>len_whole h) (λ cdv A outer s H vs Q E hr h=>⟨t_whole K,(pss_cons (ps_set (i:=1) sc_whole.nd rfl (Or.inl rfl) (pe_call (ok_cleared T) (hr.mono (by decide)) rfl T.cleared.m T.cleared.F.kp T.cleared.b .nil pass0 (pa_cons (pv 0) pa_nil))) (pss_one (ps_ret (pe_tup (pa_cons (pe_call (ok_ratio T) (hr.mono (by decide)) rfl T.ratio.m T.ratio.F.kp T.ratio.b .nil pass0 (pa_cons (pe_ix ix_tup (pv 1) pe_int (λ _ _=>rfl)) (pa_cons (pe_callB (call_max2 rfl) rfl T.n_max bt_max (pa_cons (pe_call (ok_shared T) (hr.mono (by decide)) rfl T.shared.m T.shared.F.kp T.shared.b .nil pass0 (pa_cons (pe_ix ix_tup (pv 1) pe_int (λ _ _=>rfl)) pa_nil)) (pa_cons pe_int pa_nil))) pa_nil))) (pa_cons (pe_call (ok_plain T) (hr.mono (by decide)) rfl T.plain.m T.plain.F.kp T.plain.b .nil pass0 (pa_cons (pe_ix ix_tup (pv 1) pe_int (λ _ _=>rfl)) pa_nil)) pa_nil)))))),rd_whole h⟩)
theorem sc_times:FnScope N_times ["one", "other"] (defScope s_times):=⟨rfl,rfl,rfl,by decide +kernel,rfl,by decide +kernel,by decide +kernel⟩
theorem ok_times (T:Tx K mg a):FnOk P w K mg base CX0 3 a.f_times a.d_times ["one", "other"] (sp_times K):=by
 refine T.times.F.ok sc_times (λ vs H Q E h=>len_times h) (λ cdv A outer s H vs Q E hr h=>⟨t_times K,(pss_one (ps_ret (pe_call (ok_ratio T) (hr.mono (by decide)) rfl T.ratio.m T.ratio.F.kp T.ratio.b .nil pass0 (pa_cons (pe_op op_mulB (pe_ix ix_tup (pv 0) pe_int (λ _ _=>rfl)) (pe_ix ix_tup (pv 1) pe_int (λ _ _=>rfl))) (pa_cons (pe_op op_mulB (pe_ix ix_tup (pv 0) pe_int (λ _ _=>rfl)) (pe_ix ix_tup (pv 1) pe_int (λ _ _=>rfl))) pa_nil))))),rd_times h⟩)
theorem sc_longest:FnScope N_longest ["row"] (defScope s_longest):=⟨rfl,rfl,rfl,by decide +kernel,rfl,by decide +kernel,by decide +kernel⟩
theorem ok_longest (T:Tx K mg a):FnOk P w K mg base CX0 1 a.f_longest a.d_longest ["row"] (sp_longest K):=by
 refine T.longest.F.ok sc_longest (λ vs H Q E h=>len_longest h) (λ cdv A outer s H vs Q E hr h=>⟨t_longest K,(pss_one (ps_ret (pe_callB (call_maxL rfl) rfl T.n_max bt_max (pa_cons (pe_comp (FS:=defScope s_longest) (N:=N_longest) (x:="number") (ys:=[]) (caps:=[]) ⟨by decide +kernel,rfl,by decide +kernel,rfl,by decide +kernel,rfl,by decide +kernel,rfl,by decide +kernel⟩ rfl rfl rfl (pi_list (pv 0)) (λ _ _ _ _=>(pe_bm0 PySem.F.plainAttrs_int PySem.F.slot_int_bit_length PySem.F.type_int_bit_length mt_bits (pv 0)))) pa_nil)))),rd_longest h⟩)
theorem sc_column_of:FnScope N_column_of ["rows", "place"] (defScope s_column_of):=⟨rfl,rfl,rfl,by decide +kernel,rfl,by decide +kernel,by decide +kernel⟩
theorem ok_column_of (T:Tx K mg a):FnOk P w K mg base CX0 1 a.f_column_of a.d_column_of ["rows", "place"] (sp_column_of K):=by
 refine T.column_of.F.ok sc_column_of (λ vs H Q E h=>len_column_of h) (λ cdv A outer s H vs Q E hr h=>⟨t_column_of K,(pss_one (ps_ret (pe_comp (FS:=defScope s_column_of) (N:=N_column_of) (x:="row") (ys:=["place"]) (caps:=[1]) ⟨by decide +kernel,rfl,by decide +kernel,rfl,by decide +kernel,rfl,by decide +kernel,rfl,by decide +kernel⟩ rfl rfl rfl (pi_list (pv 0)) (λ _ _ _ _=>(pe_ix ix_list (pv 0) (pv 1) (λ _ _=>rfl)))))),rd_column_of h⟩)
theorem sc_span:FnScope N_span ["column"] (defScope s_span):=⟨rfl,rfl,rfl,by decide +kernel,rfl,by decide +kernel,by decide +kernel⟩
theorem ok_span (T:Tx K mg a):FnOk P w K mg base CX0 1 a.f_span a.d_span ["column"] (sp_span K):=by
 refine T.span.F.ok sc_span (λ vs H Q E h=>len_span h) (λ cdv A outer s H vs Q E hr h=>⟨t_span K,(pss_one (ps_ret (pe_op op_add pe_int (pe_callB (call_sumL rfl) rfl T.n_sum bt_sum (pa_cons (pe_comp (FS:=defScope s_span) (N:=N_span) (x:="number") (ys:=[]) (caps:=[]) ⟨by decide +kernel,rfl,by decide +kernel,rfl,by decide +kernel,rfl,by decide +kernel,rfl,by decide +kernel⟩ rfl rfl rfl (pi_list (pv 0)) (λ _ _ _ _=>(pe_callB call_abs rfl T.n_abs bt_abs (pa_cons (pv 0) pa_nil)))) pa_nil))))),rd_span h⟩)
theorem sc_unit:FnScope N_unit ["many", "place"] (defScope s_unit):=⟨rfl,rfl,rfl,by decide +kernel,rfl,by decide +kernel,by decide +kernel⟩
theorem ok_unit (T:Tx K mg a):FnOk P w K mg base CX0 1 a.f_unit a.d_unit ["many", "place"] (sp_unit K):=by
 refine T.unit.F.ok sc_unit (λ vs H Q E h=>len_unit h) (λ cdv A outer s H vs Q E hr h=>⟨t_unit K,(pss_one (ps_ret (pe_comp (FS:=defScope s_unit) (N:=N_unit) (x:="other") (ys:=["place"]) (caps:=[1]) ⟨by decide +kernel,rfl,by decide +kernel,rfl,by decide +kernel,rfl,by decide +kernel,rfl,by decide +kernel⟩ rfl rfl rfl (pi_range1 rfl T.n_range (pa_cons (pv 0) pa_nil)) (λ _ _ _ _=>(pe_ifExp (pt_cmpR op_eq (pv 0) (pv 1) (nomark _)) pe_int pe_int))))),rd_unit h⟩)
theorem sc_Corner_init:FnScope N_Corner_init ["self", "lists"] (defScope s_Corner_init):=⟨rfl,rfl,rfl,by decide +kernel,rfl,by decide +kernel,by decide +kernel⟩
theorem ok_Corner_init (T:Tx K mg a):FnOk P w K mg base CX0 2 a.f_Corner_init a.d_Corner_init ["self", "lists"] (sp_Corner_init K):=by
 refine T.Corner_init.F.ok sc_Corner_init (λ vs H Q E h=>len_Corner_init h) (λ cdv A outer s H vs Q E hr h=>⟨t_Corner_init K,(pss_cons (ps_fld (pv 0) (pe_comp (FS:=defScope s_Corner_init) (N:=N_Corner_init) (x:="place") (ys:=["lists"]) (caps:=[1]) ⟨by decide +kernel,rfl,by decide +kernel,rfl,by decide +kernel,rfl,by decide +kernel,rfl,by decide +kernel⟩ rfl rfl rfl (pi_range1 rfl T.n_range (pa_cons (pe_op op_sub (pe_callB call_len_seq rfl T.n_len bt_len (pa_cons (pe_ix ix_list (pv 1) pe_int (λ _ _=>rfl)) pa_nil)) pe_int) pa_nil)) (λ _ _ _ _=>(pe_call (ok_column_of T) (hr.mono (by decide)) rfl T.column_of.m T.column_of.F.kp T.column_of.b .nil pass0 (pa_cons (pv 1) (pa_cons (pv 0) pa_nil))))) rfl) (pss_cons (ps_fld (pv 0) (pe_op op_cat (pe_comp (FS:=defScope s_Corner_init) (N:=N_Corner_init) (x:="column") (ys:=[]) (caps:=[]) ⟨by decide +kernel,rfl,by decide +kernel,rfl,by decide +kernel,rfl,by decide +kernel,rfl,by decide +kernel⟩ rfl rfl rfl (pi_list (pe_fld (pv 0) rfl)) (λ _ _ _ _=>(pe_call (ok_span T) (hr.mono (by decide)) rfl T.span.m T.span.F.kp T.span.b .nil pass0 (pa_cons (pe_slice sl_list (pv 0) po_none (po_some (pe_un un_neg pe_int))) pa_nil)))) (pe_comp (FS:=defScope s_Corner_init) (N:=N_Corner_init) (x:="row") (ys:=[]) (caps:=[]) ⟨by decide +kernel,rfl,by decide +kernel,rfl,by decide +kernel,rfl,by decide +kernel,rfl,by decide +kernel⟩ rfl rfl rfl (pi_list (pe_slice sl_list (pv 1) po_none (po_some (pe_un un_neg pe_int)))) (λ _ _ _ _=>(pe_call (ok_span T) (hr.mono (by decide)) rfl T.span.m T.span.F.kp T.span.b .nil pass0 (pa_cons (pe_lst (pa_cons pe_int pa_nil)) pa_nil))))) rfl) (pss_cons (ps_fld (pv 0) (pe_compG (FS:=defScope s_Corner_init) (N:=N_Corner_init) (xs:=["place", "row"]) (ys:=["lists"]) (caps:=[1]) ⟨by decide +kernel,rfl,by decide +kernel,by decide +kernel,rfl,by decide +kernel,rfl⟩ rfl rfl rfl (pi_enum rfl T.n_enumerate (pv 1)) (λ _ _ _ _=>pg_tup (n:=2) rfl (pgs_cons (pgc_name (i:=0) (by decide +kernel) rfl (by decide +kernel)) (pgs_cons (pgc_name (i:=1) (by decide +kernel) rfl (by decide +kernel)) pgs_nil))) (λ _ _ _ _=>(pe_op op_cat (pe_call (ok_unit T) (hr.mono (by decide)) rfl T.unit.m T.unit.F.kp T.unit.b .nil pass0 (pa_cons (pe_callB call_len_seq rfl T.n_len bt_len (pa_cons (pv 2) pa_nil)) (pa_cons (pv 0) pa_nil))) (pe_lst (pa_cons (pe_ix ix_list (pv 1) (pe_un un_neg pe_int) (λ _ _=>rfl)) pa_nil))))) rfl) (pss_one (ps_fld (pv 0) (pe_comp (FS:=defScope s_Corner_init) (N:=N_Corner_init) (x:="place") (ys:=["self"]) (caps:=[0]) ⟨by decide +kernel,rfl,by decide +kernel,rfl,by decide +kernel,rfl,by decide +kernel,rfl,by decide +kernel⟩ rfl rfl rfl (pi_range1 rfl T.n_range (pa_cons (pe_op op_sub (pe_callB call_len_seq rfl T.n_len bt_len (pa_cons (pv 1) pa_nil)) pe_int) pa_nil)) (λ _ _ _ _=>(pe_op op_add (pe_callB call_len_seq rfl T.n_len bt_len (pa_cons (pe_fld (pv 1) rfl) pa_nil)) (pv 0)))) rfl))))),rd_Corner_init T.ct h⟩)
theorem sc_bits_beyond:FnScope N_bits_beyond ["column", "longs"] (defScope s_bits_beyond):=⟨rfl,rfl,rfl,by decide +kernel,rfl,by decide +kernel,by decide +kernel⟩
theorem ok_bits_beyond (T:Tx K mg a):FnOk P w K mg base CX0 1 a.f_bits_beyond a.d_bits_beyond ["column", "longs"] (sp_bits_beyond K):=by
 refine T.bits_beyond.F.ok sc_bits_beyond (λ vs H Q E h=>len_bits_beyond h) (λ cdv A outer s H vs Q E hr h=>⟨t_bits_beyond K,(pss_one (ps_ret (pe_maxD rfl rfl T.n_max (pa_cons (pe_compGI (FS:=defScope s_bits_beyond) (N:=N_bits_beyond) (xs:=["number", "long"]) (ys:=[]) (caps:=[]) ⟨by decide +kernel,rfl,by decide +kernel,by decide +kernel,rfl,by decide +kernel,rfl⟩ rfl rfl rfl (pi_zip rfl T.n_zip (pa_cons (pv 0) (pa_cons (pv 1) pa_nil))) (λ _ _ _ _=>pg_tup (n:=2) rfl (pgs_cons (pgc_name (i:=0) (by decide +kernel) rfl (by decide +kernel)) (pgs_cons (pgc_name (i:=1) (by decide +kernel) rfl (by decide +kernel)) pgs_nil))) (λ _ _ _ _=>(pt_cmpR op_ne (pv 0) pe_int (nomark _))) (λ _ _ _ _=>(pe_op op_sub (pe_bm0 PySem.F.plainAttrs_int PySem.F.slot_int_bit_length PySem.F.type_int_bit_length mt_bits (pv 0)) (pv 1)))) pa_nil) pe_int))),rd_bits_beyond h⟩)
noncomputable abbrev s_stretched0:Stmt:=s_stretched
theorem sc_stretched0:FnScope N_stretched0 ["number", "bits"] (defScope s_stretched0):=⟨rfl,rfl,rfl,by decide +kernel,rfl,by decide +kernel,by decide +kernel⟩
theorem ok_stretched0 (T:Tx K mg a):FnOk P w K mg base CX0 1 a.f_stretched a.d_stretched ["number", "bits"] (sp_stretched0 K):=by
 refine T.stretched.F.ok sc_stretched0 (λ vs H Q E h=>len_stretched0 h) (λ cdv A outer s H vs Q E hr h=>⟨t_stretched0 K,(pss_cons (ps_if (pt_cmpR op_lt (pv 0) pe_int (nomark _)) (pss_one ps_never) pss_nil) (pss_one (ps_ret (pe_ifExp (pt_cmpR op_gt (pv 1) pe_int (nomark _)) (pe_op op_shlB (pv 0) (pv 1)) (pe_op op_shrB (pv 0) (pe_un un_neg (pv 1))))))),rd_stretched0 h⟩)
theorem sc_stretched:FnScope N_stretched ["number", "bits"] (defScope s_stretched):=⟨rfl,rfl,rfl,by decide +kernel,rfl,by decide +kernel,by decide +kernel⟩
theorem ok_stretched (T:Tx K mg a):FnOk P w K mg base CX0 2 a.f_stretched a.d_stretched ["number", "bits"] (sp_stretched K):=by
 refine T.stretched.F.ok sc_stretched (λ vs H Q E h=>len_stretched h) (λ cdv A outer s H vs Q E hr h=>⟨t_stretched K,(pss_cons (ps_if (pt_cmpR op_lt (pv 0) pe_int (nomark _)) (pss_one (ps_ret (pe_un un_neg (pe_call (ok_stretched0 T) (hr.mono (by decide)) rfl T.stretched.m T.stretched.F.kp T.stretched.b .nil pass0 (pa_cons (pe_un un_neg (pv 0)) (pa_cons (pv 1) pa_nil)))))) pss_nil) (pss_one (ps_ret (pe_ifExp (pt_cmpR op_gt (pv 1) pe_int (nomark _)) (pe_op op_shlB (pv 0) (pv 1)) (pe_op op_shrB (pv 0) (pe_un un_neg (pv 1))))))),rd_stretched h⟩)
theorem sc_shortened:FnScope N_shortened ["row", "bits", "wides"] (defScope s_shortened):=⟨rfl,rfl,rfl,by decide +kernel,rfl,by decide +kernel,by decide +kernel⟩
theorem ok_shortened (T:Tx K mg a):FnOk P w K mg base CX0 3 a.f_shortened a.d_shortened ["row", "bits", "wides"] (sp_shortened K):=by
 refine T.shortened.F.ok sc_shortened (λ vs H Q E h=>len_shortened h) (λ cdv A outer s H vs Q E hr h=>⟨t_shortened K,(pss_one (ps_ret (pe_compG (FS:=defScope s_shortened) (N:=N_shortened) (xs:=["number", "wide"]) (ys:=["bits"]) (caps:=[1]) ⟨by decide +kernel,rfl,by decide +kernel,by decide +kernel,rfl,by decide +kernel,rfl⟩ rfl rfl rfl (pi_zip rfl T.n_zip (pa_cons (pv 0) (pa_cons (pv 2) pa_nil))) (λ _ _ _ _=>pg_tup (n:=2) rfl (pgs_cons (pgc_name (i:=0) (by decide +kernel) rfl (by decide +kernel)) (pgs_cons (pgc_name (i:=1) (by decide +kernel) rfl (by decide +kernel)) pgs_nil))) (λ _ _ _ _=>(pe_call (ok_stretched T) (hr.mono (by decide)) rfl T.stretched.m T.stretched.F.kp T.stretched.b .nil pass0 (pa_cons (pv 0) (pa_cons (pe_op op_sub (pv 2) (pv 1)) pa_nil))))))),rd_shortened h⟩)
theorem sc_rounded:FnScope N_rounded ["lists", "bits"] (defScope s_rounded):=⟨rfl,rfl,rfl,by decide +kernel,rfl,by decide +kernel,by decide +kernel⟩
theorem ok_rounded (T:Tx K mg a):FnOk P w K mg base CX0 4 a.f_rounded a.d_rounded ["lists", "bits"] (sp_rounded K):=by
 refine T.rounded.F.ok sc_rounded (λ vs H Q E h=>len_rounded h) (λ cdv A outer s H vs Q E hr h=>⟨t_rounded K,(pss_cons (ps_set (i:=2) sc_rounded.nd rfl (Or.inr rfl) (pe_comp (FS:=defScope s_rounded) (N:=N_rounded) (x:="row") (ys:=[]) (caps:=[]) ⟨by decide +kernel,rfl,by decide +kernel,rfl,by decide +kernel,rfl,by decide +kernel,rfl,by decide +kernel⟩ rfl rfl rfl (pi_list (pv 0)) (λ _ _ _ _=>(pe_call (ok_longest T) (hr.mono (by decide)) rfl T.longest.m T.longest.F.kp T.longest.b .nil pass0 (pa_cons (pe_slice sl_list (pv 0) po_none (po_some (pe_un un_neg pe_int))) pa_nil))))) (pss_cons (ps_set (i:=3) sc_rounded.nd rfl (Or.inr rfl) (pe_comp (FS:=defScope s_rounded) (N:=N_rounded) (x:="place") (ys:=["longs", "lists"]) (caps:=[2,0]) ⟨by decide +kernel,rfl,by decide +kernel,rfl,by decide +kernel,rfl,by decide +kernel,rfl,by decide +kernel⟩ rfl rfl rfl (pi_range1 rfl T.n_range (pa_cons (pe_callB call_len_seq rfl T.n_len bt_len (pa_cons (pe_ix ix_list (pv 0) pe_int (λ _ _=>rfl)) pa_nil)) pa_nil)) (λ _ _ _ _=>(pe_call (ok_bits_beyond T) (hr.mono (by decide)) rfl T.bits_beyond.m T.bits_beyond.F.kp T.bits_beyond.b .nil pass0 (pa_cons (pe_call (ok_column_of T) (hr.mono (by decide)) rfl T.column_of.m T.column_of.F.kp T.column_of.b .nil pass0 (pa_cons (pv 2) (pa_cons (pv 0) pa_nil))) (pa_cons (pv 1) pa_nil)))))) (pss_one (ps_ret (pe_compG (FS:=defScope s_rounded) (N:=N_rounded) (xs:=["row", "long"]) (ys:=["wides", "bits"]) (caps:=[3,1]) ⟨by decide +kernel,rfl,by decide +kernel,by decide +kernel,rfl,by decide +kernel,rfl⟩ rfl rfl rfl (pi_zip rfl T.n_zip (pa_cons (pv 0) (pa_cons (pv 2) pa_nil))) (λ _ _ _ _=>pg_tup (n:=2) rfl (pgs_cons (pgc_name (i:=0) (by decide +kernel) rfl (by decide +kernel)) (pgs_cons (pgc_name (i:=1) (by decide +kernel) rfl (by decide +kernel)) pgs_nil))) (λ _ _ _ _=>(pe_call (ok_shortened T) (hr.mono (by decide)) rfl T.shortened.m T.shortened.F.kp T.shortened.b .nil pass0 (pa_cons (pv 0) (pa_cons (pe_op op_sub (pv 3) (pv 1)) (pa_cons (pv 2) pa_nil)))))))))),rd_rounded h⟩)
theorem sc_products:FnScope N_products ["one", "other"] (defScope s_products):=⟨rfl,rfl,rfl,by decide +kernel,rfl,by decide +kernel,by decide +kernel⟩
theorem ok_products (T:Tx K mg a):FnOk P w K mg base CX0 1 a.f_products a.d_products ["one", "other"] (sp_products K):=by
 refine T.products.F.ok sc_products (λ vs H Q E h=>len_products h) (λ cdv A outer s H vs Q E hr h=>⟨t_products K,(pss_one (ps_ret (pe_callB (call_sumL rfl) rfl T.n_sum bt_sum (pa_cons (pe_compG (FS:=defScope s_products) (N:=N_products) (xs:=["mine", "yours"]) (ys:=[]) (caps:=[]) ⟨by decide +kernel,rfl,by decide +kernel,by decide +kernel,rfl,by decide +kernel,rfl⟩ rfl rfl rfl (pi_zip rfl T.n_zip (pa_cons (pv 0) (pa_cons (pv 1) pa_nil))) (λ _ _ _ _=>pg_tup (n:=2) rfl (pgs_cons (pgc_name (i:=0) (by decide +kernel) rfl (by decide +kernel)) (pgs_cons (pgc_name (i:=1) (by decide +kernel) rfl (by decide +kernel)) pgs_nil))) (λ _ _ _ _=>(pe_op op_mulB (pv 0) (pv 1)))) pa_nil)))),rd_products h⟩)
theorem sc_Corner_entering:FnScope N_Corner_entering ["self"] (defScope s_Corner_entering):=⟨rfl,rfl,rfl,by decide +kernel,rfl,by decide +kernel,by decide +kernel⟩
theorem ok_Corner_entering (T:Tx K mg a):FnOk P w K mg base CX0 2 a.f_Corner_entering a.d_Corner_entering ["self"] (sp_Corner_entering K):=by
 refine T.Corner_entering.F.ok sc_Corner_entering (λ vs H Q E h=>len_Corner_entering h) (λ cdv A outer s H vs Q E hr h=>⟨t_Corner_entering K,(pss_cons (ps_set (i:=1) sc_Corner_entering.nd rfl (Or.inr rfl) (pe_ix ix_list (pe_fld (pv 0) rfl) (pe_un un_neg pe_int) (λ _ _=>rfl))) (pss_cons (ps_set (i:=2) sc_Corner_entering.nd rfl (Or.inl rfl) (pe_op op_cat (pe_comp (FS:=defScope s_Corner_entering) (N:=N_Corner_entering) (x:="column") (ys:=["last"]) (caps:=[1]) ⟨by decide +kernel,rfl,by decide +kernel,rfl,by decide +kernel,rfl,by decide +kernel,rfl,by decide +kernel⟩ rfl rfl rfl (pi_list (pe_fld (pv 0) rfl)) (λ _ _ _ _=>(pe_call (ok_products T) (hr.mono (by decide)) rfl T.products.m T.products.F.kp T.products.b .nil pass0 (pa_cons (pv 0) (pa_cons (pv 1) pa_nil))))) (pe_slice sl_list (pv 1) po_none (po_some (pe_callB call_len_seq rfl T.n_len bt_len (pa_cons (pe_fld (pv 0) rfl) pa_nil)))))) (pss_cons (ps_set (i:=3) sc_Corner_entering.nd rfl (Or.inl rfl) pe_non) (pss_cons (ps_for PassesOwn.never rfl (pi_enum rfl T.n_enumerate (pv 2)) (pg_tup (n:=2) rfl (pgs_cons (pg_name (i:=4) sc_Corner_entering.nd rfl (Or.inl rfl)) (pgs_cons (pg_name (i:=5) sc_Corner_entering.nd rfl (Or.inl rfl)) pgs_nil))) (pss_one (ps_if (PW.pt (pw_and (pt_cmpR op_lt (pv 5) pe_int (nomark _)) (pw_and1 (PW.pt (pw_or (pt_cmpR op_isN (pv 3) pe_non (nomark _)) (pw_or1 (pt_cmpR op_lt (pe_op op_mulB (pv 5) (pe_ix ix_list (pe_fld (pv 0) rfl) (pv 3) (λ _ _=>rfl))) (pe_op op_mulB (pe_ix ix_list (pv 2) (pv 3) (λ _ _=>rfl)) (pe_ix ix_list (pe_fld (pv 0) rfl) (pv 4) (λ _ _=>rfl))) (nomark _)))))))) (pss_one (ps_set (i:=3) sc_Corner_entering.nd rfl (Or.inl rfl) (pv 4))) pss_nil))) (pss_one (ps_ret (pv 3))))))),rd_Corner_entering T.ct h⟩)
theorem sc_Corner_numbers:FnScope N_Corner_numbers ["self", "column"] (defScope s_Corner_numbers):=⟨rfl,rfl,rfl,by decide +kernel,rfl,by decide +kernel,by decide +kernel⟩
theorem ok_Corner_numbers (T:Tx K mg a):FnOk P w K mg base CX0 2 a.f_Corner_numbers a.d_Corner_numbers ["self", "column"] (sp_Corner_numbers K):=by
 refine T.Corner_numbers.F.ok sc_Corner_numbers (λ vs H Q E h=>len_Corner_numbers h) (λ cdv A outer s H vs Q E hr h=>⟨t_Corner_numbers K,(pss_cons (ps_if (pt_cmpR op_lt (pv 1) (pe_callB call_len_seq rfl T.n_len bt_len (pa_cons (pe_fld (pv 0) rfl) pa_nil)) (nomark _)) (pss_one (ps_ret (pe_comp (FS:=defScope s_Corner_numbers) (N:=N_Corner_numbers) (x:="row") (ys:=["column", "self"]) (caps:=[1,0]) ⟨by decide +kernel,rfl,by decide +kernel,rfl,by decide +kernel,rfl,by decide +kernel,rfl,by decide +kernel⟩ rfl rfl rfl (pi_list (pe_fld (pv 0) rfl)) (λ _ _ _ _=>(pe_call (ok_products T) (hr.mono (by decide)) rfl T.products.m T.products.F.kp T.products.b .nil pass0 (pa_cons (pe_ix ix_list (pe_fld (pv 2) rfl) (pv 1) (λ _ _=>rfl)) (pa_cons (pv 0) pa_nil))))))) pss_nil) (pss_one (ps_ret (pe_call (ok_column_of T) (hr.mono (by decide)) rfl T.column_of.m T.column_of.F.kp T.column_of.b .nil pass0 (pa_cons (pe_fld (pv 0) rfl) (pa_cons (pe_op op_sub (pv 1) (pe_callB call_len_seq rfl T.n_len bt_len (pa_cons (pe_fld (pv 0) rfl) pa_nil))) pa_nil)))))),rd_Corner_numbers T.ct h⟩)
theorem sc_is_ahead:FnScope N_is_ahead ["row", "other", "column", "listed"] (defScope s_is_ahead):=⟨rfl,rfl,rfl,by decide +kernel,rfl,by decide +kernel,by decide +kernel⟩
theorem ok_is_ahead (T:Tx K mg a):FnOk P w K mg base CX0 1 a.f_is_ahead a.d_is_ahead ["row", "other", "column", "listed"] (sp_is_ahead K):=by
 refine T.is_ahead.F.ok sc_is_ahead (λ vs H Q E h=>len_is_ahead h) (λ cdv A outer s H vs Q E hr h=>⟨t_is_ahead K,(pss_cons (ps_for PassesOwn.never rfl (pi_list (pv 3)) (pg_name (i:=4) sc_is_ahead.nd rfl (Or.inl rfl)) (pss_cons (ps_set (i:=5) sc_is_ahead.nd rfl (Or.inl rfl) (pe_op op_mulB (pe_ix ix_list (pv 0) (pv 4) (λ _ _=>rfl)) (pe_ix ix_list (pv 1) (pv 2) (λ _ _=>rfl)))) (pss_cons (ps_set (i:=6) sc_is_ahead.nd rfl (Or.inl rfl) (pe_op op_mulB (pe_ix ix_list (pv 1) (pv 4) (λ _ _=>rfl)) (pe_ix ix_list (pv 0) (pv 2) (λ _ _=>rfl)))) (pss_one (ps_if (pt_cmpR op_ne (pv 5) (pv 6) (nomark _)) (pss_one (ps_ret (pe_cmpR op_lt (pv 5) (pv 6) (nomark _)))) pss_nil))))) (pss_one (ps_ret pe_bl))),rd_is_ahead h⟩)
theorem sc_leaving:FnScope N_leaving ["rows", "column", "listed"] (defScope s_leaving):=⟨rfl,rfl,rfl,by decide +kernel,rfl,by decide +kernel,by decide +kernel⟩
theorem ok_leaving (T:Tx K mg a):FnOk P w K mg base CX0 2 a.f_leaving a.d_leaving ["rows", "column", "listed"] (sp_leaving K):=by
 refine T.leaving.F.ok sc_leaving (λ vs H Q E h=>len_leaving h) (λ cdv A outer s H vs Q E hr h=>⟨t_leaving K,(pss_cons (ps_set (i:=3) sc_leaving.nd rfl (Or.inl rfl) pe_non) (pss_cons (ps_for PassesOwn.never rfl (pi_enum rfl T.n_enumerate (pv 0)) (pg_tup (n:=2) rfl (pgs_cons (pg_name (i:=4) sc_leaving.nd rfl (Or.inl rfl)) (pgs_cons (pg_name (i:=5) sc_leaving.nd rfl (Or.inl rfl)) pgs_nil))) (pss_one (ps_if (PW.pt (pw_and (pt_cmpR op_gt (pe_ix ix_list (pv 5) (pv 1) (λ _ _=>rfl)) pe_int (nomark _)) (pw_and1 (PW.pt (pw_or (pt_cmpR op_isN (pv 3) pe_non (nomark _)) (pw_or1 (pt_val (pe_call (ok_is_ahead T) (hr.mono (by decide)) rfl T.is_ahead.m T.is_ahead.F.kp T.is_ahead.b .nil pass0 (pa_cons (pv 5) (pa_cons (pe_ix ix_list (pv 0) (pv 3) (λ _ _=>rfl)) (pa_cons (pv 1) (pa_cons (pv 2) pa_nil)))))))))))) (pss_one (ps_set (i:=3) sc_leaving.nd rfl (Or.inl rfl) (pv 4))) pss_nil))) (pss_one (ps_ret (pv 3))))),rd_leaving h⟩)
theorem sc_Corner_leaving_by:FnScope N_Corner_leaving_by ["self", "numbers"] (defScope s_Corner_leaving_by):=⟨rfl,rfl,rfl,by decide +kernel,rfl,by decide +kernel,by decide +kernel⟩
theorem ok_Corner_leaving_by (T:Tx K mg a):FnOk P w K mg base CX0 3 a.f_Corner_leaving_by a.d_Corner_leaving_by ["self", "numbers"] (sp_Corner_leaving_by K):=by
 refine T.Corner_leaving_by.F.ok sc_Corner_leaving_by (λ vs H Q E h=>len_Corner_leaving_by h) (λ cdv A outer s H vs Q E hr h=>⟨t_Corner_leaving_by K,(pss_cons (ps_setCompG (i:=2) (FS:=defScope s_Corner_leaving_by) (N:=N_Corner_leaving_by) (xs:=["row", "number"]) (ys:=[]) (caps:=[]) ⟨by decide +kernel,rfl,by decide +kernel,by decide +kernel,rfl,by decide +kernel,rfl⟩ rfl rfl rfl sc_Corner_leaving_by.nd rfl (Or.inl rfl) (pi_zip rfl T.n_zip (pa_cons (pe_fld (pv 0) rfl) (pa_cons (pv 1) pa_nil))) (λ _ _ _ _=>pg_tup (n:=2) rfl (pgs_cons (pgc_name (i:=0) (by decide +kernel) rfl (by decide +kernel)) (pgs_cons (pgc_name (i:=1) (by decide +kernel) rfl (by decide +kernel)) pgs_nil))) (λ _ _ _ _=>(pe_op op_cat (pv 0) (pe_lst (pa_cons (pv 1) pa_nil))))) (pss_cons (ps_set (i:=3) sc_Corner_leaving_by.nd rfl (Or.inl rfl) (pe_callB call_len_seq rfl T.n_len bt_len (pa_cons (pe_fld (pv 0) rfl) pa_nil))) (pss_one (ps_ret (pe_call (ok_leaving T) (hr.mono (by decide)) rfl T.leaving.m T.leaving.F.kp T.leaving.b .nil pass0 (pa_cons (pv 2) (pa_cons (pe_op op_add (pv 3) pe_int) (pa_cons (pe_op op_cat (pe_lst (pa_cons (pe_op op_add (pv 3) pe_int) pa_nil)) (pe_lrng rfl T.n_list rfl T.n_range rfl (pv 3))) pa_nil)))))))),rd_Corner_leaving_by T.ct h⟩)
theorem sc_Corner_bottom:FnScope N_Corner_bottom ["self"] (defScope s_Corner_bottom):=⟨rfl,rfl,rfl,by decide +kernel,rfl,by decide +kernel,by decide +kernel⟩
theorem ok_Corner_bottom (T:Tx K mg a):FnOk P w K mg base CX0 1 a.f_Corner_bottom a.d_Corner_bottom ["self"] (sp_Corner_bottom K):=by
 refine T.Corner_bottom.F.ok sc_Corner_bottom (λ vs H Q E h=>len_Corner_bottom h) (λ cdv A outer s H vs Q E hr h=>⟨t_Corner_bottom K,(pss_one (ps_ret (pe_ix ix_list (pe_ix ix_list (pe_fld (pv 0) rfl) (pe_un un_neg pe_int) (λ _ _=>rfl)) (pe_un un_neg pe_int) (λ _ _=>rfl)))),rd_Corner_bottom T.ct h⟩)
theorem sc_Corner_step_in:FnScope N_Corner_step_in ["self", "column", "numbers", "at"] (defScope s_Corner_step_in):=⟨rfl,rfl,rfl,by decide +kernel,rfl,by decide +kernel,by decide +kernel⟩
theorem ok_Corner_step_in (T:Tx K mg a):FnOk P w K mg base CX0 2 a.f_Corner_step_in a.d_Corner_step_in ["self", "column", "numbers", "at"] (sp_Corner_step_in K):=by
 refine T.Corner_step_in.F.ok sc_Corner_step_in (λ vs H Q E h=>len_Corner_step_in h) (λ cdv A outer s H vs Q E hr h=>⟨t_Corner_step_in K,(pss_cons (ps_set (i:=4) sc_Corner_step_in.nd rfl (Or.inr rfl) (pe_meth0 (pv 0) T.ct.cl T.Corner_bottom.m (ok_Corner_bottom T) (hr.mono (by decide)) T.Corner_bottom.b .nil pass0)) (pss_cons (ps_set (i:=5) sc_Corner_step_in.nd rfl (Or.inl rfl) (pe_ix ix_list (pe_fld (pv 0) rfl) (pv 3) (λ _ _=>rfl))) (pss_cons (ps_set (i:=6) sc_Corner_step_in.nd rfl (Or.inl rfl) (pe_lst pa_nil)) (pss_cons (ps_for PassesOwn.never rfl (pi_zip rfl T.n_zip (pa_cons (pe_fld (pv 0) rfl) (pa_cons (pv 2) pa_nil))) (pg_tup (n:=2) rfl (pgs_cons (pg_name (i:=7) sc_Corner_step_in.nd rfl (Or.inl rfl)) (pgs_cons (pg_name (i:=8) sc_Corner_step_in.nd rfl (Or.inr rfl)) pgs_nil))) (pss_one (ps_expr (pe_bm PySem.F.plainAttrs_list PySem.F.slot_list_append PySem.F.type_list_append mt_append (pv 6) (pa_cons (pe_compG (FS:=defScope s_Corner_step_in) (N:=N_Corner_step_in) (xs:=["mine", "yours"]) (ys:=["bottom", "number", "numbers", "at"]) (caps:=[4,8,2,3]) ⟨by decide +kernel,rfl,by decide +kernel,by decide +kernel,rfl,by decide +kernel,rfl⟩ rfl rfl rfl (pi_zip rfl T.n_zip (pa_cons (pv 7) (pa_cons (pv 5) pa_nil))) (λ _ _ _ _=>pg_tup (n:=2) rfl (pgs_cons (pgc_name (i:=0) (by decide +kernel) rfl (by decide +kernel)) (pgs_cons (pgc_name (i:=1) (by decide +kernel) rfl (by decide +kernel)) pgs_nil))) (λ _ _ _ _=>(pe_op op_fdivB (pe_op op_sub (pe_op op_mulB (pv 0) (pe_ix ix_list (pv 4) (pv 5) (λ _ _=>rfl))) (pe_op op_mulB (pv 1) (pv 3))) (pv 2)))) pa_nil))))) (pss_cons (ps_asg (pv 5) (pg_sub (pv 6) (pv 3) set_list)) (pss_cons (ps_fld (pv 0) (pv 6) rfl) (pss_one (ps_asg (pv 1) (pg_sub (pe_fld (pv 0) rfl) (pv 3) set_list))))))))),rd_Corner_step_in T.ct h⟩)
theorem sc_unstopped:FnScope N_unstopped ["corner"] (defScope s_unstopped):=⟨rfl,rfl,rfl,by decide +kernel,rfl,by decide +kernel,by decide +kernel⟩
theorem ok_unstopped (T:Tx K mg a):FnOk P w K mg base CX0 4 a.f_unstopped a.d_unstopped ["corner"] (sp_unstopped K):=by
 refine T.unstopped.F.ok sc_unstopped (λ vs H Q E h=>len_unstopped h) (λ cdv A outer s H vs Q E hr h=>⟨t_unstopped K,(pss_cons (ps_set (i:=1) sc_unstopped.nd rfl (Or.inl rfl) (pe_meth0 (pv 0) T.ct.cl T.Corner_entering.m (ok_Corner_entering T) (hr.mono (by decide)) T.Corner_entering.b .nil pass0)) (pss_cons (ps_while PassesOwn.never (pt_cmpR op_notN (pv 1) pe_non (nomark _)) (pss_cons (ps_set (i:=2) sc_unstopped.nd rfl (Or.inl rfl) (pe_meth (pv 0) T.ct.cl T.Corner_numbers.m (ok_Corner_numbers T) (hr.mono (by decide)) T.Corner_numbers.b .nil pass0 (pa_cons (pv 1) pa_nil))) (pss_cons (ps_set (i:=3) sc_unstopped.nd rfl (Or.inl rfl) (pe_meth (pv 0) T.ct.cl T.Corner_leaving_by.m (ok_Corner_leaving_by T) (hr.mono (by decide)) T.Corner_leaving_by.b .nil pass0 (pa_cons (pv 2) pa_nil))) (pss_cons (ps_if (pt_cmpR op_isN (pv 3) pe_non (nomark _)) (pss_one (ps_ret (pv 1))) pss_nil) (pss_cons (ps_expr (pe_meth (pv 0) T.ct.cl T.Corner_step_in.m (ok_Corner_step_in T) (hr.mono (by decide)) T.Corner_step_in.b .nil pass0 (pa_cons (pv 1) (pa_cons (pv 2) (pa_cons (pv 3) pa_nil))))) (pss_one (ps_set (i:=1) sc_unstopped.nd rfl (Or.inl rfl) (pe_meth0 (pv 0) T.ct.cl T.Corner_entering.m (ok_Corner_entering T) (hr.mono (by decide)) T.Corner_entering.b .nil pass0)))))))) (pss_one (ps_ret pe_non)))),rd_unstopped h⟩)
theorem sc_turned_round:FnScope N_turned_round ["row"] (defScope s_turned_round):=⟨rfl,rfl,rfl,by decide +kernel,rfl,by decide +kernel,by decide +kernel⟩
theorem ok_turned_round (T:Tx K mg a):FnOk P w K mg base CX0 1 a.f_turned_round a.d_turned_round ["row"] (sp_turned_round K):=by
 refine T.turned_round.F.ok sc_turned_round (λ vs H Q E h=>len_turned_round h) (λ cdv A outer s H vs Q E hr h=>⟨t_turned_round K,(pss_one (ps_ret (pe_comp (FS:=defScope s_turned_round) (N:=N_turned_round) (x:="number") (ys:=[]) (caps:=[]) ⟨by decide +kernel,rfl,by decide +kernel,rfl,by decide +kernel,rfl,by decide +kernel,rfl,by decide +kernel⟩ rfl rfl rfl (pi_list (pv 0)) (λ _ _ _ _=>(pe_un un_neg (pv 0)))))),rd_turned_round h⟩)
theorem sc_Corner_comes_to:FnScope N_Corner_comes_to ["self", "inside"] (defScope s_Corner_comes_to):=⟨rfl,rfl,rfl,by decide +kernel,rfl,by decide +kernel,by decide +kernel⟩
theorem ok_Corner_comes_to (T:Tx K mg a):FnOk P w K mg base CX0 3 a.f_Corner_comes_to a.d_Corner_comes_to ["self", "inside"] (sp_Corner_comes_to K):=by
 refine T.Corner_comes_to.F.ok sc_Corner_comes_to (λ vs H Q E h=>len_Corner_comes_to h) (λ cdv A outer s H vs Q E hr h=>⟨t_Corner_comes_to K,(pss_cons (ps_set (i:=2) sc_Corner_comes_to.nd rfl (Or.inr rfl) (pe_callB call_len_seq rfl T.n_len bt_len (pa_cons (pe_fld (pv 0) rfl) pa_nil))) (pss_cons (ps_setCompI (i:=3) (FS:=defScope s_Corner_comes_to) (N:=N_Corner_comes_to) (x:="place") (ys:=["inside", "first"]) (caps:=[1,2]) ⟨by decide +kernel,rfl,by decide +kernel,rfl,by decide +kernel,rfl,by decide +kernel,rfl,by decide +kernel⟩ rfl rfl rfl sc_Corner_comes_to.nd rfl (Or.inl rfl) (pi_range1 rfl T.n_range (pa_cons (pe_callB call_len_seq rfl T.n_len bt_len (pa_cons (pv 1) pa_nil)) pa_nil)) (λ _ _ _ _=>(pt_cmpR op_notIn_seq (pe_op op_add (pv 2) (pv 0)) (pv 1) (by with_unfolding_all rfl))) (λ _ _ _ _=>(pv 0))) (pss_cons (ps_for PassesOwn.never rfl (pi_list (pe_compI (FS:=defScope s_Corner_comes_to) (N:=N_Corner_comes_to) (x:="one") (ys:=["first"]) (caps:=[2]) ⟨by decide +kernel,rfl,by decide +kernel,rfl,by decide +kernel,rfl,by decide +kernel,rfl,by decide +kernel⟩ rfl rfl rfl (pi_list (pv 1)) (λ _ _ _ _=>(pt_cmpR op_lt (pv 0) (pv 1) (nomark _))) (λ _ _ _ _=>(pv 0)))) (pg_name (i:=4) sc_Corner_comes_to.nd rfl (Or.inl rfl)) (pss_cons (ps_set (i:=5) sc_Corner_comes_to.nd rfl (Or.inr rfl) (pe_meth (pv 0) T.ct.cl T.Corner_numbers.m (ok_Corner_numbers T) (hr.mono (by decide)) T.Corner_numbers.b .nil pass0 (pa_cons (pv 4) pa_nil))) (pss_cons (ps_setCompI (i:=6) (FS:=defScope s_Corner_comes_to) (N:=N_Corner_comes_to) (x:="place") (ys:=["numbers"]) (caps:=[5]) ⟨by decide +kernel,rfl,by decide +kernel,rfl,by decide +kernel,rfl,by decide +kernel,rfl,by decide +kernel⟩ rfl rfl rfl sc_Corner_comes_to.nd rfl (Or.inl rfl) (pi_list (pv 3)) (λ _ _ _ _=>(pt_cmpR op_ne (pe_ix ix_list (pv 1) (pv 0) (λ _ _=>rfl)) pe_int (nomark _))) (λ _ _ _ _=>(pv 0))) (pss_cons (ps_if (pt_not (pt_truth (pv 6) (λ _=>rfl))) (pss_one (ps_ret pe_bl)) pss_nil) (pss_cons (ps_expr (pe_meth (pv 0) T.ct.cl T.Corner_step_in.m (ok_Corner_step_in T) (hr.mono (by decide)) T.Corner_step_in.b .nil pass0 (pa_cons (pv 4) (pa_cons (pv 5) (pa_cons (pe_ix ix_list (pv 6) pe_int (λ _ _=>rfl)) pa_nil))))) (pss_one (ps_expr (pe_bm PySem.F.plainAttrs_list PySem.F.slot_list_remove PySem.F.type_list_remove mt_remove (pv 3) (pa_cons (pe_ix ix_list (pv 6) pe_int (λ _ _=>rfl)) pa_nil))))))))) (pss_cons (ps_if (pt_cmpR op_lt (pe_meth0 (pv 0) T.ct.cl T.Corner_bottom.m (ok_Corner_bottom T) (hr.mono (by decide)) T.Corner_bottom.b .nil pass0) pe_int (nomark _)) (pss_one (ps_fld (pv 0) (pe_comp (FS:=defScope s_Corner_comes_to) (N:=N_Corner_comes_to) (x:="row") (ys:=[]) (caps:=[]) ⟨by decide +kernel,rfl,by decide +kernel,rfl,by decide +kernel,rfl,by decide +kernel,rfl,by decide +kernel⟩ rfl rfl rfl (pi_list (pe_fld (pv 0) rfl)) (λ _ _ _ _=>(pe_call (ok_turned_round T) (hr.mono (by decide)) rfl T.turned_round.m T.turned_round.F.kp T.turned_round.b .nil pass0 (pa_cons (pv 0) pa_nil)))) rfl)) pss_nil) (pss_one (ps_ret (pe_cmpR op_ge (pe_callB (call_minL rfl) rfl T.n_min bt_min (pa_cons (pe_call (ok_column_of T) (hr.mono (by decide)) rfl T.column_of.m T.column_of.F.kp T.column_of.b .nil pass0 (pa_cons (pe_slice sl_list (pe_fld (pv 0) rfl) po_none (po_some (pe_un un_neg pe_int))) (pa_cons (pe_un un_neg pe_int) pa_nil))) pa_nil)) pe_int (nomark _)))))))),rd_Corner_comes_to T.ct h⟩)
theorem sc_Corner_ends_with:FnScope N_Corner_ends_with ["self", "column"] (defScope s_Corner_ends_with):=⟨rfl,rfl,rfl,by decide +kernel,rfl,by decide +kernel,by decide +kernel⟩
theorem ok_Corner_ends_with (T:Tx K mg a):FnOk P w K mg base CX0 4 a.f_Corner_ends_with a.d_Corner_ends_with ["self", "column"] (sp_Corner_ends_with K):=by
 refine T.Corner_ends_with.F.ok sc_Corner_ends_with (λ vs H Q E h=>len_Corner_ends_with h) (λ cdv A outer s H vs Q E hr h=>⟨t_Corner_ends_with K,(pss_cons (ps_if (pt_cmpR op_isN (pv 1) pe_non (nomark _)) (pss_one (ps_ret (pe_cmpR op_isN (pe_meth0 (pv 0) T.ct.cl T.Corner_entering.m (ok_Corner_entering T) (hr.mono (by decide)) T.Corner_entering.b .nil pass0) pe_non (nomark _)))) pss_nil) (pss_cons (ps_set (i:=2) sc_Corner_ends_with.nd rfl (Or.inl rfl) (pe_meth (pv 0) T.ct.cl T.Corner_numbers.m (ok_Corner_numbers T) (hr.mono (by decide)) T.Corner_numbers.b .nil pass0 (pa_cons (pv 1) pa_nil))) (pss_one (ps_ret (pe_and (pe_cmpR op_lt (pe_ix ix_list (pv 2) (pe_un un_neg pe_int) (λ _ _=>rfl)) pe_int (nomark _)) (pe_one (pe_cmpR op_isN (pe_meth (pv 0) T.ct.cl T.Corner_leaving_by.m (ok_Corner_leaving_by T) (hr.mono (by decide)) T.Corner_leaving_by.b .nil pass0 (pa_cons (pv 2) pa_nil)) pe_non (nomark _)))))))),rd_Corner_ends_with T.ct h⟩)
theorem sc_last_corner:FnScope N_last_corner ["lists"] (defScope s_last_corner):=⟨rfl,rfl,rfl,by decide +kernel,rfl,by decide +kernel,by decide +kernel⟩
theorem ok_last_corner (T:Tx K mg a):FnOk P w K mg base CX0 5 a.f_last_corner a.d_last_corner ["lists"] (sp_last_corner K):=by
 refine T.last_corner.F.ok sc_last_corner (λ vs H Q E h=>len_last_corner h) (λ cdv A outer s H vs Q E hr h=>⟨t_last_corner K,(pss_cons (ps_set (i:=1) sc_last_corner.nd rfl (Or.inl rfl) (pe_globI rfl T.g_BITS)) (pss_cons (ps_while PassesOwn.never (pt_cmpR op_lt (pv 1) (pe_callB (call_maxL rfl) rfl T.n_max bt_max (pa_cons (pe_comp (FS:=defScope s_last_corner) (N:=N_last_corner) (x:="row") (ys:=[]) (caps:=[]) ⟨by decide +kernel,rfl,by decide +kernel,rfl,by decide +kernel,rfl,by decide +kernel,rfl,by decide +kernel⟩ rfl rfl rfl (pi_list (pv 0)) (λ _ _ _ _=>(pe_call (ok_longest T) (hr.mono (by decide)) rfl T.longest.m T.longest.F.kp T.longest.b .nil pass0 (pa_cons (pv 0) pa_nil)))) pa_nil)) (nomark _)) (pss_cons (ps_set (i:=2) sc_last_corner.nd rfl (Or.inl rfl) (pe_make T.mk_Corner (ok_Corner_init T) (hr.mono (by decide)) rfl T.c_Corner T.Corner_init.b .nil pass0 (pa_cons (pe_call (ok_rounded T) (hr.mono (by decide)) rfl T.rounded.m T.rounded.F.kp T.rounded.b .nil pass0 (pa_cons (pv 0) (pa_cons (pv 1) pa_nil))) pa_nil))) (pss_cons (ps_set (i:=3) sc_last_corner.nd rfl (Or.inl rfl) (pe_call (ok_unstopped T) (hr.mono (by decide)) rfl T.unstopped.m T.unstopped.F.kp T.unstopped.b .nil pass0 (pa_cons (pv 2) pa_nil))) (pss_cons (ps_set (i:=4) sc_last_corner.nd rfl (Or.inl rfl) (pe_make T.mk_Corner (ok_Corner_init T) (hr.mono (by decide)) rfl T.c_Corner T.Corner_init.b .nil pass0 (pa_cons (pv 0) pa_nil))) (pss_cons (ps_if (PW.pt (pw_and (pt_val (pe_meth (pv 4) T.ct.cl T.Corner_comes_to.m (ok_Corner_comes_to T) (hr.mono (by decide)) T.Corner_comes_to.b .nil pass0 (pa_cons (pe_fld (pv 2) rfl) pa_nil))) (pw_and1 (pt_val (pe_meth (pv 4) T.ct.cl T.Corner_ends_with.m (ok_Corner_ends_with T) (hr.mono (by decide)) T.Corner_ends_with.b .nil pass0 (pa_cons (pv 3) pa_nil)))))) (pss_one (ps_ret (pe_tup (pa_cons (pv 4) (pa_cons (pv 3) pa_nil))))) pss_nil) (pss_one (ps_set (i:=1) sc_last_corner.nd rfl (Or.inl rfl) (pe_op op_mulB pe_int (pv 1))))))))) (pss_cons (ps_set (i:=4) sc_last_corner.nd rfl (Or.inl rfl) (pe_make T.mk_Corner (ok_Corner_init T) (hr.mono (by decide)) rfl T.c_Corner T.Corner_init.b .nil pass0 (pa_cons (pv 0) pa_nil))) (pss_cons (ps_set (i:=3) sc_last_corner.nd rfl (Or.inl rfl) (pe_call (ok_unstopped T) (hr.mono (by decide)) rfl T.unstopped.m T.unstopped.F.kp T.unstopped.b .nil pass0 (pa_cons (pv 4) pa_nil))) (pss_one (ps_ret (pe_tup (pa_cons (pv 4) (pa_cons (pv 3) pa_nil))))))))),rd_last_corner T.ct h⟩)
theorem sc_over:FnScope N_over ["one", "other"] (defScope s_over):=⟨rfl,rfl,rfl,by decide +kernel,rfl,by decide +kernel,by decide +kernel⟩
theorem ok_over (T:Tx K mg a):FnOk P w K mg base CX0 3 a.f_over a.d_over ["one", "other"] (sp_over K):=by
 refine T.over.F.ok sc_over (λ vs H Q E h=>len_over h) (λ cdv A outer s H vs Q E hr h=>⟨t_over K,(pss_one (ps_ret (pe_call (ok_ratio T) (hr.mono (by decide)) rfl T.ratio.m T.ratio.F.kp T.ratio.b .nil pass0 (pa_cons (pe_op op_mulB (pe_ix ix_tup (pv 0) pe_int (λ _ _=>rfl)) (pe_ix ix_tup (pv 1) pe_int (λ _ _=>rfl))) (pa_cons (pe_op op_mulB (pe_ix ix_tup (pv 0) pe_int (λ _ _=>rfl)) (pe_ix ix_tup (pv 1) pe_int (λ _ _=>rfl))) pa_nil))))),rd_over h⟩)
theorem sc_Corner_spread:FnScope N_Corner_spread ["self", "numbers"] (defScope s_Corner_spread):=⟨rfl,rfl,rfl,by decide +kernel,rfl,by decide +kernel,by decide +kernel⟩
theorem ok_Corner_spread (T:Tx K mg a):FnOk P w K mg base CX0 3 a.f_Corner_spread a.d_Corner_spread ["self", "numbers"] (sp_Corner_spread K):=by
 refine T.Corner_spread.F.ok sc_Corner_spread (λ vs H Q E h=>len_Corner_spread h) (λ cdv A outer s H vs Q E hr h=>⟨t_Corner_spread K,(pss_cons (ps_setComp (i:=2) (FS:=defScope s_Corner_spread) (N:=N_Corner_spread) (x:="column") (ys:=[]) (caps:=[]) ⟨by decide +kernel,rfl,by decide +kernel,rfl,by decide +kernel,rfl,by decide +kernel,rfl,by decide +kernel⟩ rfl rfl rfl sc_Corner_spread.nd rfl (Or.inl rfl) (pi_list (pe_fld (pv 0) rfl)) (λ _ _ _ _=>(pe_tup (pa_cons pe_int (pa_cons pe_int pa_nil))))) (pss_cons (ps_for PassesOwn.never rfl (pi_zip rfl T.n_zip (pa_cons (pv 1) (pa_cons (pe_fld (pv 0) rfl) pa_nil))) (pg_tup (n:=2) rfl (pgs_cons (pg_name (i:=3) sc_Corner_spread.nd rfl (Or.inl rfl)) (pgs_cons (pg_name (i:=4) sc_Corner_spread.nd rfl (Or.inl rfl)) pgs_nil))) (pss_one (ps_if (pt_cmpR op_lt (pv 4) (pe_callB call_len_seq rfl T.n_len bt_len (pa_cons (pv 2) pa_nil)) (nomark _)) (pss_one (ps_asg (pe_call (ok_ratio T) (hr.mono (by decide)) rfl T.ratio.m T.ratio.F.kp T.ratio.b .nil pass0 (pa_cons (pv 3) (pa_cons (pe_meth0 (pv 0) T.ct.cl T.Corner_bottom.m (ok_Corner_bottom T) (hr.mono (by decide)) T.Corner_bottom.b .nil pass0) pa_nil))) (pg_sub (pv 2) (pv 4) set_list))) pss_nil))) (pss_one (ps_ret (pv 2))))),rd_Corner_spread T.ct h⟩)
theorem sc_Corner_xs:FnScope N_Corner_xs ["self"] (defScope s_Corner_xs):=⟨rfl,rfl,rfl,by decide +kernel,rfl,by decide +kernel,by decide +kernel⟩
theorem ok_Corner_xs (T:Tx K mg a):FnOk P w K mg base CX0 4 a.f_Corner_xs a.d_Corner_xs ["self"] (sp_Corner_xs K):=by
 refine T.Corner_xs.F.ok sc_Corner_xs (λ vs H Q E h=>len_Corner_xs h) (λ cdv A outer s H vs Q E hr h=>⟨t_Corner_xs K,(pss_one (ps_ret (pe_meth (pv 0) T.ct.cl T.Corner_spread.m (ok_Corner_spread T) (hr.mono (by decide)) T.Corner_spread.b .nil pass0 (pa_cons (pe_call (ok_column_of T) (hr.mono (by decide)) rfl T.column_of.m T.column_of.F.kp T.column_of.b .nil pass0 (pa_cons (pe_fld (pv 0) rfl) (pa_cons (pe_un un_neg pe_int) pa_nil))) pa_nil)))),rd_Corner_xs T.ct h⟩)
theorem sc_Corner_ways:FnScope N_Corner_ways ["self", "column"] (defScope s_Corner_ways):=⟨rfl,rfl,rfl,by decide +kernel,rfl,by decide +kernel,by decide +kernel⟩
theorem ok_Corner_ways (T:Tx K mg a):FnOk P w K mg base CX0 4 a.f_Corner_ways a.d_Corner_ways ["self", "column"] (sp_Corner_ways K):=by
 refine T.Corner_ways.F.ok sc_Corner_ways (λ vs H Q E h=>len_Corner_ways h) (λ cdv A outer s H vs Q E hr h=>⟨t_Corner_ways K,(pss_cons (ps_set (i:=2) sc_Corner_ways.nd rfl (Or.inl rfl) (pe_meth (pv 0) T.ct.cl T.Corner_spread.m (ok_Corner_spread T) (hr.mono (by decide)) T.Corner_spread.b .nil pass0 (pa_cons (pe_comp (FS:=defScope s_Corner_ways) (N:=N_Corner_ways) (x:="number") (ys:=[]) (caps:=[]) ⟨by decide +kernel,rfl,by decide +kernel,rfl,by decide +kernel,rfl,by decide +kernel,rfl,by decide +kernel⟩ rfl rfl rfl (pi_list (pe_meth (pv 0) T.ct.cl T.Corner_numbers.m (ok_Corner_numbers T) (hr.mono (by decide)) T.Corner_numbers.b .nil pass0 (pa_cons (pv 1) pa_nil))) (λ _ _ _ _=>(pe_un un_neg (pv 0)))) pa_nil))) (pss_cons (ps_if (pt_cmpR op_lt (pv 1) (pe_callB call_len_seq rfl T.n_len bt_len (pa_cons (pv 2) pa_nil)) (nomark _)) (pss_one (ps_asg (pe_tup (pa_cons pe_int (pa_cons pe_int pa_nil))) (pg_sub (pv 2) (pv 1) set_list))) pss_nil) (pss_one (ps_ret (pv 2))))),rd_Corner_ways T.ct h⟩)
theorem sc_Corner_ys:FnScope N_Corner_ys ["self"] (defScope s_Corner_ys):=⟨rfl,rfl,rfl,by decide +kernel,rfl,by decide +kernel,by decide +kernel⟩
theorem ok_Corner_ys (T:Tx K mg a):FnOk P w K mg base CX0 3 a.f_Corner_ys a.d_Corner_ys ["self"] (sp_Corner_ys K):=by
 refine T.Corner_ys.F.ok sc_Corner_ys (λ vs H Q E h=>len_Corner_ys h) (λ cdv A outer s H vs Q E hr h=>⟨t_Corner_ys K,(pss_one (ps_ret (pe_comp (FS:=defScope s_Corner_ys) (N:=N_Corner_ys) (x:="number") (ys:=["self"]) (caps:=[0]) ⟨by decide +kernel,rfl,by decide +kernel,rfl,by decide +kernel,rfl,by decide +kernel,rfl,by decide +kernel⟩ rfl rfl rfl (pi_list (pe_slice sl_list (pe_ix ix_list (pe_fld (pv 0) rfl) (pe_un un_neg pe_int) (λ _ _=>rfl)) po_none (po_some (pe_callB call_len_seq rfl T.n_len bt_len (pa_cons (pe_fld (pv 0) rfl) pa_nil))))) (λ _ _ _ _=>(pe_call (ok_ratio T) (hr.mono (by decide)) rfl T.ratio.m T.ratio.F.kp T.ratio.b .nil pass0 (pa_cons (pv 0) (pa_cons (pe_meth0 (pv 1) T.ct.cl T.Corner_bottom.m (ok_Corner_bottom T) (hr.mono (by decide)) T.Corner_bottom.b .nil pass0) pa_nil))))))),rd_Corner_ys T.ct h⟩)
theorem sc_best:FnScope N_best ["rows", "bounds", "goal"] (defScope s_best):=⟨rfl,rfl,rfl,by decide +kernel,rfl,by decide +kernel,by decide +kernel⟩
theorem ok_best (T:Tx K mg a):FnOk P w K mg base CX0 6 a.f_best a.d_best ["rows", "bounds", "goal"] (sp_best K):=by
 refine T.best.F.ok sc_best (λ vs H Q E h=>len_best h) (λ cdv A outer s H vs Q E hr h=>⟨t_best K,(pss_cons (ps_for PassesOwn.never rfl (pi_list (pv 1)) (pg_name (i:=3) sc_best.nd rfl (Or.inl rfl)) (pss_one (ps_if (pt_val (pe_call (ok_below T) (hr.mono (by decide)) rfl T.below.m T.below.F.kp T.below.b .nil pass0 (pa_cons (pv 3) (pa_cons (pe_tup (pa_cons pe_int (pa_cons pe_int pa_nil))) pa_nil)))) (pss_one ps_never) pss_nil))) (pss_cons (ps_setComp (i:=4) (FS:=defScope s_best) (N:=N_best) (x:="row") (ys:=[]) (caps:=[]) ⟨by decide +kernel,rfl,by decide +kernel,rfl,by decide +kernel,rfl,by decide +kernel,rfl,by decide +kernel⟩ rfl rfl rfl sc_best.nd rfl (Or.inl rfl) (pi_list (pv 0)) (λ _ _ _ _=>(pe_call (ok_whole T) (hr.mono (by decide)) rfl T.whole.m T.whole.F.kp T.whole.b .nil pass0 (pa_cons (pv 0) pa_nil)))) (pss_cons (ps_set (i:=5) sc_best.nd rfl (Or.inr rfl) (pe_call (ok_whole T) (hr.mono (by decide)) rfl T.whole.m T.whole.F.kp T.whole.b .nil pass0 (pa_cons (pe_compG (FS:=defScope s_best) (N:=N_best) (xs:=["bound", "row"]) (ys:=[]) (caps:=[]) ⟨by decide +kernel,rfl,by decide +kernel,by decide +kernel,rfl,by decide +kernel,rfl⟩ rfl rfl rfl (pi_zip rfl T.n_zip (pa_cons (pv 1) (pa_cons (pv 4) pa_nil))) (λ _ _ _ _=>pg_tup (n:=2) rfl (pgs_cons (pgc_name (i:=0) (by decide +kernel) rfl (by decide +kernel)) (pgs_cons (pgc_name (i:=1) (by decide +kernel) rfl (by decide +kernel)) pgs_nil))) (λ _ _ _ _=>(pe_call (ok_times T) (hr.mono (by decide)) rfl T.times.m T.times.F.kp T.times.b .nil pass0 (pa_cons (pv 0) (pa_cons (pe_ix ix_tup (pv 1) pe_int (λ _ _=>rfl)) pa_nil))))) pa_nil))) (pss_cons (ps_set (i:=6) sc_best.nd rfl (Or.inr rfl) (pe_call (ok_whole T) (hr.mono (by decide)) rfl T.whole.m T.whole.F.kp T.whole.b .nil pass0 (pa_cons (pv 2) pa_nil))) (pss_cons (ps_setCompG (i:=7) (FS:=defScope s_best) (N:=N_best) (xs:=["row", "limit"]) (ys:=[]) (caps:=[]) ⟨by decide +kernel,rfl,by decide +kernel,by decide +kernel,rfl,by decide +kernel,rfl⟩ rfl rfl rfl sc_best.nd rfl (Or.inl rfl) (pi_zip rfl T.n_zip (pa_cons (pv 4) (pa_cons (pe_ix ix_tup (pv 5) pe_int (λ _ _=>rfl)) pa_nil))) (λ _ _ _ _=>pg_tup (n:=2) rfl (pgs_cons (pgc_name (i:=0) (by decide +kernel) rfl (by decide +kernel)) (pgs_cons (pgc_name (i:=1) (by decide +kernel) rfl (by decide +kernel)) pgs_nil))) (λ _ _ _ _=>(pe_op op_cat (pe_ix ix_tup (pv 0) pe_int (λ _ _=>rfl)) (pe_lst (pa_cons (pv 1) pa_nil))))) (pss_cons (ps_set (i:=8) sc_best.nd rfl (Or.inl rfl) (pe_call (ok_last_corner T) (hr.mono (by decide)) rfl T.last_corner.m T.last_corner.F.kp T.last_corner.b .nil pass0 (pa_cons (pe_op op_cat (pv 7) (pe_lst (pa_cons (pe_op op_cat (pe_call (ok_turned_round T) (hr.mono (by decide)) rfl T.turned_round.m T.turned_round.F.kp T.turned_round.b .nil pass0 (pa_cons (pe_ix ix_tup (pv 6) pe_int (λ _ _=>rfl)) pa_nil)) (pe_lst (pa_cons pe_int pa_nil))) pa_nil))) pa_nil))) (pss_cons (ps_setComp (i:=9) (FS:=defScope s_best) (N:=N_best) (x:="x") (ys:=["limits"]) (caps:=[5]) ⟨by decide +kernel,rfl,by decide +kernel,rfl,by decide +kernel,rfl,by decide +kernel,rfl,by decide +kernel⟩ rfl rfl rfl sc_best.nd rfl (Or.inl rfl) (pi_list (pe_meth0 (pe_ix ix_tup (pv 8) pe_int (λ _ _=>rfl)) T.ct.cl T.Corner_xs.m (ok_Corner_xs T) (hr.mono (by decide)) T.Corner_xs.b .nil pass0)) (λ _ _ _ _=>(pe_call (ok_over T) (hr.mono (by decide)) rfl T.over.m T.over.F.kp T.over.b .nil pass0 (pa_cons (pv 0) (pa_cons (pe_ix ix_tup (pv 1) pe_int (λ _ _=>rfl)) pa_nil))))) (pss_cons (ps_if (pt_cmpR op_notN (pe_ix ix_tup (pv 8) pe_int (λ _ _=>rfl)) pe_non (nomark _)) (pss_one (ps_ret (pe_tup (pa_cons pe_str (pa_cons (pv 9) (pa_cons (pe_meth (pe_ix ix_tup (pv 8) pe_int (λ _ _=>rfl)) T.ct.cl T.Corner_ways.m (ok_Corner_ways T) (hr.mono (by decide)) T.Corner_ways.b .nil pass0 (pa_cons (pe_ix ix_tup (pv 8) pe_int (λ _ _=>rfl)) pa_nil)) pa_nil)))))) pss_nil) (pss_one (ps_ret (pe_tup (pa_cons pe_str (pa_cons (pv 9) (pa_cons (pe_compG (FS:=defScope s_best) (N:=N_best) (xs:=["y", "row"]) (ys:=["aims"]) (caps:=[6]) ⟨by decide +kernel,rfl,by decide +kernel,by decide +kernel,rfl,by decide +kernel,rfl⟩ rfl rfl rfl (pi_zip rfl T.n_zip (pa_cons (pe_meth0 (pe_ix ix_tup (pv 8) pe_int (λ _ _=>rfl)) T.ct.cl T.Corner_ys.m (ok_Corner_ys T) (hr.mono (by decide)) T.Corner_ys.b .nil pass0) (pa_cons (pv 4) pa_nil))) (λ _ _ _ _=>pg_tup (n:=2) rfl (pgs_cons (pgc_name (i:=0) (by decide +kernel) rfl (by decide +kernel)) (pgs_cons (pgc_name (i:=1) (by decide +kernel) rfl (by decide +kernel)) pgs_nil))) (λ _ _ _ _=>(pe_call (ok_over T) (hr.mono (by decide)) rfl T.over.m T.over.F.kp T.over.b .nil pass0 (pa_cons (pe_call (ok_times T) (hr.mono (by decide)) rfl T.times.m T.times.F.kp T.times.b .nil pass0 (pa_cons (pv 0) (pa_cons (pe_ix ix_tup (pv 1) pe_int (λ _ _=>rfl)) pa_nil))) (pa_cons (pe_ix ix_tup (pv 2) pe_int (λ _ _=>rfl)) pa_nil))))) pa_nil)))))))))))))),rd_best h⟩)
theorem sc_l_whole:FnScope N_l_whole ["_law_found"] (defScope s_l_whole):=⟨rfl,rfl,rfl,by decide +kernel,rfl,by decide +kernel,by decide +kernel⟩
theorem ok_l_whole (T:Tx K mg a):FnOk P w K mg base CX0 1 a.f_l_whole a.d_l_whole ["_law_found"] (sp_l_whole K):=by
 refine T.l_whole.F.ok sc_l_whole (λ vs H Q E h=>len_l_whole h) (λ cdv A outer s H vs Q E hr h=>⟨t_l_whole K,(pss_one (ps_ret (pe_and (pe_callB call_isB rfl T.n_isinstance bt_isinstance (pa_cons (pv 0) (pa_cons (pe_bltn (v:=.ty "int") rfl T.n_int bt_int rfl) pa_nil))) (pe_one (pe_not (pe_callB call_isB rfl T.n_isinstance bt_isinstance (pa_cons (pv 0) (pa_cons (pe_bltn (v:=.ty "bool") rfl T.n_bool bt_bool rfl) pa_nil)))))))),rd_l_whole h⟩)
theorem sc_l_list:FnScope N_l_list ["_law_found", "_law_many"] (defScope s_l_list):=⟨rfl,rfl,rfl,by decide +kernel,rfl,by decide +kernel,by decide +kernel⟩
theorem ok_l_list (T:Tx K mg a):FnOk P w K mg base CX0 2 a.f_l_list a.d_l_list ["_law_found", "_law_many"] (sp_l_list K):=by
 refine T.l_list.F.ok sc_l_list (λ vs H Q E h=>len_l_list h) (λ cdv A outer s H vs Q E hr h=>⟨t_l_list K,(pss_cons (ps_if (PW.pt (pw_or (pt_not (pt_val (pe_callB call_isB2 rfl T.n_isinstance bt_isinstance (pa_cons (pv 0) (pa_cons (pe_bltn (v:=.ty "list") rfl T.n_list bt_list rfl) pa_nil))))) (pw_or1 (pt_cmpR op_ne (pe_callB call_len_seq rfl T.n_len bt_len (pa_cons (pv 0) pa_nil)) (pv 1) (nomark _))))) (pss_one (ps_ret pe_bl)) pss_nil) (pss_cons (ps_for PassesOwn.never rfl (pi_list (pv 0)) (pg_name (i:=2) sc_l_list.nd rfl (Or.inl rfl)) (pss_cons (ps_if (PW.pt (pw_or (pt_not (pt_val (pe_callB call_isT rfl T.n_isinstance bt_isinstance (pa_cons (pv 2) (pa_cons (pe_bltn (v:=.ty "tuple") rfl T.n_tuple bt_tuple rfl) pa_nil))))) (pw_or (pt_cmpR op_ne (pe_callB call_len_seq rfl T.n_len bt_len (pa_cons (pv 2) pa_nil)) pe_int (nomark _)) (pw_or (pt_not (pt_val (pe_call (ok_l_whole T) (hr.mono (by decide)) rfl T.l_whole.m T.l_whole.F.kp T.l_whole.b .nil pass0 (pa_cons (pe_ix ix_tup (pv 2) pe_int (λ _ _=>rfl)) pa_nil)))) (pw_or1 (pt_not (pt_val (pe_call (ok_l_whole T) (hr.mono (by decide)) rfl T.l_whole.m T.l_whole.F.kp T.l_whole.b .nil pass0 (pa_cons (pe_ix ix_tup (pv 2) pe_int (λ _ _=>rfl)) pa_nil))))))))) (pss_one (ps_ret pe_bl)) pss_nil) (pss_one (ps_if (PW.pt (pw_or (pt_cmpR op_lt (pe_ix ix_tup (pv 2) pe_int (λ _ _=>rfl)) pe_int (nomark _)) (pw_or (pt_cmpR op_lt (pe_ix ix_tup (pv 2) pe_int (λ _ _=>rfl)) pe_int (nomark _)) (pw_or1 (pt_cmpR op_ne (pe_call (ok_l_divisor T) (hr.mono (by decide)) rfl T.l_divisor.m T.l_divisor.F.kp T.l_divisor.b .nil pass0 (pa_cons (pe_ix ix_tup (pv 2) pe_int (λ _ _=>rfl)) (pa_cons (pe_ix ix_tup (pv 2) pe_int (λ _ _=>rfl)) pa_nil))) pe_int (nomark _)))))) (pss_one (ps_ret pe_bl)) pss_nil)))) (pss_one (ps_ret pe_bl)))),rd_l_list h⟩)
theorem sc_l_at_most:FnScope N_l_at_most ["_law_one", "_law_other"] (defScope s_l_at_most):=⟨rfl,rfl,rfl,by decide +kernel,rfl,by decide +kernel,by decide +kernel⟩
theorem ok_l_at_most (T:Tx K mg a):FnOk P w K mg base CX0 1 a.f_l_at_most a.d_l_at_most ["_law_one", "_law_other"] (sp_l_at_most K):=by
 refine T.l_at_most.F.ok sc_l_at_most (λ vs H Q E h=>len_l_at_most h) (λ cdv A outer s H vs Q E hr h=>⟨t_l_at_most K,(pss_one (ps_ret (pe_cmpR op_le (pe_op op_mulB (pe_ix ix_tup (pv 0) pe_int (λ _ _=>rfl)) (pe_ix ix_tup (pv 1) pe_int (λ _ _=>rfl))) (pe_op op_mulB (pe_ix ix_tup (pv 1) pe_int (λ _ _=>rfl)) (pe_ix ix_tup (pv 0) pe_int (λ _ _=>rfl))) (nomark _)))),rd_l_at_most h⟩)
theorem sc_l_products:FnScope N_l_products ["_law_ones", "_law_others"] (defScope s_l_products):=⟨rfl,rfl,rfl,by decide +kernel,rfl,by decide +kernel,by decide +kernel⟩
theorem ok_l_products (T:Tx K mg a):FnOk P w K mg base CX0 1 a.f_l_products a.d_l_products ["_law_ones", "_law_others"] (sp_l_products K):=by
 refine T.l_products.F.ok sc_l_products (λ vs H Q E h=>len_l_products h) (λ cdv A outer s H vs Q E hr h=>⟨t_l_products K,(pss_cons (ps_set (i:=2) sc_l_products.nd rfl (Or.inl rfl) pe_int) (pss_cons (ps_set (i:=3) sc_l_products.nd rfl (Or.inl rfl) pe_int) (pss_cons (ps_for PassesOwn.never rfl (pi_zip rfl T.n_zip (pa_cons (pv 0) (pa_cons (pv 1) pa_nil))) (pg_tup (n:=2) rfl (pgs_cons (pg_name (i:=4) sc_l_products.nd rfl (Or.inl rfl)) (pgs_cons (pg_name (i:=5) sc_l_products.nd rfl (Or.inl rfl)) pgs_nil))) (pss_cons (ps_set (i:=2) sc_l_products.nd rfl (Or.inl rfl) (pe_op op_add (pe_op op_mulB (pe_op op_mulB (pv 2) (pe_ix ix_tup (pv 4) pe_int (λ _ _=>rfl))) (pe_ix ix_tup (pv 5) pe_int (λ _ _=>rfl))) (pe_op op_mulB (pe_op op_mulB (pe_ix ix_tup (pv 4) pe_int (λ _ _=>rfl)) (pe_ix ix_tup (pv 5) pe_int (λ _ _=>rfl))) (pv 3)))) (pss_one (ps_set (i:=3) sc_l_products.nd rfl (Or.inl rfl) (pe_op op_mulB (pe_op op_mulB (pv 3) (pe_ix ix_tup (pv 4) pe_int (λ _ _=>rfl))) (pe_ix ix_tup (pv 5) pe_int (λ _ _=>rfl))))))) (pss_one (ps_ret (pe_tup (pa_cons (pv 2) (pa_cons (pv 3) pa_nil)))))))),rd_l_products h⟩)
theorem sc_l_allowed:FnScope N_l_allowed ["_law_rows", "_law_bounds", "_law_xs"] (defScope s_l_allowed):=⟨rfl,rfl,rfl,by decide +kernel,rfl,by decide +kernel,by decide +kernel⟩
theorem ok_l_allowed (T:Tx K mg a):FnOk P w K mg base CX0 2 a.f_l_allowed a.d_l_allowed ["_law_rows", "_law_bounds", "_law_xs"] (sp_l_allowed K):=by
 refine T.l_allowed.F.ok sc_l_allowed (λ vs H Q E h=>len_l_allowed h) (λ cdv A outer s H vs Q E hr h=>⟨t_l_allowed K,(pss_cons (ps_for PassesOwn.never rfl (pi_zip rfl T.n_zip (pa_cons (pv 0) (pa_cons (pv 1) pa_nil))) (pg_tup (n:=2) rfl (pgs_cons (pg_name (i:=3) sc_l_allowed.nd rfl (Or.inl rfl)) (pgs_cons (pg_name (i:=4) sc_l_allowed.nd rfl (Or.inl rfl)) pgs_nil))) (pss_one (ps_if (pt_not (pt_val (pe_call (ok_l_at_most T) (hr.mono (by decide)) rfl T.l_at_most.m T.l_at_most.F.kp T.l_at_most.b .nil pass0 (pa_cons (pe_call (ok_l_products T) (hr.mono (by decide)) rfl T.l_products.m T.l_products.F.kp T.l_products.b .nil pass0 (pa_cons (pv 3) (pa_cons (pv 2) pa_nil))) (pa_cons (pv 4) pa_nil))))) (pss_one (ps_ret pe_bl)) pss_nil))) (pss_one (ps_ret pe_bl))),rd_l_allowed h⟩)
theorem sc_l_right:FnScope N_l_right ["_law_found", "_law_rows", "_law_bounds", "_law_goal"] (defScope s_l_right):=⟨rfl,rfl,rfl,by decide +kernel,rfl,by decide +kernel,by decide +kernel⟩
theorem ok_l_right (T:Tx K mg a):FnOk P w K mg base CX0 3 a.f_l_right a.d_l_right ["_law_found", "_law_rows", "_law_bounds", "_law_goal"] (sp_l_right K):=by
 refine T.l_right.F.ok sc_l_right (λ vs H Q E h=>len_l_right h) (λ cdv A outer s H vs Q E hr h=>⟨t_l_right K,(pss_cons (ps_if (PW.pt (pw_or (pt_not (pt_val (pe_callB call_isB2 rfl T.n_isinstance bt_isinstance (pa_cons (pv 0) (pa_cons (pe_bltn (v:=.ty "tuple") rfl T.n_tuple bt_tuple rfl) pa_nil))))) (pw_or (pt_cmpR op_ne (pe_callB call_len_seq rfl T.n_len bt_len (pa_cons (pv 0) pa_nil)) pe_int (nomark _)) (pw_or1 (pt_not (pt_val (pe_call (ok_l_list T) (hr.mono (by decide)) rfl T.l_list.m T.l_list.F.kp T.l_list.b .nil pass0 (pa_cons (pe_ix ix_tup (pv 0) pe_int (λ _ _=>rfl)) (pa_cons (pe_callB call_len_seq rfl T.n_len bt_len (pa_cons (pv 3) pa_nil)) pa_nil))))))))) (pss_one (ps_ret pe_bl)) pss_nil) (pss_cons (ps_if (pt_not (pt_val (pe_call (ok_l_allowed T) (hr.mono (by decide)) rfl T.l_allowed.m T.l_allowed.F.kp T.l_allowed.b .nil pass0 (pa_cons (pv 1) (pa_cons (pv 2) (pa_cons (pe_ix ix_tup (pv 0) pe_int (λ _ _=>rfl)) pa_nil)))))) (pss_one (ps_ret pe_bl)) pss_nil) (pss_cons (ps_if (pt_cmpR op_eq (pe_ix ix_tup (pv 0) pe_int (λ _ _=>rfl)) pe_str (nomark _)) (pss_cons (ps_if (PW.pt (pw_or (pt_not (pt_val (pe_call (ok_l_list T) (hr.mono (by decide)) rfl T.l_list.m T.l_list.F.kp T.l_list.b .nil pass0 (pa_cons (pe_ix ix_tup (pv 0) pe_int (λ _ _=>rfl)) (pa_cons (pe_callB call_len_seq rfl T.n_len bt_len (pa_cons (pv 3) pa_nil)) pa_nil))))) (pw_or1 (pt_not (pt_val (pe_call (ok_l_allowed T) (hr.mono (by decide)) rfl T.l_allowed.m T.l_allowed.F.kp T.l_allowed.b .nil pass0 (pa_cons (pv 1) (pa_cons (pe_comp (FS:=defScope s_l_right) (N:=N_l_right) (x:="_law_row") (ys:=[]) (caps:=[]) ⟨by decide +kernel,rfl,by decide +kernel,rfl,by decide +kernel,rfl,by decide +kernel,rfl,by decide +kernel⟩ rfl rfl rfl (pi_list (pv 1)) (λ _ _ _ _=>(pe_tup (pa_cons pe_int (pa_cons pe_int pa_nil))))) (pa_cons (pe_ix ix_tup (pv 0) pe_int (λ _ _=>rfl)) pa_nil))))))))) (pss_one (ps_ret pe_bl)) pss_nil) (pss_one (ps_ret (pe_cmpR op_gt (pe_ix ix_tup (pe_call (ok_l_products T) (hr.mono (by decide)) rfl T.l_products.m T.l_products.F.kp T.l_products.b .nil pass0 (pa_cons (pv 3) (pa_cons (pe_ix ix_tup (pv 0) pe_int (λ _ _=>rfl)) pa_nil))) pe_int (λ _ _=>rfl)) pe_int (nomark _))))) pss_nil) (pss_cons (ps_if (PW.pt (pw_or (pt_cmpR op_ne (pe_ix ix_tup (pv 0) pe_int (λ _ _=>rfl)) pe_str (nomark _)) (pw_or1 (pt_not (pt_val (pe_call (ok_l_list T) (hr.mono (by decide)) rfl T.l_list.m T.l_list.F.kp T.l_list.b .nil pass0 (pa_cons (pe_ix ix_tup (pv 0) pe_int (λ _ _=>rfl)) (pa_cons (pe_callB call_len_seq rfl T.n_len bt_len (pa_cons (pv 1) pa_nil)) pa_nil)))))))) (pss_one (ps_ret pe_bl)) pss_nil) (pss_cons (ps_for PassesOwn.never rfl (pi_range1 rfl T.n_range (pa_cons (pe_callB call_len_seq rfl T.n_len bt_len (pa_cons (pv 3) pa_nil)) pa_nil)) (pg_name (i:=4) sc_l_right.nd rfl (Or.inr rfl)) (pss_one (ps_if (pt_not (pt_val (pe_call (ok_l_at_most T) (hr.mono (by decide)) rfl T.l_at_most.m T.l_at_most.F.kp T.l_at_most.b .nil pass0 (pa_cons (pe_ix ix_list (pv 3) (pv 4) (λ _ _=>rfl)) (pa_cons (pe_call (ok_l_products T) (hr.mono (by decide)) rfl T.l_products.m T.l_products.F.kp T.l_products.b .nil pass0 (pa_cons (pe_ix ix_tup (pv 0) pe_int (λ _ _=>rfl)) (pa_cons (pe_comp (FS:=defScope s_l_right) (N:=N_l_right) (x:="_law_row") (ys:=["_law_j"]) (caps:=[4]) ⟨by decide +kernel,rfl,by decide +kernel,rfl,by decide +kernel,rfl,by decide +kernel,rfl,by decide +kernel⟩ rfl rfl rfl (pi_list (pv 1)) (λ _ _ _ _=>(pe_ix ix_list (pv 0) (pv 1) (λ _ _=>rfl)))) pa_nil))) pa_nil))))) (pss_one (ps_ret pe_bl)) pss_nil))) (pss_cons (ps_set (i:=5) sc_l_right.nd rfl (Or.inl rfl) (pe_call (ok_l_products T) (hr.mono (by decide)) rfl T.l_products.m T.l_products.F.kp T.l_products.b .nil pass0 (pa_cons (pv 3) (pa_cons (pe_ix ix_tup (pv 0) pe_int (λ _ _=>rfl)) pa_nil)))) (pss_cons (ps_set (i:=6) sc_l_right.nd rfl (Or.inl rfl) (pe_call (ok_l_products T) (hr.mono (by decide)) rfl T.l_products.m T.l_products.F.kp T.l_products.b .nil pass0 (pa_cons (pv 2) (pa_cons (pe_ix ix_tup (pv 0) pe_int (λ _ _=>rfl)) pa_nil)))) (pss_one (ps_ret (pe_cmpR op_eq (pe_op op_mulB (pe_ix ix_tup (pv 5) pe_int (λ _ _=>rfl)) (pe_ix ix_tup (pv 6) pe_int (λ _ _=>rfl))) (pe_op op_mulB (pe_ix ix_tup (pv 6) pe_int (λ _ _=>rfl)) (pe_ix ix_tup (pv 5) pe_int (λ _ _=>rfl))) (nomark _))))))))))),rd_l_right h⟩)
theorem sc_law:FnScope N_law ["_law_script"] (defScope s_law):=⟨rfl,rfl,rfl,by decide +kernel,rfl,by decide +kernel,by decide +kernel⟩
theorem ok_law (T:Tx K mg a):FnOk P w K mg base CX0 7 a.f_law a.d_law ["_law_script"] (sp_law K):=by
 refine T.law.F.ok sc_law (λ vs H Q E h=>len_law h) (λ cdv A outer s H vs Q E hr h=>⟨t_law K,(pss_cons (ps_asg (pe_call (ok_l_drawn T) (hr.mono (by decide)) rfl T.l_drawn.m T.l_drawn.F.kp T.l_drawn.b .nil pass0 (pa_cons (pv 0) pa_nil)) (pg_tup (n:=3) rfl (pgs_cons (pg_name (i:=1) sc_law.nd rfl (Or.inl rfl)) (pgs_cons (pg_name (i:=2) sc_law.nd rfl (Or.inl rfl)) (pgs_cons (pg_name (i:=3) sc_law.nd rfl (Or.inl rfl)) pgs_nil))))) (pss_cons (ps_setComp (i:=4) (FS:=defScope s_law) (N:=N_law) (x:="_law_row") (ys:=[]) (caps:=[]) ⟨by decide +kernel,rfl,by decide +kernel,rfl,by decide +kernel,rfl,by decide +kernel,rfl,by decide +kernel⟩ rfl rfl rfl sc_law.nd rfl (Or.inl rfl) (pi_list (pv 1)) (λ _ _ _ _=>(pe_callTy call_list_of rfl T.n_list bt_list (pa_cons (pv 0) pa_nil)))) (pss_cons (ps_set (i:=5) sc_law.nd rfl (Or.inl rfl) (pe_lst (pa_cons (pe_callTy call_list_of rfl T.n_list bt_list (pa_cons (pv 2) pa_nil)) (pa_cons (pe_callTy call_list_of rfl T.n_list bt_list (pa_cons (pv 3) pa_nil)) pa_nil)))) (pss_cons (ps_set (i:=6) sc_law.nd rfl (Or.inl rfl) (pe_call (ok_best T) (hr.mono (by decide)) rfl T.best.m T.best.F.kp T.best.b .nil pass0 (pa_cons (pv 4) (pa_cons (pe_ix ix_list (pv 5) pe_int (λ _ _=>rfl)) (pa_cons (pe_ix ix_list (pv 5) pe_int (λ _ _=>rfl)) pa_nil))))) (pss_cons (ps_if (pt_not (pt_val (pe_call (ok_l_right T) (hr.mono (by decide)) rfl T.l_right.m T.l_right.F.kp T.l_right.b .nil pass0 (pa_cons (pv 6) (pa_cons (pv 1) (pa_cons (pv 2) (pa_cons (pv 3) pa_nil))))))) (pss_one (ps_ret pe_bl)) pss_nil) (pss_cons (ps_if (PW.pt (pw_or (pt_cmpR (op_neD 1 (Nat.lt_of_le_of_lt (Nat.add_le_add_left (by decide) _) hr.units)) (pv 4) (pv 1) (nomark _)) (pw_or1 (pt_cmpR (op_neD 1 (Nat.lt_of_le_of_lt (Nat.add_le_add_left (by decide) _) hr.units)) (pv 5) (pe_lst (pa_cons (pv 2) (pa_cons (pv 3) pa_nil))) (nomark _))))) (pss_one (ps_ret pe_bl)) pss_nil) (pss_cons (ps_set (i:=7) sc_law.nd rfl (Or.inl rfl) (pe_tup (pa_cons (pe_ix ix_tup (pv 6) pe_int (λ _ _=>rfl)) (pa_cons (pe_callTy call_list_of rfl T.n_list bt_list (pa_cons (pe_ix ix_tup (pv 6) pe_int (λ _ _=>rfl)) pa_nil)) (pa_cons (pe_callTy call_list_of rfl T.n_list bt_list (pa_cons (pe_ix ix_tup (pv 6) pe_int (λ _ _=>rfl)) pa_nil)) pa_nil))))) (pss_cons (ps_for PassesOwn.never rfl (pi_list (pv 4)) (pg_name (i:=8) sc_law.nd rfl (Or.inl rfl)) (pss_cons (ps_asg (pe_tup (pa_cons (pe_op op_sub pe_int (pe_ix ix_tup (pe_ix ix_list (pv 8) pe_int (λ _ _=>rfl)) pe_int (λ _ _=>rfl))) (pa_cons (pe_ix ix_tup (pe_ix ix_list (pv 8) pe_int (λ _ _=>rfl)) pe_int (λ _ _=>rfl)) pa_nil))) (pg_sub (pv 8) pe_int set_list)) (pss_one (ps_asg (pe_tup (pa_cons (pe_op op_fdivB (pe_ix ix_tup (pe_ix ix_list (pv 8) pe_int (λ _ _=>rfl)) pe_int (λ _ _=>rfl)) (pe_call (ok_l_divisor T) (hr.mono (by decide)) rfl T.l_divisor.m T.l_divisor.F.kp T.l_divisor.b .nil pass0 (pa_cons (pe_ix ix_tup (pe_ix ix_list (pv 8) pe_int (λ _ _=>rfl)) pe_int (λ _ _=>rfl)) (pa_cons (pe_ix ix_tup (pe_ix ix_list (pv 8) pe_int (λ _ _=>rfl)) pe_int (λ _ _=>rfl)) pa_nil)))) (pa_cons (pe_op op_fdivB (pe_ix ix_tup (pe_ix ix_list (pv 8) pe_int (λ _ _=>rfl)) pe_int (λ _ _=>rfl)) (pe_call (ok_l_divisor T) (hr.mono (by decide)) rfl T.l_divisor.m T.l_divisor.F.kp T.l_divisor.b .nil pass0 (pa_cons (pe_ix ix_tup (pe_ix ix_list (pv 8) pe_int (λ _ _=>rfl)) pe_int (λ _ _=>rfl)) (pa_cons (pe_ix ix_tup (pe_ix ix_list (pv 8) pe_int (λ _ _=>rfl)) pe_int (λ _ _=>rfl)) pa_nil)))) pa_nil))) (pg_sub (pv 8) pe_int set_list))))) (pss_cons (ps_setComp (i:=1) (FS:=defScope s_law) (N:=N_law) (x:="_law_row") (ys:=[]) (caps:=[]) ⟨by decide +kernel,rfl,by decide +kernel,rfl,by decide +kernel,rfl,by decide +kernel,rfl,by decide +kernel⟩ rfl rfl rfl sc_law.nd rfl (Or.inl rfl) (pi_list (pv 4)) (λ _ _ _ _=>(pe_callTy call_list_of rfl T.n_list bt_list (pa_cons (pv 0) pa_nil)))) (pss_cons (ps_if (pt_not (pt_val (pe_call (ok_l_right T) (hr.mono (by decide)) rfl T.l_right.m T.l_right.F.kp T.l_right.b .nil pass0 (pa_cons (pe_call (ok_best T) (hr.mono (by decide)) rfl T.best.m T.best.F.kp T.best.b .nil pass0 (pa_cons (pv 4) (pa_cons (pe_ix ix_list (pv 5) pe_int (λ _ _=>rfl)) (pa_cons (pe_ix ix_list (pv 5) pe_int (λ _ _=>rfl)) pa_nil)))) (pa_cons (pv 1) (pa_cons (pv 2) (pa_cons (pv 3) pa_nil))))))) (pss_one (ps_ret pe_bl)) pss_nil) (pss_one (ps_ret (pe_cmpR (op_eqX (Nat.lt_of_le_of_lt (Nat.add_le_add_left (by decide) _) hr.units)) (pv 6) (pv 7) (nomark _)))))))))))))),rd_law h⟩)
end
theorem ar1 {P:List Value→Prop} (h:∀ a,P [a]):∀ us:List Value,us.length=1→P us
 | [a],_=>h a
theorem ar2 {P:List Value→Prop} (h:∀ a b,P [a,b]):∀ us:List Value,us.length=2→P us
 | [],e=>nomatch e
 | a::us,e=>ar1 (P:=λ l=>P (a::l)) (h a) us (Nat.succ.inj e)
theorem ar3 {P:List Value→Prop} (h:∀ a b c,P [a,b,c]):∀ us:List Value,us.length=3→P us
 | [],e=>nomatch e
 | a::us,e=>ar2 (P:=λ l=>P (a::l)) (h a) us (Nat.succ.inj e)
theorem ar4 {P:List Value→Prop} (h:∀ a b c d,P [a,b,c,d]):∀ us:List Value,us.length=4→P us
 | [],e=>nomatch e
 | a::us,e=>ar3 (P:=λ l=>P (a::l)) (h a) us (Nat.succ.inj e)
theorem all_mk {l:PySem.W.OpenLaw} {w:World} {K:W.Frag} {h:Heap} {mg:Str→Option Value} {fa f0 f1 f2 f3 f4 f5 f6 f7 f8 f9 f10 f11 f12 f13 f14 f15 f16 f17 f18 f19 f20 f21 f22 f23 f24 f25 f26 f27 f28 f29 f30 f31 f32 f33 f34 f35 f36 f37 f38 f39 f40 f41 f42 f43 f44 f45 f46:Addr} {C0:Addr} (X:K.In h) (G:h.Ns mainGlobals mg) (hfa:mg "law" = some (.ref fa))
  {od0 an0 od1 an1 od2 an2 od3 an3 od4 an4 od5 an5 od6 an6 od7 an7 od8 an8 od9 an9 od10 an10 od11 an11 od12 an12 od13 an13 od14 an14 od15 an15 od16 an16 od17 an17 od18 an18 od19 an19 od20 an20 od21 an21 od22 an22 od23 an23 od24 an24 od25 an25 od26 an26 od27 an27 od28 an28 od29 an29 od30 an30 od31 an31 od32 an32 od33 an33 od34 an34 od35 an35 od36 an36 od37 an37 od38 an38 od39 an39 od40 an40 od41 an41 od42 an42 od43 an43 od44 an44 od45 an45 od46 an46:Option Addr} {sl0 sl1 sl2 sl3 sl4 sl5 sl6 sl7 sl8 sl9 sl10 sl11 sl12 sl13 sl14 sl15 sl16 sl17 sl18 sl19 sl20 sl21 sl22 sl23 sl24 sl25 sl26 sl27 sl28 sl29 sl30 sl31 sl32 sl33 sl34 sl35 sl36 sl37 sl38 sl39 sl40 sl41 sl42 sl43 sl44 sl45 sl46:Array (Option Value)} {oc0 kV0 dc0 pm0 cd0 ct0 oc1 kV1 dc1 pm1 cd1 ct1 oc2 kV2 dc2 pm2 cd2 ct2 oc3 kV3 dc3 pm3 cd3 ct3 oc4 kV4 dc4 pm4 cd4 ct4 oc5 kV5 dc5 pm5 cd5 ct5 oc6 kV6 dc6 pm6 cd6 ct6 oc7 kV7 dc7 pm7 cd7 ct7 oc8 kV8 dc8 pm8 cd8 ct8 oc9 kV9 dc9 pm9 cd9 ct9 oc10 kV10 dc10 pm10 cd10 ct10 oc11 kV11 dc11 pm11 cd11 ct11 oc12 kV12 dc12 pm12 cd12 ct12 oc13 kV13 dc13 pm13 cd13 ct13 oc14 kV14 dc14 pm14 cd14 ct14 oc15 kV15 dc15 pm15 cd15 ct15 oc16 kV16 dc16 pm16 cd16 ct16 oc17 kV17 dc17 pm17 cd17 ct17 oc18 kV18 dc18 pm18 cd18 ct18 oc19 kV19 dc19 pm19 cd19 ct19 oc20 kV20 dc20 pm20 cd20 ct20 oc21 kV21 dc21 pm21 cd21 ct21 oc22 kV22 dc22 pm22 cd22 ct22 oc23 kV23 dc23 pm23 cd23 ct23 oc24 kV24 dc24 pm24 cd24 ct24 oc25 kV25 dc25 pm25 cd25 ct25 oc26 kV26 dc26 pm26 cd26 ct26 oc27 kV27 dc27 pm27 cd27 ct27 oc28 kV28 dc28 pm28 cd28 ct28 oc29 kV29 dc29 pm29 cd29 ct29 oc30 kV30 dc30 pm30 cd30 ct30 oc31 kV31 dc31 pm31 cd31 ct31 oc32 kV32 dc32 pm32 cd32 ct32 oc33 kV33 dc33 pm33 cd33 ct33 oc34 kV34 dc34 pm34 cd34 ct34 oc35 kV35 dc35 pm35 cd35 ct35 oc36 kV36 dc36 pm36 cd36 ct36 oc37 kV37 dc37 pm37 cd37 ct37 oc38 kV38 dc38 pm38 cd38 ct38 oc39 kV39 dc39 pm39 cd39 ct39 oc40 kV40 dc40 pm40 cd40 ct40 oc41 kV41 dc41 pm41 cd41 ct41 oc42 kV42 dc42 pm42 cd42 ct42 oc43 kV43 dc43 pm43 cd43 ct43 oc44 kV44 dc44 pm44 cd44 ct44 oc45 kV45 dc45 pm45 cd45 ct45 oc46 kV46 dc46 pm46 cd46 ct46:Value}
  (y0:W.nsIn K mainGlobals "Corner" = some (some (.ref C0)))
  (a0:W.nsIn K mainGlobals "_law_numbers" = some (some (.ref f0))) (l0:K.lookup f0=some ⟨oc0,od0,.func (W.fnOf "_law_numbers" "_law_numbers" (defArgs s_l_numbers) (defBody s_l_numbers) (defScope s_l_numbers) .none kV0 dc0 pm0 an0 cd0 ct0),sl0⟩) (c0:W.codeIn K cd0 "_law_numbers" = true) (k0:W.keepIn K (.ref f0)=true)
  (a1:W.nsIn K mainGlobals "_law_divisor" = some (some (.ref f1))) (l1:K.lookup f1=some ⟨oc1,od1,.func (W.fnOf "_law_divisor" "_law_divisor" (defArgs s_l_divisor) (defBody s_l_divisor) (defScope s_l_divisor) .none kV1 dc1 pm1 an1 cd1 ct1),sl1⟩) (c1:W.codeIn K cd1 "_law_divisor" = true) (k1:W.keepIn K (.ref f1)=true)
  (a2:W.nsIn K mainGlobals "_law_fraction" = some (some (.ref f2))) (l2:K.lookup f2=some ⟨oc2,od2,.func (W.fnOf "_law_fraction" "_law_fraction" (defArgs s_l_fraction) (defBody s_l_fraction) (defScope s_l_fraction) .none kV2 dc2 pm2 an2 cd2 ct2),sl2⟩) (c2:W.codeIn K cd2 "_law_fraction" = true) (k2:W.keepIn K (.ref f2)=true)
  (a3:W.nsIn K mainGlobals "_law_drawn" = some (some (.ref f3))) (l3:K.lookup f3=some ⟨oc3,od3,.func (W.fnOf "_law_drawn" "_law_drawn" (defArgs s_l_drawn) (defBody s_l_drawn) (defScope s_l_drawn) .none kV3 dc3 pm3 an3 cd3 ct3),sl3⟩) (c3:W.codeIn K cd3 "_law_drawn" = true) (k3:W.keepIn K (.ref f3)=true)
  (a4:W.nsIn K mainGlobals "below" = some (some (.ref f4))) (l4:K.lookup f4=some ⟨oc4,od4,.func (W.fnOf "below" "below" (defArgs s_below) (defBody s_below) (defScope s_below) .none kV4 dc4 pm4 an4 cd4 ct4),sl4⟩) (c4:W.codeIn K cd4 "below" = true) (k4:W.keepIn K (.ref f4)=true)
  (a5:W.nsIn K mainGlobals "divisor" = some (some (.ref f5))) (l5:K.lookup f5=some ⟨oc5,od5,.func (W.fnOf "divisor" "divisor" (defArgs s_divisor) (defBody s_divisor) (defScope s_divisor) .none kV5 dc5 pm5 an5 cd5 ct5),sl5⟩) (c5:W.codeIn K cd5 "divisor" = true) (k5:W.keepIn K (.ref f5)=true)
  (a6:W.nsIn K mainGlobals "cleared" = some (some (.ref f6))) (l6:K.lookup f6=some ⟨oc6,od6,.func (W.fnOf "cleared" "cleared" (defArgs s_cleared) (defBody s_cleared) (defScope s_cleared) .none kV6 dc6 pm6 an6 cd6 ct6),sl6⟩) (c6:W.codeIn K cd6 "cleared" = true) (k6:W.keepIn K (.ref f6)=true)
  (a7:W.nsIn K mainGlobals "ratio" = some (some (.ref f7))) (l7:K.lookup f7=some ⟨oc7,od7,.func (W.fnOf "ratio" "ratio" (defArgs s_ratio) (defBody s_ratio) (defScope s_ratio) .none kV7 dc7 pm7 an7 cd7 ct7),sl7⟩) (c7:W.codeIn K cd7 "ratio" = true) (k7:W.keepIn K (.ref f7)=true)
  (a8:W.nsIn K mainGlobals "shared" = some (some (.ref f8))) (l8:K.lookup f8=some ⟨oc8,od8,.func (W.fnOf "shared" "shared" (defArgs s_shared) (defBody s_shared) (defScope s_shared) .none kV8 dc8 pm8 an8 cd8 ct8),sl8⟩) (c8:W.codeIn K cd8 "shared" = true) (k8:W.keepIn K (.ref f8)=true)
  (a9:W.nsIn K mainGlobals "plain" = some (some (.ref f9))) (l9:K.lookup f9=some ⟨oc9,od9,.func (W.fnOf "plain" "plain" (defArgs s_plain) (defBody s_plain) (defScope s_plain) .none kV9 dc9 pm9 an9 cd9 ct9),sl9⟩) (c9:W.codeIn K cd9 "plain" = true) (k9:W.keepIn K (.ref f9)=true)
  (a10:W.nsIn K mainGlobals "whole" = some (some (.ref f10))) (l10:K.lookup f10=some ⟨oc10,od10,.func (W.fnOf "whole" "whole" (defArgs s_whole) (defBody s_whole) (defScope s_whole) .none kV10 dc10 pm10 an10 cd10 ct10),sl10⟩) (c10:W.codeIn K cd10 "whole" = true) (k10:W.keepIn K (.ref f10)=true)
  (a11:W.nsIn K mainGlobals "times" = some (some (.ref f11))) (l11:K.lookup f11=some ⟨oc11,od11,.func (W.fnOf "times" "times" (defArgs s_times) (defBody s_times) (defScope s_times) .none kV11 dc11 pm11 an11 cd11 ct11),sl11⟩) (c11:W.codeIn K cd11 "times" = true) (k11:W.keepIn K (.ref f11)=true)
  (a12:W.nsIn K mainGlobals "longest" = some (some (.ref f12))) (l12:K.lookup f12=some ⟨oc12,od12,.func (W.fnOf "longest" "longest" (defArgs s_longest) (defBody s_longest) (defScope s_longest) .none kV12 dc12 pm12 an12 cd12 ct12),sl12⟩) (c12:W.codeIn K cd12 "longest" = true) (k12:W.keepIn K (.ref f12)=true)
  (a13:W.nsIn K mainGlobals "column_of" = some (some (.ref f13))) (l13:K.lookup f13=some ⟨oc13,od13,.func (W.fnOf "column_of" "column_of" (defArgs s_column_of) (defBody s_column_of) (defScope s_column_of) .none kV13 dc13 pm13 an13 cd13 ct13),sl13⟩) (c13:W.codeIn K cd13 "column_of" = true) (k13:W.keepIn K (.ref f13)=true)
  (a14:W.nsIn K mainGlobals "span" = some (some (.ref f14))) (l14:K.lookup f14=some ⟨oc14,od14,.func (W.fnOf "span" "span" (defArgs s_span) (defBody s_span) (defScope s_span) .none kV14 dc14 pm14 an14 cd14 ct14),sl14⟩) (c14:W.codeIn K cd14 "span" = true) (k14:W.keepIn K (.ref f14)=true)
  (a15:W.nsIn K mainGlobals "unit" = some (some (.ref f15))) (l15:K.lookup f15=some ⟨oc15,od15,.func (W.fnOf "unit" "unit" (defArgs s_unit) (defBody s_unit) (defScope s_unit) .none kV15 dc15 pm15 an15 cd15 ct15),sl15⟩) (c15:W.codeIn K cd15 "unit" = true) (k15:W.keepIn K (.ref f15)=true)
  (a16:W.findIn K (.ref C0) "__init__" = some (some (.ref f16))) (i16:W.isFn K (.ref f16)=true) (l16:K.lookup f16=some ⟨oc16,od16,.func (W.fnOf "__init__" "Corner.__init__" (defArgs s_Corner_init) (defBody s_Corner_init) (defScope s_Corner_init) .none kV16 dc16 pm16 an16 cd16 ct16),sl16⟩) (c16:W.codeIn K cd16 "Corner.__init__" = true) (k16:W.keepIn K (.ref f16)=true)
  (a17:W.nsIn K mainGlobals "bits_beyond" = some (some (.ref f17))) (l17:K.lookup f17=some ⟨oc17,od17,.func (W.fnOf "bits_beyond" "bits_beyond" (defArgs s_bits_beyond) (defBody s_bits_beyond) (defScope s_bits_beyond) .none kV17 dc17 pm17 an17 cd17 ct17),sl17⟩) (c17:W.codeIn K cd17 "bits_beyond" = true) (k17:W.keepIn K (.ref f17)=true)
  (a18:W.nsIn K mainGlobals "stretched" = some (some (.ref f18))) (l18:K.lookup f18=some ⟨oc18,od18,.func (W.fnOf "stretched" "stretched" (defArgs s_stretched) (defBody s_stretched) (defScope s_stretched) .none kV18 dc18 pm18 an18 cd18 ct18),sl18⟩) (c18:W.codeIn K cd18 "stretched" = true) (k18:W.keepIn K (.ref f18)=true)
  (a19:W.nsIn K mainGlobals "shortened" = some (some (.ref f19))) (l19:K.lookup f19=some ⟨oc19,od19,.func (W.fnOf "shortened" "shortened" (defArgs s_shortened) (defBody s_shortened) (defScope s_shortened) .none kV19 dc19 pm19 an19 cd19 ct19),sl19⟩) (c19:W.codeIn K cd19 "shortened" = true) (k19:W.keepIn K (.ref f19)=true)
  (a20:W.nsIn K mainGlobals "rounded" = some (some (.ref f20))) (l20:K.lookup f20=some ⟨oc20,od20,.func (W.fnOf "rounded" "rounded" (defArgs s_rounded) (defBody s_rounded) (defScope s_rounded) .none kV20 dc20 pm20 an20 cd20 ct20),sl20⟩) (c20:W.codeIn K cd20 "rounded" = true) (k20:W.keepIn K (.ref f20)=true)
  (a21:W.nsIn K mainGlobals "products" = some (some (.ref f21))) (l21:K.lookup f21=some ⟨oc21,od21,.func (W.fnOf "products" "products" (defArgs s_products) (defBody s_products) (defScope s_products) .none kV21 dc21 pm21 an21 cd21 ct21),sl21⟩) (c21:W.codeIn K cd21 "products" = true) (k21:W.keepIn K (.ref f21)=true)
  (a22:W.findIn K (.ref C0) "entering" = some (some (.ref f22))) (i22:W.isFn K (.ref f22)=true) (l22:K.lookup f22=some ⟨oc22,od22,.func (W.fnOf "entering" "Corner.entering" (defArgs s_Corner_entering) (defBody s_Corner_entering) (defScope s_Corner_entering) .none kV22 dc22 pm22 an22 cd22 ct22),sl22⟩) (c22:W.codeIn K cd22 "Corner.entering" = true) (k22:W.keepIn K (.ref f22)=true)
  (a23:W.findIn K (.ref C0) "numbers" = some (some (.ref f23))) (i23:W.isFn K (.ref f23)=true) (l23:K.lookup f23=some ⟨oc23,od23,.func (W.fnOf "numbers" "Corner.numbers" (defArgs s_Corner_numbers) (defBody s_Corner_numbers) (defScope s_Corner_numbers) .none kV23 dc23 pm23 an23 cd23 ct23),sl23⟩) (c23:W.codeIn K cd23 "Corner.numbers" = true) (k23:W.keepIn K (.ref f23)=true)
  (a24:W.nsIn K mainGlobals "is_ahead" = some (some (.ref f24))) (l24:K.lookup f24=some ⟨oc24,od24,.func (W.fnOf "is_ahead" "is_ahead" (defArgs s_is_ahead) (defBody s_is_ahead) (defScope s_is_ahead) .none kV24 dc24 pm24 an24 cd24 ct24),sl24⟩) (c24:W.codeIn K cd24 "is_ahead" = true) (k24:W.keepIn K (.ref f24)=true)
  (a25:W.nsIn K mainGlobals "leaving" = some (some (.ref f25))) (l25:K.lookup f25=some ⟨oc25,od25,.func (W.fnOf "leaving" "leaving" (defArgs s_leaving) (defBody s_leaving) (defScope s_leaving) .none kV25 dc25 pm25 an25 cd25 ct25),sl25⟩) (c25:W.codeIn K cd25 "leaving" = true) (k25:W.keepIn K (.ref f25)=true)
  (a26:W.findIn K (.ref C0) "leaving_by" = some (some (.ref f26))) (i26:W.isFn K (.ref f26)=true) (l26:K.lookup f26=some ⟨oc26,od26,.func (W.fnOf "leaving_by" "Corner.leaving_by" (defArgs s_Corner_leaving_by) (defBody s_Corner_leaving_by) (defScope s_Corner_leaving_by) .none kV26 dc26 pm26 an26 cd26 ct26),sl26⟩) (c26:W.codeIn K cd26 "Corner.leaving_by" = true) (k26:W.keepIn K (.ref f26)=true)
  (a27:W.findIn K (.ref C0) "bottom" = some (some (.ref f27))) (i27:W.isFn K (.ref f27)=true) (l27:K.lookup f27=some ⟨oc27,od27,.func (W.fnOf "bottom" "Corner.bottom" (defArgs s_Corner_bottom) (defBody s_Corner_bottom) (defScope s_Corner_bottom) .none kV27 dc27 pm27 an27 cd27 ct27),sl27⟩) (c27:W.codeIn K cd27 "Corner.bottom" = true) (k27:W.keepIn K (.ref f27)=true)
  (a28:W.findIn K (.ref C0) "step_in" = some (some (.ref f28))) (i28:W.isFn K (.ref f28)=true) (l28:K.lookup f28=some ⟨oc28,od28,.func (W.fnOf "step_in" "Corner.step_in" (defArgs s_Corner_step_in) (defBody s_Corner_step_in) (defScope s_Corner_step_in) .none kV28 dc28 pm28 an28 cd28 ct28),sl28⟩) (c28:W.codeIn K cd28 "Corner.step_in" = true) (k28:W.keepIn K (.ref f28)=true)
  (a29:W.nsIn K mainGlobals "unstopped" = some (some (.ref f29))) (l29:K.lookup f29=some ⟨oc29,od29,.func (W.fnOf "unstopped" "unstopped" (defArgs s_unstopped) (defBody s_unstopped) (defScope s_unstopped) .none kV29 dc29 pm29 an29 cd29 ct29),sl29⟩) (c29:W.codeIn K cd29 "unstopped" = true) (k29:W.keepIn K (.ref f29)=true)
  (a30:W.nsIn K mainGlobals "turned_round" = some (some (.ref f30))) (l30:K.lookup f30=some ⟨oc30,od30,.func (W.fnOf "turned_round" "turned_round" (defArgs s_turned_round) (defBody s_turned_round) (defScope s_turned_round) .none kV30 dc30 pm30 an30 cd30 ct30),sl30⟩) (c30:W.codeIn K cd30 "turned_round" = true) (k30:W.keepIn K (.ref f30)=true)
  (a31:W.findIn K (.ref C0) "comes_to" = some (some (.ref f31))) (i31:W.isFn K (.ref f31)=true) (l31:K.lookup f31=some ⟨oc31,od31,.func (W.fnOf "comes_to" "Corner.comes_to" (defArgs s_Corner_comes_to) (defBody s_Corner_comes_to) (defScope s_Corner_comes_to) .none kV31 dc31 pm31 an31 cd31 ct31),sl31⟩) (c31:W.codeIn K cd31 "Corner.comes_to" = true) (k31:W.keepIn K (.ref f31)=true)
  (a32:W.findIn K (.ref C0) "ends_with" = some (some (.ref f32))) (i32:W.isFn K (.ref f32)=true) (l32:K.lookup f32=some ⟨oc32,od32,.func (W.fnOf "ends_with" "Corner.ends_with" (defArgs s_Corner_ends_with) (defBody s_Corner_ends_with) (defScope s_Corner_ends_with) .none kV32 dc32 pm32 an32 cd32 ct32),sl32⟩) (c32:W.codeIn K cd32 "Corner.ends_with" = true) (k32:W.keepIn K (.ref f32)=true)
  (a33:W.nsIn K mainGlobals "last_corner" = some (some (.ref f33))) (l33:K.lookup f33=some ⟨oc33,od33,.func (W.fnOf "last_corner" "last_corner" (defArgs s_last_corner) (defBody s_last_corner) (defScope s_last_corner) .none kV33 dc33 pm33 an33 cd33 ct33),sl33⟩) (c33:W.codeIn K cd33 "last_corner" = true) (k33:W.keepIn K (.ref f33)=true)
  (a34:W.nsIn K mainGlobals "over" = some (some (.ref f34))) (l34:K.lookup f34=some ⟨oc34,od34,.func (W.fnOf "over" "over" (defArgs s_over) (defBody s_over) (defScope s_over) .none kV34 dc34 pm34 an34 cd34 ct34),sl34⟩) (c34:W.codeIn K cd34 "over" = true) (k34:W.keepIn K (.ref f34)=true)
  (a35:W.findIn K (.ref C0) "spread" = some (some (.ref f35))) (i35:W.isFn K (.ref f35)=true) (l35:K.lookup f35=some ⟨oc35,od35,.func (W.fnOf "spread" "Corner.spread" (defArgs s_Corner_spread) (defBody s_Corner_spread) (defScope s_Corner_spread) .none kV35 dc35 pm35 an35 cd35 ct35),sl35⟩) (c35:W.codeIn K cd35 "Corner.spread" = true) (k35:W.keepIn K (.ref f35)=true)
  (a36:W.findIn K (.ref C0) "xs" = some (some (.ref f36))) (i36:W.isFn K (.ref f36)=true) (l36:K.lookup f36=some ⟨oc36,od36,.func (W.fnOf "xs" "Corner.xs" (defArgs s_Corner_xs) (defBody s_Corner_xs) (defScope s_Corner_xs) .none kV36 dc36 pm36 an36 cd36 ct36),sl36⟩) (c36:W.codeIn K cd36 "Corner.xs" = true) (k36:W.keepIn K (.ref f36)=true)
  (a37:W.findIn K (.ref C0) "ways" = some (some (.ref f37))) (i37:W.isFn K (.ref f37)=true) (l37:K.lookup f37=some ⟨oc37,od37,.func (W.fnOf "ways" "Corner.ways" (defArgs s_Corner_ways) (defBody s_Corner_ways) (defScope s_Corner_ways) .none kV37 dc37 pm37 an37 cd37 ct37),sl37⟩) (c37:W.codeIn K cd37 "Corner.ways" = true) (k37:W.keepIn K (.ref f37)=true)
  (a38:W.findIn K (.ref C0) "ys" = some (some (.ref f38))) (i38:W.isFn K (.ref f38)=true) (l38:K.lookup f38=some ⟨oc38,od38,.func (W.fnOf "ys" "Corner.ys" (defArgs s_Corner_ys) (defBody s_Corner_ys) (defScope s_Corner_ys) .none kV38 dc38 pm38 an38 cd38 ct38),sl38⟩) (c38:W.codeIn K cd38 "Corner.ys" = true) (k38:W.keepIn K (.ref f38)=true)
  (a39:W.nsIn K mainGlobals "best" = some (some (.ref f39))) (l39:K.lookup f39=some ⟨oc39,od39,.func (W.fnOf "best" "best" (defArgs s_best) (defBody s_best) (defScope s_best) .none kV39 dc39 pm39 an39 cd39 ct39),sl39⟩) (c39:W.codeIn K cd39 "best" = true) (k39:W.keepIn K (.ref f39)=true)
  (a40:W.nsIn K mainGlobals "_law_whole" = some (some (.ref f40))) (l40:K.lookup f40=some ⟨oc40,od40,.func (W.fnOf "_law_whole" "_law_whole" (defArgs s_l_whole) (defBody s_l_whole) (defScope s_l_whole) .none kV40 dc40 pm40 an40 cd40 ct40),sl40⟩) (c40:W.codeIn K cd40 "_law_whole" = true) (k40:W.keepIn K (.ref f40)=true)
  (a41:W.nsIn K mainGlobals "_law_list" = some (some (.ref f41))) (l41:K.lookup f41=some ⟨oc41,od41,.func (W.fnOf "_law_list" "_law_list" (defArgs s_l_list) (defBody s_l_list) (defScope s_l_list) .none kV41 dc41 pm41 an41 cd41 ct41),sl41⟩) (c41:W.codeIn K cd41 "_law_list" = true) (k41:W.keepIn K (.ref f41)=true)
  (a42:W.nsIn K mainGlobals "_law_at_most" = some (some (.ref f42))) (l42:K.lookup f42=some ⟨oc42,od42,.func (W.fnOf "_law_at_most" "_law_at_most" (defArgs s_l_at_most) (defBody s_l_at_most) (defScope s_l_at_most) .none kV42 dc42 pm42 an42 cd42 ct42),sl42⟩) (c42:W.codeIn K cd42 "_law_at_most" = true) (k42:W.keepIn K (.ref f42)=true)
  (a43:W.nsIn K mainGlobals "_law_products" = some (some (.ref f43))) (l43:K.lookup f43=some ⟨oc43,od43,.func (W.fnOf "_law_products" "_law_products" (defArgs s_l_products) (defBody s_l_products) (defScope s_l_products) .none kV43 dc43 pm43 an43 cd43 ct43),sl43⟩) (c43:W.codeIn K cd43 "_law_products" = true) (k43:W.keepIn K (.ref f43)=true)
  (a44:W.nsIn K mainGlobals "_law_allowed" = some (some (.ref f44))) (l44:K.lookup f44=some ⟨oc44,od44,.func (W.fnOf "_law_allowed" "_law_allowed" (defArgs s_l_allowed) (defBody s_l_allowed) (defScope s_l_allowed) .none kV44 dc44 pm44 an44 cd44 ct44),sl44⟩) (c44:W.codeIn K cd44 "_law_allowed" = true) (k44:W.keepIn K (.ref f44)=true)
  (a45:W.nsIn K mainGlobals "_law_right" = some (some (.ref f45))) (l45:K.lookup f45=some ⟨oc45,od45,.func (W.fnOf "_law_right" "_law_right" (defArgs s_l_right) (defBody s_l_right) (defScope s_l_right) .none kV45 dc45 pm45 an45 cd45 ct45),sl45⟩) (c45:W.codeIn K cd45 "_law_right" = true) (k45:W.keepIn K (.ref f45)=true)
  (a46:W.nsIn K mainGlobals "law" = some (some (.ref f46))) (l46:K.lookup f46=some ⟨oc46,od46,.func (W.fnOf "law" "law" (defArgs s_law) (defBody s_law) (defScope s_law) .none kV46 dc46 pm46 an46 cd46 ct46),sl46⟩) (c46:W.codeIn K cd46 "law" = true) (k46:W.keepIn K (.ref f46)=true)
  (pgC:PySem.W.plainGet K C0 Str.empty=true) (hdC:PySem.W.hasDictIn K C0=true) (poC:PySem.W.plainOver K C0=true) (saC:W.findIn K (.ref C0) "__setattr__" = some (some (.builtin "object.__setattr__"))) (mkC:PySem.W.makesIn K C0=true) (kcC:W.keepIn K (.ref C0)=true) (nC_begun:W.findIn K (.ref C0) "begun" = some none) (nC_spans:W.findIn K (.ref C0) "spans" = some none) (nC_kept:W.findIn K (.ref C0) "kept" = some none) (nC_inside:W.findIn K (.ref C0) "inside" = some none)
  (z0:W.nsIn K mainGlobals "abs" = some none) (z1:W.nsIn K mainGlobals "bool" = some none) (z2:W.nsIn K mainGlobals "enumerate" = some none) (z3:W.nsIn K mainGlobals "int" = some none) (z4:W.nsIn K mainGlobals "isinstance" = some none) (z5:W.nsIn K mainGlobals "len" = some none) (z6:W.nsIn K mainGlobals "list" = some none) (z7:W.nsIn K mainGlobals "max" = some none) (z8:W.nsIn K mainGlobals "min" = some none) (z9:W.nsIn K mainGlobals "range" = some none) (z10:W.nsIn K mainGlobals "sum" = some none) (z11:W.nsIn K mainGlobals "tuple" = some none) (z12:W.nsIn K mainGlobals "zip" = some none) {tg0:_} (gi0:W.nsIn K mainGlobals "BITS" = some (some (.int 40 tg0))) :
  ∃ fd:FuncData,(∀ (s:Shared) (v:Value),BindsTo s fd ⟨[v],[]⟩ [("_law_script",v)])∧∀ base:Heap,K.In base→base.Ns mainGlobals mg→FnOk l.prog w K mg base CX0 7 fa fd ["_law_script"] (sp_law K):=by
 have e:=hfa.symm.trans (W.mg_of X G a46)
 cases e
 have F0:=fun_mk (st:=s_l_numbers) l0 c0 k0
 have b0:=F0.binds (ps:=["_law_script", "_law_many"]) λ _ _ _ _ _ _=>ar2 λ _ _=>rfl
 have F1:=fun_mk (st:=s_l_divisor) l1 c1 k1
 have b1:=F1.binds (ps:=["_law_one", "_law_other"]) λ _ _ _ _ _ _=>ar2 λ _ _=>rfl
 have F2:=fun_mk (st:=s_l_fraction) l2 c2 k2
 have b2:=F2.binds (ps:=["_law_number", "_law_way"]) λ _ _ _ _ _ _=>ar2 λ _ _=>rfl
 have F3:=fun_mk (st:=s_l_drawn) l3 c3 k3
 have b3:=F3.binds (ps:=["_law_script"]) λ _ _ _ _ _ _=>ar1 λ _=>rfl
 have F4:=fun_mk (st:=s_below) l4 c4 k4
 have b4:=F4.binds (ps:=["one", "other"]) λ _ _ _ _ _ _=>ar2 λ _ _=>rfl
 have F5:=fun_mk (st:=s_divisor) l5 c5 k5
 have b5:=F5.binds (ps:=["one", "other"]) λ _ _ _ _ _ _=>ar2 λ _ _=>rfl
 have F6:=fun_mk (st:=s_cleared) l6 c6 k6
 have b6:=F6.binds (ps:=["row"]) λ _ _ _ _ _ _=>ar1 λ _=>rfl
 have F7:=fun_mk (st:=s_ratio) l7 c7 k7
 have b7:=F7.binds (ps:=["top", "bottom"]) λ _ _ _ _ _ _=>ar2 λ _ _=>rfl
 have F8:=fun_mk (st:=s_shared) l8 c8 k8
 have b8:=F8.binds (ps:=["row"]) λ _ _ _ _ _ _=>ar1 λ _=>rfl
 have F9:=fun_mk (st:=s_plain) l9 c9 k9
 have b9:=F9.binds (ps:=["row"]) λ _ _ _ _ _ _=>ar1 λ _=>rfl
 have F10:=fun_mk (st:=s_whole) l10 c10 k10
 have b10:=F10.binds (ps:=["row"]) λ _ _ _ _ _ _=>ar1 λ _=>rfl
 have F11:=fun_mk (st:=s_times) l11 c11 k11
 have b11:=F11.binds (ps:=["one", "other"]) λ _ _ _ _ _ _=>ar2 λ _ _=>rfl
 have F12:=fun_mk (st:=s_longest) l12 c12 k12
 have b12:=F12.binds (ps:=["row"]) λ _ _ _ _ _ _=>ar1 λ _=>rfl
 have F13:=fun_mk (st:=s_column_of) l13 c13 k13
 have b13:=F13.binds (ps:=["rows", "place"]) λ _ _ _ _ _ _=>ar2 λ _ _=>rfl
 have F14:=fun_mk (st:=s_span) l14 c14 k14
 have b14:=F14.binds (ps:=["column"]) λ _ _ _ _ _ _=>ar1 λ _=>rfl
 have F15:=fun_mk (st:=s_unit) l15 c15 k15
 have b15:=F15.binds (ps:=["many", "place"]) λ _ _ _ _ _ _=>ar2 λ _ _=>rfl
 have F16:=fun_mk (st:=s_Corner_init) l16 c16 k16
 have b16:=F16.binds (ps:=["self", "lists"]) λ _ _ _ _ _ _=>ar2 λ _ _=>rfl
 have F17:=fun_mk (st:=s_bits_beyond) l17 c17 k17
 have b17:=F17.binds (ps:=["column", "longs"]) λ _ _ _ _ _ _=>ar2 λ _ _=>rfl
 have F18:=fun_mk (st:=s_stretched) l18 c18 k18
 have b18:=F18.binds (ps:=["number", "bits"]) λ _ _ _ _ _ _=>ar2 λ _ _=>rfl
 have F19:=fun_mk (st:=s_shortened) l19 c19 k19
 have b19:=F19.binds (ps:=["row", "bits", "wides"]) λ _ _ _ _ _ _=>ar3 λ _ _ _=>rfl
 have F20:=fun_mk (st:=s_rounded) l20 c20 k20
 have b20:=F20.binds (ps:=["lists", "bits"]) λ _ _ _ _ _ _=>ar2 λ _ _=>rfl
 have F21:=fun_mk (st:=s_products) l21 c21 k21
 have b21:=F21.binds (ps:=["one", "other"]) λ _ _ _ _ _ _=>ar2 λ _ _=>rfl
 have F22:=fun_mk (st:=s_Corner_entering) l22 c22 k22
 have b22:=F22.binds (ps:=["self"]) λ _ _ _ _ _ _=>ar1 λ _=>rfl
 have F23:=fun_mk (st:=s_Corner_numbers) l23 c23 k23
 have b23:=F23.binds (ps:=["self", "column"]) λ _ _ _ _ _ _=>ar2 λ _ _=>rfl
 have F24:=fun_mk (st:=s_is_ahead) l24 c24 k24
 have b24:=F24.binds (ps:=["row", "other", "column", "listed"]) λ _ _ _ _ _ _=>ar4 λ _ _ _ _=>rfl
 have F25:=fun_mk (st:=s_leaving) l25 c25 k25
 have b25:=F25.binds (ps:=["rows", "column", "listed"]) λ _ _ _ _ _ _=>ar3 λ _ _ _=>rfl
 have F26:=fun_mk (st:=s_Corner_leaving_by) l26 c26 k26
 have b26:=F26.binds (ps:=["self", "numbers"]) λ _ _ _ _ _ _=>ar2 λ _ _=>rfl
 have F27:=fun_mk (st:=s_Corner_bottom) l27 c27 k27
 have b27:=F27.binds (ps:=["self"]) λ _ _ _ _ _ _=>ar1 λ _=>rfl
 have F28:=fun_mk (st:=s_Corner_step_in) l28 c28 k28
 have b28:=F28.binds (ps:=["self", "column", "numbers", "at"]) λ _ _ _ _ _ _=>ar4 λ _ _ _ _=>rfl
 have F29:=fun_mk (st:=s_unstopped) l29 c29 k29
 have b29:=F29.binds (ps:=["corner"]) λ _ _ _ _ _ _=>ar1 λ _=>rfl
 have F30:=fun_mk (st:=s_turned_round) l30 c30 k30
 have b30:=F30.binds (ps:=["row"]) λ _ _ _ _ _ _=>ar1 λ _=>rfl
 have F31:=fun_mk (st:=s_Corner_comes_to) l31 c31 k31
 have b31:=F31.binds (ps:=["self", "inside"]) λ _ _ _ _ _ _=>ar2 λ _ _=>rfl
 have F32:=fun_mk (st:=s_Corner_ends_with) l32 c32 k32
 have b32:=F32.binds (ps:=["self", "column"]) λ _ _ _ _ _ _=>ar2 λ _ _=>rfl
 have F33:=fun_mk (st:=s_last_corner) l33 c33 k33
 have b33:=F33.binds (ps:=["lists"]) λ _ _ _ _ _ _=>ar1 λ _=>rfl
 have F34:=fun_mk (st:=s_over) l34 c34 k34
 have b34:=F34.binds (ps:=["one", "other"]) λ _ _ _ _ _ _=>ar2 λ _ _=>rfl
 have F35:=fun_mk (st:=s_Corner_spread) l35 c35 k35
 have b35:=F35.binds (ps:=["self", "numbers"]) λ _ _ _ _ _ _=>ar2 λ _ _=>rfl
 have F36:=fun_mk (st:=s_Corner_xs) l36 c36 k36
 have b36:=F36.binds (ps:=["self"]) λ _ _ _ _ _ _=>ar1 λ _=>rfl
 have F37:=fun_mk (st:=s_Corner_ways) l37 c37 k37
 have b37:=F37.binds (ps:=["self", "column"]) λ _ _ _ _ _ _=>ar2 λ _ _=>rfl
 have F38:=fun_mk (st:=s_Corner_ys) l38 c38 k38
 have b38:=F38.binds (ps:=["self"]) λ _ _ _ _ _ _=>ar1 λ _=>rfl
 have F39:=fun_mk (st:=s_best) l39 c39 k39
 have b39:=F39.binds (ps:=["rows", "bounds", "goal"]) λ _ _ _ _ _ _=>ar3 λ _ _ _=>rfl
 have F40:=fun_mk (st:=s_l_whole) l40 c40 k40
 have b40:=F40.binds (ps:=["_law_found"]) λ _ _ _ _ _ _=>ar1 λ _=>rfl
 have F41:=fun_mk (st:=s_l_list) l41 c41 k41
 have b41:=F41.binds (ps:=["_law_found", "_law_many"]) λ _ _ _ _ _ _=>ar2 λ _ _=>rfl
 have F42:=fun_mk (st:=s_l_at_most) l42 c42 k42
 have b42:=F42.binds (ps:=["_law_one", "_law_other"]) λ _ _ _ _ _ _=>ar2 λ _ _=>rfl
 have F43:=fun_mk (st:=s_l_products) l43 c43 k43
 have b43:=F43.binds (ps:=["_law_ones", "_law_others"]) λ _ _ _ _ _ _=>ar2 λ _ _=>rfl
 have F44:=fun_mk (st:=s_l_allowed) l44 c44 k44
 have b44:=F44.binds (ps:=["_law_rows", "_law_bounds", "_law_xs"]) λ _ _ _ _ _ _=>ar3 λ _ _ _=>rfl
 have F45:=fun_mk (st:=s_l_right) l45 c45 k45
 have b45:=F45.binds (ps:=["_law_found", "_law_rows", "_law_bounds", "_law_goal"]) λ _ _ _ _ _ _=>ar4 λ _ _ _ _=>rfl
 have F46:=fun_mk (st:=s_law) l46 c46 k46
 have b46:=F46.binds (ps:=["_law_script"]) λ _ _ _ _ _ _=>ar1 λ _=>rfl
 have T:Tx K mg ⟨_,_,_,_,_,_,_,_,_,_,_,_,_,_,_,_,_,_,_,_,_,_,_,_,_,_,_,_,_,_,_,_,_,_,_,_,_,_,_,_,_,_,_,_,_,_,_,_,_,_,_,_,_,_,_,_,_,_,_,_,_,_,_,_,_,_,_,_,_,_,_,_,_,_,_,_,_,_,_,_,_,_,_,_,_,_,_,_,_,_,_,_,_,_⟩:=⟨⟨F0,b0,W.mg_of X G a0⟩,⟨F1,b1,W.mg_of X G a1⟩,⟨F2,b2,W.mg_of X G a2⟩,⟨F3,b3,W.mg_of X G a3⟩,⟨F4,b4,W.mg_of X G a4⟩,⟨F5,b5,W.mg_of X G a5⟩,⟨F6,b6,W.mg_of X G a6⟩,⟨F7,b7,W.mg_of X G a7⟩,⟨F8,b8,W.mg_of X G a8⟩,⟨F9,b9,W.mg_of X G a9⟩,⟨F10,b10,W.mg_of X G a10⟩,⟨F11,b11,W.mg_of X G a11⟩,⟨F12,b12,W.mg_of X G a12⟩,⟨F13,b13,W.mg_of X G a13⟩,⟨F14,b14,W.mg_of X G a14⟩,⟨F15,b15,W.mg_of X G a15⟩,⟨F16,b16,by rw [gadr_of y0];exact ⟨a16,i16,k16⟩⟩,⟨F17,b17,W.mg_of X G a17⟩,⟨F18,b18,W.mg_of X G a18⟩,⟨F19,b19,W.mg_of X G a19⟩,⟨F20,b20,W.mg_of X G a20⟩,⟨F21,b21,W.mg_of X G a21⟩,⟨F22,b22,by rw [gadr_of y0];exact ⟨a22,i22,k22⟩⟩,⟨F23,b23,by rw [gadr_of y0];exact ⟨a23,i23,k23⟩⟩,⟨F24,b24,W.mg_of X G a24⟩,⟨F25,b25,W.mg_of X G a25⟩,⟨F26,b26,by rw [gadr_of y0];exact ⟨a26,i26,k26⟩⟩,⟨F27,b27,by rw [gadr_of y0];exact ⟨a27,i27,k27⟩⟩,⟨F28,b28,by rw [gadr_of y0];exact ⟨a28,i28,k28⟩⟩,⟨F29,b29,W.mg_of X G a29⟩,⟨F30,b30,W.mg_of X G a30⟩,⟨F31,b31,by rw [gadr_of y0];exact ⟨a31,i31,k31⟩⟩,⟨F32,b32,by rw [gadr_of y0];exact ⟨a32,i32,k32⟩⟩,⟨F33,b33,W.mg_of X G a33⟩,⟨F34,b34,W.mg_of X G a34⟩,⟨F35,b35,by rw [gadr_of y0];exact ⟨a35,i35,k35⟩⟩,⟨F36,b36,by rw [gadr_of y0];exact ⟨a36,i36,k36⟩⟩,⟨F37,b37,by rw [gadr_of y0];exact ⟨a37,i37,k37⟩⟩,⟨F38,b38,by rw [gadr_of y0];exact ⟨a38,i38,k38⟩⟩,⟨F39,b39,W.mg_of X G a39⟩,⟨F40,b40,W.mg_of X G a40⟩,⟨F41,b41,W.mg_of X G a41⟩,⟨F42,b42,W.mg_of X G a42⟩,⟨F43,b43,W.mg_of X G a43⟩,⟨F44,b44,W.mg_of X G a44⟩,⟨F45,b45,W.mg_of X G a45⟩,⟨F46,b46,W.mg_of X G a46⟩,W.mg_none_of X G z0,W.mg_none_of X G z1,W.mg_none_of X G z2,W.mg_none_of X G z3,W.mg_none_of X G z4,W.mg_none_of X G z5,W.mg_none_of X G z6,W.mg_none_of X G z7,W.mg_none_of X G z8,W.mg_none_of X G z9,W.mg_none_of X G z10,W.mg_none_of X G z11,W.mg_none_of X G z12,by rw [gadr_of y0];exact W.mg_of X G y0,by rw [gadr_of y0];exact ⟨mkC,a16,i16,kcC⟩,⟨by rw [gadr_of y0];exact ⟨pgC,hdC,poC,saC⟩,by rw [gadr_of y0];exact nC_begun,by rw [gadr_of y0];exact nC_spans,by rw [gadr_of y0];exact nC_kept,by rw [gadr_of y0];exact nC_inside⟩,⟨_,W.mg_of X G gi0⟩⟩
 exact ⟨_,λ s v=>.of_eq rfl,λ base _ _=>ok_law T⟩
theorem walk {l:PySem.W.OpenLaw} {q:Program} {loose:List Str} {XP:(Str→Option Value)→Heap→Prop} {YP:World→Heap→Prop} {d:DefRec} {K:Params→W.Frag} (hn:l.most=some 63) (hdf:d.params.defaults=[])
  (hY:∀ (w:World) (h:Heap),YP w h→(K w.params).In h)
  (F:∀ (w:World) (mg:Str→Option Value) (fa:Addr) (h:Heap),(K w.params).In h→h.Ns mainGlobals mg→mg d.name=some (.ref fa) →
   ∃ fd:FuncData,(∀ (s:Shared) (u:Value),BindsTo s fd ⟨[u],[]⟩ [("_law_script",u)])∧∀ base:Heap,(K w.params).In base→base.Ns mainGlobals mg→FnOk l.prog w (K w.params) mg base CX0 7 fa fd ["_law_script"] (sp_law (K w.params))) :
  PySem.W.WalkO q loose XP YP l.row.toRowW d [] (λ f vs=>PySem.call f vs) :=
 L2.walk_of (n:=63) (k:=7) (x:="_law_script") (CX:=λ _=>CX0) (sp:=λ w=>sp_law (K w.params)) hn (by decide) hdf ⟨rfl,by decide,by decide⟩ hY F (λ _ _ a ns hl _ hS=>⟨a,ns,rfl,hS,hl,λ _=>rfl⟩) λ _ _ _ _ _ z=>z
end My
set_option Elab.async true
noncomputable def PySem.Challenge.cw_mixplay_k26_whole_best_holds.tw6839325603845457911:Nat:=0
noncomputable def PySem.Challenge.cw_mixplay_k26_whole_best_holds.tw5158979876747650654:Nat:=0
noncomputable def PySem.Challenge.cw_mixplay_k26_whole_best_holds.tw14495196334477360065:Nat:=0
noncomputable def PySem.Challenge.cw_mixplay_k26_whole_best_holds.tw1054066614392811757:Nat:=0
noncomputable def PySem.Challenge.cw_mixplay_k26_whole_best_holds.tw534719387197696409:Nat:=0
noncomputable def PySem.Challenge.cw_mixplay_k26_whole_best_holds.tw12483000612255850054:Nat:=0
open PySem PySem.W PyProof.Rows
set_option maxRecDepth 100000 in
set_option maxHeartbeats 0 in
theorem PySem.Challenge.cw_mixplay_k26_whole_best_holds : PySem.Challenge.rw_mixplay_k26_whole_best.Holds := by
  w_on; o_law; z_head; (case hw => w_witness2)
  k_fill
  refine L2.walk_x (fun _ => rfl) (My.walk (l := PySem.Challenge.rw_mixplay_k26_whole_best) rfl rfl (fun w h Y => Y) ?F)
  case F =>
    intro w mg fa h KX G hmg
    refine' My.all_mk KX G hmg ?y0 ?a0 ?l0 ?c0 ?k0 ?a1 ?l1 ?c1 ?k1 ?a2 ?l2 ?c2 ?k2 ?a3 ?l3 ?c3 ?k3 ?a4 ?l4 ?c4 ?k4 ?a5 ?l5 ?c5 ?k5 ?a6 ?l6 ?c6 ?k6 ?a7 ?l7 ?c7 ?k7 ?a8 ?l8 ?c8 ?k8 ?a9 ?l9 ?c9 ?k9 ?a10 ?l10 ?c10 ?k10 ?a11 ?l11 ?c11 ?k11 ?a12 ?l12 ?c12 ?k12 ?a13 ?l13 ?c13 ?k13 ?a14 ?l14 ?c14 ?k14 ?a15 ?l15 ?c15 ?k15 ?a16 ?i16 ?l16 ?c16 ?k16 ?a17 ?l17 ?c17 ?k17 ?a18 ?l18 ?c18 ?k18 ?a19 ?l19 ?c19 ?k19 ?a20 ?l20 ?c20 ?k20 ?a21 ?l21 ?c21 ?k21 ?a22 ?i22 ?l22 ?c22 ?k22 ?a23 ?i23 ?l23 ?c23 ?k23 ?a24 ?l24 ?c24 ?k24 ?a25 ?l25 ?c25 ?k25 ?a26 ?i26 ?l26 ?c26 ?k26 ?a27 ?i27 ?l27 ?c27 ?k27 ?a28 ?i28 ?l28 ?c28 ?k28 ?a29 ?l29 ?c29 ?k29 ?a30 ?l30 ?c30 ?k30 ?a31 ?i31 ?l31 ?c31 ?k31 ?a32 ?i32 ?l32 ?c32 ?k32 ?a33 ?l33 ?c33 ?k33 ?a34 ?l34 ?c34 ?k34 ?a35 ?i35 ?l35 ?c35 ?k35 ?a36 ?i36 ?l36 ?c36 ?k36 ?a37 ?i37 ?l37 ?c37 ?k37 ?a38 ?i38 ?l38 ?c38 ?k38 ?a39 ?l39 ?c39 ?k39 ?a40 ?l40 ?c40 ?k40 ?a41 ?l41 ?c41 ?k41 ?a42 ?l42 ?c42 ?k42 ?a43 ?l43 ?c43 ?k43 ?a44 ?l44 ?c44 ?k44 ?a45 ?l45 ?c45 ?k45 ?a46 ?l46 ?c46 ?k46 ?pgC ?hdC ?poC ?saC ?mkC ?kcC ?nC_begun ?nC_spans ?nC_kept ?nC_inside ?z0 ?z1 ?z2 ?z3 ?z4 ?z5 ?z6 ?z7 ?z8 ?z9 ?z10 ?z11 ?z12 ?gi0
    (case y0 => k_is)
    (case a0 => k_is)
    (case l0 => k_is)
    (case c0 => k_is)
    (case k0 => k_is)
    (case a1 => k_is)
    (case l1 => k_is)
    (case c1 => k_is)
    (case k1 => k_is)
    (case a2 => k_is)
    (case l2 => k_is)
    (case c2 => k_is)
    (case k2 => k_is)
    (case a3 => k_is)
    (case l3 => k_is)
    (case c3 => k_is)
    (case k3 => k_is)
    (case a4 => k_is)
    (case l4 => k_is)
    (case c4 => k_is)
    (case k4 => k_is)
    (case a5 => k_is)
    (case l5 => k_is)
    (case c5 => k_is)
    (case k5 => k_is)
    (case a6 => k_is)
    (case l6 => k_is)
    (case c6 => k_is)
    (case k6 => k_is)
    (case a7 => k_is)
    (case l7 => k_is)
    (case c7 => k_is)
    (case k7 => k_is)
    (case a8 => k_is)
    (case l8 => k_is)
    (case c8 => k_is)
    (case k8 => k_is)
    (case a9 => k_is)
    (case l9 => k_is)
    (case c9 => k_is)
    (case k9 => k_is)
    (case a10 => k_is)
    (case l10 => k_is)
    (case c10 => k_is)
    (case k10 => k_is)
    (case a11 => k_is)
    (case l11 => k_is)
    (case c11 => k_is)
    (case k11 => k_is)
    (case a12 => k_is)
    (case l12 => k_is)
    (case c12 => k_is)
    (case k12 => k_is)
    (case a13 => k_is)
    (case l13 => k_is)
    (case c13 => k_is)
    (case k13 => k_is)
    (case a14 => k_is)
    (case l14 => k_is)
    (case c14 => k_is)
    (case k14 => k_is)
    (case a15 => k_is)
    (case l15 => k_is)
    (case c15 => k_is)
    (case k15 => k_is)
    (case a16 => k_is)
    (case i16 => k_is)
    (case l16 => k_is)
    (case c16 => k_is)
    (case k16 => k_is)
    (case a17 => k_is)
    (case l17 => k_is)
    (case c17 => k_is)
    (case k17 => k_is)
    (case a18 => k_is)
    (case l18 => k_is)
    (case c18 => k_is)
    (case k18 => k_is)
    (case a19 => k_is)
    (case l19 => k_is)
    (case c19 => k_is)
    (case k19 => k_is)
    (case a20 => k_is)
    (case l20 => k_is)
    (case c20 => k_is)
    (case k20 => k_is)
    (case a21 => k_is)
    (case l21 => k_is)
    (case c21 => k_is)
    (case k21 => k_is)
    (case a22 => k_is)
    (case i22 => k_is)
    (case l22 => k_is)
    (case c22 => k_is)
    (case k22 => k_is)
    (case a23 => k_is)
    (case i23 => k_is)
    (case l23 => k_is)
    (case c23 => k_is)
    (case k23 => k_is)
    (case a24 => k_is)
    (case l24 => k_is)
    (case c24 => k_is)
    (case k24 => k_is)
    (case a25 => k_is)
    (case l25 => k_is)
    (case c25 => k_is)
    (case k25 => k_is)
    (case a26 => k_is)
    (case i26 => k_is)
    (case l26 => k_is)
    (case c26 => k_is)
    (case k26 => k_is)
    (case a27 => k_is)
    (case i27 => k_is)
    (case l27 => k_is)
    (case c27 => k_is)
    (case k27 => k_is)
    (case a28 => k_is)
    (case i28 => k_is)
    (case l28 => k_is)
    (case c28 => k_is)
    (case k28 => k_is)
    (case a29 => k_is)
    (case l29 => k_is)
    (case c29 => k_is)
    (case k29 => k_is)
    (case a30 => k_is)
    (case l30 => k_is)
    (case c30 => k_is)
    (case k30 => k_is)
    (case a31 => k_is)
    (case i31 => k_is)
    (case l31 => k_is)
    (case c31 => k_is)
    (case k31 => k_is)
    (case a32 => k_is)
    (case i32 => k_is)
    (case l32 => k_is)
    (case c32 => k_is)
    (case k32 => k_is)
    (case a33 => k_is)
    (case l33 => k_is)
    (case c33 => k_is)
    (case k33 => k_is)
    (case a34 => k_is)
    (case l34 => k_is)
    (case c34 => k_is)
    (case k34 => k_is)
    (case a35 => k_is)
    (case i35 => k_is)
    (case l35 => k_is)
    (case c35 => k_is)
    (case k35 => k_is)
    (case a36 => k_is)
    (case i36 => k_is)
    (case l36 => k_is)
    (case c36 => k_is)
    (case k36 => k_is)
    (case a37 => k_is)
    (case i37 => k_is)
    (case l37 => k_is)
    (case c37 => k_is)
    (case k37 => k_is)
    (case a38 => k_is)
    (case i38 => k_is)
    (case l38 => k_is)
    (case c38 => k_is)
    (case k38 => k_is)
    (case a39 => k_is)
    (case l39 => k_is)
    (case c39 => k_is)
    (case k39 => k_is)
    (case a40 => k_is)
    (case l40 => k_is)
    (case c40 => k_is)
    (case k40 => k_is)
    (case a41 => k_is)
    (case l41 => k_is)
    (case c41 => k_is)
    (case k41 => k_is)
    (case a42 => k_is)
    (case l42 => k_is)
    (case c42 => k_is)
    (case k42 => k_is)
    (case a43 => k_is)
    (case l43 => k_is)
    (case c43 => k_is)
    (case k43 => k_is)
    (case a44 => k_is)
    (case l44 => k_is)
    (case c44 => k_is)
    (case k44 => k_is)
    (case a45 => k_is)
    (case l45 => k_is)
    (case c45 => k_is)
    (case k45 => k_is)
    (case a46 => k_is)
    (case l46 => k_is)
    (case c46 => k_is)
    (case k46 => k_is)
    (case pgC => k_is)
    (case hdC => k_is)
    (case poC => k_is)
    (case saC => k_is)
    (case mkC => k_is)
    (case kcC => k_is)
    (case nC_begun => k_is)
    (case nC_spans => k_is)
    (case nC_kept => k_is)
    (case nC_inside => k_is)
    (case z0 => k_is)
    (case z1 => k_is)
    (case z2 => k_is)
    (case z3 => k_is)
    (case z4 => k_is)
    (case z5 => k_is)
    (case z6 => k_is)
    (case z7 => k_is)
    (case z8 => k_is)
    (case z9 => k_is)
    (case z10 => k_is)
    (case z11 => k_is)
    (case z12 => k_is)
    (case gi0 => k_is)
