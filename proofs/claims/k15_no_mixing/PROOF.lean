import PyProof.Rows.All
import Wide.All
import OpenK.AllK
import Wide.FinOn
import Lean
import PyProof.EqAt
import PyProof.EqKinds
import PyProof.TupleCall
import PySem.Challenge.RW_mixplay_k15_no_mixing
set_option Elab.async false
set_option linter.all false
set_option maxRecDepth 100000
namespace L2
open PySem PySem.Spec PyProof.Rows
noncomputable abbrev Key:=Sum Int Str
noncomputable def keyIs:Key → Value → Bool
  | .inl k, v=>Value.isInt k v
  | .inr x, v=>Value.isStrOf x v
noncomputable def keyH (w:World):Key → Int
  | .inl k=>hashInt k
  | .inr x=>hashStr w x
theorem keyIs_shape:∀ {k:Key} {v:Value}, keyIs k v = true → (∃ i t, k = Sum.inl i ∧ v = Value.int i t) ∨ (∃ x t, k = Sum.inr x ∧ v = Value.str x t)
  | .inl i, v, h=>by
    obtain ⟨t, e⟩:=Value.isInt_shape (k:=i) (v:=v) h
    exact .inl ⟨i, t, rfl, e⟩
  | .inr x, v, h=>by
    obtain ⟨t, e⟩:=Value.isStrOf_shape (x:=x) (v:=v) h
    exact .inr ⟨x, t, rfl, e⟩
theorem keyIs_int (i:Int) (t:Tok):keyIs (.inl i) (.int i t) = true:=by simp [keyIs, Value.isInt]
theorem keyIs_str (x:Str) (t:Tok):keyIs (.inr x) (.str x t) = true:=by simp [keyIs, Value.isStrOf]
theorem key_ll (a b:Int):decide ((Sum.inl a:Key) = Sum.inl b) = (a == b):=by
  by_cases e:a = b
  · subst e; simp
  · have h:¬ (Sum.inl a:Key) = Sum.inl b:=fun q=>e (Sum.inl.inj q)
    rw [decide_eq_false h]
    exact (beq_eq_false_iff_ne.mpr e).symm
theorem key_rr (a b:Str):decide ((Sum.inr a:Key) = Sum.inr b) = decide (a = b):=by
  by_cases e:a = b
  · subst e; simp
  · have h:¬ (Sum.inr a:Key) = Sum.inr b:=fun q=>e (Sum.inr.inj q)
    rw [decide_eq_false h, decide_eq_false e]
theorem key_lr (a:Int) (b:Str):decide ((Sum.inl a:Key) = Sum.inr b) = false:=decide_eq_false (fun q=>nomatch q)
theorem key_rl (a:Str) (b:Int):decide ((Sum.inr a:Key) = Sum.inl b) = false:=decide_eq_false (fun q=>nomatch q)
noncomputable def mixKind (prog:Program) (w:World):PySem.KeyKind prog w Key where
  is:=keyIs
  hash:=keyH w
  inj:=fun v a b ha hb=>by
    rcases keyIs_shape ha with ⟨i, t, rfl, rfl⟩ | ⟨x, t, rfl, rfl⟩
    · rcases keyIs_shape hb with ⟨j, u, rfl, e⟩ | ⟨y, u, rfl, e⟩
      · injection e with e1 _; rw [e1]
      · exact nomatch e
    · rcases keyIs_shape hb with ⟨j, u, rfl, e⟩ | ⟨y, u, rfl, e⟩
      · exact nomatch e
      · injection e with e1 _; rw [e1]
  byValue:=fun k v h=>by
    rcases keyIs_shape h with ⟨i, t, rfl, rfl⟩ | ⟨x, t, rfl, rfl⟩ <;> rfl
  pyHash:=fun hv h=>by
    rcases keyIs_shape hv with ⟨i, t, rfl, rfl⟩ | ⟨x, t, rfl, rfl⟩
    · exact wpAny_pyHash_int h
    · exact wpAny_pyHash_str h
  eqBool:=fun hu hv h=>by
    rcases keyIs_shape hu with ⟨i, t, rfl, rfl⟩ | ⟨x, t, rfl, rfl⟩
    · rcases keyIs_shape hv with ⟨j, u, rfl, rfl⟩ | ⟨y, u, rfl, rfl⟩
      · rw [key_ll] at h; exact wpAny_eqBool_int h
      · rw [key_lr] at h; exact SeqAt.EqAt.int_str i t y u _ _ _ _ h
    · rcases keyIs_shape hv with ⟨j, u, rfl, rfl⟩ | ⟨y, u, rfl, rfl⟩
      · rw [key_rl] at h; exact SeqAt.EqAt.str_int x t j u _ _ _ _ h
      · rw [key_rr] at h; exact wpAny_eqBool_str h
  «strs»:=fun k x t v h=>by
    rcases keyIs_shape h with ⟨i, u, rfl, e⟩ | ⟨y, u, rfl, e⟩
    · exact nomatch e
    · injection e with e1 _
      subst e1
      cases v <;> rfl
theorem mixKind_int (prog:Program) (w:World) (i:Int) (t:Tok):(mixKind prog w).is (.inl i) (.int i t) = true:=keyIs_int i t
theorem mixKind_str (prog:Program) (w:World) (x:Str) (t:Tok):(mixKind prog w).is (.inr x) (.str x t) = true:=keyIs_str x t
end L2
namespace L2
open PySem PySem.Spec PyProof.Rows
inductive V where
  | non | bl (b:Bool) | int (i:Int) | str (x:Str) | byt (b:Array UInt8) | flt (b:UInt64) | ref (a:Addr) | ty (n:String)
  deriving DecidableEq
noncomputable def RelV:V → Value → Prop
  | .non, u=>u = Value.none
  | .bl b, u=>u = Value.bool b
  | .int i, u=>∃ t, u = Value.int i t
  | .str x, u=>∃ t, u = Value.str x t
  | .byt b, u=>∃ t, u = Value.bytes b t
  | .flt b, u=>∃ t, u = Value.float b t
  | .ref a, u=>u = Value.ref a
  | .ty n, u=>u = Value.type n
noncomputable abbrev Vals:List V → List Value → Prop:=Paired RelV
theorem Vals.length {xs:List V} {us:List Value} (r:Vals xs us):xs.length = us.length:=Paired.length r
theorem Vals.get:∀ {xs:List V} {us:List Value} {i:Nat} {x:V}, Vals xs us → xs[i]? = some x → ∃ u, us[i]? = some u ∧ RelV x u
  | _, _, _, _, .nil, e=>by simp at e
  | _, _, 0, _, .cons r _, e=>by simp at e; subst e; exact ⟨_, rfl, r⟩
  | _, _, i + 1, x, .cons _ t, e=>by
    obtain ⟨u, h1, h2⟩:=Vals.get (i:=i) (x:=x) t (by simpa using e)
    exact ⟨u, by simpa using h1, h2⟩
theorem Vals.set {x:V} {u:Value} (r:RelV x u):∀ {xs:List V} {us:List Value} (i:Nat), Vals xs us → Vals (xs.set i x) (us.set i u)
  | _, _, _, .nil=>.nil
  | _, _, 0, .cons _ t=>.cons r t
  | _, _, i + 1, .cons q t=>.cons q (Vals.set r i t)
theorem Vals.append:∀ {xs ys:List V} {us ws:List Value}, Vals xs us → Vals ys ws → Vals (xs ++ ys) (us ++ ws)
  | _, _, _, _, .nil, s=>s
  | _, _, _, _, .cons r t, s=>.cons r (Vals.append t s)
theorem Vals.take:∀ {xs:List V} {us:List Value} (n:Nat), Vals xs us → Vals (xs.take n) (us.take n)
  | _, _, 0, _=>.nil
  | _, _, _ + 1, .nil=>.nil
  | _, _, n + 1, .cons r t=>.cons r (Vals.take n t)
theorem Vals.drop:∀ {xs:List V} {us:List Value} (n:Nat), Vals xs us → Vals (xs.drop n) (us.drop n)
  | _, _, 0, r=>r
  | _, _, _ + 1, .nil=>.nil
  | _, _, n + 1, .cons _ t=>Vals.drop n t
noncomputable def RelO:Option V → Option Value → Prop
  | some v, some u=>RelV v u
  | none, none=>True
  | _, _=>False
noncomputable def KV {κ:Type}:List (κ × V) → List (κ × Value) → Prop:=Paired fun (p:κ × V) (q:κ × Value)=>p.1 = q.1 ∧ RelV p.2 q.2
noncomputable def kV:Key → V
  | .inl i=>.int i
  | .inr x=>.str x
inductive HO where
  /-- a list -/
  | lst (xs:List V)
  /-- a tuple (never changes) -/
  | tup (xs:List V)
  /-- a dict whose keys are ints and texts; one whose keys are tuples of ints and texts (the empty one is both) -/
  | dK (kvs:List (Key × V)) | dT (kvs:List (List Key × V))
  /-- a set of ints: its members, its size -/
  | set (S:Int → Bool) (n:Nat)
  /-- an instance of the class at C, its dict at dx, its attributes -/
  | ins (C dx:Addr) (fs:List (Str × V))
  /-- the dict of the instance at x -/
  | own (x:Addr)
  /-- the dict of an exception -/
  | xd (fs:List (Str × V))
  /-- a bound method, f of x -/
  | met (f x:Addr)
  /-- a range object lo, lo + 1, .. below hi -/
  | rng (lo hi:Int)
  /-- a thing that is known to the object (the script; a dict while a loop walks it): read, never written while it is so -/
  | frz (o:Obj) (u:HO)
  /-- a code object's table -/
  | tbl (ps:Array Value)
  /-- any other thing, by what is true of its one object (a def of one's own: SetO a S n:=HO.ext fun h=>..) -/
  | ext (φ:Heap → Prop)
noncomputable abbrev Hp:=Addr → Option HO
noncomputable def upd (H:Hp) (a:Addr) (o:HO):Hp:=fun b=>if b = a then some o else H b
theorem upd_same {H:Hp} {a:Addr} {o:HO}:upd H a o a = some o:=by unfold upd; rw [if_pos rfl]
theorem upd_ne {H:Hp} {a b:Addr} {o:HO} (h:b ≠ a):upd H a o b = H b:=by unfold upd; rw [if_neg h]
theorem ne_of {H:Hp} {a b:Addr} {o u:HO} (h:H a = some o) (h':H b = some u) (d:o ≠ u):a ≠ b:=by
  intro e; subst e; rw [h] at h'; exact d (Option.some.inj h')
theorem ne_of_none {H:Hp} {a b:Addr} {o:HO} (h:H a = some o) (h':H b = none):a ≠ b:=by
  intro e; subst e; rw [h] at h'; cases h'
section
variable (P:Program) (w:World)
noncomputable def ObjOk (H:Hp) (h:Heap) (a:Addr):HO → Prop
  | .lst xs=>xs.length ≤ sizeLine ∧ ∃ (its:List Value) (n:Nat), Vals xs its ∧ h.get? a = some { cls:=.type "list", data:=.seq its.toArray n }
  | .tup xs=>xs.length ≤ sizeLine ∧ ∃ its:List Value, Vals xs its ∧ IsTup h a its.toArray
  | .dK kvs=>kvs.length ≤ sizeLine ∧ (a == sysModules) = false ∧ ∃ vs, KV kvs vs ∧ h.DictOf (mixKind P w) a vs
  | .dT kvs=>kvs.length ≤ sizeLine ∧ (a == sysModules) = false ∧ ∃ xs:List (List Key × Addr × Value),
      Paired (fun (p:List Key × V) (q:List Key × Addr × Value)=>p.1 = q.1 ∧ H q.2.1 = some (.tup (p.1.map kV)) ∧ RelV p.2 q.2.2) kvs xs ∧
      ∃ o es ep, h.get? a = some o ∧ o.ExactDict ∧ o.data = .dict es ep ∧ es.toList = xs.map (entryOfKey (tupleKind (mixKind P w))) ∧ (xs.map (·.1)).Nodup
  | .set S n=>h.SetOf (intKind P w) a S n
  | .ins C dx fs=>H dx = some (.own a) ∧ fs.length ≤ 1000 ∧ dx ≠ a ∧ h.get? a = some (PySem.W.instObj C dx) ∧
      ∃ mA, h.Ns1 dx mA ∧ (∀ f, RelO (fs.lookup f) (mA f)) ∧ PySem.Within mA (fs.map (·.1))
  | .own _=>∃ o, h.get? a = some o
  | .xd fs=>∃ mA, h.Ns1 a mA ∧ ∀ f, RelO (fs.lookup f) (mA f)
  | .rng lo hi=>∃ t u v, h.get? a = some { cls:=.type "range", data:=.fields #[.int lo t, .int hi u, .int 1 v] }
  | .frz o u=>h.get? a = some o ∧ ObjOk H h a u
  | .tbl ps=>h.get? a = some { cls:=.none, data:=.fields ps }
  | .met f x=>h.get? a = some (PySem.W.methodObj (.ref f) (.ref x))
  | .ext φ=>φ h ∧ (∃ o, h.get? a = some o) ∧ ∀ h1 h2:Heap, φ h1 → (∀ o, h1.get? a = some o → h2.get? a = some o) → φ h2
noncomputable def HOk (H:Hp) (h:Heap):Prop:=∀ a o, H a = some o → ObjOk P w H h a o
end
section
variable {P:Program} {w:World} {H H':Hp} {h h':Heap} {a:Addr} {o:HO}
theorem ObjOk.lt (x:ObjOk P w H h a o):a < h.objs.size:=by
  cases o with
  | lst xs=>obtain ⟨_, _, _, _, e⟩:=x; exact Heap.lt_size e
  | tup xs=>obtain ⟨_, _, _, p⟩:=x; exact p.lt
  | dK kvs=>obtain ⟨_, _, _, _, o, _, _, e, _⟩:=x; exact Heap.lt_size e
  | dT kvs=>obtain ⟨_, _, _, _, o, _, _, e, _⟩:=x; exact Heap.lt_size e
  | set S n=>obtain ⟨o, _, _, _, e, _⟩:=x; exact Heap.lt_size e
  | ins C dx fs=>obtain ⟨_, _, _, e, _⟩:=x; exact Heap.lt_size e
  | own y=>obtain ⟨_, e⟩:=x; exact Heap.lt_size e
  | xd fs=>obtain ⟨_, ⟨_, _, _, e, _⟩, _⟩:=x; exact Heap.lt_size e
  | rng lo hi=>obtain ⟨_, _, _, e⟩:=x; exact Heap.lt_size e
  | frz ob u=>obtain ⟨e, _⟩:=x; exact Heap.lt_size e
  | tbl ps=>exact Heap.lt_size (show h.get? a = some _ from x)
  | met f y=>exact Heap.lt_size (show h.get? a = some _ from x)
  | ext φ=>obtain ⟨_, ⟨_, e⟩, _⟩:=x; exact Heap.lt_size e
theorem Paired.mapP {α β:Type} {F G:α → β → Prop}:∀ {l₁:List α} {l₂:List β}, Paired F l₁ l₂ → (∀ a b, F a b → G a b) → Paired G l₁ l₂
  | _, _, .nil, _=>.nil
  | _, _, .cons r t, f=>.cons (f _ _ r) (Paired.mapP t f)
theorem ObjOk.stay (x:ObjOk P w H h a o) (k:∀ b u, (b = a ∨ H b = some (.own a)) → h.get? b = some u → h'.get? b = some u)
    (ho:∀ b, H b = some (.own a) → H' b = some (.own a)) (ht:∀ b xs, H b = some (.tup xs) → H' b = some (.tup xs)):ObjOk P w H' h' a o:=by
  induction o with
  | lst xs=>obtain ⟨z, its, n, r, e⟩:=x; exact ⟨z, its, n, r, k _ _ (.inl rfl) e⟩
  | tup xs=>obtain ⟨z, its, r, ob, e, c⟩:=x; exact ⟨z, its, r, ob, k _ _ (.inl rfl) e, c⟩
  | dK kvs=>obtain ⟨z, y, vs, r, ob, es, ep, e, c⟩:=x; exact ⟨z, y, vs, r, ob, es, ep, k _ _ (.inl rfl) e, c⟩
  | dT kvs =>
    obtain ⟨z, y, xs, r, ob, es, ep, e, c⟩:=x
    exact ⟨z, y, xs, Paired.mapP r fun p q z=>⟨z.1, ht _ _ z.2.1, z.2.2⟩, ob, es, ep, k _ _ (.inl rfl) e, c⟩
  | set S n=>obtain ⟨ob, es, ep, t, e, c⟩:=x; exact ⟨ob, es, ep, t, k _ _ (.inl rfl) e, c⟩
  | ins C dx fs =>
    obtain ⟨d, z, ne, e, mA, ⟨od, es, ep, e2, c⟩, r⟩:=x
    exact ⟨ho _ d, z, ne, k _ _ (.inl rfl) e, mA, ⟨od, es, ep, k _ _ (.inr d) e2, c⟩, r⟩
  | own y=>obtain ⟨ob, e⟩:=x; exact ⟨ob, k _ _ (.inl rfl) e⟩
  | xd fs=>obtain ⟨mA, ⟨od, es, ep, e, c⟩, r⟩:=x; exact ⟨mA, ⟨od, es, ep, k _ _ (.inl rfl) e, c⟩, r⟩
  | rng lo hi=>obtain ⟨t, u, v, e⟩:=x; exact ⟨t, u, v, k _ _ (.inl rfl) e⟩
  | frz ob u ih=>obtain ⟨e, q⟩:=x; exact ⟨k _ _ (.inl rfl) e, ih q⟩
  | tbl ps =>
    have e:h.get? a = some { cls:=.none, data:=.fields ps }:=x
    show h'.get? a = some { cls:=.none, data:=.fields ps }
    exact k a _ (.inl rfl) e
  | met f y =>
    have e:h.get? a = some (PySem.W.methodObj (.ref f) (.ref y)):=x
    show h'.get? a = some (PySem.W.methodObj (.ref f) (.ref y))
    exact k a _ (.inl rfl) e
  | ext φ=>obtain ⟨p, ⟨o, e⟩, st⟩:=x; exact ⟨st _ _ p fun o q=>k _ _ (.inl rfl) q, ⟨o, k _ _ (.inl rfl) e⟩, st⟩
theorem HOk.lt (x:HOk P w H h) (e:H a = some o):a < h.objs.size:=(x a o e).lt
theorem HOk.fresh (x:HOk P w H h) (e:h.objs.size ≤ a):H a = none:=by
  cases q:H a with
  | none=>rfl
  | some u=>exact absurd (Nat.lt_of_lt_of_le (x.lt q) e) (Nat.lt_irrefl _)
theorem HOk.kept (x:HOk P w H h) (k:∀ b u, h.get? b = some u → h'.get? b = some u):HOk P w H h':=fun a o e =>
  (x a o e).stay (fun b u _ q=>k b u q) (fun _ q=>q) fun _ _ q=>q
theorem HOk.laid (x:HOk P w H h) (k:∀ b u, h.get? b = some u → h'.get? b = some u) (hp:h.objs.size ≤ a) (new:ObjOk P w (upd H a o) h' a o):HOk P w (upd H a o) h':=fun b u e=>by
  have hn:=x.fresh hp
  by_cases hb:b = a
  · subst hb; rw [upd_same] at e; cases e; exact new
  · rw [upd_ne hb] at e
    exact (x b u e).stay (fun c v _ q=>k c v q) (fun c q=>by rw [upd_ne (ne_of_none q hn)]; exact q) fun c xs q=>by rw [upd_ne (ne_of_none q hn)]; exact q
end
noncomputable def Rd (H:Hp) (a:Addr) (u:HO):Prop:=H a = some u ∨ ∃ o, H a = some (.frz o u)
theorem Rd.ok {P:Program} {w:World} {H:Hp} {h:Heap} {a:Addr} {u:HO} (r:Rd H a u) (x:HOk P w H h):ObjOk P w H h a u:=by
  rcases r with r | ⟨o, r⟩
  · exact x a u r
  · obtain ⟨_, q⟩:=x a _ r
    exact q
noncomputable def Mut:Option HO → Prop
  | some (.lst _)=>True
  | some (.dK _)=>True
  | some (.dT _)=>True
  | some (.set _ _)=>True
  | some (.ins _ _ _)=>True
  | some (.ext _)=>True
  | _=>False
section
variable {P:Program} {w:World} {H:Hp} {h h':Heap} {x e:Addr} {o':HO}
theorem HOk.write (ok:HOk P w H h) (mu:Mut (H x)) (he:e = x ∨ H e = some (.own x)) (k:∀ b u, b ≠ e → h.get? b = some u → h'.get? b = some u) (heo:∃ u, h'.get? e = some u)
    (new:ObjOk P w (upd H x o') h' x o'):HOk P w (upd H x o') h':=fun b u q=>by
  have nown:∀ c y, H c = some (.own y) → c ≠ x:=fun c y r z=>by subst z; rw [r] at mu; exact mu
  have ntup:∀ c xs, H c = some (.tup xs) → c ≠ x:=fun c xs r z=>by subst z; rw [r] at mu; exact mu
  by_cases hb:b = x
  · subst hb; rw [upd_same] at q; cases q; exact new
  · rw [upd_ne hb] at q
    by_cases hbe:b = e
    · have q':H b = some (.own x):=by
        rcases he with z | z
        · exact absurd (hbe.trans z) hb
        · rw [hbe]; exact z
      rw [q] at q'; cases q'
      obtain ⟨v, hv⟩:=heo
      exact ⟨v, by rw [hbe]; exact hv⟩
    · refine (ok b u q).stay (fun c v hc r=>k c v ?_ r) (fun c r=>by rw [upd_ne (nown c b r)]; exact r) fun c xs r=>by rw [upd_ne (ntup c xs r)]; exact r
      rcases hc with rfl | hc
      · exact hbe
      · rintro rfl
        rcases he with z | z
        · exact nown c b hc z
        · rw [hc] at z; cases z; exact hb rfl
end
structure Un (fs ex:List Addr) (H H':Hp) (h h':Heap):Prop where
  keep:∀ b o, h.get? b = some o → H b = none → b ∉ fs → b ∉ ex → h'.get? b = some o
  slot:∀ b o, h.get? b = some o → H b = none → b ∈ fs → b ∉ ex → ∃ sl, h'.get? b = some { o with slots:=sl }
  free:∀ b o, h.get? b = some o → H b = none → b ∉ ex → H' b = none
  there:∀ b o, h.get? b = some o → b ∉ ex → ∃ o', h'.get? b = some o'
  tups:∀ b xs, H b = some (.tup xs) → H' b = some (.tup xs)
  frzs:∀ b o u, H b = some (.frz o u) → H' b = some (.frz o u)
  tbls:∀ b ps, H b = some (.tbl ps) → ∃ more, H' b = some (.tbl (ps ++ more))
section
variable {fs fs' ex ex':List Addr} {H H1 H2:Hp} {h h1 h2 h':Heap} {a x e:Addr} {o:HO}
theorem Un.any (u:Un fs ex H H1 h h1) {b:Addr} {ob:Obj} (q:h.get? b = some ob) (n:H b = none) (hx:b ∉ ex):∃ sl, h1.get? b = some { ob with slots:=sl }:=by
  by_cases hb:b ∈ fs
  · exact u.slot b ob q n hb hx
  · exact ⟨ob.slots, u.keep b ob q n hb hx⟩
theorem Un.kept (k:∀ b u, h.get? b = some u → h'.get? b = some u):Un fs ex H H h h' :=
  ⟨fun b ob q _ _ _=>k b ob q, fun b ob q _ _ _=>⟨ob.slots, k b ob q⟩, fun _ _ _ n _=>n, fun b ob q _=>⟨ob, k b ob q⟩, fun _ _ q=>q, fun _ _ _ q=>q, fun _ ps q=>⟨#[], by rw [q]; simp⟩⟩
theorem Un.refl:Un fs ex H H h h:=Un.kept fun _ _ q=>q
theorem Un.laid (k:∀ b u, h.get? b = some u → h'.get? b = some u) (hp:h.objs.size ≤ a) (hn:H a = none):Un fs ex H (upd H a o) h h' where
  keep:=fun b u q _ _ _=>k b u q
  slot:=fun b u q _ _ _=>⟨u.slots, k b u q⟩
  free:=fun b u q n _=>by rw [upd_ne (Nat.ne_of_lt (Nat.lt_of_lt_of_le (Heap.lt_size q) hp))]; exact n
  there:=fun b u q _=>⟨u, k b u q⟩
  tups:=fun b xs q=>by rw [upd_ne (ne_of_none q hn)]; exact q
  frzs:=fun b u xs q=>by rw [upd_ne (ne_of_none q hn)]; exact q
  tbls:=fun b ps q=>⟨#[], by rw [upd_ne (ne_of_none q hn), q]; simp⟩
theorem Un.write (mu:Mut (H x)) (he:e = x ∨ H e = some (.own x)) (k:∀ b u, b ≠ e → h.get? b = some u → h'.get? b = some u) (heo:∃ u, h'.get? e = some u):Un fs ex H (upd H x o) h h':=by
  have hx:∀ b, H b = none → b ≠ x:=fun b n z=>by subst z; rw [n] at mu; exact mu
  have hb:∀ b, H b = none → b ≠ e:=fun b n z=>by
    subst z
    rcases he with r | r
    · exact hx b n r
    · rw [n] at r; cases r
  have hm:∀ b u, H b = some u → ¬ Mut (some u) → b ≠ x:=fun b u q nm z=>by subst z; rw [q] at mu; exact nm mu
  refine ⟨fun b u q n _ _=>k b u (hb b n) q, fun b u q n _ _=>⟨u.slots, k b u (hb b n) q⟩, fun b u q n _=>by rw [upd_ne (hx b n)]; exact n, fun b u q _=>?_,
    fun b xs q=>by rw [upd_ne (hm b _ q fun z=>z)]; exact q, fun b u xs q=>by rw [upd_ne (hm b _ q fun z=>z)]; exact q, fun b ps q=>⟨#[], by rw [upd_ne (hm b _ q fun z=>z), q]; simp⟩⟩
  by_cases hbe:b = e
  · subst hbe; exact heo
  · exact ⟨u, k b u hbe q⟩
end
noncomputable def trk (h:Heap) (H:Hp):List Addr:=(List.range h.objs.size).filter fun a=>(H a).isSome
noncomputable def hidT (h:Heap) (H:Hp):Heap:=PySem.W.hideAll h (trk h H)
theorem hidT_size (h:Heap) (H:Hp):(hidT h H).objs.size = h.objs.size:=PySem.W.hideAll_size _ _
theorem hidT_get {h:Heap} {H:Hp} {b:Addr} {o:Obj} (e:h.get? b = some o) (n:H b = none):(hidT h H).get? b = some o :=
  PySem.W.hideAll_get _ e fun hm=>by
    have q:(H b).isSome = true:=(List.mem_filter.mp hm).2
    rw [n] at q; simp at q
theorem of_hidT {h:Heap} {H:Hp} {b:Addr} {o:Obj} (e:(hidT h H).get? b = some o):h.get? b = some o ∧ H b = none:=by
  have e':h.get? b = some o:=PySem.W.of_hideAll (trk h H) e
  refine ⟨e', ?_⟩
  cases q:H b with
  | none=>rfl
  | some x =>
    have hm:b ∈ trk h H:=List.mem_filter.mpr ⟨List.mem_range.mpr (Heap.lt_size e'), by simp [q]⟩
    have z:(hidT h H).get? b = none:=PySem.W.hideAll_none (trk h H) hm
    rw [z] at e; cases e
end L2
namespace L2
open PySem PySem.Spec PyProof.Rows
structure Mod (K:PySem.W.Frag) (mg:Str → Option Value) (base:Heap):Prop where
  kin:K.In base
  glob:base.Ns mainGlobals mg
  blt:∃ mb, base.Ns builtinsNs mb ∧ ∀ x:Str, x ≠ "__name__" → mb x = bootBuiltins x
  nolimit:base.NoLimit
structure Cx where
  prog:Program
  w:World
  K:PySem.W.Frag
  mg:Str → Option Value
  base:Heap
  A:Around
  N:List Str
  s₀:Shared
  H₀:Hp
  env:Env
  outer:List Env
  stack:List Env
  ex:List Addr
  fn:Str → Bool
  calm:Bool
  pn:List (Addr × Obj)
  xe:Value → Shared → Prop
noncomputable def frs (l:List Env):List Addr:=l.filterMap (·.frame)
noncomputable abbrev Cx.fs (X:Cx):List Addr:=frs X.outer
noncomputable def Vis (sc:Scope) (x:Str):Prop:=sc.names.lookup x = some .local ∨ sc.names.lookup x = some .cell ∨ sc.names.lookup x = some .free
noncomputable def Loc (sc:Scope) (x:Str):Prop:=sc.names.lookup x = some .local ∨ sc.names.lookup x = some .cell
noncomputable def Look (env:Env) (h:Heap) (m:Str → Option Value) (x:Str) (u:Value):Prop :=
  (env.kindOf x = some .local ∧ m x = some u) ∨ ((env.kindOf x = some .cell ∨ env.kindOf x = some .free) ∧ ∃ c, env.cells.lookup x = some c ∧ h.IsCell c (some u))
structure Cx.Ok (X:Cx):Prop where
  mod:Mod X.K X.mg X.base
  kind:X.env.scope.kind = .function
  glob:X.env.globals = mainGlobals
  blt:X.env.builtins = builtinsNs
  above:X.s₀.heap.objs.size ≤ X.env.locals
  inj:∀ x y c, X.env.cells.lookup x = some c → X.env.cells.lookup y = some c → x = y
  has:∀ x, (X.env.kindOf x = some .cell ∨ X.env.kindOf x = some .free) → ∃ c, X.env.cells.lookup x = some c
  cab:∀ x c, X.fn x = true → X.env.cells.lookup x = some c → X.s₀.heap.objs.size ≤ c
  hd:X.calm = true → X.A.handled = none
  frames:X.A.frames = some X.stack
  stk:X.stack = X.outer ∨ (X.stack = X.env :: X.outer ∧ X.env.frame = some X.env.locals)
  exf:∀ b ∈ X.ex, b ≠ X.env.locals ∧ ∀ x c, X.env.cells.lookup x = some c → c ≠ b
  bs:∀ b o, X.base.get? b = some o → X.s₀.heap.get? b = some o ∧ X.H₀ b = none
  bsz:X.base.objs.size ≤ X.s₀.heap.objs.size
  noex:∀ b o, X.base.get? b = some o → b ∉ X.ex
  exfs:∀ b ∈ X.ex, b ∉ X.fs
  funs:X.s₀.heap.FunFrames X.base X.outer
  frf:∀ b ∈ X.fs, X.H₀ b = none
structure Inv (X:Cx) (pins:List (Addr × Obj)) (σ:List (Option V)) (H:Hp) (s:Shared):Prop where
  ok:X.Ok
  os:s.os = X.s₀.os
  bare:AllBare s.gens
  base:Un X.fs X.ex X.H₀ H X.s₀.heap s.heap
  loc:∃ m, s.heap.Ns X.env.locals m ∧ ∀ (i:Nat) (x:Str) (v:V), X.N[i]? = some x → σ[i]? = some (some v) → Vis X.env.scope x → ∃ u, RelV v u ∧ Look X.env s.heap m x u
  cell:∀ x c, X.env.cells.lookup x = some c → ∃ v, s.heap.IsCell c v
  free:H X.env.locals = none
  freeC:∀ x c, X.env.cells.lookup x = some c → H c = none
  pin:∀ p ∈ X.pn ++ pins, s.heap.get? p.1 = some p.2 ∧ H p.1 = none ∧ p.1 ≠ X.env.locals ∧ p.1 ∉ X.fs ∧ ∀ v, p.2.data ≠ .cell v
  hok:HOk X.prog X.w H s.heap
  len:σ.length = X.N.length
section
variable {X:Cx} {pins:List (Addr × Obj)} {σ:List (Option V)} {H H':Hp} {s:Shared} {h':Heap}
theorem Cx.Ok.nofr (ok:X.Ok) {b:Addr} {o:Obj} (e:X.base.get? b = some o):b ∉ X.fs:=fun hb=>by
  have:=(ok.funs.mem hb).1
  rw [e] at this; cases this
theorem Inv.bs (I:Inv X pins σ H s):∀ b o, X.base.get? b = some o → s.heap.get? b = some o ∧ H b = none:=fun b o e =>
  ⟨I.base.keep b o (I.ok.bs b o e).1 (I.ok.bs b o e).2 (I.ok.nofr e) (I.ok.noex b o e), I.base.free b o (I.ok.bs b o e).1 (I.ok.bs b o e).2 (I.ok.noex b o e)⟩
theorem Inv.bk (I:Inv X pins σ H s):∀ b o, X.base.get? b = some o → s.heap.get? b = some o:=fun b o e=>(I.bs b o e).1
theorem Inv.mod (I:Inv X pins σ H s):Mod X.K X.mg X.base:=I.ok.mod
theorem Inv.kIn (I:Inv X pins σ H s):X.K.In s.heap:=I.ok.mod.kin.keeps I.bk
theorem Inv.lt (I:Inv X pins σ H s):X.env.locals < s.heap.objs.size:=let ⟨_, hn, _⟩:=I.loc; hn.lt
theorem Inv.sz (I:Inv X pins σ H s):X.s₀.heap.objs.size ≤ s.heap.objs.size:=Nat.le_trans I.ok.above (Nat.le_of_lt I.lt)
theorem Inv.nofs (I:Inv X pins σ H s) {a:Addr} (h:s.heap.objs.size ≤ a):a ∉ X.fs:=fun hb=>by
  obtain ⟨_, o, ho, _⟩:=I.ok.funs.mem hb
  exact absurd (Nat.lt_of_lt_of_le (Heap.lt_size ho) (Nat.le_trans I.sz h)) (Nat.lt_irrefl _)
theorem Inv.cne (I:Inv X pins σ H s):∀ x c, X.env.cells.lookup x = some c → c ≠ X.env.locals:=fun x c e z=>by
  obtain ⟨v, o, ho, hd⟩:=I.cell x c e
  obtain ⟨m, ⟨o', es, ep, ho', hd', _⟩, _⟩:=I.loc
  rw [z, ho'] at ho; cases ho; rw [hd'] at hd; cases hd
theorem Inv.funs (I:Inv X pins σ H s):s.heap.FunFrames X.base X.outer:=by
  have all:∀ (l:List Env), (∀ b ∈ frs l, b ∈ X.fs) → X.s₀.heap.FunFrames X.base l → s.heap.FunFrames X.base l:=by
    intro l
    induction l with
    | nil=>intro _ _; trivial
    | cons env r ih =>
      intro hs hl
      obtain ⟨hk, ⟨L, o, hf, hn, ho, hd⟩, hr⟩:=hl
      have hL:L ∈ X.fs:=hs L (by unfold frs; rw [List.filterMap_cons, hf]; exact List.mem_cons_self)
      obtain ⟨sl, e⟩:=I.base.slot L o ho (I.ok.frf L hL) hL fun z=>I.ok.exfs L z hL
      exact ⟨hk, ⟨L, _, hf, hn, e, hd⟩, ih (fun b hb=>hs b (by unfold frs; rw [List.filterMap_cons, hf]; exact List.mem_cons_of_mem _ hb)) hr⟩
  exact all X.outer (fun _ hb=>hb) I.ok.funs
theorem Inv.stack (I:Inv X pins σ H s):s.heap.FunFrames X.base X.stack:=by
  rcases I.ok.stk with e | ⟨e, hf⟩
  · rw [e]; exact I.funs
  · rw [e]
    obtain ⟨m, hn, _⟩:=I.loc
    refine .cons (by rw [I.ok.kind]; decide) hf hn ?_ I.funs
    exact Heap.get?_none_of_le (Nat.le_trans I.ok.bsz I.ok.above)
theorem Inv.stkSub (I:Inv X pins σ H s):∀ b ∈ frs X.stack, b ∈ X.env.locals :: X.fs:=fun b hb=>by
  rcases I.ok.stk with e | ⟨e, hf⟩
  · rw [e] at hb; exact List.mem_cons_of_mem _ hb
  · rw [e] at hb
    unfold frs at hb
    rw [List.filterMap_cons, hf] at hb
    exact hb
theorem Inv.stkFree (I:Inv X pins σ H s):∀ b ∈ frs X.stack, H b = none:=fun b hb=>by
  rcases List.mem_cons.mp (I.stkSub b hb) with e | hb
  · rw [e]; exact I.free
  · obtain ⟨_, o, ho, _⟩:=I.ok.funs.mem hb
    exact I.base.free b o ho (I.ok.frf b hb) fun z=>I.ok.exfs b z hb
theorem Inv.step {g':Array GenState} {t':Nat} {d':Drawn} {ch:List Addr} (I:Inv X pins σ H s)
    (hch:∀ b ∈ ch, (b ∈ X.ex ∨ X.s₀.heap.objs.size ≤ b) ∧ b ≠ X.env.locals ∧ (∀ x c, X.env.cells.lookup x = some c → c ≠ b) ∧ ∀ p ∈ X.pn ++ pins, p.1 ≠ b)
    (keep:∀ b o, b ≠ X.env.locals → b ∉ X.fs → b ∉ ch → s.heap.get? b = some o → H b = none → h'.get? b = some o)
    (slot:∀ b o, b ≠ X.env.locals → b ∈ X.fs → b ∉ ch → s.heap.get? b = some o → H b = none → ∃ sl, h'.get? b = some { o with slots:=sl }) (free:∀ b o, b ∉ ch → s.heap.get? b = some o → H b = none → H' b = none)
    (there:∀ b o, b ∉ ch → s.heap.get? b = some o → ∃ o', h'.get? b = some o')
    (tups:∀ b xs, H b = some (.tup xs) → H' b = some (.tup xs)) (frzs:∀ b o u, H b = some (.frz o u) → H' b = some (.frz o u)) (tbls:∀ b ps, H b = some (.tbl ps) → ∃ more, H' b = some (.tbl (ps ++ more)))
    (ns:∀ m, s.heap.Ns X.env.locals m → h'.Ns X.env.locals m) (hok:HOk X.prog X.w H' h') (hg:AllBare g') :
    Inv X pins σ H' { s with heap:=h', gens:=g', drawn:=d', toks:=t' }:=by
  have neL:∀ b o, X.s₀.heap.get? b = some o → b ≠ X.env.locals:=fun b o e=>Nat.ne_of_lt (Nat.lt_of_lt_of_le (Heap.lt_size e) I.ok.above)
  have neC:∀ b o, X.s₀.heap.get? b = some o → b ∉ X.ex → b ∉ ch:=fun b o e hx hb=>by
    rcases (hch b hb).1 with z | z
    · exact hx z
    · exact absurd (Nat.lt_of_lt_of_le (Heap.lt_size e) z) (Nat.lt_irrefl _)
  have cellK:∀ x c, X.env.cells.lookup x = some c → ∀ v, s.heap.IsCell c v → h'.IsCell c v:=fun x c e v ⟨o, ho, hd⟩=>by
    have nch:c ∉ ch:=fun z=>(hch c z).2.2.1 x c e rfl
    by_cases hc:c ∈ X.fs
    · obtain ⟨sl, q⟩:=slot c o (I.cne x c e) hc nch ho (I.freeC x c e)
      exact ⟨_, q, hd⟩
    · exact ⟨o, keep c o (I.cne x c e) hc nch ho (I.freeC x c e), hd⟩
  refine ⟨I.ok, I.os, hg, ⟨fun b o e n hb hx=>?_, fun b o e n hb hx=>?_, fun b o e n hx=>?_, fun b o e hx=>?_, fun b xs e=>tups b xs (I.base.tups b xs e), fun b o xs e=>frzs b o xs (I.base.frzs b o xs e), fun b ps e=>?_⟩, ?_, fun x c e=>?_, ?_, fun x c e=>?_, fun p hp=>?_, hok, I.len⟩
  · exact keep b o (neL b o e) hb (neC b o e hx) (I.base.keep b o e n hb hx) (I.base.free b o e n hx)
  · obtain ⟨sl, e1⟩:=I.base.slot b o e n hb hx
    obtain ⟨sl', e2⟩:=slot b _ (neL b o e) hb (neC b o e hx) e1 (I.base.free b o e n hx)
    exact ⟨sl', e2⟩
  · obtain ⟨o', e1⟩:=I.base.there b o e hx
    exact free b o' (neC b o e hx) e1 (I.base.free b o e n hx)
  · obtain ⟨o', e1⟩:=I.base.there b o e hx
    exact there b o' (neC b o e hx) e1
  · obtain ⟨m1, e1⟩:=I.base.tbls b ps e
    obtain ⟨m2, e2⟩:=tbls b _ e1
    exact ⟨m1 ++ m2, by rw [e2, Array.append_assoc]⟩
  · obtain ⟨m, hn, hl⟩:=I.loc
    refine ⟨m, ns m hn, fun i x v e1 e2 e3=>?_⟩
    obtain ⟨u, r, l⟩:=hl i x v e1 e2 e3
    refine ⟨u, r, ?_⟩
    rcases l with l | ⟨k, c, e, z⟩
    · exact .inl l
    · exact .inr ⟨k, c, e, cellK x c e _ z⟩
  · obtain ⟨v, z⟩:=I.cell x c e
    exact ⟨v, cellK x c e v z⟩
  · obtain ⟨m, ⟨o, _, _, ho, _⟩, _⟩:=I.loc
    exact free _ o (fun z=>(hch _ z).2.1 rfl) ho I.free
  · obtain ⟨v, o, ho, hd⟩:=I.cell x c e
    exact free c o (fun z=>(hch c z).2.2.1 x c e rfl) ho (I.freeC x c e)
  · obtain ⟨e, n, ne, nf, d⟩:=I.pin p hp
    have nch:p.1 ∉ ch:=fun z=>(hch p.1 z).2.2.2 p hp rfl
    exact ⟨keep p.1 p.2 ne nf nch e n, free p.1 p.2 nch e n, ne, nf, d⟩
theorem Inv.un {t':Nat} (I:Inv X pins σ H s) (u:Un X.fs [] H H' s.heap h') (hok:HOk X.prog X.w H' h'):Inv X pins σ H' { s with heap:=h', toks:=t' }:=by
  obtain ⟨m, ⟨o, es, ep, ho, r⟩, _⟩:=id I.loc
  obtain ⟨sl, hL⟩:=u.any ho I.free (by simp)
  exact I.step (g':=s.gens) (d':=s.drawn) (ch:=[]) (fun _ z=>nomatch z) (fun b o _ hb _ e n=>u.keep b o e n hb (by simp)) (fun b o _ hb _ e n=>u.slot b o e n hb (by simp)) (fun b o _ e n=>u.free b o e n (by simp)) (fun b o _ e=>u.there b o e (by simp)) u.tups u.frzs u.tbls (fun m' hm=>by
    obtain ⟨o', es', ep', ho', r'⟩:=hm
    rw [ho] at ho'; cases ho'
    exact ⟨_, es', ep', hL, r'⟩) hok I.bare
theorem Inv.call {g':Array GenState} {t':Nat} {d':Drawn} {ch:List Addr} (I:Inv X pins σ H s) (u:Un (frs X.stack) ch H H' s.heap h') (hok:HOk X.prog X.w H' h') (hg:AllBare g')
    (hch:∀ b ∈ ch, (b ∈ X.ex ∨ X.s₀.heap.objs.size ≤ b) ∧ b ≠ X.env.locals ∧ (∀ x c, X.env.cells.lookup x = some c → c ≠ b) ∧ ∀ p ∈ X.pn ++ pins, p.1 ≠ b) :
    Inv X pins σ H' { s with heap:=h', gens:=g', drawn:=d', toks:=t' }:=by
  obtain ⟨m, ⟨o, es, ep, ho, r⟩, _⟩:=id I.loc
  obtain ⟨sl, hL⟩:=u.any ho I.free fun z=>(hch _ z).2.1 rfl
  exact I.step (ch:=ch) hch (fun b o hL hb hc e n=>u.keep b o e n (fun z=>(List.mem_cons.mp (I.stkSub b z)).elim hL hb) hc) (fun b o _ _ hc e n=>u.any e n hc) (fun b o hc e n=>u.free b o e n hc) (fun b o hc e=>u.there b o e hc) u.tups u.frzs u.tbls (fun m' hm=>by
    obtain ⟨o', es', ep', ho', r'⟩:=hm
    rw [ho] at ho'; cases ho'
    exact ⟨_, es', ep', hL, r'⟩) hok hg
theorem Inv.turned {t':Nat} {it:Addr} (I:Inv X pins σ H s) (k:∀ b o, b ≠ it → s.heap.get? b = some o → h'.get? b = some o) (hn:H it = none) (hL:it ≠ X.env.locals)
    (h1:it ∈ X.ex ∨ X.s₀.heap.objs.size ≤ it) (h2:∀ x c, X.env.cells.lookup x = some c → c ≠ it) (h3:∀ p ∈ X.pn ++ pins, p.1 ≠ it):Inv X pins σ H { s with heap:=h', toks:=t' }:=by
  have nit:∀ b u, H b = some u → b ≠ it:=fun b u e z=>by rw [z, hn] at e; cases e
  refine I.step (g':=s.gens) (d':=s.drawn) (ch:=[it]) (fun b hb=>?_) (fun b o _ _ hc e _=>k b o (fun z=>hc (by simp [z])) e) (fun b o _ _ hc e _=>⟨o.slots, k b o (fun z=>hc (by simp [z])) e⟩) (fun _ _ _ _ n=>n)
    (fun b o hc e=>⟨o, k b o (fun z=>hc (by simp [z])) e⟩) (fun _ _ e=>e) (fun _ _ _ e=>e) (fun b ps e=>⟨#[], by rw [e]; simp⟩) (fun m hm=>?_) (fun b u e=>?_) I.bare
  · have e:b = it:=by simpa using hb
    subst e
    exact ⟨h1, hL, h2, h3⟩
  · obtain ⟨o, es, ep, ho, r⟩:=hm
    exact ⟨o, es, ep, k _ o (Ne.symm hL) ho, r⟩
  · refine (I.hok b u e).stay (fun c v hc q=>k c v ?_ q) (fun _ q=>q) fun _ _ q=>q
    rcases hc with z | z
    · rw [z]; exact nit b u e
    · exact nit c _ z
theorem Inv.tok (I:Inv X pins σ H s) (t:Nat):Inv X pins σ H { s with toks:=t }:=I.un (h':=s.heap) (t':=t) Un.refl I.hok
theorem Inv.kept {t':Nat} (I:Inv X pins σ H s) (k:∀ b u, s.heap.get? b = some u → h'.get? b = some u):Inv X pins σ H { s with heap:=h', toks:=t' }:=I.un (Un.kept k) (I.hok.kept k)
theorem Inv.laid {a:Addr} {o:HO} {t':Nat} (I:Inv X pins σ H s) (k:∀ b u, s.heap.get? b = some u → h'.get? b = some u) (hp:s.heap.objs.size ≤ a) (new:ObjOk X.prog X.w (upd H a o) h' a o) :
    Inv X pins σ (upd H a o) { s with heap:=h', toks:=t' }:=I.un (Un.laid k hp (I.hok.fresh hp)) (I.hok.laid k hp new)
theorem Inv.write {x e:Addr} {o:HO} {t':Nat} (I:Inv X pins σ H s) (mu:Mut (H x)) (he:e = x ∨ H e = some (.own x)) (k:∀ b u, b ≠ e → s.heap.get? b = some u → h'.get? b = some u) (heo:∃ u, h'.get? e = some u)
    (new:ObjOk X.prog X.w (upd H x o) h' x o):Inv X pins σ (upd H x o) { s with heap:=h', toks:=t' }:=I.un (Un.write mu he k heo) (I.hok.write mu he k heo new)
theorem Inv.pins_of {pins':List (Addr × Obj)} (I:Inv X pins σ H s) (h:∀ p ∈ pins', s.heap.get? p.1 = some p.2 ∧ H p.1 = none ∧ p.1 ≠ X.env.locals ∧ p.1 ∉ X.fs ∧ ∀ v, p.2.data ≠ .cell v):Inv X pins' σ H s :=
  ⟨I.ok, I.os, I.bare, I.base, I.loc, I.cell, I.free, I.freeC, fun p hp=>(List.mem_append.mp hp).elim (fun z=>I.pin p (List.mem_append_left _ z)) (h p), I.hok, I.len⟩
theorem nodup_ix {N:List Str} (hN:N.Nodup) {i j:Nat} {x:Str} (a:N[i]? = some x) (b:N[j]? = some x):i = j:=by
  obtain ⟨h1, e1⟩:=List.getElem?_eq_some_iff.mp a
  obtain ⟨h2, e2⟩:=List.getElem?_eq_some_iff.mp b
  exact (List.getElem_inj hN).mp (e1.trans e2.symm)
theorem store_ok2 {M:Model} {A:Around} {E:Value → Shared → Prop} {i:Nat} {x:Str} {v:V} {u:Value} {Q:Unit → Shared → Prop} (I:Inv X pins σ H s) (hN:X.N.Nodup) (hi:X.N[i]? = some x) (hx:Loc X.env.scope x) (r:RelV v u)
    (h:∀ s', Inv X pins (σ.set i (some v)) H s' → (∃ a, Heap.SameBut a s.heap s'.heap ∧ (a = X.env.locals ∨ X.env.cells.lookup x = some a)) → Q () s') (hf:X.fn x = true ∨ X.env.scope.names.lookup x = some .local:=by first | exact .inl rfl | exact .inr rfl | assumption):wpAny M A (storeName X.env x u) Q E s:=by
  obtain ⟨m, hn, hl⟩:=id I.loc
  have hcls:(X.env.scope.kind == .class || (X.env.scope.kind == .module && X.env.locals != X.env.globals)) = false:=by rw [I.ok.kind]; rfl
  have hiσ:i < σ.length:=by rw [I.len]; exact (List.getElem?_eq_some_iff.mp hi).1
  have cne:=I.cne
  have tracked:∀ {a:Addr} {h':Heap}, (∃ o, s.heap.get? a = some o ∧ H a = none) → Heap.SameBut a s.heap h' → HOk X.prog X.w H h':=fun {a h'} ha hs b ob e=>by
    obtain ⟨_, _, hfree⟩:=ha
    refine (I.hok b ob e).stay (fun c w' hc q=>(hs.2 c ?_).trans q) (fun _ q=>q) fun _ _ q=>q
    rintro rfl
    rcases hc with rfl | hc
    · rw [hfree] at e; cases e
    · rw [hfree] at hc; cases hc
  rcases hx with hk | hk
  · refine wpAny_storeName_local hk hn (fun h' hn' hs=>?_) hcls
    obtain ⟨oL, _, _, hoL, _⟩:=id hn
    refine h _ ⟨I.ok, I.os, I.bare, ⟨fun b o e n hb hx=>?_, fun b o e n hb hx=>?_, I.base.free, fun b o e hx=>?_, I.base.tups, I.base.frzs, I.base.tbls⟩, ⟨_, hn', fun j y v' e1 e2 e3=>?_⟩, fun y c e=>?_, I.free, I.freeC, fun p hp=>?_, tracked ⟨oL, hoL, I.free⟩ hs, by simpa using I.len⟩ ⟨_, hs, .inl rfl⟩
    · exact (hs.2 b (Nat.ne_of_lt (Nat.lt_of_lt_of_le (Heap.lt_size e) I.ok.above))).trans (I.base.keep b o e n hb hx)
    · obtain ⟨sl, e1⟩:=I.base.slot b o e n hb hx
      exact ⟨sl, (hs.2 b (Nat.ne_of_lt (Nat.lt_of_lt_of_le (Heap.lt_size e) I.ok.above))).trans e1⟩
    · obtain ⟨o', e1⟩:=I.base.there b o e hx
      exact ⟨o', (hs.2 b (Nat.ne_of_lt (Nat.lt_of_lt_of_le (Heap.lt_size e) I.ok.above))).trans e1⟩
    · by_cases hj:j = i
      · subst hj
        rw [hi] at e1; cases e1
        rw [List.getElem?_set_self hiσ] at e2
        cases e2
        exact ⟨u, r, .inl ⟨hk, by simp⟩⟩
      · rw [List.getElem?_set_ne (Ne.symm hj)] at e2
        obtain ⟨u', r', q⟩:=hl j y v' e1 e2 e3
        refine ⟨u', r', ?_⟩
        rcases q with ⟨k, e⟩ | ⟨k, c, e, z⟩
        · refine .inl ⟨k, ?_⟩
          have:y ≠ x:=fun e=>hj (nodup_ix hN e1 (e ▸ hi))
          simp [this, e]
        · exact .inr ⟨k, c, e, z.sameBut hs (cne y c e)⟩
    · obtain ⟨w', z⟩:=I.cell y c e
      exact ⟨w', z.sameBut hs (cne y c e)⟩
    · obtain ⟨e, n, ne, nf, d⟩:=I.pin p hp
      exact ⟨(hs.2 p.1 ne).trans e, n, ne, nf, d⟩
  · have hfn:X.fn x = true:=by
      rcases hf with z | z
      · exact z
      · rw [z] at hk; cases hk
    obtain ⟨c, hc⟩:=I.ok.has x (.inl hk)
    obtain ⟨w', z⟩:=I.cell x c hc
    refine wpAny_storeName_cell I.ok.kind hk hc z (fun h' hc' hs=>?_)
    obtain ⟨oc, hoc, hocd⟩:=id z
    refine h { s with heap:=h' } ⟨I.ok, I.os, I.bare, ⟨fun b o e n hb hx=>?_, fun b o e n hb hx=>?_, I.base.free, fun b o e hx=>?_, I.base.tups, I.base.frzs, I.base.tbls⟩, ⟨m, hn.sameBut hs (Ne.symm (cne x c hc)), fun j y v' e1 e2 e3=>?_⟩, fun y c' e=>?_, I.free, I.freeC, fun p hp=>?_, tracked ⟨oc, hoc, I.freeC x c hc⟩ hs, by simpa using I.len⟩ ⟨c, hs, .inr hc⟩
    · exact (hs.2 b (Nat.ne_of_lt (Nat.lt_of_lt_of_le (Heap.lt_size e) (I.ok.cab x c hfn hc)))).trans (I.base.keep b o e n hb hx)
    · obtain ⟨sl, e1⟩:=I.base.slot b o e n hb hx
      exact ⟨sl, (hs.2 b (Nat.ne_of_lt (Nat.lt_of_lt_of_le (Heap.lt_size e) (I.ok.cab x c hfn hc)))).trans e1⟩
    · obtain ⟨o', e1⟩:=I.base.there b o e hx
      exact ⟨o', (hs.2 b (Nat.ne_of_lt (Nat.lt_of_lt_of_le (Heap.lt_size e) (I.ok.cab x c hfn hc)))).trans e1⟩
    · by_cases hj:j = i
      · subst hj
        rw [hi] at e1; cases e1
        rw [List.getElem?_set_self hiσ] at e2
        cases e2
        exact ⟨u, r, .inr ⟨.inl hk, c, hc, hc'⟩⟩
      · rw [List.getElem?_set_ne (Ne.symm hj)] at e2
        obtain ⟨u', r', q⟩:=hl j y v' e1 e2 e3
        refine ⟨u', r', ?_⟩
        rcases q with q | ⟨k, c', e, z'⟩
        · exact .inl q
        · refine .inr ⟨k, c', e, z'.sameBut hs ?_⟩
          rintro rfl
          exact hj (nodup_ix hN e1 (I.ok.inj _ _ _ e hc ▸ hi))
    · by_cases hcc:c' = c
      · subst hcc; exact ⟨_, hc'⟩
      · obtain ⟨w2, z2⟩:=I.cell y c' e
        exact ⟨w2, z2.sameBut hs hcc⟩
    · obtain ⟨e, n, ne, nf, d⟩:=I.pin p hp
      refine ⟨(hs.2 p.1 ?_).trans e, n, ne, nf, d⟩
      intro q
      rw [q, hoc] at e
      have q':oc = p.2:=Option.some.inj e
      exact d w' (by rw [← q']; exact hocd)
theorem store_ok {M:Model} {A:Around} {E:Value → Shared → Prop} {i:Nat} {x:Str} {v:V} {u:Value} {Q:Unit → Shared → Prop} (I:Inv X pins σ H s) (hN:X.N.Nodup) (hi:X.N[i]? = some x) (hx:Loc X.env.scope x) (r:RelV v u)
    (h:∀ s', Inv X pins (σ.set i (some v)) H s' → Q () s') (hf:X.fn x = true ∨ X.env.scope.names.lookup x = some .local:=by first | exact .inl rfl | exact .inr rfl | assumption):wpAny M A (storeName X.env x u) Q E s :=
  store_ok2 I hN hi hx r (fun s' I' _=>h s' I') hf
theorem Inv.call' {s':Shared} {ch:List Addr} (I:Inv X pins σ H s) (ho:s'.os = s.os) (u:Un (frs X.stack) ch H H' s.heap s'.heap) (hok:HOk X.prog X.w H' s'.heap) (hg:AllBare s'.gens)
    (hch:∀ b ∈ ch, (b ∈ X.ex ∨ X.s₀.heap.objs.size ≤ b) ∧ b ≠ X.env.locals ∧ (∀ x c, X.env.cells.lookup x = some c → c ≠ b) ∧ ∀ p ∈ X.pn ++ pins, p.1 ≠ b):Inv X pins σ H' s':=by
  obtain ⟨h', g', d', t', o'⟩:=s'
  have e:o' = s.os:=ho
  subst e
  exact I.call (g':=g') (t':=t') (d':=d') u hok hg hch
end
noncomputable abbrev XK:=Value → Option Addr → Hp → Prop
noncomputable abbrev St:=List (Option V)
noncomputable abbrev VK:=V → Hp → Prop
noncomputable abbrev TE:=St → Hp → VK → Prop
noncomputable abbrev TT:=St → Hp → (Bool → Hp → Prop) → Prop
noncomputable abbrev TA:=St → Hp → (List V → Hp → Prop) → Prop
structure Ends where
  nx:St → Hp → Prop
  rt:VK
  bk:St → Hp → Prop:=fun _ _=>False
  ct:St → Hp → Prop:=fun _ _=>False
noncomputable abbrev TS:=Ends → St → Hp → Prop
noncomputable def EP (X:Cx) (pins:List (Addr × Obj)) (σ:St) (Q:VK) (u:Value) (s':Shared):Prop:=∃ v H', Inv X pins σ H' s' ∧ RelV v u ∧ Q v H'
noncomputable def TP (X:Cx) (pins:List (Addr × Obj)) (σ:St) (Q:Bool → Hp → Prop) (b:Bool) (s':Shared):Prop:=∃ H', Inv X pins σ H' s' ∧ Q b H'
noncomputable def AP (X:Cx) (pins:List (Addr × Obj)) (σ:St) (Q:List V → Hp → Prop) (us:List Value) (s':Shared):Prop:=∃ vs H', Inv X pins σ H' s' ∧ Vals vs us ∧ Q vs H'
noncomputable def SP (X:Cx) (pins:List (Addr × Obj)) (D:Ends) (f:Flow) (s':Shared):Prop :=
  match f with
  | .next=>∃ σ' H', Inv X pins σ' H' s' ∧ D.nx σ' H'
  | .brk=>∃ σ' H', Inv X pins σ' H' s' ∧ D.bk σ' H'
  | .cont=>∃ σ' H', Inv X pins σ' H' s' ∧ D.ct σ' H'
  | .ret u=>∃ v σ' H', Inv X pins σ' H' s' ∧ RelV v u ∧ D.rt v H'
noncomputable def PE (X:Cx) (e:Expr) (t:TE):Prop :=
  ∀ (pins:List (Addr × Obj)) (s:Shared) (σ:St) (H:Hp) (Q:VK), Inv X pins σ H s → t σ H Q → wpAny (model X.prog X.w) X.A (eval e X.env) (EP X pins σ Q) X.xe s
noncomputable def PT (X:Cx) (e:Expr) (t:TT):Prop :=
  ∀ (pins:List (Addr × Obj)) (s:Shared) (σ:St) (H:Hp) (Q:Bool → Hp → Prop), Inv X pins σ H s → t σ H Q → wpAny (model X.prog X.w) X.A (isTrue e X.env (eval e X.env)) (TP X pins σ Q) X.xe s
noncomputable def PW (X:Cx) (e:Expr) (t:TT):Prop :=
  ∀ (whole:Sem Value) (pins:List (Addr × Obj)) (s:Shared) (σ:St) (H:Hp) (Q:Bool → Hp → Prop), Inv X pins σ H s → t σ H Q → wpAny (model X.prog X.w) X.A (isTrue e X.env whole) (TP X pins σ Q) X.xe s
theorem PW.pt {X:Cx} {e:Expr} {t:TT} (h:PW X e t):PT X e t:=h _
noncomputable def PA (X:Cx) (es:List Expr) (t:TA):Prop :=
  ∀ (pos:Pos) (pins:List (Addr × Obj)) (s:Shared) (σ:St) (H:Hp) (Q:List V → Hp → Prop), Inv X pins σ H s → t σ H Q → wpAny (model X.prog X.w) X.A (spliced (backTo pos (starEach es X.env))) (AP X pins σ Q) X.xe s
noncomputable def PS (X:Cx) (st:Stmt) (t:TS):Prop :=
  ∀ (pins:List (Addr × Obj)) (s:Shared) (σ:St) (H:Hp) (D:Ends), Inv X pins σ H s → t D σ H → wpAny (model X.prog X.w) X.A (exec st X.env) (SP X pins D) X.xe s
noncomputable def PSs (X:Cx) (st:List Stmt) (t:TS):Prop :=
  ∀ (pins:List (Addr × Obj)) (s:Shared) (σ:St) (H:Hp) (D:Ends), Inv X pins σ H s → t D σ H → wpAny (model X.prog X.w) X.A (execs st X.env) (SP X pins D) X.xe s
theorem thn {α:Type} {t:Sem α} {Q Q':α → Shared → Prop} {M:Model} {A:Around} {E:Value → Shared → Prop} {s:Shared} (h:wpAny M A t Q E s) (hQ:∀ a s, Q a s → Q' a s):wpAny M A t Q' E s:=wpAny_mono h hQ fun _ _ x=>x
end L2
namespace L2
open PySem PySem.Spec PyProof.Rows
section
variable {X:Cx}
noncomputable def exI (x:V) (k:Int → Prop):Prop:=match x with
  | .int i=>k i
  | x=>∃ i, x = .int i ∧ k i
noncomputable def exB (x:V) (k:Bool → Prop):Prop:=match x with
  | .bl i=>k i
  | x=>∃ i, x = .bl i ∧ k i
noncomputable def exR (x:V) (k:Addr → Prop):Prop:=match x with
  | .ref i=>k i
  | x=>∃ i, x = .ref i ∧ k i
theorem exI_lit {i:Int} {k:Int → Prop}:exI (.int i) k = k i:=rfl
theorem exB_lit {i:Bool} {k:Bool → Prop}:exB (.bl i) k = k i:=rfl
theorem exR_lit {i:Addr} {k:Addr → Prop}:exR (.ref i) k = k i:=rfl
theorem exI_ex {x:V} {k:Int → Prop}:exI x k = ∃ i, x = .int i ∧ k i:=by
  cases x <;> first | rfl | exact propext ⟨fun h=>⟨_, rfl, h⟩, fun ⟨_, e, h⟩=>by cases e; exact h⟩
theorem exB_ex {x:V} {k:Bool → Prop}:exB x k = ∃ i, x = .bl i ∧ k i:=by
  cases x <;> first | rfl | exact propext ⟨fun h=>⟨_, rfl, h⟩, fun ⟨_, e, h⟩=>by cases e; exact h⟩
theorem exR_ex {x:V} {k:Addr → Prop}:exR x k = ∃ i, x = .ref i ∧ k i:=by
  cases x <;> first | rfl | exact propext ⟨fun h=>⟨_, rfl, h⟩, fun ⟨_, e, h⟩=>by cases e; exact h⟩
theorem exI_mono {x:V} {k k':Int → Prop} (h:exI x k) (m:∀ i, k i → k' i):exI x k':=by
  rw [exI_ex] at h ⊢
  obtain ⟨i, e, h⟩:=h
  exact ⟨i, e, m i h⟩
noncomputable def tVar (i:Nat):TE:=fun σ H Q=>match σ[i]? with | some (some v)=>Q v H | _=>False
noncomputable def tC (v:V):TE:=fun _ H Q=>Q v H
theorem pe_var {i:Nat} {x:Str} {pos:Pos} (hN:X.N[i]? = some x) (hv:Vis X.env.scope x) (hd:(x == ("__debug__" : Str)) = false:=by decide) (hcd:(x == ("__classdict__" : Str)) = false:=by decide):PE X (.Name x pos) (tVar i):=by
  intro pins s σ H Q I h
  have h:∃ v, σ[i]? = some (some v) ∧ Q v H:=by
    unfold tVar at h
    split at h
    · exact ⟨_, ‹_›, h⟩
    · exact h.elim
  obtain ⟨v, e, h⟩:=h
  obtain ⟨m, hn, hl⟩:=I.loc
  obtain ⟨u, r, l⟩:=hl i x v hN e hv
  have fin:EP X pins σ Q u s:=⟨v, H, I, r, h⟩
  rcases l with ⟨hk, hm⟩ | ⟨hk, c, hc, hcell⟩
  · exact wpAny_Name (wpAny_loadName_local I.ok.kind hk hn hm fin) hd
  · rcases hk with hk | hk
    · exact wpAny_Name (wpAny_loadName_cell I.ok.kind hk hc hcell fin) hd
    · exact wpAny_Name (wpAny_loadName_free I.ok.kind hk hc hcell fin hcd) hd
theorem pe_int {i j pos}:PE X (.Constant (.int i) j pos) (tC (.int i)):=fun _ _ _ H _ I h=>wpAny_Constant_int ⟨.int i, H, I.tok _, ⟨_, rfl⟩, h⟩
theorem pe_bl {b j pos}:PE X (.Constant (.bool b) j pos) (tC (.bl b)):=fun _ _ _ H _ I h=>Constant_bool ⟨.bl b, H, I, rfl, h⟩
theorem pe_non {j pos}:PE X (.Constant .none j pos) (tC .non):=fun _ _ _ H _ I h=>Constant_none ⟨.non, H, I, rfl, h⟩
noncomputable def Gl (X:Cx) (x:Str):Prop:=X.env.kindOf x = some .globalImplicit
theorem ld_glob {E:Value → Shared → Prop} {pins:List (Addr × Obj)} {s:Shared} {σ:St} {H:Hp} {x:Str} {u:Value} {pos:Pos} {Q:Value → Shared → Prop} (I:Inv X pins σ H s) (hg:Gl X x) (hm:X.mg x = some u) (h:Q u s)
    (hd:(x == ("__debug__" : Str)) = false:=by decide):wpAny (model X.prog X.w) X.A (eval (.Name x pos) X.env) Q E s :=
  Calls.Name_function_global I.ok.kind hg (Calls.loadGlobal_global (by rw [I.ok.glob]; exact I.mod.glob.keeps I.bk) hm h) hd
theorem ld_blt {E:Value → Shared → Prop} {pins:List (Addr × Obj)} {s:Shared} {σ:St} {H:Hp} {x:Str} {u:Value} {pos:Pos} {Q:Value → Shared → Prop} (I:Inv X pins σ H s) (hg:Gl X x) (hm:X.mg x = none) (hv:bootBuiltins x = some u) (h:Q u s)
    (hn:x ≠ "__name__":=by decide) (hd:(x == ("__debug__" : Str)) = false:=by decide):wpAny (model X.prog X.w) X.A (eval (.Name x pos) X.env) Q E s:=by
  obtain ⟨mb, h1, h2⟩:=I.mod.blt
  exact Calls.Name_function_global I.ok.kind hg (Calls.loadGlobal_builtin (by rw [I.ok.glob]; exact I.mod.glob.keeps I.bk) hm (by rw [I.ok.blt]; exact h1.keeps I.bk) ((h2 x hn).trans hv) h) hd
theorem pe_glob {x:Str} {v:V} {u:Value} {pos:Pos} (hg:Gl X x) (hm:X.mg x = some u) (r:RelV v u) (hd:(x == ("__debug__" : Str)) = false:=by decide):PE X (.Name x pos) (tC v) :=
  fun _ _ _ H _ I h=>ld_glob I hg hm ⟨v, H, I, r, h⟩ hd
theorem pe_bltn {x:Str} {v:V} {u:Value} {pos:Pos} (hg:Gl X x) (hm:X.mg x = none) (hv:bootBuiltins x = some u) (r:RelV v u) (hn:x ≠ "__name__":=by decide) (hd:(x == ("__debug__" : Str)) = false:=by decide):PE X (.Name x pos) (tC v) :=
  fun _ _ _ H _ I h=>ld_blt I hg hm hv ⟨v, H, I, r, h⟩ hn hd
variable {a b:Expr} {ta tb:TE} {pos:Pos}
noncomputable def PC (X:Cx) (op:CmpOp) (a b:Expr) (t:TE):Prop :=
  ∀ (pins:List (Addr × Obj)) (s:Shared) (σ:St) (H:Hp) (Q:VK), Inv X pins σ H s → t σ H Q →
    wpAny (model X.prog X.w) X.A (eval a X.env) (fun v s₁=>wpAny (model X.prog X.w) X.A (eval b X.env) (fun u s₂=>wpAny (model X.prog X.w) X.A (compareOp op v u) (EP X pins σ Q) X.xe s₂) X.xe s₁) X.xe s
noncomputable def tB (t:TE):TT:=fun σ H Q=>t σ H fun x H1=>∃ c, x = .bl c ∧ Q c H1
theorem pt_cmp {op:CmpOp} {t:TE} (h:PC X op a b t) (h1:behindInMarks op b = false:=by first | exact nobehind _ (by decide) (by decide) | rfl):PT X (.Compare a [op] [b] pos) (tB t):=by
  intro pins s σ H Q I hw
  refine wpAny_isTrue_Compare1 (thn (h pins s σ H _ I hw) fun v s1 h1=>thn h1 fun u s2 h2=>thn h2 fun c s3 ⟨x, H1, I1, r1, q1⟩=>?_) h1
  obtain ⟨d, rfl, q⟩:=q1
  cases r1
  exact wpAny_truthy_bool ⟨H1, I1, q⟩
theorem pt_val {e:Expr} {t:TE} (h:PE X e t) (he:∀ whole, isTrue e X.env whole = (do let v ← whole; standAt e.pos; holding [v] (truthy v)):=by intro _; rfl):PT X e (tB t):=by
  intro pins s σ H Q I hw
  refine isTrue_plain (thn (h pins s σ H _ I hw) fun v s1 ⟨x, H1, I1, r1, q1⟩=>?_) (he _)
  obtain ⟨d, rfl, q⟩:=q1
  cases r1
  exact wpAny_truthy_bool ⟨H1, I1, q⟩
variable {tA tB':TT} {rest:List Expr}
noncomputable def tAnd (t u:TT):TT:=fun σ H Q=>t σ H fun c H1=>if c = true then u σ H1 Q else Q false H1
noncomputable def tOr (t u:TT):TT:=fun σ H Q=>t σ H fun c H1=>if c = true then Q true H1 else u σ H1 Q
noncomputable def tNot (t:TT):TT:=fun σ H Q=>t σ H fun c H1=>Q (!c) H1
theorem pw_and1 (ha:PT X a tA):PW X (.BoolOp .And [a] pos) tA:=by
  intro wh pins s σ H Q I h
  refine isTrue_and (thn (ha pins s σ H Q I h) fun c s1 e=>?_)
  cases c with
  | true=>exact isTrue_and_nil e
  | false=>exact e
theorem pw_or1 (ha:PT X a tA):PW X (.BoolOp .Or [a] pos) tA:=by
  intro wh pins s σ H Q I h
  refine isTrue_or (thn (ha pins s σ H Q I h) fun c s1 e=>?_)
  cases c with
  | false=>exact isTrue_or_nil e
  | true=>exact e
theorem pw_and (ha:PT X a tA) (hb:PW X (.BoolOp .And (b :: rest) pos) tB'):PW X (.BoolOp .And (a :: b :: rest) pos) (tAnd tA tB'):=by
  intro wh pins s σ H Q I h
  refine isTrue_and (thn (ha pins s σ H _ I h) fun c s1 ⟨H1, I1, q1⟩=>?_)
  cases c with
  | true=>exact hb wh pins s1 σ H1 Q I1 q1
  | false=>exact ⟨H1, I1, q1⟩
theorem pw_or (ha:PT X a tA) (hb:PW X (.BoolOp .Or (b :: rest) pos) tB'):PW X (.BoolOp .Or (a :: b :: rest) pos) (tOr tA tB'):=by
  intro wh pins s σ H Q I h
  refine isTrue_or (thn (ha pins s σ H _ I h) fun c s1 ⟨H1, I1, q1⟩=>?_)
  cases c with
  | true=>exact ⟨H1, I1, q1⟩
  | false=>exact hb wh pins s1 σ H1 Q I1 q1
theorem pt_not (ha:PT X a tA):PT X (.UnaryOp .Not a pos) (tNot tA):=by
  intro pins s σ H Q I h
  exact isTrue_not (ha pins s σ H (fun c H1=>Q (!c) H1) I h)
noncomputable def tAndV (ta tb:TE):TE:=fun σ H Q=>ta σ H fun x H1=>∃ c, x = .bl c ∧ if c = true then tb σ H1 Q else Q (.bl false) H1
noncomputable def tOrV (ta tb:TE):TE:=fun σ H Q=>ta σ H fun x H1=>∃ c, x = .bl c ∧ if c = true then Q (.bl true) H1 else tb σ H1 Q
noncomputable def tNotV (ta:TE):TE:=fun σ H Q=>ta σ H fun x H1=>∃ c, x = .bl c ∧ Q (.bl (!c)) H1
theorem pe_one {op} {t:TE} (h:PE X a t):PE X (.BoolOp op [a] pos) t:=fun pins s σ H Q I hw=>BoolOp_one (h pins s σ H Q I hw)
theorem pe_and (ha:PE X a ta) (hb:PE X (.BoolOp .And (b :: rest) pos) tb):PE X (.BoolOp .And (a :: b :: rest) pos) (tAndV ta tb):=by
  intro pins s σ H Q I h
  refine BoolOp_and (thn (ha pins s σ H _ I h) fun v s1 ⟨x, H1, I1, r1, q1⟩=>?_)
  obtain ⟨c, rfl, q1⟩:=q1
  cases r1
  refine wpAny_truthy_bool ?_
  cases c with
  | true=>exact hb pins s1 σ H1 Q I1 q1
  | false=>exact ⟨.bl false, H1, I1, rfl, q1⟩
theorem pe_not (ha:PE X a ta):PE X (.UnaryOp .Not a pos) (tNotV ta):=by
  intro pins s σ H Q I h
  refine UnaryOp_ (thn (ha pins s σ H _ I h) fun v s1 ⟨x, H1, I1, r1, q1⟩=>?_)
  obtain ⟨c, rfl, q1⟩:=q1
  cases r1
  exact not_of (wpAny_truthy_bool ⟨.bl (!c), H1, I1, rfl, q1⟩)
end
end L2
namespace L2
open PySem PySem.Spec PyProof.Rows
noncomputable def SqL (K:PySem.W.Frag) (H:Hp) (a:Addr) (xs:List V):Prop :=
  Rd H a (.lst xs) ∨
    ∃ (o:Obj) (its:Array Value) (n:Nat), K.lookup a = some o ∧ o.cls = .type "list" ∧ o.dict = none ∧ o.data = .seq its n ∧ its.size ≤ sizeLine ∧ Vals xs its.toList
noncomputable def SqT (K:PySem.W.Frag) (H:Hp) (a:Addr) (xs:List V):Prop :=
  Rd H a (.tup xs) ∨
    ∃ (o:Obj) (its:Array Value) (n:Nat), K.lookup a = some o ∧ o.cls = .type "tuple" ∧ o.data = .seq its n ∧ its.size ≤ sizeLine ∧ Vals xs its.toList
noncomputable def absV:Value → Option V
  | .none=>some .non
  | .bool b=>some (.bl b)
  | .int i _=>some (.int i)
  | .str x _=>some (.str x)
  | .bytes b _=>some (.byt b)
  | .float b _=>some (.flt b)
  | .ref a=>some (.ref a)
  | .type n=>some (.ty n)
  | _=>none
theorem RelV.abs {x:V} {u:Value} (r:RelV x u):absV u = some x:=by
  cases x with
  | non=>cases r; rfl
  | bl _=>cases r; rfl
  | int _=>obtain ⟨t, rfl⟩:=r; rfl
  | str _=>obtain ⟨t, rfl⟩:=r; rfl
  | byt _=>obtain ⟨t, rfl⟩:=r; rfl
  | flt _=>obtain ⟨t, rfl⟩:=r; rfl
  | ref _=>cases r; rfl
  | ty _=>cases r; rfl
theorem RelV.inj {x y:V} {u:Value} (r:RelV x u) (q:RelV y u):x = y:=Option.some.inj (r.abs.symm.trans q.abs)
theorem Vals.inj:∀ {xs ys:List V} {us:List Value}, Vals xs us → Vals ys us → xs = ys
  | _, _, _, .nil, .nil=>rfl
  | _, _, _, .cons r t, .cons r' t'=>by rw [r.inj r', Vals.inj t t']
section
variable {X:Cx} {pins:List (Addr × Obj)} {σ:St} {H:Hp} {s:Shared} {a:Addr} {xs ys:List V}
theorem SqL.of {K:PySem.W.Frag} (h:H a = some (.lst xs)):SqL K H a xs:=.inl (.inl h)
theorem SqT.of {K:PySem.W.Frag} (h:H a = some (.tup xs)):SqT K H a xs:=.inl (.inl h)
theorem Inv.list (I:Inv X pins σ H s) (h:SqL X.K H a xs):∃ its:List Value, Vals xs its ∧ PlainL s.heap a its.toArray ∧ xs.length ≤ sizeLine:=by
  rcases h with h | ⟨o, its, n, hk, hc, hd, hs, hz, r⟩
  · obtain ⟨z, its, n, r, e⟩:=h.ok I.hok
    exact ⟨its, r, ⟨_, n, e, rfl, rfl, rfl⟩, z⟩
  · refine ⟨its.toList, r, ⟨o, n, I.kIn a o hk, hc, hd, by simpa using hs⟩, ?_⟩
    have e:=r.length
    simp only [Array.length_toList] at e
    omega
theorem Inv.tuple (I:Inv X pins σ H s) (h:SqT X.K H a xs):∃ its:List Value, Vals xs its ∧ IsTup s.heap a its.toArray ∧ xs.length ≤ sizeLine:=by
  rcases h with h | ⟨o, its, n, hk, hc, hs, hz, r⟩
  · obtain ⟨z, its, r, p⟩:=h.ok I.hok
    exact ⟨its, r, p, z⟩
  · refine ⟨its.toList, r, ⟨o, I.kIn a o hk, hc, n, by simpa using hs⟩, ?_⟩
    have e:=r.length
    simp only [Array.length_toList] at e
    omega
theorem Inv.list_inj (I:Inv X pins σ H s) (h:SqL X.K H a xs) (h':SqL X.K H a ys):xs = ys:=by
  obtain ⟨its, r, ⟨o, n, e, _, _, d⟩, _⟩:=I.list h
  obtain ⟨its', r', ⟨o', n', e', _, _, d'⟩, _⟩:=I.list h'
  rw [e] at e'; cases e'
  rw [d] at d'
  injection d' with d1 _
  have:its = its':=by simpa using congrArg Array.toList d1
  subst this
  exact r.inj r'
theorem Inv.tuple_inj (I:Inv X pins σ H s) (h:SqT X.K H a xs) (h':SqT X.K H a ys):xs = ys:=by
  obtain ⟨its, r, ⟨o, e, _, n, d⟩, _⟩:=I.tuple h
  obtain ⟨its', r', ⟨o', e', _, n', d'⟩, _⟩:=I.tuple h'
  rw [e] at e'; cases e'
  rw [d] at d'
  injection d' with d1 _
  have:its = its':=by simpa using congrArg Array.toList d1
  subst this
  exact r.inj r'
end
noncomputable abbrev Cx.wish (X:Cx) (E:Value → Shared → Prop):Cx:={ X with xe:=E }
noncomputable abbrev Cx.nox (X:Cx):Cx:=X.wish fun _ _=>False
theorem Cx.Ok.wish {X:Cx} (ok:X.Ok) (E:Value → Shared → Prop):(X.wish E).Ok :=
  ⟨ok.mod, ok.kind, ok.glob, ok.blt, ok.above, ok.inj, ok.has, ok.cab, ok.hd, ok.frames, ok.stk, ok.exf, ok.bs, ok.bsz, ok.noex, ok.exfs, ok.funs, ok.frf⟩
theorem Cx.Ok.unwish {X:Cx} {E:Value → Shared → Prop} (ok:(X.wish E).Ok):X.Ok :=
  ⟨ok.mod, ok.kind, ok.glob, ok.blt, ok.above, ok.inj, ok.has, ok.cab, ok.hd, ok.frames, ok.stk, ok.exf, ok.bs, ok.bsz, ok.noex, ok.exfs, ok.funs, ok.frf⟩
section
variable {X:Cx} {pins:List (Addr × Obj)} {σ:St} {H:Hp} {s:Shared} {E:Value → Shared → Prop}
theorem Inv.wish (I:Inv X pins σ H s) (E:Value → Shared → Prop):Inv (X.wish E) pins σ H s:=⟨I.ok.wish E, I.os, I.bare, I.base, I.loc, I.cell, I.free, I.freeC, I.pin, I.hok, I.len⟩
theorem Inv.unwish (I:Inv (X.wish E) pins σ H s):Inv X pins σ H s:=⟨I.ok.unwish, I.os, I.bare, I.base, I.loc, I.cell, I.free, I.freeC, I.pin, I.hok, I.len⟩
theorem SP.unwish {D:Ends} {f:Flow} {s':Shared} (h:SP (X.wish E) pins D f s'):SP X pins D f s':=by
  cases f with
  | next=>obtain ⟨σ', H', I, q⟩:=h; exact ⟨σ', H', I.unwish, q⟩
  | brk=>obtain ⟨σ', H', I, q⟩:=h; exact ⟨σ', H', I.unwish, q⟩
  | cont=>obtain ⟨σ', H', I, q⟩:=h; exact ⟨σ', H', I.unwish, q⟩
  | ret u=>obtain ⟨v, σ', H', I, r, q⟩:=h; exact ⟨v, σ', H', I.unwish, r, q⟩
theorem PSs.nox {st:List Stmt} {t:TS} (h:PSs X.nox st t):PSs X st t:=fun pins s σ H D I hw =>
  wpAny_mono (h pins s σ H D (I.wish _) hw) (fun _ _ q=>q.unwish) fun _ _ z=>False.elim z
end
section
variable {X:Cx} {st:Stmt} {rest:List Stmt} {t u:TS} {e:Expr} {te:TE} {pos:Pos}
noncomputable def tNext:TS:=fun D σ H=>D.nx σ H
noncomputable def tSeq (t u:TS):TS:=fun D σ H=>t { D with nx:=u D } σ H
theorem pss_nil:PSs X [] tNext:=fun _ _ σ H _ I h=>wpAny_execs_nil ⟨σ, H, I, h⟩
theorem pss_cons (h1:PS X st t) (h2:PSs X rest u):PSs X (st :: rest) (tSeq t u):=by
  intro pins s σ H D I h
  refine wpAny_execs_cons (thn (h1 pins s σ H { D with nx:=u D } I h) fun f s1 q=>?_)
  cases f with
  | next =>
    obtain ⟨σ', H', I', q⟩:=q
    exact h2 pins s1 σ' H' D I' q
  | ret v=>exact q
  | brk=>exact q
  | cont=>exact q
theorem pss_one (h1:PS X st t):PSs X [st] t:=by
  intro pins s σ H D I h
  refine wpAny_execs_cons (thn (h1 pins s σ H D I h) fun f s1 q=>?_)
  cases f with
  | next=>exact wpAny_execs_nil q
  | ret v=>exact q
  | brk=>exact q
  | cont=>exact q
theorem Inv.quiet {pins:List (Addr × Obj)} {σ:St} {H:Hp} {s:Shared} (I:Inv X pins σ H s):interactive X.env = false:=by simp [interactive, I.ok.kind]
noncomputable def tDrop (te:TE):TS:=fun D σ H=>te σ H fun _ H1=>D.nx σ H1
theorem ps_expr (he:PE X e te) (hs:swapsWith e none pos.line X.env = pure false:=by rfl):PS X (.Expr e pos) (tDrop te):=by
  intro pins s σ H D I h
  exact wpAny_Expr_any (thn (he pins s σ H _ I h) fun v s1 ⟨x, H1, I1, r1, q1⟩=>⟨σ, H1, I1, q1⟩) I.quiet hs
noncomputable def tRet (te:TE):TS:=fun D σ H=>te σ H D.rt
theorem ps_ret (he:PE X e te):PS X (.Return (some e) pos) (tRet te):=by
  intro pins s σ H D I h
  exact wpAny_Return_some (thn (he pins s σ H _ I h) fun v s1 ⟨x, H1, I1, r1, q1⟩=>⟨x, σ, H1, I1, r1, q1⟩)
noncomputable def tIfS (c:TT) (t u:TS):TS:=fun D σ H=>c σ H fun b H1=>if b = true then t D σ H1 else u D σ H1
theorem ps_if {c:Expr} {a b:List Stmt} {tc:TT} (hc:PT X c tc) (ha:PSs X a t) (hb:PSs X b u):PS X (.If c a b pos) (tIfS tc t u):=by
  intro pins s σ H D I h
  refine wpAny_If (thn (hc pins s σ H _ I h) fun d s1 ⟨H1, I1, q1⟩=>?_)
  cases d with
  | true=>exact ha pins s1 σ H1 D I1 q1
  | false=>exact hb pins s1 σ H1 D I1 q1
noncomputable def tNever:TS:=fun _ _ _=>False
theorem ps_never:PS X st tNever:=fun _ _ _ _ _ _ h=>h.elim
end
noncomputable abbrev TG:=V → St → Hp → (St → Hp → Prop) → Prop
noncomputable abbrev TGs:=List V → St → Hp → (St → Hp → Prop) → Prop
noncomputable def PG (X:Cx) (target:Expr) (t:TG):Prop :=
  ∀ (pins:List (Addr × Obj)) (s:Shared) (σ:St) (H:Hp) (v:V) (u:Value) (Q:St → Hp → Prop), Inv X pins σ H s → RelV v u → t v σ H Q →
    wpAny (model X.prog X.w) X.A (assign target X.env u) (fun _ s'=>∃ σ' H', Inv X pins σ' H' s' ∧ Q σ' H') X.xe s
noncomputable def PGs (X:Cx) (ts:List Expr) (t:TGs):Prop :=
  ∀ (pins:List (Addr × Obj)) (s:Shared) (σ:St) (H:Hp) (vs:List V) (us:List Value) (Q:St → Hp → Prop), Inv X pins σ H s → Vals vs us → t vs σ H Q →
    wpAny (model X.prog X.w) X.A (assignInOrder ((assignEach ts X.env).map (·.2)) us) (fun _ s'=>∃ σ' H', Inv X pins σ' H' s' ∧ Q σ' H') X.xe s
noncomputable abbrev TSet:=V → V → V → Hp → (Hp → Prop) → Prop
noncomputable def PSet (X:Cx) (t:TSet):Prop :=
  ∀ (pins:List (Addr × Obj)) (s:Shared) (σ:St) (H:Hp) (o i v:V) (ov iv u:Value) (Q:Hp → Prop), Inv X pins σ H s → RelV o ov → RelV i iv → RelV v u → t o i v H Q →
    wpAny (model X.prog X.w) X.A (setItem ov iv u) (fun _ s'=>∃ H', Inv X pins σ H' s' ∧ Q H') X.xe s
section
variable {X:Cx} {pos:Pos}
noncomputable def gName (i:Nat):TG:=fun v σ H Q=>Q (σ.set i (some v)) H
theorem pg_name {i:Nat} {x:Str} (hN:X.N.Nodup) (hi:X.N[i]? = some x) (hx:Loc X.env.scope x) (hf:X.fn x = true ∨ X.env.scope.names.lookup x = some .local:=by first | exact .inl rfl | exact .inr rfl | assumption):PG X (.Name x pos) (gName i):=by
  intro pins s σ H v u Q I r h
  exact wpAny_assign_Name (store_ok I hN hi hx r (fun s' I'=>⟨_, H, I', h⟩) hf)
noncomputable def gNil:TGs:=fun vs σ H Q=>vs = [] ∧ Q σ H
noncomputable def gCons (t:TG) (u:TGs):TGs:=fun vs σ H Q=>∃ v r, vs = v :: r ∧ t v σ H fun σ' H'=>u r σ' H' Q
theorem pgs_nil:PGs X [] gNil:=by
  intro pins s σ H vs us Q I r h
  obtain ⟨e, h⟩:=h
  subst e
  cases r
  exact assignInOrder_nil ⟨σ, H, I, h⟩
theorem pgs_cons {e:Expr} {es:List Expr} {t:TG} {u:TGs} (h1:PG X e t) (h2:PGs X es u)
    (hs:(assignEach (e :: es) X.env).map (·.2) = assign e X.env :: (assignEach es X.env).map (·.2):=by rfl):PGs X (e :: es) (gCons t u):=by
  intro pins s σ H vs us Q I r h
  obtain ⟨v, vr, e1, h⟩:=h
  subst e1
  cases r with
  | cons r rr =>
    rw [hs]
    refine assignInOrder_cons (thn (h1 pins s σ H _ _ _ I r h) fun _ s1 ⟨σ1, H1, I1, q1⟩=>?_)
    exact h2 pins s1 σ1 H1 _ _ Q I1 rr q1
noncomputable def gTup (K:PySem.W.Frag) (n:Nat) (t:TGs):TG:=fun v σ H Q=>∃ a xs, v = .ref a ∧ SqT K H a xs ∧ xs.length = n ∧ t xs σ H Q
theorem pg_tup {es:List Expr} {k:Nat} {t:TGs} {n:Nat} (hc:X.calm = true) (h:PGs X es t)
    (hn:(assignEach es X.env).length = n:=by rfl) (hst:(assignEach es X.env).findIdx? (·.1) = none:=by rfl):PG X (.Tuple es k pos) (gTup X.K n t):=by
  intro pins s σ H v u Q I r hw
  obtain ⟨a, xs, e1, hq, hl, hw⟩:=hw
  subst e1
  cases r
  obtain ⟨its, rv, ht, hz⟩:=I.tuple hq
  refine assign_Tuple_tuple (I.ok.hd hc) ht (by simp [hn, ← hl, rv.length]) hst fun h' hx=>?_
  have I1:Inv X pins σ H { s with heap:=h' }:=I.kept (t':=s.toks) fun b o e=>hx b o (Nat.ne_of_lt (Heap.lt_size e)) e
  exact h pins _ σ H xs _ Q I1 (by simpa using rv) hw
noncomputable def gSub (to ti:TE) (t:TSet):TG:=fun v σ H Q=>to σ H fun o H1=>ti σ H1 fun i H2=>t o i v H2 fun H3=>Q σ H3
theorem pg_sub {o i:Expr} {to ti:TE} {t:TSet} (ho:PE X o to) (hi:PE X i ti) (hs:PSet X t)
    (ha:∀ v, assign (.Subscript o i pos) X.env v = (do
      let ov ← holding [v] (eval o X.env)
      let iv ← holding [v, ov] (eval i X.env)
      standAt pos
      holding [v, ov, iv] (setItem ov iv v)
      release [v, ov, iv] []):=by intro _; rfl):PG X (.Subscript o i pos) (gSub to ti t):=by
  intro pins s σ H v u Q I r h
  rw [ha]
  refine wpAny_bind (wpAny_holding (thn (ho pins s σ H _ I h) fun ov s1 ⟨x, H1, I1, r1, q1⟩=>?_))
  refine wpAny_bind (wpAny_holding (thn (hi pins s1 σ H1 _ I1 q1) fun iv s2 ⟨y, H2, I2, r2, q2⟩=>?_))
  refine wpAny_bind (wpAny_standAt (wpAny_bind (wpAny_holding (thn (hs pins s2 σ H2 x y v ov iv u _ I2 r1 r2 r q2) fun _ s3 ⟨H3, I3, q3⟩=>?_))))
  exact wpAny_release ⟨σ, H3, I3, q3⟩
noncomputable def tAsg (te:TE) (g:TG):TS:=fun D σ H=>te σ H fun x H1=>g x σ H1 D.nx
theorem ps_asg {tg e:Expr} {te:TE} {g:TG} (he:PE X e te) (hg:PG X tg g) (hs:swapsWithSole [tg] e pos.line X.env = pure false:=by rfl) (hw:swappedStores [tg] e X.env = pure none:=by rfl)
    (h1:(assignEach [tg] X.env).map (·.2) = [assign tg X.env]:=by rfl):PS X (.Assign [tg] e pos) (tAsg te g):=by
  intro pins s σ H D I h
  refine wpAny_Assign_stores (thn (he pins s σ H _ I h) fun v s1 ⟨x, H1, I1, r1, q1⟩=>?_) hs hw
  rw [h1]
  exact thn (hg pins s1 σ H1 x v _ I1 r1 q1) fun _ s2 q=>q
theorem ps_set {i:Nat} {x:Str} {e:Expr} {te:TE} {pos':Pos} (hN:X.N.Nodup) (hi:X.N[i]? = some x) (hx:Loc X.env.scope x) (he:PE X e te) (hs:swapsWith e (some (.Name x pos')) pos.line X.env = pure false:=by rfl) (hf:X.fn x = true ∨ X.env.scope.names.lookup x = some .local:=by first | exact .inl rfl | exact .inr rfl | assumption) :
    PS X (.Assign [.Name x pos'] e pos) (tAsg te (gName i)):=by
  intro pins s σ H D I h
  refine wpAny_Assign_Name (thn (he pins s σ H _ I h) fun v s1 ⟨y, H1, I1, r1, q1⟩=>?_) hs
  exact store_ok I1 hN hi hx r1 (fun s2 I2=>⟨_, H1, I2, q1⟩) hf
noncomputable def tPar (i j:Nat) (ta:TA):TS:=fun D σ H=>ta σ H fun vs H1=>∃ v w, vs = [v, w] ∧ D.nx ((σ.set i (some v)).set j (some w)) H1
theorem ps_par {i j:Nat} {x y:Str} {a b:Expr} {ta:TA} {px py pt:Pos} {kt k2 pt2} (hc:X.calm = true) (hN:X.N.Nodup) (hi:X.N[i]? = some x) (hj:X.N[j]? = some y) (hij:i ≠ j)
    (hx:X.env.scope.names.lookup x = some .local) (hy:X.env.scope.names.lookup y = some .local) (ha:PA X [a, b] ta)
    (hw:swappedStores [.Tuple [.Name x px, .Name y py] kt pt] (.Tuple [a, b] k2 pt2) X.env = pure (some [x, y]))
    (hs:swapsWithSole [.Tuple [.Name x px, .Name y py] kt pt] (.Tuple [a, b] k2 pt2) pos.line X.env = pure false:=by rfl) :
    PS X (.Assign [.Tuple [.Name x px, .Name y py] kt pt] (.Tuple [a, b] k2 pt2) pos) (tPar i j ta):=by
  intro pins s σ H D I h
  rw [exec_Assign_arm]
  refine wpAny_bind (wpAny_standAt ?_)
  rw [hs]
  refine wpAny_bind (wpAny_pure ?_)
  rw [if_neg (by decide)]
  refine wpAny_bind (Tuple_ (thn (ha _ pins s σ H _ I h) fun us s1 ⟨vs, H1, I1, r1, q1⟩=>?_))
  obtain ⟨v, w, e1, q1⟩:=q1
  subst e1
  obtain ⟨u1, u2, rfl, rv, rw'⟩:∃ u1 u2, us = [u1, u2] ∧ RelV v u1 ∧ RelV w u2:=by
    cases r1 with
    | cons p q =>
      cases q with
      | cons p' q' =>
        cases q'
        exact ⟨_, _, rfl, p, p'⟩
  refine wpAny_newObj_type ?_ (by show 2 ≤ sizeLine; decide)
  have I2:Inv X pins σ H1 { s1 with heap:=s1.heap.push { cls:=.type "tuple", data:=.seq [u1, u2].toArray } }:=I1.kept (t':=s1.toks) fun b o e=>Heap.get?_push_of_some _ e
  rw [hw]
  refine wpAny_bind (wpAny_pure ?_)
  show wpAny (model X.prog X.w) X.A (do rule "assign.swapped-stores"; let items ← unpackItems (.ref s1.heap.objs.size) 2 none; assignInOrder [fun v=>bindName X.env y v, fun v=>bindName X.env x v] items.reverse; pure Flow.next) _ _ _
  refine wpAny_bind (wpAny_rule (wpAny_bind (unpackItems_tuple (items:=#[u1, u2]) (I.ok.hd hc) (IsTup.new s1.heap _) fun h' hx'=>?_)))
  have I3:=I2.kept (h':=h') (t':=s1.toks) fun b o e=>hx' b o (Nat.ne_of_lt (Heap.lt_size e)) e
  show wpAny _ _ (assignInOrder [fun v=>bindName X.env y v, fun v=>bindName X.env x v] [u2, u1] >>= fun _=>pure Flow.next) _ _ _
  refine wpAny_bind (assignInOrder_cons (wpAny_bindName (store_ok I3 hN hj (.inl hy) rw' (fun s2 I4=>?_) (.inr hy))))
  refine assignInOrder_cons (wpAny_bindName (store_ok I4 hN hi (.inl hx) rv (fun s3 I5=>assignInOrder_nil (wpAny_pure ?_)) (.inr hx)))
  rw [List.set_comm _ _ (Ne.symm hij)] at I5
  exact ⟨_, H1, I5, q1⟩
end
section
variable {X:Cx} {pos:Pos}
noncomputable def tWhile (c:TT) (tb:TS):TS:=fun D σ H=>∃ W:Nat → St → Hp → Prop, (∃ m, W m σ H) ∧ ∀ m σ H, W m σ H →
  c σ H fun b H1=>if b = true then ∃ N:St → Hp → Prop, (∀ σ' H', N σ' H' → ∃ m', m' < m ∧ W m' σ' H') ∧ tb { D with nx:=N, ct:=N, bk:=D.nx } σ H1 else D.nx σ H1
theorem ps_while {c:Expr} {body:List Stmt} {tc:TT} {tb:TS} (hp:PassesOwn (model X.prog X.w) X.A X.env X.xe) (hc:PT X c tc) (hb:PSs X body tb):PS X (.While c body [] pos) (tWhile tc tb):=by
  intro pins s σ H D I h
  obtain ⟨W, ⟨m0, w0⟩, turn⟩:=h
  refine wpAny_While (codeAny_whileLoop (fun n s'=>∃ σ' H', Inv X pins σ' H' s' ∧ W n σ' H') ?_ m0 ⟨σ, H, I, w0⟩)
  rintro n s1 ⟨σ1, H1, I1, w1⟩
  refine wpAny_passesOwn hp (thn (hc pins s1 σ1 H1 _ I1 (turn n σ1 H1 w1)) fun b s2 ⟨H2, I2, q2⟩=>?_)
  cases b with
  | true =>
    obtain ⟨N, hN, q2⟩:=q2
    rw [if_pos rfl]
    refine wpAny_passesOwn hp (thn (hb pins s2 σ1 H2 _ I2 q2) fun f s3 q3=>?_)
    cases f with
    | next =>
      obtain ⟨σ3, H3, I3, n3⟩:=q3
      obtain ⟨m', hm, w3⟩:=hN σ3 H3 n3
      exact ⟨m', hm, σ3, H3, I3, w3⟩
    | cont =>
      obtain ⟨σ3, H3, I3, n3⟩:=q3
      obtain ⟨m', hm, w3⟩:=hN σ3 H3 n3
      exact ⟨m', hm, σ3, H3, I3, w3⟩
    | brk=>exact q3
    | ret v=>exact q3
  | false =>
    rw [if_neg Bool.false_ne_true]
    exact wpAny_execs_nil ⟨σ1, H2, I2, q2⟩
end
structure It where
  go:Nat → Hp → Prop
  yld:Nat → Hp → V → Hp → Prop
  stop:Nat → Hp → Prop
noncomputable def FpOk (X:Cx) (pins:List (Addr × Obj)) (H:Hp) (b:Addr):Prop :=
  H b = none ∧ b ≠ X.env.locals ∧ b ∉ X.fs ∧ (b ∈ X.ex ∨ X.s₀.heap.objs.size ≤ b) ∧ (∀ x c, X.env.cells.lookup x = some c → c ≠ b) ∧ ∀ p ∈ X.pn ++ pins, p.1 ≠ b
theorem Inv.fpOk {X:Cx} {pins:List (Addr × Obj)} {σ:St} {H H':Hp} {s:Shared} {b:Addr} (I:Inv X pins σ H s) (hb:s.heap.objs.size ≤ b) (hn:H' b = none):FpOk X pins H' b:=by
  refine ⟨hn, Nat.ne_of_gt (Nat.lt_of_lt_of_le I.lt hb), I.nofs hb, .inr (Nat.le_trans I.sz hb), fun x c e z=>?_, fun p hp z=>?_⟩
  · obtain ⟨v, q⟩:=I.cell x c e
    exact absurd (Nat.lt_of_lt_of_le q.lt (by rw [z]; exact hb)) (Nat.lt_irrefl _)
  · exact absurd (Nat.lt_of_lt_of_le (Heap.lt_size (I.pin p hp).1) (by rw [z]; exact hb)) (Nat.lt_irrefl _)
structure Turn (P:Program) (w:World) (K:PySem.W.Frag) (tg:Expr) (J:It) (fp:List Addr) (it:Addr) (tn:Nat → Heap → Prop):Prop where
  mem:it ∈ fp
  obj:∀ i h, tn i h → ∀ b ∈ fp, ∃ o, h.get? b = some o ∧ ∀ v, o.data ≠ .cell v
  keep:∀ i h h', tn i h → (∀ b ∈ fp, ∀ o, h.get? b = some o → h'.get? b = some o) → tn i h'
  item:∀ (X:Cx), X.prog = P → X.w = w → X.K = K → X.calm = true → ∀ (i:Nat) (pins:List (Addr × Obj)) (s:Shared) (σ:St) (H:Hp) (E:Value → Shared → Prop), Inv X pins σ H s → (∀ b ∈ fp, FpOk X pins H b) → tn i s.heap → J.go i H →
    wpAny (model P w) X.A (pyNext (.ref it)) (fun r s1=>∃ u, r = some u ∧
      wpAny (model P w) X.A (letOwnedTupleGo tg (.ref it) u) (fun _ s2=>∃ x H', Inv X pins σ H' s2 ∧ RelV x u ∧ J.yld i H x H' ∧ tn (i + 1) s2.heap ∧ ∀ b ∈ fp, H' b = none) E s1) E s
  done:∀ (X:Cx), X.prog = P → X.w = w → X.K = K → X.calm = true → ∀ (i:Nat) (pins:List (Addr × Obj)) (s:Shared) (σ:St) (H:Hp) (E:Value → Shared → Prop), Inv X pins σ H s → (∀ b ∈ fp, FpOk X pins H b) → tn i s.heap → J.stop i H →
    wpAny (model P w) X.A (pyNext (.ref it)) (fun r s1=>r = none ∧ Inv X pins σ H s1) E s
  self:∀ (A:Around) (i:Nat) (s:Shared) (Q:Value → Shared → Prop) (E:Value → Shared → Prop), tn i s.heap → Q (.ref it) s → wpAny (model P w) A (pyIter (.ref it)) Q E s
noncomputable abbrev TI:=St → Hp → (It → Hp → Prop) → Prop
noncomputable def PIE (X:Cx) (pins:List (Addr × Obj)) (σ:St) (tg:Expr) (R:It → Hp → Prop) (itv:Value) (s2:Shared):Prop :=
  ∃ (it:Addr) (fp:List Addr) (tn:Nat → Heap → Prop) (J:It) (H':Hp), itv = .ref it ∧ Inv X pins σ H' s2 ∧ Turn X.prog X.w X.K tg J fp it tn ∧ tn 0 s2.heap ∧ (∀ b ∈ fp, FpOk X pins H' b) ∧ R J H'
noncomputable def PI (X:Cx) (tg iter:Expr) (wi:TI):Prop :=
  ∀ (pins:List (Addr × Obj)) (s:Shared) (σ:St) (H:Hp) (R:It → Hp → Prop), Inv X pins σ H s → wi σ H R →
    wpAny (model X.prog X.w) X.A (eval iter X.env) (fun v s1=>wpAny (model X.prog X.w) X.A (pyIter v) (PIE X pins σ tg R) X.xe s1) X.xe s
theorem go_of {M:Model} {A:Around} {E:Value → Shared → Prop} {s:Shared} {tg:Expr} {it:Addr} {u:Value} {o:Obj} {n:String} {vs:Array Value} {Q:Unit → Shared → Prop} (ho:s.heap.get? it = some o) (hc:o.cls = .type n) (hd:o.data = .fields vs)
    (hn:["enumerate", "zip", "dict_itemiterator", "dict_reverseitemiterator", "odict_iterator", "itertools.zip_longest", "itertools.pairwise"].contains n = false) (hQ:Q () s):wpAny M A (letOwnedTupleGo tg (.ref it) u) Q E s:=by
  unfold letOwnedTupleGo
  cases tg <;> first
    | exact wpAny_pure hQ
    | (cases u <;> first
        | exact wpAny_pure hQ
        | (refine wpAny_bind (wpAny_load ho ?_)
           rw [hc, hd]
           show wpAny M A (if (["enumerate", "zip", "dict_itemiterator", "dict_reverseitemiterator", "odict_iterator", "itertools.zip_longest", "itertools.pairwise"].contains n && vs[0]? == some (rawInt _)) = true then _ else _) Q E s
           rw [if_neg (by intro h; rw [hn, Bool.false_and] at h; cases h)]
           exact wpAny_pure hQ))
noncomputable def Itl (K:PySem.W.Frag) (a:Addr):It :=
  ⟨fun i H=>∃ xs x, SqL K H a xs ∧ xs[i]? = some x, fun i H x H'=>H' = H ∧ ∀ xs, SqL K H a xs → xs[i]? = some x, fun i H=>∃ xs, SqL K H a xs ∧ xs.length ≤ i⟩
noncomputable def Itr (lo:Int) (n:Nat):It:=⟨fun i _=>i < n, fun i H x H'=>H' = H ∧ x = .int (lo + i), fun i _=>n ≤ i⟩
theorem turn_list {P:Program} {w:World} {K:PySem.W.Frag} {tg:Expr} (a it:Addr):Turn P w K tg (Itl K a) [it] it (fun i h=>h.IsListIter it a i) where
  mem:=by simp
  obj:=fun i h st b hb=>by
    have e:b = it:=by simpa using hb
    subst e
    obtain ⟨o, e, c, d⟩:=st
    exact ⟨o, e, fun v z=>by rw [d] at z; cases z⟩
  keep:=fun i h h' st k=>st.at fun o e=>k it (by simp) o e
  item:=by
    intro X hP hw hK hc i pins s σ H E I hf st hg
    subst hP hw hK
    obtain ⟨xs, x, hq, hx⟩:=hg
    obtain ⟨its, rv, p, hz⟩:=I.list hq
    obtain ⟨u, hu, ru⟩:=rv.get hx
    obtain ⟨f0, f1, f2, f3, f4, f5⟩:=hf it (by simp)
    refine wpAny_pyNext_list_item st p.isList (x:=u) (by simpa using hu) fun h' st' sb=>?_
    have I1:Inv X pins σ H { s with heap:=h' }:=I.turned (t':=s.toks) (fun b o hb e=>(sb.2 b hb).trans e) f0 f1 f3 f4 f5
    obtain ⟨o, e, c, d⟩:=id st'
    exact ⟨u, rfl, go_of (s:={ s with heap:=h' }) e c d (by decide) ⟨x, H, I1, ru, ⟨rfl, fun ys hy=>by rw [I.list_inj hy hq]; exact hx⟩, st', fun b hb=>(hf b hb).1⟩⟩
  done:=by
    intro X hP hw hK hc i pins s σ H E I hf st hg
    subst hP hw hK
    obtain ⟨xs, hq, hx⟩:=hg
    obtain ⟨its, rv, p, hz⟩:=I.list hq
    obtain ⟨f0, f1, f2, f3, f4, f5⟩:=hf it (by simp)
    have hl:=rv.length
    exact wpAny_pyNext_list_end (I.ok.hd hc) st p.isList (by simp; omega) fun h' eb=>⟨rfl, I.turned (t':=s.toks) (fun b o hb e=>eb b o hb e) f0 f1 f3 f4 f5⟩
  self:=fun _ _ _ _ _ st h=>wpAny_pyIter_listiter st h
theorem turn_range {P:Program} {w:World} {K:PySem.W.Frag} {tg:Expr} (it:Addr) (lo:Int) (n:Nat):Turn P w K tg (Itr lo n) [it] it (fun i h=>IsRangeIter h it (lo + (i:Nat) * 1) ((n:Int) - (i:Nat)) 1) where
  mem:=by simp
  obj:=fun i h st b hb=>by
    have e:b = it:=by simpa using hb
    subst e
    exact ⟨_, st, fun v z=>by
      have z':Data.fields _ = Data.cell v:=z
      cases z'⟩
  keep:=fun i h h' st k=>k it (by simp) _ st
  item:=by
    intro X hP hw hK hc i pins s σ H E I hf st hg
    subst hP hw hK
    obtain ⟨f0, f1, f2, f3, f4, f5⟩:=hf it (by simp)
    have W:=Walks.range (prog:=X.prog) (w:=X.w) (I.ok.hd hc) it lo 1 n
    refine W.item i s _ _ hg st fun v h' tk hv st' kk=>?_
    obtain ⟨t, rfl⟩:=hv
    have I1:Inv X pins σ H { s with heap:=h', toks:=tk }:=I.turned (fun b o hb e=>kk b o (by simpa using hb) e) f0 f1 f3 f4 f5
    refine ⟨_, rfl, go_of (s:={ s with heap:=h', toks:=tk }) (n:="range_iterator") st' rfl rfl (by decide) ⟨.int (lo + i), H, I1, ⟨t, ?_⟩, ⟨rfl, rfl⟩, st', fun b hb=>(hf b hb).1⟩⟩
    rw [Int.mul_one]
  done:=by
    intro X hP hw hK hc i pins s σ H E I hf st hg
    subst hP hw hK
    obtain ⟨f0, f1, f2, f3, f4, f5⟩:=hf it (by simp)
    exact wpAny_pyNext_range_end (I.ok.hd hc) st (by have:n ≤ i:=hg; omega) fun h' eb=>⟨rfl, I.turned (t':=s.toks) (fun b o hb e=>eb b o hb e) f0 f1 f3 f4 f5⟩
  self:=fun _ _ _ _ _ st h=>wpAny_pyIter_rangeiter st h
end L2
namespace L2
open PySem PySem.Spec PyProof.Rows
section
variable {X:Cx} {tg:Expr}
noncomputable def iList (K:PySem.W.Frag) (tl:TE):TI:=fun σ H R=>tl σ H fun x H1=>exR x fun a=>(∃ xs, SqL K H1 a xs) ∧ R (Itl K a) H1
theorem pi_list {l:Expr} {tl:TE} (hl:PE X l tl):PI X tg l (iList X.K tl):=by
  intro pins s σ H R I h
  refine thn (hl pins s σ H _ I h) fun v s1 ⟨x, H1, I1, r1, q1⟩=>?_
  obtain ⟨a, e, ⟨xs, hq⟩, q⟩:=Eq.mp exR_ex q1
  subst e
  cases r1
  obtain ⟨its, rv, p, hz⟩:=I1.list hq
  refine wpAny_pyIter_list p.isList ?_
  refine ⟨s1.heap.objs.size, [s1.heap.objs.size], _, _, H1, rfl, I1.kept (t':=s1.toks) fun b o e=>Heap.get?_push_of_some _ e, turn_list a _, ⟨_, Heap.get?_push_size _ rfl, rfl, rfl⟩, fun b hb=>?_, q⟩
  have e:b = s1.heap.objs.size:=by simpa using hb
  subst e
  exact I1.fpOk (Nat.le_refl _) (I1.hok.fresh (Nat.le_refl _))
theorem range_it {pins:List (Addr × Obj)} {σ:St} {H:Hp} {s:Shared} {R:It → Hp → Prop} {E:Value → Shared → Prop} {lo hi:Int} {t u v:Tok} {tk:Nat} (I:Inv X pins σ H s) (h1:-(2 ^ 62) ≤ lo) (h2:lo < 2 ^ 62) (h3:-(2 ^ 62) ≤ hi) (h4:hi < 2 ^ 62)
    (q:R (Itr lo (hi - lo).toNat) H):wpAny (model X.prog X.w) X.A (pyIter (.ref s.heap.objs.size)) (PIE X pins σ tg R) E { s with heap:=s.heap.push { cls:=.type "range", data:=.fields #[.int lo t, .int hi u, .int 1 v] }, toks:=tk }:=by
  refine wpAny_pyIter_range (IsRange.new ..) (small_one h1 h2 h3 h4) ?_
  have I1:Inv X pins σ H { s with heap:=s.heap.push { cls:=.type "range", data:=.fields #[.int lo t, .int hi u, .int 1 v] }, toks:=tk }:=I.kept fun b o e=>Heap.get?_push_of_some _ e
  refine ⟨(s.heap.push { cls:=.type "range", data:=.fields #[.int lo t, .int hi u, .int 1 v] }).objs.size, [(s.heap.push { cls:=.type "range", data:=.fields #[.int lo t, .int hi u, .int 1 v] }).objs.size], _, _, H, rfl,
    I1.kept (t':=tk) fun b o e=>Heap.get?_push_of_some _ e, turn_range _ lo (hi - lo).toNat, ?_, fun b hb=>?_, q⟩
  · have e1:lo + ((0:Nat):Int) * 1 = lo:=by simp
    have e2:(((hi - lo).toNat:Nat):Int) - ((0:Nat):Int) = Builtin.Range.rangeSize lo hi 1:=by rw [rangeSize_one]; split <;> omega
    show IsRangeIter _ _ (lo + ((0:Nat):Int) * 1) ((((hi - lo).toNat:Nat):Int) - ((0:Nat):Int)) 1
    rw [e1, e2]
    exact Heap.get?_push_size _ rfl
  · have e:b = (s.heap.push { cls:=.type "range", data:=.fields #[.int lo t, .int hi u, .int 1 v] }).objs.size:=by simpa using hb
    subst e
    exact I1.fpOk (Nat.le_refl _) (I1.hok.fresh (Nat.le_refl _))
noncomputable def iRng1 (ta:TA):TI:=fun σ H R=>ta σ H fun vs H1=>∃ j:Int, vs = [.int j] ∧ -(2 ^ 62) ≤ j ∧ j < 2 ^ 62 ∧ R (Itr 0 j.toNat) H1
theorem pi_range1 {a:Expr} {ta:TA} {p pos:Pos} (hg:Gl X "range") (hm:X.mg "range" = none) (ha:PA X [a] ta) (hs:starEach [a] X.env = [(false, eval a X.env)]:=by rfl):PI X tg (.Call (.Name "range" p) [a] [] pos) (iRng1 ta):=by
  intro pins s σ H R I h
  refine Call_ (ld_blt I hg hm boot_range (PyProof.Rows.callWith_type1 (thn (ha pos pins s σ H _ I h) fun us s1 ⟨vs, H1, I1, r1, q1⟩=>?_) hs rfl))
  obtain ⟨j, e, q1, q2, q⟩:=q1
  subst e
  cases r1 with
  | cons r rr =>
    cases rr
    obtain ⟨t, rfl⟩:=r
    exact call_range_1 (range_it I1 (by omega) (by omega) q1 q2 (by simpa using q))
noncomputable def tFor (wi:TI) (g:TG) (tb:TS):TS:=fun D σ H=>wi σ H fun J H1=>∃ W:Nat → Nat → St → Hp → Prop, (∃ m, W 0 m σ H1) ∧ ∀ i m σ H, W i m σ H →
  (J.stop i H ∧ D.nx σ H) ∨ (J.go i H ∧ ∃ N:St → Hp → Prop, (∀ σ' H', N σ' H' → ∃ m', m' < m ∧ W (i + 1) m' σ' H') ∧ ∀ x H', J.yld i H x H' → g x σ H' fun σ2 H2=>tb { D with nx:=N, ct:=N, bk:=D.nx } σ2 H2)
noncomputable def pinsAt (fp:List Addr) (h:Heap):List (Addr × Obj):=fp.filterMap fun b=>(h.get? b).map fun o=>(b, o)
theorem mem_pinsAt {fp:List Addr} {h:Heap} {b:Addr} {o:Obj} (hb:b ∈ fp) (e:h.get? b = some o):(b, o) ∈ pinsAt fp h:=List.mem_filterMap.mpr ⟨b, hb, by rw [e]; rfl⟩
theorem of_pinsAt {fp:List Addr} {h:Heap} {p:Addr × Obj} (hp:p ∈ pinsAt fp h):p.1 ∈ fp ∧ h.get? p.1 = some p.2:=by
  obtain ⟨b, hb, e⟩:=List.mem_filterMap.mp hp
  cases q:h.get? b with
  | none=>rw [q] at e; cases e
  | some o =>
    rw [q] at e
    have e':(b, o) = p:=Option.some.inj e
    subst e'
    exact ⟨hb, q⟩
theorem Inv.pinned {pins:List (Addr × Obj)} {σ:St} {H:Hp} {s:Shared} {fp:List Addr} (I:Inv X pins σ H s) (hf:∀ b ∈ fp, FpOk X pins H b) (ho:∀ b ∈ fp, ∃ o, s.heap.get? b = some o ∧ ∀ v, o.data ≠ .cell v):Inv X (pins ++ pinsAt fp s.heap) σ H s :=
  I.pins_of fun p hp=>(List.mem_append.mp hp).elim (fun z=>I.pin p (List.mem_append_right _ z)) fun z=>by
    obtain ⟨hb, e⟩:=of_pinsAt z
    obtain ⟨f0, f1, f2, _⟩:=hf p.1 hb
    obtain ⟨o, e', d⟩:=ho p.1 hb
    rw [e] at e'; cases e'
    exact ⟨e, f0, f1, f2, d⟩
theorem Inv.unpinned {pins pl:List (Addr × Obj)} {σ:St} {H:Hp} {s:Shared} (I:Inv X (pins ++ pl) σ H s):Inv X pins σ H s:=I.pins_of fun p hp=>I.pin p (List.mem_append_right _ (List.mem_append_left _ hp))
theorem ps_for {iter:Expr} {body:List Stmt} {wi:TI} {g:TG} {tb:TS} {pos:Pos} (hp:PassesOwn (model X.prog X.w) X.A X.env X.xe) (hc:X.calm = true) (hi:PI X tg iter wi) (hg:PG X tg g) (hb:PSs X body tb)
    (hs:∀ x, foldedSetIterable iter X.env x = pure x:=by intro _; rfl):PS X (.For tg iter body [] pos) (tFor wi g tb):=by
  intro pins s σ H D I h
  refine wpAny_For (thn (hi pins s σ H _ I h) fun v s1 h1=>thn h1 fun itv s2 h2=>?_) hs
  obtain ⟨it, fp, tn, J, H2, e, I2, T, st2, f2, W, ⟨m0, w0⟩, turn⟩:=h2
  subst e
  -- what stays true of the iterator's objects through the loop
  have stat:∀ {H':Hp}, (∀ b ∈ fp, H' b = none) → ∀ b ∈ fp, FpOk X pins H' b:=fun hn b hb=>⟨hn b hb, (f2 b hb).2⟩
  refine codeAny_forLoop_any (fun n s'=>∃ i σ' H', Inv X pins σ' H' s' ∧ tn i s'.heap ∧ (∀ b ∈ fp, H' b = none) ∧ W i n σ' H') ?_ m0 ⟨0, σ, H2, I2, st2, fun b hb=>(f2 b hb).1, w0⟩
  rintro n s3 ⟨i, σ3, H3, I3, st3, fr3, w3⟩
  rcases turn i n σ3 H3 w3 with ⟨stop, qn⟩ | ⟨go, N, hN, step⟩
  · refine wpAny_passesOwn hp (thn (T.done X rfl rfl rfl hc i pins s3 σ3 H3 X.xe I3 (stat fr3) st3 stop) fun r s4 ⟨hr, I4⟩=>?_)
    subst hr
    exact wpAny_execs_nil ⟨σ3, H3, I4, qn⟩
  · refine wpAny_passesOwn hp (thn (T.item X rfl rfl rfl hc i pins s3 σ3 H3 X.xe I3 (stat fr3) st3 go) fun r s4 ⟨u, hr, h4⟩=>?_)
    subst hr
    refine wpAny_passesOwn hp (thn h4 fun _ s5 ⟨x, H5, I5, r5, y5, st5, fr5⟩=>?_)
    have I5':=I5.pinned (stat fr5) (T.obj _ _ st5)
    refine wpAny_passesOwn hp (thn (hg _ s5 σ3 H5 x u _ I5' r5 (step x H5 y5)) fun _ s6 ⟨σ6, H6, I6, q6⟩=>?_)
    refine wpAny_passesOwn hp (thn (hb _ s6 σ6 H6 _ I6 q6) fun f s7 q7=>?_)
    have again:∀ {σ7:St} {H7:Hp}, Inv X (pins ++ pinsAt fp s5.heap) σ7 H7 s7 → N σ7 H7 → ∃ m, m < n ∧ ∃ i σ' H', Inv X pins σ' H' s7 ∧ tn i s7.heap ∧ (∀ b ∈ fp, H' b = none) ∧ W i m σ' H':=fun {σ7 H7} I7 n7=>by
      obtain ⟨m', hm, w7⟩:=hN σ7 H7 n7
      refine ⟨m', hm, i + 1, σ7, H7, I7.unpinned, T.keep _ _ _ st5 fun b hb o e=>(I7.pin (b, o) (List.mem_append_right _ (List.mem_append_right _ (mem_pinsAt hb e)))).1, fun b hb=>?_, w7⟩
      obtain ⟨o, e, d⟩:=T.obj _ _ st5 b hb
      exact (I7.pin (b, o) (List.mem_append_right _ (List.mem_append_right _ (mem_pinsAt hb e)))).2.1
    cases f with
    | next=>obtain ⟨σ7, H7, I7, n7⟩:=q7; exact again I7 n7
    | cont=>obtain ⟨σ7, H7, I7, n7⟩:=q7; exact again I7 n7
    | brk=>obtain ⟨σ7, H7, I7, q7⟩:=q7; exact ⟨σ7, H7, I7.unpinned, q7⟩
    | ret v=>obtain ⟨x7, σ7, H7, I7, r7, q7⟩:=q7; exact ⟨x7, σ7, H7, I7.unpinned, r7, q7⟩
end
theorem for_list {K:PySem.W.Frag} {a:Addr} {xs:List V} {g:TG} {tb:TS} {D:Ends} {σ:St} {H:Hp} (Pv:Nat → St → Hp → Prop) (h0:Pv 0 σ H) (hl:∀ i σ H, i ≤ xs.length → Pv i σ H → SqL K H a xs)
    (hs:∀ i x σ H, xs[i]? = some x → Pv i σ H → g x σ H fun σ2 H2=>tb { D with nx:=Pv (i + 1), ct:=Pv (i + 1), bk:=D.nx } σ2 H2) (hd:∀ σ H, Pv xs.length σ H → D.nx σ H) :
    ∃ W:Nat → Nat → St → Hp → Prop, (∃ m, W 0 m σ H) ∧ ∀ i m σ H, W i m σ H →
      ((Itl K a).stop i H ∧ D.nx σ H) ∨ ((Itl K a).go i H ∧ ∃ N:St → Hp → Prop, (∀ σ' H', N σ' H' → ∃ m', m' < m ∧ W (i + 1) m' σ' H') ∧ ∀ x H', (Itl K a).yld i H x H' → g x σ H' fun σ2 H2=>tb { D with nx:=N, ct:=N, bk:=D.nx } σ2 H2):=by
  refine ⟨fun i m σ H=>m = xs.length - i ∧ i ≤ xs.length ∧ Pv i σ H, ⟨xs.length, by simp, Nat.zero_le _, h0⟩, ?_⟩
  rintro i m σ H ⟨rfl, hi, p⟩
  have q:=hl i σ H hi p
  by_cases hlt:i < xs.length
  · refine .inr ⟨⟨xs, xs[i], q, by simp [hlt]⟩, Pv (i + 1), fun σ' H' p'=>⟨xs.length - (i + 1), by omega, rfl, hlt, p'⟩, fun x H' y=>?_⟩
    obtain ⟨e, y⟩:=y
    subst e
    exact hs i x σ _ (y xs q) p
  · have e:i = xs.length:=by omega
    subst e
    exact .inl ⟨⟨xs, q, Nat.le_refl _⟩, hd σ H p⟩
theorem for_range {lo:Int} {n:Nat} {g:TG} {tb:TS} {D:Ends} {σ:St} {H:Hp} (Pv:Nat → St → Hp → Prop) (h0:Pv 0 σ H)
    (hs:∀ i σ H, i < n → Pv i σ H → g (.int (lo + i)) σ H fun σ2 H2=>tb { D with nx:=Pv (i + 1), ct:=Pv (i + 1), bk:=D.nx } σ2 H2) (hd:∀ σ H, Pv n σ H → D.nx σ H) :
    ∃ W:Nat → Nat → St → Hp → Prop, (∃ m, W 0 m σ H) ∧ ∀ i m σ H, W i m σ H →
      ((Itr lo n).stop i H ∧ D.nx σ H) ∨ ((Itr lo n).go i H ∧ ∃ N:St → Hp → Prop, (∀ σ' H', N σ' H' → ∃ m', m' < m ∧ W (i + 1) m' σ' H') ∧ ∀ x H', (Itr lo n).yld i H x H' → g x σ H' fun σ2 H2=>tb { D with nx:=N, ct:=N, bk:=D.nx } σ2 H2):=by
  refine ⟨fun i m σ H=>m = n - i ∧ i ≤ n ∧ Pv i σ H, ⟨n, by simp, Nat.zero_le _, h0⟩, ?_⟩
  rintro i m σ H ⟨rfl, hi, p⟩
  by_cases hlt:i < n
  · refine .inr ⟨hlt, Pv (i + 1), fun σ' H' p'=>⟨n - (i + 1), by omega, rfl, hlt, p'⟩, fun x H' y=>?_⟩
    obtain ⟨e, y⟩:=y
    subst e y
    exact hs i σ _ hlt p
  · have e:i = n:=by omega
    subst e
    exact .inl ⟨Nat.le_refl _, hd σ H p⟩
theorem while_by {c:TT} {tb:TS} {D:Ends} {σ:St} {H:Hp} (Pv:St → Hp → Prop) (μ:St → Hp → Nat) (h0:Pv σ H)
    (hs:∀ σ H, Pv σ H → c σ H fun b H1=>if b = true then tb { D with nx:=fun σ' H'=>Pv σ' H' ∧ μ σ' H' < μ σ H, ct:=fun σ' H'=>Pv σ' H' ∧ μ σ' H' < μ σ H, bk:=D.nx } σ H1 else D.nx σ H1)
    (mono:∀ σ H Q Q', (∀ b H1, Q b H1 → Q' b H1) → c σ H Q → c σ H Q'):tWhile c tb D σ H:=by
  refine ⟨fun m σ H=>m = μ σ H ∧ Pv σ H, ⟨_, rfl, h0⟩, ?_⟩
  rintro m σ H ⟨rfl, p⟩
  refine mono σ H _ _ (fun b H1 q=>?_) (hs σ H p)
  cases b with
  | true=>exact ⟨_, fun σ' H' ⟨p', l⟩=>⟨_, l, rfl, p'⟩, q⟩
  | false=>exact q
end L2
namespace L2
open PySem PySem.Spec PyProof.Rows
noncomputable abbrev R2:=V → V → Hp → VK → Prop
noncomputable def OpR (X:Cx) (f:Value → Value → Sem Value) (r:R2):Prop :=
  ∀ (pins:List (Addr × Obj)) (s:Shared) (σ:St) (H:Hp) (x y:V) (v u:Value) (Q:VK), Inv X pins σ H s → RelV x v → RelV y u → r x y H Q →
    wpAny (model X.prog X.w) X.A (f v u) (EP X pins σ Q) X.xe s
noncomputable def UnR (X:Cx) (f:Value → Sem Value) (r:V → Hp → VK → Prop):Prop :=
  ∀ (pins:List (Addr × Obj)) (s:Shared) (σ:St) (H:Hp) (x:V) (v:Value) (Q:VK), Inv X pins σ H s → RelV x v → r x H Q →
    wpAny (model X.prog X.w) X.A (f v) (EP X pins σ Q) X.xe s
noncomputable def CallR (X:Cx) (f:Value) (r:List V → Hp → VK → Prop):Prop :=
  ∀ (pins:List (Addr × Obj)) (s:Shared) (σ:St) (H:Hp) (xs:List V) (us:List Value) (Q:VK), Inv X pins σ H s → Vals xs us → r xs H Q →
    wpAny (model X.prog X.w) X.A (call f us) (EP X pins σ Q) X.xe s
noncomputable def tOp (r:R2) (ta tb:TE):TE:=fun σ H Q=>ta σ H fun x H1=>tb σ H1 fun y H2=>r x y H2 Q
noncomputable def tUn (r:V → Hp → VK → Prop) (ta:TE):TE:=fun σ H Q=>ta σ H fun x H1=>r x H1 Q
noncomputable def rI (C:Int → Int → Prop) (g:Int → Int → V):R2:=fun x y H Q=>exI x fun i=>exI y fun j=>C i j ∧ Q (g i j) H
noncomputable def rI0 (g:Int → Int → V):R2:=fun x y H Q=>exI x fun i=>exI y fun j=>Q (g i j) H
noncomputable def rU (g:Int → V):V → Hp → VK → Prop:=fun x H Q=>exI x fun i=>Q (g i) H
section
variable {X:Cx} {a b c:Expr} {ta tb tc:TE} {pos:Pos}
theorem binT (ha:PE X a ta) (hb:PE X b tb) {pins:List (Addr × Obj)} {s:Shared} {σ:St} {H:Hp} {R:V → V → Hp → Prop} (I:Inv X pins σ H s)
    (h:ta σ H fun x H1=>tb σ H1 fun y H2=>R x y H2) {Q:Value → Shared → Prop} {f:Value → Value → Sem Value}
    (hf:∀ v u s2 x y H2, Inv X pins σ H2 s2 → RelV x v → RelV y u → R x y H2 → wpAny (model X.prog X.w) X.A (f v u) Q X.xe s2) :
    wpAny (model X.prog X.w) X.A (eval a X.env) (fun v s₁=>wpAny (model X.prog X.w) X.A (eval b X.env) (fun u s₂=>wpAny (model X.prog X.w) X.A (f v u) Q X.xe s₂) X.xe s₁) X.xe s:=by
  refine thn (ha pins s σ H _ I h) fun v s1 ⟨x, H1, I1, r1, q1⟩=>?_
  refine thn (hb pins s1 σ H1 _ I1 q1) fun u s2 ⟨y, H2, I2, r2, q2⟩=>?_
  exact hf v u s2 x y H2 I2 r1 r2 q2
theorem pe_op {op:Operator} {r:R2} (ho:OpR X (binaryOp op) r) (ha:PE X a ta) (hb:PE X b tb):PE X (.BinOp a op b pos) (tOp r ta tb):=by
  intro pins s σ H Q I h
  exact wpAny_BinOp (binT ha hb I h fun v u s2 x y H2 I2 rx ry q=>ho pins s2 σ H2 x y v u Q I2 rx ry q)
theorem pe_un {op:UnaryOp} {r:V → Hp → VK → Prop} (ho:UnR X (unaryOp op) r) (ha:PE X a ta):PE X (.UnaryOp op a pos) (tUn r ta):=by
  intro pins s σ H Q I h
  exact UnaryOp_ (thn (ha pins s σ H _ I h) fun v s1 ⟨x, H1, I1, r1, q1⟩=>ho pins s1 σ H1 x v Q I1 r1 q1)
theorem opI {f:Value → Value → Sem Value} {C:Int → Int → Prop} {g:Int → Int → Int}
    (rule:∀ (i j:Int) (t u:Tok) (s:Shared) (Q:Value → Shared → Prop) (E:Value → Shared → Prop), C i j → Q (.int (g i j) s.toks) { s with toks:=s.toks + 1 } → wpAny (model X.prog X.w) X.A (f (.int i t) (.int j u)) Q E s) :
    OpR X f (rI C fun i j=>.int (g i j)):=by
  intro pins s σ H x y v u Q I rx ry h
  obtain ⟨i, rfl, h1⟩:=Eq.mp exI_ex h
  obtain ⟨j, rfl, hc, q⟩:=Eq.mp exI_ex h1
  obtain ⟨t, rfl⟩:=rx
  obtain ⟨t', rfl⟩:=ry
  exact rule i j t t' s _ _ hc ⟨.int (g i j), H, I.tok _, ⟨_, rfl⟩, q⟩
theorem opI0 {f:Value → Value → Sem Value} {g:Int → Int → Int}
    (rule:∀ (i j:Int) (t u:Tok) (s:Shared) (Q:Value → Shared → Prop) (E:Value → Shared → Prop), Q (.int (g i j) s.toks) { s with toks:=s.toks + 1 } → wpAny (model X.prog X.w) X.A (f (.int i t) (.int j u)) Q E s) :
    OpR X f (rI0 fun i j=>.int (g i j)):=by
  intro pins s σ H x y v u Q I rx ry h
  obtain ⟨i, rfl, h1⟩:=Eq.mp exI_ex h
  obtain ⟨j, rfl, q⟩:=Eq.mp exI_ex h1
  obtain ⟨t, rfl⟩:=rx
  obtain ⟨t', rfl⟩:=ry
  exact rule i j t t' s _ _ ⟨.int (g i j), H, I.tok _, ⟨_, rfl⟩, q⟩
theorem opB0 {f:Value → Value → Sem Value} {g:Int → Int → Bool}
    (rule:∀ (i j:Int) (t u:Tok) (s:Shared) (Q:Value → Shared → Prop) (E:Value → Shared → Prop), Q (.bool (g i j)) s → wpAny (model X.prog X.w) X.A (f (.int i t) (.int j u)) Q E s) :
    OpR X f (rI0 fun i j=>.bl (g i j)):=by
  intro pins s σ H x y v u Q I rx ry h
  obtain ⟨i, rfl, h1⟩:=Eq.mp exI_ex h
  obtain ⟨j, rfl, q⟩:=Eq.mp exI_ex h1
  obtain ⟨t, rfl⟩:=rx
  obtain ⟨t', rfl⟩:=ry
  exact rule i j t t' s _ _ ⟨.bl (g i j), H, I, rfl, q⟩
noncomputable def CDiv (i j:Int):Prop:=0 < j ∧ j < 1073741824
noncomputable def CPow (i j:Int):Prop:=0 ≤ j ∧ j ≤ 1000000 ∧ i.natAbs < 2 ^ 64
theorem op_add:OpR X (binaryOp .Add) (rI0 fun i j=>.int (i + j)):=opI0 fun _ _ _ _ _ _ _ q=>add_int q
theorem op_sub:OpR X (binaryOp .Sub) (rI0 fun i j=>.int (i - j)):=opI0 fun _ _ _ _ _ _ _ q=>sub_int q
theorem op_fdiv:OpR X (binaryOp .FloorDiv) (rI CDiv fun i j=>.int (i / j)):=opI fun i j _ _ _ _ _ hc q=>by
  have h1:(0:Int) < j:=hc.1
  have h2:j < 1073741824:=hc.2
  exact floordiv_int (by omega) (by rw [Int.fdiv_eq_ediv_of_nonneg i (by omega)]; exact q) (.inl (PyProof.noPylong_small (by omega)))
theorem op_mod:OpR X (binaryOp .Mod) (rI (fun _ j=>0 < j) fun i j=>.int (i % j)):=opI fun i j _ _ _ _ _ hc q=>by
  have h1:(0:Int) < j:=hc
  exact mod_int' (by omega) (by rw [Int.fmod_eq_emod_of_nonneg i (by omega)]; exact q)
theorem op_pow:OpR X (binaryOp .Pow) (rI CPow fun i j=>.int (i ^ j.toNat)):=opI fun _ _ _ _ _ _ _ hc q=>pow_int_small hc.1 hc.2.1 hc.2.2 q
theorem unI {f:Value → Sem Value} {g:Int → Int}
    (rule:∀ (i:Int) (t:Tok) (s:Shared) (Q:Value → Shared → Prop) (E:Value → Shared → Prop), Q (.int (g i) s.toks) { s with toks:=s.toks + 1 } → wpAny (model X.prog X.w) X.A (f (.int i t)) Q E s) :
    UnR X f (rU fun i=>.int (g i)):=by
  intro pins s σ H x v Q I rx h
  obtain ⟨i, rfl, q⟩:=Eq.mp exI_ex h
  obtain ⟨t, rfl⟩:=rx
  exact rule i t s _ _ ⟨.int (g i), H, I.tok _, ⟨_, rfl⟩, q⟩
theorem un_neg:UnR X (unaryOp .USub) (rU fun i=>.int (-i)):=unI fun _ _ _ _ _ q=>neg_int q
end
noncomputable def scal:V → V → Bool
  | .non, .non=>true | .non, .int _=>true | .int _, .non=>true | .non, .bl _=>true | .bl _, .non=>true | .non, .str _=>true | .str _, .non=>true
  | .int _, .int _=>true | .bl _, .bl _=>true | .str _, .str _=>true | .byt _, .byt _=>true
  | .int _, .str _=>true | .str _, .int _=>true | .bl _, .str _=>true | .str _, .bl _=>true
  | _, _=>false
noncomputable def rEq:R2:=fun x y H Q=>scal x y = true ∧ Q (.bl (decide (x = y))) H
theorem scal_ii {i j:Int}:scal (.int i) (.int j) = true:=rfl
noncomputable def rNe:R2:=fun x y H Q=>scal x y = true ∧ Q (.bl (!decide (x = y))) H
theorem dec_int {i j:Int}:decide (V.int i = V.int j) = (i == j):=by
  rw [Bool.eq_iff_iff]
  simp
theorem dec_bl {i j:Bool}:decide (V.bl i = V.bl j) = (i == j):=by
  rw [Bool.eq_iff_iff]
  simp
theorem dec_str {i j:Str}:decide (V.str i = V.str j) = (i == j):=by
  rw [Bool.eq_iff_iff]
  simp
theorem dec_byt {i j:Array UInt8}:decide (V.byt i = V.byt j) = (i.toList == j.toList):=by
  rw [Bool.eq_iff_iff]
  cases i
  cases j
  simp
section
variable {X:Cx} {a b c:Expr} {ta tb tc:TE} {pos:Pos}
theorem fin_bl {pins:List (Addr × Obj)} {σ:St} {H:Hp} {s:Shared} {Q:VK} {k k':Bool} (I:Inv X pins σ H s) (q:Q (.bl k) H) (e:k = k'):EP X pins σ Q (.bool k') s:=by
  subst e
  exact ⟨.bl k, H, I, rfl, q⟩
theorem op_eq:OpR X (compareOp .Eq) rEq:=by
  intro pins s σ H x y v u Q I rx ry h
  obtain ⟨hs, q⟩:=h
  cases x with
  | non =>
    cases rx
    cases y with
    | non=>cases ry; exact PySem.EqNone.eq_none_none (fin_bl I q (by simp))
    | bl j=>cases ry; exact PySem.EqNone.eq_none_bool (fin_bl I q (by simp))
    | int j=>obtain ⟨t', rfl⟩:=ry; exact PySem.EqNone.eq_none_int (fin_bl I q (by simp))
    | str j=>obtain ⟨t', rfl⟩:=ry; exact PySem.EqNone.eq_none_str (fin_bl I q (by simp))
    | _=>exact absurd (show false = true from hs) Bool.false_ne_true
  | bl i =>
    cases rx
    cases y with
    | non=>cases ry; exact PySem.EqNone.eq_bool_none (fin_bl I q (by simp))
    | bl j=>cases ry; exact eq_bool (fin_bl I q dec_bl)
    | str j=>obtain ⟨t', rfl⟩:=ry; exact PySem.EqMixed.eq_bool_str (fin_bl I q (by simp))
    | _=>exact absurd (show false = true from hs) Bool.false_ne_true
  | int i =>
    obtain ⟨t, rfl⟩:=rx
    cases y with
    | non=>cases ry; exact PySem.EqNone.eq_int_none (fin_bl I q (by simp))
    | int j=>obtain ⟨t', rfl⟩:=ry; exact eq_int (fin_bl I q dec_int)
    | str j=>obtain ⟨t', rfl⟩:=ry; exact PySem.EqMixed.eq_int_str (fin_bl I q (by simp))
    | _=>exact absurd (show false = true from hs) Bool.false_ne_true
  | str i =>
    obtain ⟨t, rfl⟩:=rx
    cases y with
    | non=>cases ry; exact PySem.EqNone.eq_str_none (fin_bl I q (by simp))
    | bl j=>cases ry; exact PySem.EqMixed.eq_str_bool (fin_bl I q (by simp))
    | int j=>obtain ⟨t', rfl⟩:=ry; exact PySem.EqMixed.eq_str_int (fin_bl I q (by simp))
    | str j=>obtain ⟨t', rfl⟩:=ry; exact eq_str (fin_bl I q dec_str)
    | _=>exact absurd (show false = true from hs) Bool.false_ne_true
  | byt i =>
    obtain ⟨t, rfl⟩:=rx
    cases y with
    | byt j=>obtain ⟨t', rfl⟩:=ry; exact PySem.W.eq_bytes (fin_bl I q dec_byt)
    | _=>exact absurd (show false = true from hs) Bool.false_ne_true
  | _=>cases y <;> exact absurd (show false = true from hs) Bool.false_ne_true
theorem op_ne:OpR X (compareOp .NotEq) rNe:=by
  intro pins s σ H x y v u Q I rx ry h
  obtain ⟨hs, q⟩:=h
  cases x with
  | non =>
    cases rx
    cases y with
    | non=>cases ry; exact PySem.EqNone.ne_none_none (fin_bl I q (by simp))
    | bl j=>cases ry; exact PySem.EqNone.ne_none_bool (fin_bl I q (by simp))
    | int j=>obtain ⟨t', rfl⟩:=ry; exact PySem.EqNone.ne_none_int (fin_bl I q (by simp))
    | str j=>obtain ⟨t', rfl⟩:=ry; exact PySem.EqNone.ne_none_str (fin_bl I q (by simp))
    | _=>exact absurd (show false = true from hs) Bool.false_ne_true
  | bl i =>
    cases rx
    cases y with
    | non=>cases ry; exact PySem.EqNone.ne_bool_none (fin_bl I q (by simp))
    | bl j=>cases ry; exact ne_bool (fin_bl I q (congrArg not dec_bl))
    | str j=>obtain ⟨t', rfl⟩:=ry; exact PySem.EqMixed.ne_bool_str (fin_bl I q (by simp))
    | _=>exact absurd (show false = true from hs) Bool.false_ne_true
  | int i =>
    obtain ⟨t, rfl⟩:=rx
    cases y with
    | non=>cases ry; exact PySem.EqNone.ne_int_none (fin_bl I q (by simp))
    | int j=>obtain ⟨t', rfl⟩:=ry; exact ne_int (fin_bl I q (congrArg not dec_int))
    | str j=>obtain ⟨t', rfl⟩:=ry; exact PySem.EqMixed.ne_int_str (fin_bl I q (by simp))
    | _=>exact absurd (show false = true from hs) Bool.false_ne_true
  | str i =>
    obtain ⟨t, rfl⟩:=rx
    cases y with
    | non=>cases ry; exact PySem.EqNone.ne_str_none (fin_bl I q (by simp))
    | bl j=>cases ry; exact PySem.EqMixed.ne_str_bool (fin_bl I q (by simp))
    | int j=>obtain ⟨t', rfl⟩:=ry; exact PySem.EqMixed.ne_str_int (fin_bl I q (by simp))
    | str j=>obtain ⟨t', rfl⟩:=ry; exact ne_str (fin_bl I q (congrArg not dec_str))
    | _=>exact absurd (show false = true from hs) Bool.false_ne_true
  | byt i =>
    obtain ⟨t, rfl⟩:=rx
    cases y with
    | byt j=>obtain ⟨t', rfl⟩:=ry; exact PySem.W.ne_bytes (fin_bl I q (congrArg not dec_byt))
    | _=>exact absurd (show false = true from hs) Bool.false_ne_true
  | _=>cases y <;> exact absurd (show false = true from hs) Bool.false_ne_true
theorem op_lt:OpR X (compareOp .Lt) (rI0 fun i j=>.bl (decide (i < j))):=opB0 fun _ _ _ _ _ _ _ q=>lt_int q
theorem op_gt:OpR X (compareOp .Gt) (rI0 fun i j=>.bl (decide (j < i))):=opB0 fun _ _ _ _ _ _ _ q=>gt_int q
theorem op_ge:OpR X (compareOp .GtE) (rI0 fun i j=>.bl (decide (j ≤ i))):=opB0 fun _ _ _ _ _ _ _ q=>ge_int q
theorem nomark (b:Expr) {op:CmpOp} (h:op ≠ .In:=by decide) (h2:op ≠ .NotIn:=by decide):behindInMarks op b = false:=by
  have e1:(op == CmpOp.In) = false:=by cases op <;> first | rfl | exact absurd rfl h
  have e2:(op == CmpOp.NotIn) = false:=by cases op <;> first | rfl | exact absurd rfl h2
  cases b <;> simp [behindInMarks, e1, e2]
theorem pe_cmpR {op:CmpOp} {r:R2} (ho:OpR X (compareOp op) r) (ha:PE X a ta) (hb:PE X b tb) (hm:behindInMarks op b = false):PE X (.Compare a [op] [b] pos) (tOp r ta tb):=by
  intro pins s σ H Q I h
  exact wpAny_Compare1 (binT ha hb I h fun v u s2 x y H2 I2 rx ry q=>ho pins s2 σ H2 x y v u Q I2 rx ry q) hm
noncomputable def tTest (t:TE):TT:=fun σ H Q=>t σ H fun x H'=>exB x fun k=>Q k H'
theorem pt_cmpR {op:CmpOp} {r:R2} (ho:OpR X (compareOp op) r) (ha:PE X a ta) (hb:PE X b tb) (hm:behindInMarks op b = false):PT X (.Compare a [op] [b] pos) (tTest (tOp r ta tb)):=by
  intro pins s σ H Q I h
  refine wpAny_isTrue_Compare1 (thn (ha pins s σ H _ I h) fun v s1 ⟨x, H1, I1, r1, q1⟩=>thn (hb pins s1 σ H1 _ I1 q1) fun u s2 ⟨y, H2, I2, r2, q2⟩ =>
    thn (ho pins s2 σ H2 x y v u _ I2 r1 r2 q2) fun c s3 ⟨z, H3, I3, r3, q3⟩=>?_) hm
  obtain ⟨k, e, q3⟩:=Eq.mp exB_ex q3
  subst e
  cases r3
  exact wpAny_truthy_bool ⟨H3, I3, q3⟩
theorem line63:(sizeLine:Nat) < 2 ^ 63:=by rw [sizeLine_eq]; decide
theorem vals1 {x:V} {us:List Value} (r:Vals [x] us):∃ u, us = [u] ∧ RelV x u:=by
  cases r with
  | cons r1 r2=>cases r2; exact ⟨_, rfl, r1⟩
theorem vals2 {x y:V} {us:List Value} (r:Vals [x, y] us):∃ u w', us = [u, w'] ∧ RelV x u ∧ RelV y w':=by
  cases r with
  | cons r1 r2 =>
    cases r2 with
    | cons r3 r4=>cases r4; exact ⟨_, _, rfl, r1, r3⟩
theorem call_abs:CallR X (.builtin "abs") (fun xs H Q=>∃ i, xs = [.int i] ∧ Q (.int (if i < 0 then -i else i)) H):=by
  intro pins s σ H xs us Q I r h
  obtain ⟨i, rfl, q⟩:=h
  obtain ⟨u, rfl, t, rfl⟩:=vals1 r
  exact call_abs_int fun u tk=>⟨.int (if i < 0 then -i else i), H, I.tok _, ⟨_, rfl⟩, q⟩
end
end L2
namespace L2
open PySem PySem.Spec PyProof.Rows
structure ObjM (h:Heap) (x dx C:Addr) (mA:Str → Option Value):Prop where
  obj:h.get? x = some (PySem.W.instObj C dx)
  ns:h.Ns1 dx mA
  ne:dx ≠ x
theorem lookIn_ns {h:Heap} {dx:Addr} {mA:Str → Option Value} (n:h.Ns1 dx mA):∃ od, h.get? dx = some od ∧ ∀ name, PySem.W.lookIn name od = some (mA name):=by
  obtain ⟨o, es, ep, ho, hd, hk, _, hm⟩:=n
  refine ⟨o, ho, fun name=>?_⟩
  have e:=hm name
  unfold nsFind findBy at e
  rw [← Array.find?_toList] at e
  unfold PySem.W.lookIn
  rw [hd]
  dsimp only
  split
  · rename_i y q
    rw [q] at e
    exact congrArg some e
  · rename_i q
    rw [q] at e
    have a:es.toList.any (·.refKey) = false:=by
      rw [List.any_eq_false]
      intro y hy
      obtain ⟨z, t, hkey⟩:=hk y (Array.mem_toList_iff.mp hy)
      simp [DictEntry.refKey, hkey]
    have a':¬ es.toList.any (·.refKey) = true:=by rw [a]; exact Bool.false_ne_true
    rw [if_neg a']
    exact congrArg some e
theorem ObjM.look {h:Heap} {x dx C:Addr} {mA:Str → Option Value} (I:ObjM h x dx C mA):∃ od, PySem.W.InstAt h x (PySem.W.instObj C dx) C (some od) ∧ ∀ name, PySem.W.lookIn name od = some (mA name) :=
  let ⟨od, ho, hl⟩:=lookIn_ns I.ns
  ⟨od, ⟨I.obj, rfl, rfl, ho⟩, hl⟩
section
variable {prog:Program} {w:World} {A:Around} {E:Value → Shared → Prop} {s:Shared} {K:PySem.W.Frag} {x dx C f:Addr} {mA:Str → Option Value} {name:Str} {v:Value}
theorem get_map {expr:Bool} {Q:Value → Shared → Prop} (X:K.In s.heap) (I:ObjM s.heap x dx C mA) (hg:PySem.W.plainGet K C name = true) (hh:PySem.W.hasDictIn K C = true)
    (ha:PySem.W.findIn K (.ref C) name = some none) (hv:mA name = some v) (hv':PySem.W.handedIn v = true) (h:Q v { s with toks:=s.toks + 1 }) :
    wpAny (model prog w) A (getAttr (.ref x) name expr) Q E s:=by
  obtain ⟨od, J, hl⟩:=I.look
  exact PySem.W.get_value X J (PySem.W.plainGet_of hg).1 (PySem.W.findObj_own hh ha rfl (by rw [hl, hv])) hv' h
theorem get_meth {pl:Sem Bool} {Q:Value × List Value → Shared → Prop} (X:K.In s.heap) (I:ObjM s.heap x dx C mA) (hg:PySem.W.plainGet K C name = true)
    (hf:PySem.W.findIn K (.ref C) name = some (some (.ref f))) (ht:PySem.W.isFn K (.ref f) = true) (hv:mA name = none) (h:Q (.ref f, [.ref x]) s) :
    wpAny (model prog w) A (getMethod (.ref x) name pl) Q E s:=by
  obtain ⟨od, J, hl⟩:=I.look
  exact PySem.W.method_fn X J (PySem.W.plainGet_of hg).1 (PySem.W.plainGet_of hg).2 hf (beq_iff_eq.mp ht) (by show (PySem.W.lookIn name od).map (·.isSome) = some false; rw [hl, hv]; rfl) h
theorem set_map {ns:List Str} {Q:Unit → Shared → Prop} (X:K.In s.heap) (I:ObjM s.heap x dx C mA)
    (hs:PySem.W.findIn K (.ref C) "__setattr__" = some (some (.builtin "object.__setattr__"))) (hp:PySem.W.plainOver K C = true) (ht:PySem.W.takerIn K C name = some none) (hh:PySem.W.hasDictIn K C = true)
    (hw:PySem.Within mA ns) (hsz:ns.length ≤ sizeLine)
    (h:∀ h', ObjM h' x dx C (fun y=>if y = name then some v else mA y) → Heap.SameBut dx s.heap h' → Q () { s with heap:=h', toks:=s.toks + 2 }) :
    wpAny (model prog w) A (setAttr (.ref x) name v) Q E s:=by
  obtain ⟨od, J, hl⟩:=I.look
  refine PySem.W.set_plain X J hs (PySem.W.osa_open (s:={ s with toks:=s.toks + 1 }) (r:=none) X J hp ht fun b=>?_)
  obtain ⟨cd, hc, hd'⟩:=PySem.W.any_some hh
  have hx:s.heap.get? x = some ⟨.ref C, some dx, .plain, #[]⟩:=I.obj
  refine wpAny_bind (wpAny_pure (wpAny_bind (wpAny_bind (wpAny_loadPart hx (wpAny_bind (PySem.W.Looks.here (s:={ s with toks:=s.toks + 1 }) (PySem.W.looks_clsIn X hc) ?_))))))
  rw [hd']
  refine wpAny_pure (a:=some dx) (wpAny_bind (wpAny_pure (wpAny_bind ?_)))
  refine wpAny_nsSet1 (s:={ s with toks:=s.toks + 1 }) I.ns fun h' hn2 hs2=>?_
  obtain ⟨oD, esD, epD, hoD, hdD, hcD⟩:=hn2.count (PySem.Within.cons name v hw)
  refine wpAny_bind (wpAny_lookBehind hoD (by rw [hdD]; exact pastItsLine_dict (Nat.le_trans hcD (by rw [List.length_cons]; omega))) ?_)
  exact wpAny_pure (h _ ⟨(hs2.2 _ (Ne.symm I.ne)).trans I.obj, hn2, I.ne⟩ hs2)
theorem make_map {R:Result → Shared → Prop} {vs:List Value} {kw:List (Str × Value)} (X:K.In s.heap) (hm:PySem.W.makesIn K C = true)
    (hi:PySem.W.findIn K (.ref C) "__init__" = some (some (.ref f))) (hf:PySem.W.typeIn K (.ref f) = some (.type "function"))
    (h:codeAny (model prog w) (A.under (.builtin "type.__call__" ⟨.ref C :: vs, kw⟩)) (.call (.ref f) ⟨.ref (s.heap.objs.size + 1) :: vs, kw⟩) (PySem.W.InitBack (s.heap.objs.size + 1) R)
      { s with heap:=(s.heap.push PySem.W.emptyDict).push (PySem.W.instObj C s.heap.objs.size) }) :
    codeAny (model prog w) A (.call (.ref C) ⟨vs, kw⟩) R s:=by
  obtain ⟨hh, g, d, t, os⟩:=s
  exact PySem.W.make_core (PySem.W.makes_of X hm) (PySem.W.looks_findIn X hi) (fun self=>PySem.W.bind_fn X self hf) (.inl rfl) h
end
noncomputable def putF (f:Str) (v:V):List (Str × V) → List (Str × V)
  | []=>[(f, v)]
  | (g, x) :: r=>if g = f then (g, v) :: r else (g, x) :: putF f v r
theorem lookup_putF (f g:Str) (v:V):∀ fs:List (Str × V), (putF f v fs).lookup g = if g = f then some v else fs.lookup g
  | []=>by
    show List.lookup g [(f, v)] = _
    by_cases h:g = f
    · have hb:(g == f) = true:=beq_iff_eq.mpr h
      simp only [List.lookup, hb, if_pos h]
    · have hb:(g == f) = false:=beq_eq_false_iff_ne.mpr h
      simp only [List.lookup, hb, if_neg h]
  | (k, x) :: r=>by
    have ih:=lookup_putF f g v r
    rw [show putF f v ((k, x) :: r) = (if k = f then (k, v) :: r else (k, x) :: putF f v r) from rfl]
    by_cases hk:k = f
    · rw [if_pos hk]
      by_cases h:g = k
      · have hb:(g == k) = true:=beq_iff_eq.mpr h
        simp only [List.lookup, hb, if_pos (h.trans hk)]
      · have hb:(g == k) = false:=beq_eq_false_iff_ne.mpr h
        simp only [List.lookup, hb, if_neg (fun e:g = f=>h (e.trans hk.symm))]
    · rw [if_neg hk]
      by_cases h:g = k
      · have hb:(g == k) = true:=beq_iff_eq.mpr h
        simp only [List.lookup, hb, if_neg (fun e:g = f=>hk (h.symm.trans e))]
      · have hb:(g == k) = false:=beq_eq_false_iff_ne.mpr h
        simp only [List.lookup, hb]
        exact ih
theorem keys_putF (f:Str) (v:V):∀ fs:List (Str × V), f ∈ (putF f v fs).map (·.1) ∧ ∀ g, g ∈ fs.map (·.1) → g ∈ (putF f v fs).map (·.1)
  | []=>⟨by simp [putF], fun g h=>by simp at h⟩
  | (k, x) :: r=>by
    obtain ⟨i1, i2⟩:=keys_putF f v r
    rw [show putF f v ((k, x) :: r) = (if k = f then (k, v) :: r else (k, x) :: putF f v r) from rfl]
    by_cases hk:k = f
    · rw [if_pos hk]
      subst hk
      exact ⟨by simp, fun g h=>by simpa using h⟩
    · rw [if_neg hk]
      refine ⟨?_, fun g h=>?_⟩
      · rw [List.map_cons]
        exact List.mem_cons_of_mem _ i1
      · rw [List.map_cons] at h ⊢
        rcases List.mem_cons.mp h with e | e
        · exact List.mem_cons.mpr (.inl e)
        · exact List.mem_cons_of_mem _ (i2 g e)
theorem length_putF (f:Str) (v:V):∀ fs:List (Str × V), (putF f v fs).length ≤ fs.length + 1
  | []=>by simp [putF]
  | (k, x) :: r=>by
    have ih:=length_putF f v r
    rw [show putF f v ((k, x) :: r) = (if k = f then (k, v) :: r else (k, x) :: putF f v r) from rfl]
    by_cases hk:k = f
    · rw [if_pos hk, List.length_cons, List.length_cons]; omega
    · rw [if_neg hk, List.length_cons, List.length_cons]; omega
theorem RelO.some_of {v:V} {o:Option Value} (r:RelO (some v) o):∃ u, o = some u ∧ RelV v u:=by
  cases o with
  | none=>exact (show False from r).elim
  | some u=>exact ⟨u, rfl, r⟩
theorem RelO.none_of {o:Option Value} (r:RelO none o):o = none:=by
  cases o with
  | none=>rfl
  | some u=>exact (show False from r).elim
theorem handed_of {v:V} {u:Value} (r:RelV v u):PySem.W.handedIn u = true:=by
  cases v with
  | non=>cases (show u = Value.none from r); rfl
  | bl b=>cases (show u = Value.bool b from r); rfl
  | int i=>obtain ⟨t, e⟩:=(show ∃ t, u = Value.int i t from r); cases e; rfl
  | str x=>obtain ⟨t, e⟩:=(show ∃ t, u = Value.str x t from r); cases e; rfl
  | byt b=>obtain ⟨t, e⟩:=(show ∃ t, u = Value.bytes b t from r); cases e; rfl
  | flt b=>obtain ⟨t, e⟩:=(show ∃ t, u = Value.float b t from r); cases e; rfl
  | ref a=>cases (show u = Value.ref a from r); rfl
  | ty n=>cases (show u = Value.type n from r); rfl
section
variable {P:Program} {w:World} {H H':Hp} {h h':Heap} {a C dx:Addr} {fs fs':List (Str × V)}
theorem ins_get (hok:HOk P w H h) (e:H a = some (.ins C dx fs)):∃ mA, ObjM h a dx C mA ∧ (∀ f, RelO (fs.lookup f) (mA f)) ∧ PySem.Within mA (fs.map (·.1)) ∧ fs.length ≤ 1000 ∧ H dx = some (.own a):=by
  obtain ⟨d, z, ne, ob, mA, n, r, q⟩:=(show ObjOk P w H h a (.ins C dx fs) from hok a _ e)
  exact ⟨mA, ⟨ob, n, ne⟩, r, q, z, d⟩
end
structure Cls (K:PySem.W.Frag) (C:Addr):Prop where
  pg:PySem.W.plainGet K C Str.empty = true
  hd:PySem.W.hasDictIn K C = true
  po:PySem.W.plainOver K C = true
  sa:PySem.W.findIn K (.ref C) "__setattr__" = some (some (.builtin "object.__setattr__"))
theorem Cls.get {K:PySem.W.Frag} {C:Addr} (c:Cls K C) (f:Str):PySem.W.plainGet K C f = true:=c.pg
noncomputable def NoAttr (K:PySem.W.Frag) (C:Addr) (f:Str):Prop:=PySem.W.findIn K (.ref C) f = some none
theorem NoAttr.taker {K:PySem.W.Frag} {C:Addr} {f:Str} (n:NoAttr K C f):PySem.W.takerIn K C f = some none:=by
  unfold PySem.W.takerIn
  rw [show PySem.W.findIn K (.ref C) f = some none from n]
  rfl
structure Meth (K:PySem.W.Frag) (C:Addr) (m:Str) (f:Addr):Prop where
  at_:PySem.W.findIn K (.ref C) m = some (some (.ref f))
  fn:PySem.W.isFn K (.ref f) = true
  kp:PySem.W.keepIn K (.ref f) = true
section
variable {X:Cx} {pins:List (Addr × Obj)} {σ:St} {H:Hp} {s:Shared} {a C dx:Addr} {fs:List (Str × V)} {f:Str} {v:V} {A:Around} {E:Value → Shared → Prop}
theorem getattr_ok {b:Bool} {Q:Value → Shared → Prop} (I:Inv X pins σ H s) (e:H a = some (.ins C dx fs)) (c:Cls X.K C) (n:NoAttr X.K C f) (l:fs.lookup f = some v)
    (h:∀ u s', Inv X pins σ H s' → RelV v u → Q u s'):wpAny (model X.prog X.w) A (getAttr (.ref a) f b) Q E s:=by
  obtain ⟨mA, O, r, _, _, _⟩:=ins_get I.hok e
  obtain ⟨u, hu, ru⟩:=RelO.some_of (v:=v) (o:=mA f) (by rw [← l]; exact r f)
  exact get_map I.kIn O (c.get f) c.hd n hu (handed_of ru) (h u _ (I.tok _) ru)
theorem getmeth_ok {m:Str} {g:Addr} {pl:Sem Bool} {Q:Value × List Value → Shared → Prop} (I:Inv X pins σ H s) (e:H a = some (.ins C dx fs)) (c:Cls X.K C) (k:Meth X.K C m g) (l:fs.lookup m = none)
    (h:Q (.ref g, [.ref a]) s):wpAny (model X.prog X.w) A (getMethod (.ref a) m pl) Q E s:=by
  obtain ⟨mA, O, r, _, _, _⟩:=ins_get I.hok e
  have hn:mA m = none:=RelO.none_of (by rw [← l]; exact r m)
  exact get_meth I.kIn O (c.get m) k.at_ k.fn hn h
theorem setattr_ok {y:V} {u:Value} {Q:Unit → Shared → Prop} (I:Inv X pins σ H s) (e:H a = some (.ins C dx fs)) (c:Cls X.K C) (n:NoAttr X.K C f) (hl:fs.length < 1000) (ry:RelV y u)
    (h:∀ s', Inv X pins σ (upd H a (.ins C dx (putF f y fs))) s' → Q () s'):wpAny (model X.prog X.w) A (setAttr (.ref a) f u) Q E s:=by
  obtain ⟨mA, O, r, wi, _, ho⟩:=ins_get I.hok e
  have hz:(fs.map (·.1)).length ≤ sizeLine:=by rw [List.length_map, sizeLine_eq]; omega
  refine set_map I.kIn O c.sa c.po n.taker c.hd wi hz fun h' O' sb=>h _ ?_
  have hd:∃ o, h'.get? dx = some o:=let ⟨o, _, _, e', _⟩:=O'.ns; ⟨o, e'⟩
  refine I.write (x:=a) (e:=dx) (by rw [e]; exact True.intro) (.inr ho) (fun b q hb z=>(sb.2 b hb).trans z) hd ?_
  refine ⟨by rw [upd_ne O.ne]; exact ho, ?_, O.ne, O'.obj, _, O'.ns, fun g=>?_, fun g hg=>?_⟩
  · have:=length_putF f y fs; omega
  · show RelO ((putF f y fs).lookup g) (if g = f then some u else mA g)
    rw [lookup_putF]
    by_cases q:g = f
    · rw [if_pos q, if_pos q]; exact ry
    · rw [if_neg q, if_neg q]; exact r g
  · by_cases q:g = f
    · rw [q]; exact (keys_putF f y fs).1
    · refine (keys_putF f y fs).2 g (wi g fun z=>hg ?_)
      show (if g = f then some u else mA g) = none
      rw [if_neg q]; exact z
theorem Inv.made (I:Inv X pins σ H s):Inv X pins σ (upd (upd H s.heap.objs.size (.own (s.heap.objs.size + 1))) (s.heap.objs.size + 1) (.ins C s.heap.objs.size []))
    { s with heap:=(s.heap.push PySem.W.emptyDict).push (PySem.W.instObj C s.heap.objs.size) }:=by
  have e1:(s.heap.push PySem.W.emptyDict).get? s.heap.objs.size = some PySem.W.emptyDict:=Heap.get?_push_size s.heap rfl
  have e2:((s.heap.push PySem.W.emptyDict).push (PySem.W.instObj C s.heap.objs.size)).get? (s.heap.objs.size + 1) = some (PySem.W.instObj C s.heap.objs.size):=by
    have:=Heap.get?_push_size (s.heap.push PySem.W.emptyDict) (o:=PySem.W.instObj C s.heap.objs.size) rfl
    rwa [Heap.size_push] at this
  have e3:(s.heap.push PySem.W.emptyDict).Ns s.heap.objs.size (fun _=>none):=⟨PySem.W.emptyDict, #[], _, e1, rfl, (fun e he=>absurd he (by simp)), fun _=>rfl⟩
  have I1:=I.laid (a:=s.heap.objs.size) (o:=.own (s.heap.objs.size + 1)) (h':=s.heap.push PySem.W.emptyDict) (t':=s.toks) (fun b u q=>Heap.get?_push_of_some _ q) (Nat.le_refl _) ⟨_, e1⟩
  refine I1.laid (a:=s.heap.objs.size + 1) (o:=.ins C s.heap.objs.size []) (t':=s.toks) (fun b u q=>Heap.get?_push_of_some _ q) (Nat.le_of_eq (Heap.size_push _ _)) ?_
  have ne:s.heap.objs.size ≠ s.heap.objs.size + 1:=Nat.ne_of_lt (Nat.lt_succ_self _)
  refine ⟨by rw [upd_ne ne, upd_same], Nat.zero_le _, ne, e2, fun _=>none, (Heap.Ns1.of_empty e3).at fun o q=>Heap.get?_push_of_some _ q, fun _=>True.intro, fun y hy=>absurd rfl hy⟩
theorem attr_of {prog:Program} {w:World} {env:Env} {e:Expr} {f:Str} {pos:Pos} {s:Shared} {Q:Value → Shared → Prop} (hb:attributeBase e f env (eval e env) = eval e env)
    (h:wpAny (model prog w) A (eval e env) (fun o s₁=>wpAny (model prog w) A (getAttr o f true) Q E s₁) E s):wpAny (model prog w) A (eval (.Attribute e f pos) env) Q E s :=
  Attribute_any_ h (by rw [arm_eval_Attribute, hb])
end
noncomputable def tFld (K:PySem.W.Frag) (ta:TE) (f:Str):TE:=fun σ H Q=>ta σ H fun x H1=>exR x fun a=>∃ C dx fs v, H1 a = some (.ins C dx fs) ∧ Cls K C ∧ NoAttr K C f ∧ fs.lookup f = some v ∧ Q v H1
noncomputable def sFld (K:PySem.W.Frag) (ta tv:TE) (f:Str):TS:=fun D σ H=>tv σ H fun y H1=>ta σ H1 fun x H2=>exR x fun a=>∃ C dx fs, H2 a = some (.ins C dx fs) ∧ Cls K C ∧ NoAttr K C f ∧ fs.length < 1000 ∧
  D.nx σ (upd H2 a (.ins C dx (putF f y fs)))
section
variable {X:Cx} {o e value:Expr} {f:Str} {pos pos' tpos:Pos} {ta tv:TE}
theorem pe_fld (he:PE X e ta) (hb:attributeBase e f X.env (eval e X.env) = eval e X.env):PE X (.Attribute e f pos) (tFld X.K ta f):=by
  intro pins s σ H Q I h
  refine attr_of hb (thn (he pins s σ H _ I h) fun u s1 ⟨x, H1, I1, rx, q0⟩=>?_)
  obtain ⟨a, ex, C, dx, fs, v, ea, c, n, l, q⟩:=Eq.mp exR_ex q0
  subst ex
  obtain rfl:u = Value.ref a:=rx
  exact getattr_ok I1 ea c n l fun u' s2 I2 ru=>⟨v, H1, I2, ru, q⟩
theorem ps_fld (ha:PE X o ta) (hv:PE X value tv) (hs:swapsWith value (some (.Attribute o f pos')) pos.line X.env = pure false):PS X (.Assign [.Attribute o f pos'] value pos) (sFld X.K ta tv f):=by
  intro pins s σ H D I h
  refine plainObj_wpAny_Assign_Attribute (thn (hv pins s σ H _ I h) fun u s1 ⟨y, H1, I1, ry, q⟩=>thn (ha pins s1 σ H1 _ I1 q) fun ov s2 ⟨x, H2, I2, rx, q0⟩=>?_) hs
  obtain ⟨a, ex, C, dx, fs, ea, c, n, l, q2⟩:=Eq.mp exR_ex q0
  subst ex
  obtain rfl:ov = Value.ref a:=rx
  exact setattr_ok I2 ea c n l ry fun s3 I3=>⟨σ, _, I3, q2⟩
end
section
variable {X:Cx} {pins:List (Addr × Obj)} {σ:St} {H:Hp} {s:Shared} {A:Around} {E:Value → Shared → Prop} {Q:Value → Shared → Prop} {c:Value} {b:Bool}
inductive TyOf (K:PySem.W.Frag) (H:Hp):V → Value → Prop where
  | non:TyOf K H .non (.type "NoneType")
  | bl (x:Bool):TyOf K H (.bl x) (.type "bool")
  | int (i:Int):TyOf K H (.int i) (.type "int")
  | str (x:Str):TyOf K H (.str x) (.type "str")
  | flt (x:UInt64):TyOf K H (.flt x) (.type "float")
  | lst {a:Addr} {xs:List V} (e:H a = some (.lst xs)):TyOf K H (.ref a) (.type "list")
  | frz {a:Addr} {o:Obj} {xs:List V} (e:H a = some (.frz o (.lst xs))):TyOf K H (.ref a) (.type "list")
  | tup {a:Addr} {xs:List V} (e:H a = some (.tup xs)):TyOf K H (.ref a) (.type "tuple")
  | dK {a:Addr} {kvs:List (Key × V)} (e:H a = some (.dK kvs)):TyOf K H (.ref a) (.type "dict")
  | dT {a:Addr} {kvs:List (List Key × V)} (e:H a = some (.dT kvs)):TyOf K H (.ref a) (.type "dict")
  | ins {a C dx:Addr} {fs:List (Str × V)} (e:H a = some (.ins C dx fs)) (cl:Cls K C) (ha:PySem.W.findIn K (.ref C) "__class__" = some (some (.builtin "object.__class__")))
      (hn:PySem.W.specialIn K (.builtin "object.__class__") "__get__" = some (some (.builtin "getset_descriptor.__get__"))) (htk:PySem.W.takesIn K (.builtin "object.__class__") = some true)
      (hm:PySem.W.mroIn K C (.type "object") = some true):TyOf K H (.ref a) (.ref C)
theorem isinst_ok {x:V} {u t:Value} (I:Inv X pins σ H s) (rx:RelV x u) (ty:TyOf X.K H x t) (e:PySem.W.kitOne X.K t c = some b) (h:∀ tk, Q (.bool b) { s with toks:=tk }) :
    wpAny (model X.prog X.w) A (call (.builtin "isinstance") [u, c]) Q E s:=by
  cases ty with
  | non=>cases (show u = Value.none from rx); exact PySem.W.kia_one PySem.W.kitx_none I.kIn True.intro e (fun z=>nomatch z) h
  | bl y=>cases (show u = Value.bool y from rx); exact PySem.W.kia_one PySem.W.kitx_bool I.kIn True.intro e (fun z=>nomatch z) h
  | int i=>obtain ⟨t, q⟩:=(show ∃ t, u = Value.int i t from rx); cases q; exact PySem.W.kia_one PySem.W.kitx_int I.kIn True.intro e (fun z=>nomatch z) h
  | str y=>obtain ⟨t, q⟩:=(show ∃ t, u = Value.str y t from rx); cases q; exact PySem.W.kia_one PySem.W.kitx_str I.kIn True.intro e (fun z=>nomatch z) h
  | flt y=>obtain ⟨t, q⟩:=(show ∃ t, u = Value.float y t from rx); cases q; exact PySem.W.kia_one PySem.W.kitx_float I.kIn True.intro e (fun z=>nomatch z) h
  | @lst a xs ea =>
    cases (show u = Value.ref a from rx)
    obtain ⟨_, _, n, _, h1⟩:=(show ObjOk X.prog X.w H s.heap a (.lst xs) from I.hok a _ ea)
    exact PySem.W.kia_one PySem.W.kitx_list I.kIn ⟨_, h1, rfl⟩ e (fun z=>nomatch z) h
  | @frz a ob xs ea =>
    cases (show u = Value.ref a from rx)
    obtain ⟨_, _, _, n, _, h1⟩:=(show ObjOk X.prog X.w H s.heap a (.frz ob (.lst xs)) from I.hok a _ ea)
    exact PySem.W.kia_one PySem.W.kitx_list I.kIn ⟨_, h1, rfl⟩ e (fun z=>nomatch z) h
  | @tup a xs ea =>
    cases (show u = Value.ref a from rx)
    obtain ⟨_, _, _, p⟩:=(show ObjOk X.prog X.w H s.heap a (.tup xs) from I.hok a _ ea)
    obtain ⟨o, h1, h2, _⟩:=p
    exact PySem.W.kia_one PySem.W.kitx_tuple I.kIn ⟨o, h1, h2⟩ e (fun z=>nomatch z) h
  | @dK a kvs ea =>
    cases (show u = Value.ref a from rx)
    obtain ⟨_, _, vs, _, p⟩:=(show ObjOk X.prog X.w H s.heap a (.dK kvs) from I.hok a _ ea)
    obtain ⟨o, es, ep, h1, h2, _⟩:=p
    exact PySem.W.kia_one PySem.W.kitx_dict I.kIn ⟨o, h1, h2.1⟩ e (fun z=>nomatch z) h
  | @dT a kvs ea =>
    cases (show u = Value.ref a from rx)
    obtain ⟨_, _, xs, _, o, es, ep, h1, h2, _⟩:=(show ObjOk X.prog X.w H s.heap a (.dT kvs) from I.hok a _ ea)
    exact PySem.W.kia_one PySem.W.kitx_dict I.kIn ⟨o, h1, h2.1⟩ e (fun z=>nomatch z) h
  | @ins a C dx fs ea cl ha hn htk hm =>
    cases (show u = Value.ref a from rx)
    obtain ⟨mA, O, _⟩:=ins_get I.hok ea
    obtain ⟨od, J, _⟩:=O.look
    exact PySem.W.kia_one (PySem.W.kitx_own (cl.get _) cl.hd ha hn htk hm) I.kIn J e (fun z=>nomatch z) h
end
end L2
namespace L2
open PySem PySem.Spec PyProof.Rows
structure Room (k:Nat) (A:Around):Prop where
  hd:A.handled = none
  dp:A.depth + 3 * k + 5 < recursionLimit
  un:A.units + 16 * k + 200 < cLine
theorem Room.mono {j k:Nat} {A:Around} (r:Room k A) (h:j ≤ k):Room j A:=⟨r.hd, by have:=r.dp; omega, by have:=r.un; omega⟩
theorem Room.deeper {k:Nat} {A:Around} (r:Room (k + 1) A) (env:Env):Room k (A.deeper env) :=
  ⟨r.hd, by have:=r.dp; show A.depth + 1 + 3 * k + 5 < _; omega, by have:=r.un; show A.units + 3 + 16 * k + 200 < _; omega⟩
theorem make_depth {A:Around} {C:Addr} {us:List Value} {kw:List (Str × Value)}:(A.under (.builtin "type.__call__" ⟨.ref C :: us, kw⟩)).depth = A.depth + 1:=by
  first | rfl | simp [Around.under, Code.weight, Code.isCreation, Code.isGuard, Code.isCaller, Code.frames, Code.isFrame, guardIds]
theorem make_units {A:Around} {C:Addr} {us:List Value} {kw:List (Str × Value)}:(A.under (.builtin "type.__call__" ⟨.ref C :: us, kw⟩)).units = A.units + 1:=by
  first | rfl | simp [Around.under, Code.cUnits, Code.frames, Code.isFrame]
theorem Room.make {k:Nat} {A:Around} (r:Room (k + 1) A) (C:Addr) (us:List Value) (kw:List (Str × Value)):Room k (A.under (.builtin "type.__call__" ⟨.ref C :: us, kw⟩)) :=
  ⟨r.hd, by have:=r.dp; rw [make_depth]; omega, by have:=r.un; rw [make_units]; omega⟩
theorem Room.depth {k:Nat} {A:Around} (r:Room k A):A.depth < recursionLimit:=by have:=r.dp; omega
theorem Room.units {k:Nat} {A:Around} (r:Room k A):A.units + 64 < cLine:=by have:=r.un; omega
noncomputable def tNil:TA:=fun _ H Q=>Q [] H
noncomputable def tCons (ta:TE) (tr:TA):TA:=fun σ H Q=>ta σ H fun x H1=>tr σ H1 fun xs H2=>Q (x :: xs) H2
section
variable {X:Cx} {e:Expr} {es:List Expr} {te:TE} {t:TA} {pos:Pos}
theorem pa_nil:PA X [] tNil:=fun _ _ _ _ H Q I h=>Calls.spliced_nil ⟨[], H, I, .nil, h⟩
theorem pa_cons (ha:PE X e te) (hr:PA X es t) (hs:starEach (e :: es) X.env = (false, eval e X.env) :: starEach es X.env:=by rfl):PA X (e :: es) (tCons te t):=by
  intro pos pins s σ H Q I h
  rw [hs]
  show wpAny _ _ (spliced ((false, eval e X.env) :: backTo pos (starEach es X.env))) _ _ s
  refine Calls.spliced_cons (thn (ha pins s σ H _ I h) fun u s1 ⟨x, H1, I1, r1, q1⟩=>?_)
  exact thn (hr pos pins s1 σ H1 _ I1 q1) fun us s2 ⟨xs, H2, I2, r2, q2⟩=>⟨x :: xs, H2, I2, .cons r1 r2, q2⟩
noncomputable def tTup (t:TA):TE:=fun σ H Q=>t σ H fun xs H1=>xs.length ≤ sizeLine ∧ ∀ p, H1 p = none → Q (.ref p) (upd H1 p (.tup xs))
noncomputable def tLst (t:TA):TE:=fun σ H Q=>t σ H fun xs H1=>xs.length ≤ sizeLine ∧ ∀ p, H1 p = none → Q (.ref p) (upd H1 p (.lst xs))
theorem pe_tup {x1} (h:PA X es t):PE X (.Tuple es x1 pos) (tTup t):=by
  intro pins s σ H Q I hq
  refine wpAny_Tuple_spliced (thn (h pos pins s σ H _ I hq) fun us s1 ⟨xs, H1, I1, r, z, q⟩=>⟨by rw [← r.length]; exact z, ?_⟩)
  have hf:H1 s1.heap.objs.size = none:=I1.hok.fresh (Nat.le_refl _)
  refine ⟨.ref s1.heap.objs.size, upd H1 s1.heap.objs.size (.tup xs), I1.laid (t':=s1.toks) (fun b u e=>Heap.get?_push_of_some _ e) (Nat.le_refl _) ?_, rfl, q _ hf⟩
  exact ⟨z, us, r, ⟨_, Heap.get?_push_size _ rfl, rfl, _, rfl⟩⟩
theorem pe_lst (h:PA X es t):PE X (.List es pos) (tLst t):=by
  intro pins s σ H Q I hq
  refine wpAny_List_spliced (thn (h pos pins s σ H _ I hq) fun us s1 ⟨xs, H1, I1, r, z, q⟩=>⟨by rw [← r.length]; exact z, ?_⟩)
  have hf:H1 s1.heap.objs.size = none:=I1.hok.fresh (Nat.le_refl _)
  refine ⟨.ref s1.heap.objs.size, upd H1 s1.heap.objs.size (.lst xs), I1.laid (t':=s1.toks) (fun b u e=>Heap.get?_push_of_some _ e) (Nat.le_refl _) ?_, rfl, q _ hf⟩
  exact ⟨z, us, 0, r, Heap.get?_push_size _ rfl⟩
end
noncomputable abbrev Sp:=List V → Hp → VK → XK → Prop
noncomputable abbrev CXT:=List Env → Hp → Shared → XK → Value → Shared → Prop
structure Env0 (P:Program) (w:World) (K:PySem.W.Frag) (mg:Str → Option Value) (base:Heap) (A:Around) (outer:List Env) (s:Shared) (H:Hp):Prop where
  frames:A.frames = some outer
  mod:Mod K mg base
  bs:∀ b o, base.get? b = some o → s.heap.get? b = some o ∧ H b = none
  bsz:base.objs.size ≤ s.heap.objs.size
  funs:s.heap.FunFrames base outer
  frf:∀ b ∈ frs outer, H b = none
  hok:HOk P w H s.heap
  bare:AllBare s.gens
noncomputable def CE (outer:List Env) (P:Program) (w:World) (H:Hp) (s:Shared) (Q:VK) (u:Value) (s':Shared):Prop :=
  ∃ v H', s'.os = s.os ∧ AllBare s'.gens ∧ Un (frs outer) [] H H' s.heap s'.heap ∧ HOk P w H' s'.heap ∧ RelV v u ∧ Q v H'
noncomputable def CR (CX:CXT) (outer:List Env) (P:Program) (w:World) (H:Hp) (s:Shared) (Q:VK) (E:XK) (r:Result) (s':Shared):Prop :=
  match r with
  | .ok (.ret u)=>CE outer P w H s Q u s'
  | .ok _=>False
  | .error e=>CX outer H s E e s'
structure FnOk (P:Program) (w:World) (K:PySem.W.Frag) (mg:Str → Option Value) (base:Heap) (CX:CXT) (k:Nat) (f:Addr) (fd:FuncData) (ps:List Str) (sp:Sp):Prop where
  len:∀ vs H Q E, sp vs H Q E → vs.length = ps.length
  run:∀ (A:Around) (outer:List Env) (s:Shared) (H:Hp) (args:Args) (us:List Value) (vs:List V) (Q:VK) (E:XK), Room k A → Env0 P w K mg base A outer s H → BindsTo s fd args (ps.zip us) → Vals vs us → sp vs H Q E →
    codeAny (model P w) A (.call (.ref f) args) (CR CX outer P w H s Q E) s
theorem Env0.make {P:Program} {w:World} {K:PySem.W.Frag} {mg:Str → Option Value} {base:Heap} {A:Around} {outer:List Env} {s:Shared} {H:Hp} (e:Env0 P w K mg base A outer s H) (C:Addr) (us:List Value) (kw:List (Str × Value)) :
    Env0 P w K mg base (A.under (.builtin "type.__call__" ⟨.ref C :: us, kw⟩)) outer s H:=⟨by first | exact e.frames | (simpa [Around.under, Code.envs, Code.isFrame, pushEnvs] using e.frames), e.mod, e.bs, e.bsz, e.funs, e.frf, e.hok, e.bare⟩
section
variable {X:Cx} {pins:List (Addr × Obj)} {σ:St} {H:Hp} {s s':Shared}
theorem Inv.env0 (I:Inv X pins σ H s):Env0 X.prog X.w X.K X.mg X.base X.A X.stack s H :=
  ⟨I.ok.frames, I.ok.mod, I.bs, Nat.le_trans I.ok.bsz I.sz, I.stack, I.stkFree, I.hok, I.bare⟩
theorem Inv.after {Q:VK} {u:Value} (I:Inv X pins σ H s) (h:CE X.stack X.prog X.w H s Q u s'):EP X pins σ Q u s':=by
  obtain ⟨v, H', os, bare, un, hok, r, q⟩:=h
  obtain ⟨hh, g, d, t, os'⟩:=s'
  obtain rfl:os' = s.os:=os
  exact ⟨v, H', I.call (h':=hh) (g':=g) (d':=d) (t':=t) (ch:=[]) un hok bare (fun b z=>absurd z (by simp)), r, q⟩
end
noncomputable def tCall (sp:Sp) (dvs:List V) (E:XK) (t:TA):TE:=fun σ H Q=>t σ H fun vs H1=>sp (vs ++ dvs) H1 Q E
noncomputable def tMeth (C:Addr) (m:Str) (sp:Sp) (dvs:List V) (E:XK) (ta:TE) (t:TA):TE:=fun σ H Q=>ta σ H fun x H1=>exR x fun a=>∃ dx fs, H1 a = some (.ins C dx fs) ∧ fs.lookup m = none ∧
  t σ H1 fun vs H2=>sp (x :: (vs ++ dvs)) H2 Q E
noncomputable def tMake (C:Addr) (sp:Sp) (dvs:List V) (E:XK) (t:TA):TE:=fun σ H Q=>t σ H fun vs H1=>∀ x dx, H1 x = none → H1 dx = none → dx ≠ x →
  sp (.ref x :: (vs ++ dvs)) (upd (upd H1 dx (.own x)) x (.ins C dx [])) (fun v H2=>v = .non ∧ Q (.ref x) H2) E
noncomputable def Binds (K:PySem.W.Frag) (fd:FuncData) (ps:List Str) (ds:List Value):Prop :=
  ∀ (s:Shared) (us:List Value), K.In s.heap → (us ++ ds).length = ps.length → BindsTo s fd ⟨us, []⟩ (ps.zip (us ++ ds))
theorem Binds.all {K:PySem.W.Frag} {fd:FuncData} {ps:List Str} (h:∀ us:List Value, us.length = ps.length → bindArgs fd ⟨us, []⟩ = pure (ps.zip us)):Binds K fd ps []:=fun s us _ hl=>by
  rw [List.append_nil] at hl ⊢
  exact .of_eq (h us hl)
noncomputable def Passes (CX:CXT) (X:Cx) (E:XK):Prop:=∀ (pins:List (Addr × Obj)) (σ:St) (H:Hp) (s:Shared) (e:Value) (s':Shared), Inv X pins σ H s → CX X.stack H s E e s' → X.xe e s'
section
variable {X:Cx} {CX:CXT} {k:Nat} {f C:Addr} {fd:FuncData} {ps:List Str} {sp:Sp} {dvs:List V} {ds:List Value} {E:XK} {x m:Str} {p pos apos:Pos} {e o:Expr} {es:List Expr} {ta:TE} {t:TA}
theorem run_fn {pins:List (Addr × Obj)} {σ:St} {H:Hp} {s:Shared} {Q:VK} {us:List Value} {vs:List V} (F:FnOk X.prog X.w X.K X.mg X.base CX k f fd ps sp) (hr:Room k X.A) (hb:Binds X.K fd ps ds) (hd:Vals dvs ds) (hx:Passes CX X E)
    (I:Inv X pins σ H s) (r:Vals vs us) (h:sp (vs ++ dvs) H Q E):wpAny (model X.prog X.w) X.A (call (.ref f) us) (EP X pins σ Q) X.xe s:=by
  have r2:Vals (vs ++ dvs) (us ++ ds):=r.append hd
  have hl:(us ++ ds).length = ps.length:=by rw [← r2.length]; exact F.len _ _ _ _ h
  refine wpAny_call (codeAny_mono (F.run X.A X.stack s H ⟨us, []⟩ (us ++ ds) (vs ++ dvs) Q E hr I.env0 (hb s us I.kIn hl) r2 h) fun r s' hq=>?_)
  cases r with
  | error e=>exact hx pins σ H s e s' I hq
  | ok fl =>
    cases fl with
    | ret u=>exact I.after hq
    | next=>exact False.elim hq
    | brk=>exact False.elim hq
    | cont=>exact False.elim hq
theorem pe_call (F:FnOk X.prog X.w X.K X.mg X.base CX k f fd ps sp) (hr:Room k X.A) (hg:Gl X x) (hm:X.mg x = some (.ref f)) (hk:PySem.W.keepIn X.K (.ref f) = true) (hb:Binds X.K fd ps ds) (hd:Vals dvs ds) (hx:Passes CX X E)
    (ha:PA X (e :: es) t) (hdb:(x == ("__debug__" : Str)) = false:=by decide) (he:starEach (e :: es) X.env = (false, eval e X.env) :: starEach es X.env:=by rfl) (hpl:(backTo pos (starEach es X.env)).any (·.1) = false:=by rfl) :
    PE X (.Call (.Name x p) (e :: es) [] pos) (tCall sp dvs E t):=by
  intro pins s σ H Q I h
  refine wpAny_Call_Name_kw (ld_glob I hg hm ?_ hdb)
  refine PySem.W.callWith_K (h₀:=X.base) I.ok.mod.kin hk (thn (ha pos pins s σ H _ I h) fun us s1 ⟨vs, H1, I1, r, q⟩=>⟨I1.kIn, ?_⟩) he hpl
  exact run_fn F hr hb hd hx I1 r q
theorem pe_meth {pl:Sem Bool} (he:PE X o ta) (c:Cls X.K C) (hm:Meth X.K C m f) (F:FnOk X.prog X.w X.K X.mg X.base CX k f fd ps sp) (hr:Room k X.A) (hb:Binds X.K fd ps ds) (hd:Vals dvs ds) (hx:Passes CX X E) (ha:PA X (e :: es) t)
    (hst:starEach (e :: es) X.env = (false, eval e X.env) :: starEach es X.env:=by rfl) (hpl:(backTo pos (starEach es X.env)).any (·.1) = false:=by rfl)
    (ht:eval (.Call (.Attribute o m apos) (e :: es) [] pos) X.env = (do
      let ov ← eval o X.env
      standAt apos.atName
      let (f, first) ← holding [ov] (getMethod ov m pl)
      callWith pos f first (backTo pos (starEach (e :: es) X.env)) (backToKw pos (keywordEach [] X.env))):=by rfl) :
    PE X (.Call (.Attribute o m apos) (e :: es) [] pos) (tMeth C m sp dvs E ta t):=by
  intro pins s σ H Q I h
  refine PySem.W.methodCall_KW (pl:=pl) (thn (he pins s σ H _ I h) fun u s1 ⟨x, H1, I1, rx, q0⟩=>?_) ht
  obtain ⟨a, ex, dx, fs, ea, l, q⟩:=Eq.mp exR_ex q0
  subst ex
  obtain rfl:u = Value.ref a:=rx
  refine getmeth_ok I1 ea c hm l ?_
  refine PySem.W.callWith_K (first:=[.ref a]) (h₀:=X.base) I.ok.mod.kin hm.kp (thn (ha pos pins s1 σ H1 _ I1 q) fun us s2 ⟨vs, H2, I2, r, q2⟩=>⟨I2.kIn, ?_⟩) hst hpl
  exact run_fn (us:=.ref a :: us) (vs:=.ref a :: vs) F hr hb hd hx I2 (.cons rfl r) q2
theorem pe_meth0 {pl:Sem Bool} (he:PE X o ta) (c:Cls X.K C) (hm:Meth X.K C m f) (F:FnOk X.prog X.w X.K X.mg X.base CX k f fd ps sp) (hr:Room k X.A) (hb:Binds X.K fd ps ds) (hd:Vals dvs ds) (hx:Passes CX X E)
    (ht:eval (.Call (.Attribute o m apos) [] [] pos) X.env = (do
      let ov ← eval o X.env
      standAt apos.atName
      let (f, first) ← holding [ov] (getMethod ov m pl)
      callWith pos f first (backTo pos (starEach [] X.env)) (backToKw pos (keywordEach [] X.env))):=by rfl) :
    PE X (.Call (.Attribute o m apos) [] [] pos) (tMeth C m sp dvs E ta tNil):=by
  intro pins s σ H Q I h
  refine PySem.W.methodCall_KW (pl:=pl) (thn (he pins s σ H _ I h) fun u s1 ⟨x, H1, I1, rx, q0⟩=>?_) ht
  obtain ⟨a, ex, dx, fs, ea, l, q⟩:=Eq.mp exR_ex q0
  subst ex
  obtain rfl:u = Value.ref a:=rx
  refine getmeth_ok I1 ea c hm l ?_
  exact PySem.W.callWith_K0 (first:=[.ref a]) I1.kIn hm.kp (run_fn (us:=[.ref a]) (vs:=[.ref a]) F hr hb hd hx I1 (.cons rfl .nil) q)
structure Mk (K:PySem.W.Frag) (C f:Addr):Prop where
  makes:PySem.W.makesIn K C = true
  init:PySem.W.findIn K (.ref C) "__init__" = some (some (.ref f))
  fn:PySem.W.isFn K (.ref f) = true
  kp:PySem.W.keepIn K (.ref C) = true
theorem run_make {pins:List (Addr × Obj)} {σ:St} {H:Hp} {s:Shared} {Q:VK} {us:List Value} {vs:List V} (M:Mk X.K C f) (F:FnOk X.prog X.w X.K X.mg X.base CX k f fd ps sp) (hr:Room (k + 1) X.A) (hb:Binds X.K fd ps ds) (hd:Vals dvs ds)
    (hx:Passes CX X E) (I:Inv X pins σ H s) (r:Vals vs us)
    (h:∀ x dx, H x = none → H dx = none → dx ≠ x → sp (.ref x :: (vs ++ dvs)) (upd (upd H dx (.own x)) x (.ins C dx [])) (fun v H2=>v = .non ∧ Q (.ref x) H2) E) :
    wpAny (model X.prog X.w) X.A (call (.ref C) us) (EP X pins σ Q) X.xe s:=by
  have hq:=h (s.heap.objs.size + 1) s.heap.objs.size (I.hok.fresh (Nat.le_succ _)) (I.hok.fresh (Nat.le_refl _)) (Nat.ne_of_lt (Nat.lt_succ_self _))
  have I2:=Inv.made (C:=C) I
  have r2:Vals (V.ref (s.heap.objs.size + 1) :: (vs ++ dvs)) (Value.ref (s.heap.objs.size + 1) :: (us ++ ds)):=.cons rfl (r.append hd)
  have hl:(Value.ref (s.heap.objs.size + 1) :: us ++ ds).length = ps.length:=by
    have e:=r2.length
    rw [F.len _ _ _ _ hq] at e
    exact e.symm
  refine wpAny_call (make_map (f:=f) I.kIn M.makes M.init (beq_iff_eq.mp M.fn) (codeAny_mono (F.run _ X.stack _ _ ⟨Value.ref (s.heap.objs.size + 1) :: us, []⟩ (Value.ref (s.heap.objs.size + 1) :: (us ++ ds)) _ _ E (hr.make C us [])
    (I2.env0.make C us []) (hb _ (Value.ref (s.heap.objs.size + 1) :: us) I2.kIn hl) r2 hq) fun r s' hq'=>?_))
  cases r with
  | error e=>exact hx pins σ _ _ e s' I2 hq'
  | ok fl =>
    cases fl with
    | ret u =>
      obtain ⟨v, H', I3, rv, ev, q3⟩:=I2.after hq'
      subst ev
      exact ⟨rv, ⟨V.ref (s.heap.objs.size + 1), H', I3, rfl, q3⟩⟩
    | next=>exact False.elim hq'
    | brk=>exact False.elim hq'
    | cont=>exact False.elim hq'
theorem pe_make (M:Mk X.K C f) (F:FnOk X.prog X.w X.K X.mg X.base CX k f fd ps sp) (hr:Room (k + 1) X.A) (hg:Gl X x) (hm:X.mg x = some (.ref C)) (hb:Binds X.K fd ps ds) (hd:Vals dvs ds) (hx:Passes CX X E)
    (ha:PA X (e :: es) t) (hdb:(x == ("__debug__" : Str)) = false:=by decide) (he:starEach (e :: es) X.env = (false, eval e X.env) :: starEach es X.env:=by rfl) (hpl:(backTo pos (starEach es X.env)).any (·.1) = false:=by rfl) :
    PE X (.Call (.Name x p) (e :: es) [] pos) (tMake C sp dvs E t):=by
  intro pins s σ H Q I h
  refine wpAny_Call_Name_kw (ld_glob I hg hm ?_ hdb)
  refine PySem.W.callWith_K (h₀:=X.base) I.ok.mod.kin M.kp (thn (ha pos pins s σ H _ I h) fun us s1 ⟨vs, H1, I1, r, q⟩=>⟨I1.kIn, ?_⟩) he hpl
  exact run_make M F hr hb hd hx I1 r q
end
section
variable {X:Cx} {CX:CXT} {k:Nat} {f C:Addr} {fd:FuncData} {ps ks:List Str} {sp:Sp} {E:XK} {x m:Str} {p pos apos kpos:Pos} {e o:Expr} {es:List Expr} {kws:List Keyword} {te ta:TE} {t tk:TA} {nm:Option Str}
variable {g:List Value → List Value → List Value} {gV:List V → List V → List V}
end
structure FnScope (N P:List Str) (sc:Scope):Prop where
  kind:sc.kind = .function
  co:sc.isCoroutine = false
  gen:sc.isGenerator = false
  nd:N.Nodup
  pre:N.take P.length = P
  par:∀ x ∈ P, sc.names.lookup x = some .local ∨ sc.names.lookup x = some .cell
  nofree:∀ y ∈ sc.names, y.2 ≠ .free
theorem bindL_out {kindOf:Str → Option NameKind} {x:Str}:∀ {binds:List (Str × Value)} {m:Str → Option Value}, (∀ v, (x, v) ∉ binds) → bindL kindOf binds m x = m x
  | [], _, _=>rfl
  | (n, v) :: r, m, h=>by
    unfold bindL
    rw [bindL_out fun w hw=>h w (List.mem_cons_of_mem _ hw)]
    split
    · have:x ≠ n:=by rintro rfl; exact h v List.mem_cons_self
      simp [this]
    · rfl
theorem bindC_out {kindOf:Str → Option NameKind} {x:Str}:∀ {binds:List (Str × Value)} {m:Str → Option Value}, (∀ v, (x, v) ∉ binds) → bindC kindOf binds m x = m x
  | [], _, _=>rfl
  | (n, v) :: r, m, h=>by
    unfold bindC
    rw [bindC_out fun w hw=>h w (List.mem_cons_of_mem _ hw)]
    split
    · rfl
    · have:x ≠ n:=by rintro rfl; exact h v List.mem_cons_self
      simp [this]
theorem bindL_get {kindOf:Str → Option NameKind} {x:Str} {v:Value}:∀ {P:List Str} {vs:List Value} {i:Nat} {m:Str → Option Value}, P.Nodup → P[i]? = some x → vs[i]? = some v → kindOf x = some .local →
    bindL kindOf (P.zip vs) m x = some v
  | [], _, _, _, _, h, _, _=>by simp at h
  | _ :: _, [], _, _, _, _, h, _=>by simp at h
  | p :: P, w :: vs, 0, m, nd, h1, h2, hk=>by
    simp at h1 h2; subst h1; subst h2
    show bindL kindOf ((p, w) :: P.zip vs) m p = _
    unfold bindL
    rw [bindL_out fun v hv=>(List.nodup_cons.mp nd).1 (List.of_mem_zip hv).1, if_pos hk]
    simp
  | p :: P, w :: vs, i + 1, m, nd, h1, h2, hk=>by
    show bindL kindOf ((p, w) :: P.zip vs) m x = _
    unfold bindL
    exact bindL_get (i:=i) (List.nodup_cons.mp nd).2 (by simpa using h1) (by simpa using h2) hk
theorem bindC_get {kindOf:Str → Option NameKind} {x:Str} {v:Value}:∀ {P:List Str} {vs:List Value} {i:Nat} {m:Str → Option Value}, P.Nodup → P[i]? = some x → vs[i]? = some v → kindOf x ≠ some .local →
    bindC kindOf (P.zip vs) m x = some v
  | [], _, _, _, _, h, _, _=>by simp at h
  | _ :: _, [], _, _, _, _, h, _=>by simp at h
  | p :: P, w :: vs, 0, m, nd, h1, h2, hk=>by
    simp at h1 h2; subst h1; subst h2
    show bindC kindOf ((p, w) :: P.zip vs) m p = _
    unfold bindC
    rw [bindC_out fun v hv=>(List.nodup_cons.mp nd).1 (List.of_mem_zip hv).1, if_neg hk]
    simp
  | p :: P, w :: vs, i + 1, m, nd, h1, h2, hk=>by
    show bindC kindOf ((p, w) :: P.zip vs) m x = _
    unfold bindC
    exact bindC_get (i:=i) (List.nodup_cons.mp nd).2 (by simpa using h1) (by simpa using h2) hk
noncomputable def start (N:List Str) (vs:List V):St:=vs.map some ++ List.replicate (N.length - vs.length) none
noncomputable def cxOf (CX:CXT) (P:Program) (w:World) (K:PySem.W.Frag) (mg:Str → Option Value) (base:Heap) (N:List Str) (qual:Str) (scope:Scope) (f:Addr) (cd:Value) (A:Around) (outer:List Env) (s:Shared) (H:Hp) (E:XK):Cx where
  prog:=P
  w:=w
  K:=K
  mg:=mg
  base:=base
  A:=A.deeper (envOfC qual scope s.heap.objs.size f cd)
  N:=N
  s₀:=s
  H₀:=H
  env:=envOfC qual scope s.heap.objs.size f cd
  outer:=outer
  stack:=envOfC qual scope s.heap.objs.size f cd :: outer
  ex:=[]
  calm:=true
  fn:=fun _=>true
  pn:=[]
  xe:=fun e s'=>wpAny (model P w) (A.deeper (envOfC qual scope s.heap.objs.size f cd)) (leaving (envOfC qual scope s.heap.objs.size f cd) e) (fun _ s''=>CX outer H s E e s'') (fun e' s''=>CX outer H s E e' s'') s'
theorem cell_has {sc:Scope} {n:Nat} {x:Str} (h:sc.names.lookup x = some .cell):∃ c, (cellsFrom n sc.names []).lookup x = some c:=by
  have q:=PySem.W.cellsFrom_some sc.names n [] (.inl h)
  exact Option.isSome_iff_exists.mp q
theorem inv_start {CX:CXT} {P:Program} {w:World} {K:PySem.W.Frag} {mg:Str → Option Value} {base:Heap} {N ps:List Str} {qual:Str} {scope:Scope} {f:Addr} {cd:Value} {A:Around} {outer:List Env} {s s1:Shared} {H:Hp} {E:XK} {us:List Value} {vs:List V}
    (S:FnScope N ps scope) (hd:A.handled = none) (e0:Env0 P w K mg base A outer s H) (hl:vs.length = ps.length) (r:Vals vs us)
    (x:InCallC s s.heap.objs.size (bindL (envOfC qual scope s.heap.objs.size f cd).kindOf (ps.zip us) fun _=>none) (cellsFrom (s.heap.objs.size + 1) scope.names []) (bindC (envOfC qual scope s.heap.objs.size f cd).kindOf (ps.zip us) fun _=>none) s1) :
    Inv (cxOf CX P w K mg base N qual scope f cd A outer s H E) [] (start N vs) H s1:=by
  have hpl:ps.length ≤ N.length:=by have:=congrArg List.length S.pre; rw [List.length_take] at this; omega
  obtain ⟨h1, tk, rfl, hk⟩:=x.done
  have noA:∀ b:Addr, b ∉ (cxOf CX P w K mg base N qual scope f cd A outer s H E).ex:=fun b z=>absurd (show b ∈ ([]:List Addr) from z) (by simp)
  refine ⟨⟨e0.mod, S.kind, rfl, rfl, Nat.le_refl _, fun y z c h1 h2=>?_, fun y hy=>?_, fun y c _ h=>?_, fun _=>hd, Around.frames_deeper e0.frames, .inr ⟨rfl, rfl⟩, fun b z=>absurd z (noA b), e0.bs, e0.bsz, fun b _ _=>noA b, fun b z=>absurd z (noA b), e0.funs, e0.frf⟩,
    rfl, e0.bare, Un.kept hk, ⟨_, x.toInCall.ns, fun i y v h1 h2 h3=>?_⟩, fun y c h=>⟨_, x.cell y c h⟩, e0.hok.fresh (Nat.le_refl _), fun y c h=>?_, fun p hp=>absurd (show p ∈ ([]:List (Addr × Obj)) from hp) (by simp), e0.hok.kept hk, ?_⟩
  · exact name_of_addr x.apart (PySem.mem_of_lookup h1) (PySem.mem_of_lookup h2)
  · have hy:scope.names.lookup y = some .cell ∨ scope.names.lookup y = some .free:=hy
    rcases hy with hy | hy
    · exact cell_has hy
    · exact absurd rfl (S.nofree _ (PySem.mem_of_lookup hy))
  · exact Nat.le_of_lt (x.above y c (PySem.mem_of_lookup h))
  · have hi:i < vs.length:=by
      unfold start at h2
      by_cases hi:i < vs.length
      · exact hi
      · rw [List.getElem?_append_right (by simpa using hi)] at h2
        rw [List.getElem?_replicate] at h2
        split at h2 <;> cases h2
    have ha:vs[i]? = some v:=by
      unfold start at h2
      rw [List.getElem?_append_left (by simpa using hi), List.getElem?_map] at h2
      cases e:vs[i]? with
      | none=>rw [e] at h2; cases h2
      | some a=>rw [e] at h2; cases h2; rfl
    obtain ⟨u, hu, rv⟩:=r.get ha
    have hp:ps[i]? = some y:=by
      rw [← S.pre, List.getElem?_take_of_lt (by omega)]; exact h1
    have ndP:ps.Nodup:=by rw [← S.pre]; exact S.nd.sublist (List.take_sublist _ _)
    refine ⟨u, rv, ?_⟩
    rcases S.par y (List.mem_of_getElem? hp) with k | k
    · exact .inl ⟨k, bindL_get ndP hp hu k⟩
    · obtain ⟨c, e⟩:=cell_has (n:=s.heap.objs.size + 1) k
      refine .inr ⟨.inl k, c, e, ?_⟩
      have q:=x.cell y c e
      rw [bindC_get ndP hp hu (by show scope.names.lookup y ≠ _; rw [k]; decide)] at q
      exact q
  · exact e0.hok.fresh (Nat.le_of_lt (x.above y c (PySem.mem_of_lookup h)))
  · unfold start
    show _ = N.length
    rw [List.length_append, List.length_map, List.length_replicate]
    omega
theorem fn_of {CX:CXT} {P:Program} {w:World} {K:PySem.W.Frag} {mg:Str → Option Value} {base:Heap} {k:Nat} {f:Addr} {name qual:Str} {params:Arguments} {body:List Stmt} {scope:Scope} {dV kV doc pm cdv ct oc:Value} {an od:Option Addr}
    {osl:Array (Option Value)} {N ps:List Str} {sp:Sp} (lk:K.lookup f = some ⟨oc, od, .func (PySem.W.fnOf name qual params body scope dV kV doc pm an cdv ct), osl⟩) (hcd:PySem.W.codeIn K cdv qual = true) (S:FnScope N ps scope)
    (len:∀ vs H Q E, sp vs H Q E → vs.length = ps.length)
    (hbody:∀ (A:Around) (outer:List Env) (s:Shared) (H:Hp) (vs:List V) (Q:VK) (E:XK), Room k (A.deeper (envOfC qual scope s.heap.objs.size f cdv)) → sp vs H Q E →
      ∃ t, PSs (cxOf CX P w K mg base N qual scope f cdv A outer s H E) body t ∧ t { nx:=fun _ H'=>Q .non H', rt:=Q } (start N vs) H) :
    FnOk P w K mg base CX (k + 1) f (PySem.W.fnOf name qual params body scope dV kV doc pm an cdv ct) ps sp:=by
  refine ⟨len, fun A outer s H args us vs Q E hr e0 hb r hsp=>?_⟩
  have hl:=len _ _ _ _ hsp
  have KX:K.In s.heap:=e0.mod.kin.keeps fun b o e=>(e0.bs b o e).1
  have lim:s.heap.NoLimit:=e0.mod.nolimit.keeps fun b o e=>(e0.bs b o e).1
  have hkind:∀ y ∈ ps.zip us, scope.names.lookup y.1 = some .local ∨ (scope.names.lookup y.1 = some .cell ∧ ((cellsFrom (s.heap.objs.size + 1) scope.names []).lookup y.1).isSome = true):=fun ⟨n, v⟩ hy=>by
    rcases S.par n (List.of_mem_zip hy).1 with q | q
    · exact .inl q
    · exact .inr ⟨q, PySem.W.cellsFrom_some _ _ _ (.inl q)⟩
  refine codeAny_call_function hr.depth (KX _ _ lk) rfl S.co S.gen rfl (PySem.W.codeRec_of KX hcd) (hb _ _ _ _ ?_)
  refine wpAny_newFunctionEnv_cells S.kind hkind fun env he s1 x=>?_
  subst he
  refine ⟨lim.keeps x.toInCall.keep, codeAny_func ?_⟩
  obtain ⟨t, ht, hq⟩:=hbody A outer s H vs Q E (hr.deeper _) hsp
  have I:Inv (cxOf CX P w K mg base N qual scope f cdv A outer s H E) [] (start N vs) H s1:=inv_start S hr.hd e0 hl r x
  refine wpAny_mono (ht [] s1 (start N vs) H _ I hq) (fun fl s' hs=>?_) fun e s' hs=>hs
  have fin:∀ {σ':St} {H':Hp} {v:V} {u:Value}, Inv (cxOf CX P w K mg base N qual scope f cdv A outer s H E) [] σ' H' s' → RelV v u → Q v H' → CE outer P w H s Q u s' :=
    fun {σ' H' v u} J rv q=>⟨v, H', J.os, J.bare, J.base, J.hok, rv, q⟩
  cases fl with
  | ret u =>
    obtain ⟨v, σ', H', J, rv, q⟩:=hs
    exact fin J rv q
  | next =>
    obtain ⟨σ', H', J, q⟩:=hs
    exact fin (v:=V.non) (u:=Value.none) J rfl q
  | brk =>
    obtain ⟨_, _, _, q⟩:=hs
    exact False.elim q
  | cont =>
    obtain ⟨_, _, _, q⟩:=hs
    exact False.elim q
end L2
namespace L2
open PySem PySem.Spec PyProof.Rows
section
variable {X:Cx} {x:Str} {p pos:Pos} {e:Expr} {es:List Expr} {t:TA} {id T:String} {r:List V → Hp → VK → Prop}
noncomputable def tCB (r:List V → Hp → VK → Prop) (t:TA):TE:=fun σ H Q=>t σ H fun vs H1=>r vs H1 Q
theorem pe_callB (hc:CallR X (.builtin id) r) (hg:Gl X x) (hm:X.mg x = none) (hv:bootBuiltins x = some (.builtin id)) (ha:PA X (e :: es) t) (hn:x ≠ "__name__":=by decide) (hdb:(x == ("__debug__" : Str)) = false:=by decide)
    (he:starEach (e :: es) X.env = (false, eval e X.env) :: starEach es X.env:=by rfl) (hpl:(backTo pos (starEach es X.env)).any (·.1) = false:=by rfl):PE X (.Call (.Name x p) (e :: es) [] pos) (tCB r t):=by
  intro pins s σ H Q I h
  refine wpAny_Call_Name_kw (ld_blt I hg hm hv ?_ hn hdb)
  exact PyProof.Rows.callWith_builtin1 (thn (ha pos pins s σ H _ I h) fun us s1 ⟨vs, H1, I1, r1, q1⟩=>hc pins s1 σ H1 vs us Q I1 r1 q1) he hpl
theorem pe_callTy (hc:CallR X (.type T) r) (hg:Gl X x) (hm:X.mg x = none) (hv:bootBuiltins x = some (.type T)) (ha:PA X (e :: es) t) (hn:x ≠ "__name__":=by decide) (hdb:(x == ("__debug__" : Str)) = false:=by decide)
    (he:starEach (e :: es) X.env = (false, eval e X.env) :: starEach es X.env:=by rfl) (hpl:(backTo pos (starEach es X.env)).any (·.1) = false:=by rfl):PE X (.Call (.Name x p) (e :: es) [] pos) (tCB r t):=by
  intro pins s σ H Q I h
  refine wpAny_Call_Name_kw (ld_blt I hg hm hv ?_ hn hdb)
  exact PyProof.Rows.callWith_type1 (thn (ha pos pins s σ H _ I h) fun us s1 ⟨vs, H1, I1, r1, q1⟩=>hc pins s1 σ H1 vs us Q I1 r1 q1) he hpl
end
end L2
namespace HT
open PySem PyProof.Rows
section
open PySem.SeqAt
open PySem.AutoSeq1 (wpAny_loadPart')
open PySem.MeetsSeq PySem.MeetsSeq2 PySem.MeetsSeq3
end
section
variable {prog:Program} {w:World} {A:Around} {E:Value → Shared → Prop} {s:Shared}
theorem cat_tup {t b:Addr} {vs ws:List Value} {Q:Value → Shared → Prop} (ht:IsTup s.heap t vs.toArray) (hb:IsTup s.heap b ws.toArray) (hv:vs ≠ [])
    (h1:ws = [] → Q (.ref t) s) (h2:ws ≠ [] → Q (.ref s.heap.objs.size) { s with heap:=s.heap.push { cls:=.type "tuple", data:=.seq (vs ++ ws).toArray } })
    (hsz:vs.length + ws.length ≤ sizeLine):wpAny (model prog w) A (binaryOp .Add (.ref t) (.ref b)) Q E s:=by
  obtain ⟨⟨cls, dd, data, sl⟩, ho, hc, n, hd⟩:=id ht
  obtain ⟨⟨cls2, dd2, data2, sl2⟩, ho2, hc2, n2, hd2⟩:=id hb
  simp only at hc hd hc2 hd2
  subst hc hd hc2 hd2
  have e:vs.toArray ++ ws.toArray = (vs ++ ws).toArray:=by simp
  by_cases hw:ws = []
  · exact concat_meets ⟨_, ho, rfl⟩ ⟨_, ho2, rfl⟩ noFill_tuple_add seq_tuple_add PySem.F.slot_tuple_add PySem.F.entry_tuple_add (PySem.F.args_tuple_add_2 _ _)
      (tuple_addW1 t b vs.toArray ws.toArray n n2 dd dd2 sl sl2 (by simpa using hv) (by simp [hw])) ⟨ho, ho2, h1 hw⟩
  · refine concat_meets ⟨_, ho, rfl⟩ ⟨_, ho2, rfl⟩ noFill_tuple_add seq_tuple_add PySem.F.slot_tuple_add PySem.F.entry_tuple_add (PySem.F.args_tuple_add_2 _ _)
      (tuple_addW2 t b vs.toArray ws.toArray n n2 dd dd2 sl sl2 (by simpa using hv) (by simpa using hw) (by rw [List.size_toArray, List.size_toArray]; exact hsz)) ⟨ho, ho2, ?_⟩
    rw [e]
    exact h2 hw
noncomputable def sIx (n d:Nat):Option Int → Nat
  | none=>d
  | some v=>if v < 0 then (v + (n:Int)).toNat else min v.toNat n
theorem sIx_none (n d:Nat):sIx n d none = d:=rfl
theorem sIx_nat (n d k:Nat):sIx n d (some (k:Int)) = min k n:=by
  show (if (k:Int) < 0 then ((k:Int) + (n:Int)).toNat else min (k:Int).toNat n) = min k n
  rw [if_neg (by omega), Int.toNat_natCast]
theorem sIx_le (n d:Nat) (hd:d ≤ n) (o:Option Int):sIx n d o ≤ n:=by
  cases o with
  | none=>exact hd
  | some v =>
    show (if v < 0 then (v + (n:Int)).toNat else min v.toNat n) ≤ n
    by_cases hv:v < 0
    · rw [if_pos hv]; omega
    · rw [if_neg hv]; exact Nat.min_le_right _ _
theorem clip_eq (v:Int) (n d:Nat):(if v < 0 then max (v + (n:Int)) 0 else min v (n:Int)) = ((sIx n d (some v):Nat):Int):=by
  show (if v < 0 then max (v + (n:Int)) 0 else min v (n:Int)) = (((if v < 0 then (v + (n:Int)).toNat else min v.toNat n):Nat):Int)
  by_cases hv:v < 0
  · simp only [if_pos hv]; omega
  · simp only [if_neg hv]; omega
theorem adjust_gen (lo hi:Option Int) (n:Nat):Builtin.Slice.sliceAdjust lo hi 1 (n:Int) = (((sIx n 0 lo:Nat):Int), ((sIx n n hi:Nat):Int)):=by
  have h1:¬ ((1:Int) < 0):=by omega
  unfold Builtin.Slice.sliceAdjust
  simp only [h1, if_false]
  refine Prod.ext ?_ ?_
  · cases lo with
    | none=>rfl
    | some v=>exact clip_eq v n 0
  · cases hi with
    | none=>rfl
    | some v=>exact clip_eq v n n
theorem places_gen (i j:Nat):Builtin.Slice.slicePlaces (i:Int) (j:Int) 1 = j - i:=by
  unfold Builtin.Slice.slicePlaces
  have h1:(1:Int) > 0:=by omega
  simp only [h1, if_true, Int.ediv_one]
  split <;> omega
theorem slicePart_ {v:Value} {o:Option Int} {Q:Option Int → Shared → Prop} (p:IsPart v o) (h:Q o s):wpAny (model prog w) A (Builtin.Slice.slicePartIndex v) Q E s:=by
  cases p with
  | none=>exact slicePart_none h
  | int i t=>exact slicePart_int h
theorem sliceApplied_gen {sl:Addr} {vl vu:Value} {lo hi:Option Int} {n:Nat} {Q:Int × Int × Nat → Shared → Prop} (hs:s.heap.IsSliceOf sl vl vu .none) (pl:IsPart vl lo) (pu:IsPart vu hi)
    (h:Q (((sIx n 0 lo:Nat):Int), 1, sIx n n hi - sIx n 0 lo) s):wpAny (model prog w) A (Builtin.Slice.sliceApplied (.ref sl) (pure (n:Int))) Q E s:=by
  obtain ⟨os, hos, hcs, hds⟩:=id hs
  unfold Builtin.Slice.sliceApplied Builtin.Slice.sliceFields
  refine wpAny_bind (wpAny_bind (wpAny_field hos hds (x:=vl) rfl (wpAny_bind (wpAny_field hos hds (x:=vu) rfl (wpAny_bind (wpAny_field hos hds (x:=.none) rfl (wpAny_pure ?_)))))))
  refine wpAny_bind (slicePart_none ?_)
  show wpAny _ _ (if ((1:Int) == 0) = true then _ else _) _ _ s
  rw [if_neg (by decide)]
  refine wpAny_bind (slicePart_ pl (wpAny_bind (slicePart_ pu (wpAny_bind (wpAny_pure ?_)))))
  show wpAny _ _ (match Builtin.Slice.sliceAdjust lo hi 1 (n:Int) with | (lo, hi)=>pure (lo, (1:Int), Builtin.Slice.slicePlaces lo hi 1)) _ _ s
  rw [adjust_gen lo hi n]
  show wpAny _ _ (pure (((sIx n 0 lo:Nat):Int), (1:Int), Builtin.Slice.slicePlaces ((sIx n 0 lo:Nat):Int) ((sIx n n hi:Nat):Int) 1)) _ _ s
  rw [places_gen]
  exact wpAny_pure h
theorem pick_gen (xs:Array Value) (i k:Nat):((List.range k).filterMap fun (m:Nat)=>xs[((i:Int) + (m:Int) * 1).toNat]?).toArray = ((xs.toList.drop i).take k).toArray:=by
  have e:(fun (m:Nat)=>xs[((i:Int) + (m:Int) * 1).toNat]?) = fun m=>xs[i + m]?:=by
    funext m
    have:((i:Int) + (m:Int) * 1).toNat = i + m:=by omega
    rw [this]
  rw [e]
  have:=pick_run xs i k
  rw [List.filterMap_map] at this
  have e2:((fun x=>xs[x]?) ∘ fun x=>i + x) = fun m=>xs[i + m]?:=rfl
  rw [e2] at this
  rw [this]
theorem getItem_tuple_cut {t sl:Addr} {items:Array Value} {vl vu:Value} {lo hi:Option Int} {Q:Value → Shared → Prop} (ht:IsTup s.heap t items) (hs:s.heap.IsSliceOf sl vl vu .none) (pl:IsPart vl lo) (pu:IsPart vu hi)
    (hw:¬ (sIx items.size 0 lo = 0 ∧ sIx items.size items.size hi = items.size))
    (h:Q (.ref s.heap.objs.size) { s with heap:=s.heap.push { cls:=.type "tuple", data:=.seq ((items.toList.drop (sIx items.size 0 lo)).take (sIx items.size items.size hi - sIx items.size 0 lo)).toArray } })
    (hsz:items.size ≤ sizeLine):wpAny (model prog w) A (getItem (.ref t) (.ref sl)) Q E s:=by
  have htake:sizeOk (.seq ((items.toList.drop (sIx items.size 0 lo)).take (sIx items.size items.size hi - sIx items.size 0 lo)).toArray):=by
    show ((items.toList.drop (sIx items.size 0 lo)).take (sIx items.size items.size hi - sIx items.size 0 lo)).toArray.size ≤ sizeLine
    rw [List.size_toArray, List.length_take, List.length_drop, Array.length_toList]
    omega
  have hj:sIx items.size items.size hi ≤ items.size:=sIx_le _ _ (Nat.le_refl _) hi
  obtain ⟨os, hos, hcs, hds⟩:=id hs
  have hTs:s.TypeIs (.ref sl) "slice":=⟨os, hos, hcs⟩
  unfold getItem
  try with_reducible refine wpAny_holding ?_
  first | refine wpAny_bind (wpAny_pure ?_) | skip
  refine wpAny_bind (wpAny_sequenceKey ht.typeIs (by decide) ?_)
  refine wpAny_bind (wpAny_callSpecial?_slot (name:=Str.ofString "__getitem__") ht.typeIs PyProof.Rows.slot_tuple_getitem
    (wpAny_call_entry PyProof.Rows.slot_tuple_getitem ht.typeIs entry_tuple_getitem ?_ (args_tuple_getitem _ _)))
  show wpAny _ _ (Builtin.Tuple.tupleItemsOf (.ref t) >>= _) _ _ s
  refine wpAny_bind (tupleItemsOf_ ht ?_)
  refine wpAny_bind (wpAny_typeOf hTs ?_)
  rw [if_pos (by decide)]
  refine wpAny_bind (sliceApplied_gen hs pl pu ?_)
  have hno:¬ ((((sIx items.size 0 lo:Nat):Int) == 0 && (1:Int) == 1 && (sIx items.size items.size hi - sIx items.size 0 lo) == items.size) = true):=by
    intro q
    rw [Bool.and_eq_true, Bool.and_eq_true] at q
    have q1:((sIx items.size 0 lo:Nat):Int) = 0:=eq_of_beq q.1.1
    have q2:sIx items.size items.size hi - sIx items.size 0 lo = items.size:=eq_of_beq q.2
    exact hw ⟨by omega, by omega⟩
  show wpAny _ _ (if (((sIx items.size 0 lo:Nat):Int) == 0 && (1:Int) == 1 && (sIx items.size items.size hi - sIx items.size 0 lo) == items.size) = true then _ else _) _ _ s
  rw [if_neg hno, pick_gen]
  first
    | exact wpAny_bind (m:=Builtin.Tuple.tupleExact _) (wpAny_newObj_type (wpAny_pure ⟨_, rfl, wpAny_pure h⟩) htake)
    | exact wpAny_bind (m:=Builtin.Tuple.tupleExact _) (wpAny_newObj_type (wpAny_bind (wpAny_pure (wpAny_pure ⟨_, rfl, wpAny_pure h⟩))) htake)
    | exact wpAny_bind (wpAny_bind (m:=Builtin.Tuple.tupleExact _) (wpAny_newObj_type (wpAny_pure (wpAny_pure ⟨_, rfl, wpAny_pure h⟩)) htake))
    | exact wpAny_bind (wpAny_bind (m:=Builtin.Tuple.tupleExact _) (wpAny_newObj_type (wpAny_pure ⟨_, rfl, wpAny_pure h⟩) htake))
end
end HT
namespace L2
open PySem PySem.Spec PyProof.Rows
noncomputable abbrev TO:=St → Hp → (Option Int → Hp → Prop) → Prop
noncomputable def PO (X:Cx) (e:Option Expr) (t:TO):Prop :=
  ∀ (pins:List (Addr × Obj)) (s:Shared) (σ:St) (H:Hp) (Q:Option Int → Hp → Prop), Inv X pins σ H s → t σ H Q →
    wpAny (model X.prog X.w) X.A (evalPart e X.env) (fun u s'=>∃ o H', Inv X pins σ H' s' ∧ IsPart u o ∧ Q o H') X.xe s
noncomputable def tNoPart:TO:=fun _ H Q=>Q none H
noncomputable def tPart (t:TE):TO:=fun σ H Q=>t σ H fun x H1=>∃ i, x = .int i ∧ Q (some i) H1
section
variable {X:Cx} {e:Expr} {te:TE} {lo hi:Option Expr} {tl th:TO} {pos p2:Pos}
theorem po_none:PO X none tNoPart:=by
  intro pins s σ H Q I h
  rw [evalPart_none]
  exact wpAny_pure ⟨none, H, I, .none, h⟩
theorem po_some (h:PE X e te):PO X (some e) (tPart te):=by
  intro pins s σ H Q I hw
  rw [evalPart_some]
  refine thn (h pins s σ H _ I hw) fun u s1 ⟨x, H1, I1, r1, q1⟩=>?_
  obtain ⟨i, rfl, q⟩:=q1
  obtain ⟨t, rfl⟩:=r1
  exact ⟨some i, H1, I1, .int i t, q⟩
noncomputable def SlR (X:Cx) (r:V → Option Int → Option Int → Hp → VK → Prop):Prop :=
  ∀ (pins:List (Addr × Obj)) (s:Shared) (σ:St) (H:Hp) (x:V) (v vl vu:Value) (lo hi:Option Int) (sl:Addr) (Q:VK), Inv X pins σ H s → RelV x v → s.heap.IsSliceOf sl vl vu .none → IsPart vl lo → IsPart vu hi → r x lo hi H Q →
    ∃ T id, typeLookup (.type T) "__getitem__" = pure (some (.builtin id)) ∧ s.TypeIs v T ∧ wpAny (model X.prog X.w) X.A (getItem v (.ref sl)) (EP X pins σ Q) X.xe s
noncomputable def tSl (r:V → Option Int → Option Int → Hp → VK → Prop) (te:TE) (tl th:TO):TE:=fun σ H Q=>te σ H fun x H1=>tl σ H1 fun l H2=>th σ H2 fun u H3=>r x l u H3 Q
theorem pe_slice {r:V → Option Int → Option Int → Hp → VK → Prop} (hr:SlR X r) (he:PE X e te) (hl:PO X lo tl) (hu:PO X hi th):PE X (.Subscript e (.Slice lo hi none p2) pos) (tSl r te tl th):=by
  intro pins s σ H Q I h
  refine Subscript_ (thn (he pins s σ H _ I h) fun v s1 ⟨x, H1, I1, r1, q1⟩=>?_)
  refine wpAny_Slice (thn (hl pins s1 σ H1 _ I1 q1) fun vl s2 ⟨l, H2, I2, pl, q2⟩=>thn (hu pins s2 σ H2 _ I2 q2) fun vu s3 ⟨u, H3, I3, pu, q3⟩=>?_)
  rw [evalPart_none]
  refine wpAny_pure ?_
  have I4:Inv X pins σ H3 { s3 with heap:=s3.heap.push { cls:=.type "slice", data:=.fields #[vl, vu, .none] } }:=I3.kept (t':=s3.toks) fun b ob q=>Heap.get?_push_of_some _ q
  obtain ⟨T, id, hT, ht, hg⟩:=hr pins { s3 with heap:=s3.heap.push { cls:=.type "slice", data:=.fields #[vl, vu, .none] } } σ H3 x v vl vu l u s3.heap.objs.size Q I4 r1 (Heap.IsSliceOf.new ..) pl pu q3
  show wpAny (model X.prog X.w) X.A (subscriptTail e (.Slice lo hi none p2) v (.ref s3.heap.objs.size)) (EP X pins σ Q) X.xe { s3 with heap:=s3.heap.push { cls:=.type "slice", data:=.fields #[vl, vu, .none] } }
  exact tail_any (ops:=[.ref s3.heap.objs.size, v]) ht hT hg (by with_unfolding_all rfl)
noncomputable def cutV (xs:List V) (lo hi:Option Int):List V:=(xs.drop (HT.sIx xs.length 0 lo)).take (HT.sIx xs.length xs.length hi - HT.sIx xs.length 0 lo)
theorem cutV_length (xs:List V) (lo hi:Option Int):(cutV xs lo hi).length ≤ xs.length:=by
  unfold cutV
  rw [List.length_take, List.length_drop]
  omega
noncomputable def rSlT (K:PySem.W.Frag):V → Option Int → Option Int → Hp → VK → Prop:=fun x lo hi H Q=>∃ a xs, x = .ref a ∧ SqT K H a xs ∧
  ¬ (HT.sIx xs.length 0 lo = 0 ∧ HT.sIx xs.length xs.length hi = xs.length) ∧ ∀ p, H p = none → Q (.ref p) (upd H p (.tup (cutV xs lo hi)))
theorem sl_tup:SlR X (rSlT X.K):=by
  intro pins s σ H x v vl vu lo hi sl Q I rx hs pl pu h
  obtain ⟨a, xs, rfl, hx, hw, q⟩:=h
  cases rx
  obtain ⟨its, r, ht, hz⟩:=I.tuple hx
  have hlen:its.toArray.size = xs.length:=by rw [List.size_toArray]; exact r.length.symm
  refine ⟨"tuple", _, PyProof.Rows.slot_tuple_getitem.lookup, ht.typeIs, ?_⟩
  refine HT.getItem_tuple_cut ht hs pl pu (by rw [hlen]; exact hw) ?_ (by rw [hlen]; exact hz)
  rw [hlen]
  refine ⟨.ref s.heap.objs.size, _, I.laid (t':=s.toks) (o:=.tup (cutV xs lo hi)) (fun b ob q=>Heap.get?_push_of_some _ q) (Nat.le_refl _) ?_, rfl, q _ (I.hok.fresh (Nat.le_refl _))⟩
  exact ⟨Nat.le_trans (cutV_length xs lo hi) hz, _, (r.drop (HT.sIx xs.length 0 lo)).take (HT.sIx xs.length xs.length hi - HT.sIx xs.length 0 lo), IsTup.new _ _⟩
noncomputable def rCatT (K:PySem.W.Frag):R2:=fun x y H Q=>∃ a b xs ys, x = .ref a ∧ y = .ref b ∧ SqT K H a xs ∧ SqT K H b ys ∧ xs ≠ [] ∧ xs.length + ys.length ≤ sizeLine ∧
  (ys = [] → Q (.ref a) H) ∧ (ys ≠ [] → ∀ p, H p = none → Q (.ref p) (upd H p (.tup (xs ++ ys))))
theorem Vals.nil_iff {xs:List V} {us:List Value} (r:Vals xs us):us = [] ↔ xs = []:=by
  cases r with
  | nil=>simp
  | cons _ _=>simp
theorem op_catT:OpR X (binaryOp .Add) (rCatT X.K):=by
  intro pins s σ H x y v u Q I rx ry h
  obtain ⟨a, b, xs, ys, rfl, rfl, ha, hb, hx, hz, q1, q2⟩:=h
  cases rx
  cases ry
  obtain ⟨its, r1, p1, _⟩:=I.tuple ha
  obtain ⟨its2, r2, p2, _⟩:=I.tuple hb
  refine HT.cat_tup p1 p2 (fun z=>hx (r1.nil_iff.mp z)) (fun z=>⟨.ref a, H, I, rfl, q1 (r2.nil_iff.mp z)⟩) (fun z=>?_) (by rw [← r1.length, ← r2.length]; exact hz)
  refine ⟨.ref s.heap.objs.size, _, I.laid (t':=s.toks) (o:=.tup (xs ++ ys)) (fun b ob q=>Heap.get?_push_of_some _ q) (Nat.le_refl _) ?_, rfl, q2 (fun w=>z (r2.nil_iff.mpr w)) _ (I.hok.fresh (Nat.le_refl _))⟩
  exact ⟨by rw [List.length_append]; exact hz, _, r1.append r2, IsTup.new _ _⟩
end
end L2
namespace L2
open PySem PySem.Spec PyProof.Rows
noncomputable def ixN (n:Nat) (i:Int):Option Nat:=if 0 ≤ i then (if i < n then some i.toNat else none) else if -(n:Int) ≤ i then some (i + n).toNat else none
noncomputable def atI {α:Type} (xs:List α) (i:Int):Option α:=(ixN xs.length i).bind fun j=>xs[j]?
theorem ixN_seq {n:Nat} {i:Int} {j:Nat} (h:ixN n i = some j):seqIndex? i n = some j ∧ j < n ∧ -(n:Int) ≤ i ∧ i < n:=by
  unfold ixN at h
  by_cases h0:0 ≤ i
  · rw [if_pos h0] at h
    by_cases h1:i < n
    · rw [if_pos h1] at h
      have e:i.toNat = j:=Option.some.inj h
      exact ⟨by rw [seqIndex_of h0 h1, e], by omega, by omega, h1⟩
    · rw [if_neg h1] at h; cases h
  · rw [if_neg h0] at h
    by_cases h1:-(n:Int) ≤ i
    · rw [if_pos h1] at h
      have e:(i + n).toNat = j:=Option.some.inj h
      exact ⟨by rw [seqIndex_neg (by omega) h1, e], by omega, h1, by omega⟩
    · rw [if_neg h1] at h; cases h
theorem atI_get {α:Type} {xs:List α} {i:Int} {v:α} (h:atI xs i = some v):∃ j, seqIndex? i xs.length = some j ∧ xs[j]? = some v ∧ j < xs.length ∧ -(xs.length:Int) ≤ i ∧ i < xs.length:=by
  unfold atI at h
  cases e:ixN xs.length i with
  | none=>rw [e] at h; cases h
  | some j =>
    rw [e] at h
    obtain ⟨h1, h2, h3, h4⟩:=ixN_seq e
    exact ⟨j, h1, h, h2, h3, h4⟩
theorem atI_nat {α:Type} {xs:List α} {j:Nat} {v:α} (h:xs[j]? = some v):atI xs (j:Int) = some v:=by
  have hj:j < xs.length:=(List.getElem?_eq_some_iff.mp h).1
  have e:ixN xs.length (j:Int) = some j:=by
    unfold ixN
    rw [if_pos (by omega), if_pos (by omega)]; simp
  unfold atI; rw [e]; exact h
noncomputable def PlainIx (b:Expr):Prop:=∀ o i, subscripted b false o i = operate [o, i] (getItem o i)
noncomputable def IxR (X:Cx) (r:R2):Prop :=
  ∀ (value slice:Expr) (pins:List (Addr × Obj)) (s:Shared) (σ:St) (H:Hp) (x y:V) (v u:Value) (Q:VK), Inv X pins σ H s → RelV x v → RelV y u → r x y H Q →
    subscripted slice false v u = operate [v, u] (getItem v u) → wpAny (model X.prog X.w) X.A (subscriptTail value slice v u) (EP X pins σ Q) X.xe s
noncomputable def MtR (X:Cx) (id:String) (r:V → List V → Hp → VK → Prop):Prop :=
  ∀ (pins:List (Addr × Obj)) (s:Shared) (σ:St) (H:Hp) (x:V) (xs:List V) (v:Value) (us:List Value) (Q:VK), Inv X pins σ H s → RelV x v → Vals xs us → r x xs H Q →
    wpAny (model X.prog X.w) X.A (call (.builtin id) (v :: us)) (EP X pins σ Q) X.xe s
section
variable {X:Cx} {a b:Expr} {ta tb:TE} {pos:Pos}
theorem pe_ix {r:R2} (hr:IxR X r) (ha:PE X a ta) (hb:PE X b tb) (hs:PlainIx b):PE X (.Subscript a b pos) (tOp r ta tb):=by
  intro pins s σ H Q I h
  exact Subscript_ (binT ha hb I h fun v u s2 x y H2 I2 rx ry q=>hr a b pins s2 σ H2 x y v u Q I2 rx ry q (hs _ _))
noncomputable def rIxL (K:PySem.W.Frag):R2:=fun x y H Q=>exR x fun p=>exI y fun i=>∃ xs, SqL K H p xs ∧ ∃ v, atI xs i = some v ∧ Q v H
noncomputable def rIxT (K:PySem.W.Frag):R2:=fun x y H Q=>exR x fun p=>exI y fun i=>∃ xs, SqT K H p xs ∧ ∃ v, atI xs i = some v ∧ Q v H
theorem ix_list:IxR X (rIxL X.K):=by
  intro value slice pins s σ H x y v u Q I rx ry h hs
  obtain ⟨p, rfl, h1⟩:=Eq.mp exR_ex h
  obtain ⟨i, rfl, xs, hq, z, he, q⟩:=Eq.mp exI_ex h1
  cases rx
  obtain ⟨t, rfl⟩:=ry
  obtain ⟨its, r, pl, hz⟩:=I.list hq
  obtain ⟨j, h1, h2, h3, h4, h5⟩:=atI_get he
  obtain ⟨w, ew, rw'⟩:=r.get h2
  have hl:=r.length
  have hn:=line63
  have fin:EP X pins σ Q w s:=⟨z, H, I, rw', q⟩
  by_cases h0:0 ≤ i
  · have hj:i.toNat = j:=by
      rw [seqIndex_of h0 h5] at h1
      exact Option.some.inj h1
    exact item_listR pl.isList h0 (by omega) (by rw [hj]; simpa using ew) fin hs
  · have hj:(i + (its.toArray.size:Int)).toNat = j:=by
      rw [seqIndex_neg (by omega) h4] at h1
      rw [List.size_toArray, ← hl]
      exact Option.some.inj h1
    exact subscriptTail_builtinR (x:=w) pl.isList.typeIs slot_list_getitem.lookup
      (wpAny_getItem_list_neg (Q:=fun r s'=>r = w ∧ EP X pins σ Q r s') pl.isList (by omega) (by rw [List.size_toArray] <;> omega) (by omega) (by rw [hj]; simpa using ew) ⟨rfl, fin⟩) hs
theorem ix_tup:IxR X (rIxT X.K):=by
  intro value slice pins s σ H x y v u Q I rx ry h hs
  obtain ⟨p, rfl, h1⟩:=Eq.mp exR_ex h
  obtain ⟨i, rfl, xs, hq, z, he, q⟩:=Eq.mp exI_ex h1
  cases rx
  obtain ⟨t, rfl⟩:=ry
  obtain ⟨its, r, pl, hz⟩:=I.tuple hq
  obtain ⟨j, h1, h2, h3, h4, h5⟩:=atI_get he
  obtain ⟨w, ew, rw'⟩:=r.get h2
  have hl:=r.length
  have hn:=line63
  have fin:EP X pins σ Q w s:=⟨z, H, I, rw', q⟩
  exact subscriptTail_builtinR (x:=w) pl.typeIs slot_tuple_getitem.lookup
    (getItem_tuple (j:=j) (Q:=fun r s'=>r = w ∧ EP X pins σ Q r s') pl (by omega) (by omega) (by rw [List.size_toArray, ← hl]; exact h1) (by simpa using ew) ⟨rfl, fin⟩) hs
theorem mapSeq_set (its:List Value) (n j:Nat) (u:Value):Obj.mapSeq (·.setIfInBounds j u) { cls:=.type "list", data:=.seq its.toArray n } = { cls:=.type "list", data:=.seq (its.set j u).toArray n }:=by
  simp [Obj.mapSeq]
theorem Inv.lst {pins:List (Addr × Obj)} {σ:St} {H:Hp} {s:Shared} {p:Addr} {xs:List V} (I:Inv X pins σ H s) (h:H p = some (.lst xs)) :
    ∃ (its:List Value) (n:Nat), Vals xs its ∧ s.heap.get? p = some { cls:=.type "list", data:=.seq its.toArray n } ∧ xs.length ≤ sizeLine:=by
  obtain ⟨z, its, n, r, e⟩:=I.hok p _ h
  exact ⟨its, n, r, e, z⟩
theorem Inv.lstUpd {pins:List (Addr × Obj)} {σ:St} {H:Hp} {s:Shared} {p:Addr} {xs ys:List V} {its its':List Value} {n n':Nat} {f:Obj → Obj} (I:Inv X pins σ H s) (h:H p = some (.lst xs))
    (ho:s.heap.get? p = some { cls:=.type "list", data:=.seq its.toArray n }) (hf:f { cls:=.type "list", data:=.seq its.toArray n } = { cls:=.type "list", data:=.seq its'.toArray n' }) (r:Vals ys its') (hz:ys.length ≤ sizeLine) (t:Nat) :
    Inv X pins σ (upd H p (.lst ys)) { s with heap:=s.heap.update p f, toks:=t }:=by
  have e:(s.heap.update p f).get? p = some { cls:=.type "list", data:=.seq its'.toArray n' }:=by
    rw [Heap.get?_update_self f ho (by rw [hf] <;> rfl), hf]
  refine I.write (x:=p) (e:=p) (by rw [h]; trivial) (.inl rfl) (fun b u hb q=>(Heap.get?_update_other _ _ (Ne.symm hb)).trans q) ⟨_, e⟩ ?_
  exact ⟨hz, its', n', r, e⟩
noncomputable def rSetL:V → V → V → Hp → (Hp → Prop) → Prop:=fun o i v H Q=>∃ p xs k j, o = .ref p ∧ i = .int k ∧ H p = some (.lst xs) ∧ ixN xs.length k = some j ∧ Q (upd H p (.lst (xs.set j v)))
theorem set_list:PSet X rSetL:=by
  intro pins s σ H o i v ov iv u Q I ro ri rv h
  obtain ⟨p, xs, k, j, rfl, rfl, hp, hj, q⟩:=h
  cases ro
  obtain ⟨t, rfl⟩:=ri
  obtain ⟨its, n, r, ho, hz⟩:=I.lst hp
  obtain ⟨h1, h2, h3, h4⟩:=ixN_seq hj
  have hl:=r.length
  have hn:=line63
  have I':Inv X pins σ (upd H p (.lst (xs.set j v))) { s with heap:=s.heap.update p (Obj.mapSeq (·.setIfInBounds j u)) } :=
    I.lstUpd hp ho (mapSeq_set its n j u) (r.set rv j) (by rw [List.length_set]; exact hz) s.toks
  by_cases h0:0 ≤ k
  · have hk:k.toNat = j:=by
      rw [seqIndex_of h0 h4] at h1
      exact Option.some.inj h1
    exact PySem.W.ki_setAt ho h0 (by omega) (by rw [List.size_toArray, ← hl]; exact h4) (by rw [hk]; exact ⟨_, I', q⟩)
  · have hk:(k + (its.toArray.size:Int)).toNat = j:=by
      rw [seqIndex_neg (by omega) h3] at h1
      rw [List.size_toArray, ← hl]
      exact Option.some.inj h1
    exact PySem.W.ki_setBack ho (by omega) (by rw [List.size_toArray, ← hl]; exact h3) (by omega) (by rw [hk]; exact ⟨_, I', q⟩)
theorem slice_bounds (lo hi:Option Int) (n:Nat):(sliceBounds lo hi none n).1 = ((HT.sIx n 0 lo:Nat):Int) ∧ (sliceBounds lo hi none n).2.1 = ((HT.sIx n n hi:Nat):Int) ∧ (sliceBounds lo hi none n).2.2 = 1:=by
  refine ⟨?_, ?_, rfl⟩
  · cases lo with
    | none=>simp [sliceBounds, HT.sIx]
    | some i =>
      simp only [sliceBounds, HT.sIx, Option.getD_none, show (1:Int) > 0 by decide, if_true]
      by_cases h:i < 0
      · simp only [h, if_true] <;> omega
      · simp only [h, if_false] <;> omega
  · cases hi with
    | none=>simp [sliceBounds, HT.sIx]
    | some i =>
      simp only [sliceBounds, HT.sIx, Option.getD_none, show (1:Int) > 0 by decide, if_true]
      by_cases h:i < 0
      · simp only [h, if_true] <;> omega
      · simp only [h, if_false] <;> omega
theorem slicePick_cut (its:List Value) (lo hi:Option Int):slicePick its.toArray lo hi none = ((its.drop (HT.sIx its.length 0 lo)).take (HT.sIx its.length its.length hi - HT.sIx its.length 0 lo)).toArray:=by
  obtain ⟨h1, h2, h3⟩:=slice_bounds lo hi its.toArray.size
  unfold slicePick
  rw [h1, h2, h3]
  simp only [sliceRange_one, pick_run, List.size_toArray] <;> rfl
noncomputable def rSlL (K:PySem.W.Frag):V → Option Int → Option Int → Hp → VK → Prop:=fun x lo hi H Q=>∃ a xs, x = .ref a ∧ SqL K H a xs ∧ ∀ p, H p = none → Q (.ref p) (upd H p (.lst (cutV xs lo hi)))
theorem sl_list:SlR X (rSlL X.K):=by
  intro pins s σ H x v vl vu lo hi sl Q I rx hs pl pu h
  obtain ⟨a, xs, rfl, hx, q⟩:=h
  cases rx
  obtain ⟨its, r, ht, hz⟩:=I.list hx
  have hlen:=r.length
  refine ⟨"list", _, slot_list_getitem.lookup, ht.isList.typeIs, ?_⟩
  refine wpAny_getItem_list_slice ht.isList hs pl pu .none (by simp) ?_ (by rw [List.size_toArray] <;> omega)
  rw [slicePick_cut, ← hlen]
  refine ⟨.ref s.heap.objs.size, _, I.laid (t':=s.toks) (o:=.lst (cutV xs lo hi)) (fun b ob q=>Heap.get?_push_of_some _ q) (Nat.le_refl _) ?_, rfl, q _ (I.hok.fresh (Nat.le_refl _))⟩
  exact ⟨Nat.le_trans (cutV_length xs lo hi) hz, _, 0, (r.drop (HT.sIx xs.length 0 lo)).take (HT.sIx xs.length xs.length hi - HT.sIx xs.length 0 lo), Heap.get?_push_size _ rfl⟩
theorem call_len_seq:CallR X (.builtin "len") (fun xs H Q=>∃ p ys, xs = [.ref p] ∧ (SqL X.K H p ys ∨ SqT X.K H p ys) ∧ Q (.int ys.length) H):=by
  intro pins s σ H xs us Q I r h
  obtain ⟨p, ys, rfl, hq, q⟩:=h
  obtain ⟨u, rfl, rx⟩:=vals1 r
  cases rx
  have hn:=line63
  rcases hq with hq | hq
  · obtain ⟨its, r', pl, hz⟩:=I.list hq
    have hlen:=r'.length
    exact Calls.call_len_list pl.isList (by simp only [List.size_toArray] <;> omega) ⟨.int ys.length, H, I.tok _, ⟨s.toks + 1, by rw [List.size_toArray, hlen]⟩, q⟩
  · obtain ⟨its, r', pl, hz⟩:=I.tuple hq
    have hlen:=r'.length
    exact len_tuple pl (by simp only [List.size_toArray] <;> omega) ⟨.int ys.length, H, I.tok _, ⟨s.toks + 1, by rw [List.size_toArray, hlen]⟩, q⟩
theorem call_list_of:CallR X (.type "list") (fun xs H Q=>∃ p ys, xs = [.ref p] ∧ (SqL X.K H p ys ∨ SqT X.K H p ys) ∧ ∀ l, H l = none → Q (.ref l) (upd H l (.lst ys))):=by
  intro pins s σ H xs us Q I r h
  obtain ⟨p, ys, rfl, hq, q⟩:=h
  obtain ⟨u, rfl, rx⟩:=vals1 r
  cases rx
  have fin:∀ (its:List Value), Vals ys its → ys.length ≤ sizeLine → ∀ (h':Heap) (c':Nat), (∀ b o', s.heap.get? b = some o' → h'.get? b = some o') →
      h'.get? s.heap.objs.size = some { cls:=.type "list", dict:=none, data:=.seq its.toArray c', slots:=#[] } → EP X pins σ Q (.ref s.heap.objs.size) { s with heap:=h' }:=fun its r' hz h' c' kp e =>
    ⟨.ref s.heap.objs.size, _, I.laid (t':=s.toks) kp (Nat.le_refl _) (show ObjOk X.prog X.w _ h' _ (.lst ys) from ⟨hz, its, c', r', e⟩), rfl, q _ (I.hok.fresh (Nat.le_refl _))⟩
  rcases hq with hq | hq
  · obtain ⟨its, r', pl, hz⟩:=I.list hq
    have hlen:=r'.length
    obtain ⟨o, ho, hc, n, hd⟩:=pl.isList
    exact call_list_seq p (.inl rfl) ho hc hd (fun h' c' kp e=>fin its r' hz h' c' kp e) (by simp only [List.size_toArray] <;> omega)
  · obtain ⟨its, r', pl, hz⟩:=I.tuple hq
    have hlen:=r'.length
    obtain ⟨o, ho, hc, n, hd⟩:=pl
    exact call_list_seq p (.inr rfl) ho hc hd (fun h' c' kp e=>fin its r' hz h' c' kp e) (by simp only [List.size_toArray] <;> omega)
noncomputable def tyV (K:PySem.W.Frag) (T:String) (x:V) (H:Hp):Prop:=match x with
  | .str _=>T = "str"
  | .int _=>T = "int"
  | .ref p=>(T = "list" ∧ ∃ xs, SqL K H p xs) ∨ (T = "tuple" ∧ ∃ o, K.lookup p = some o ∧ o.cls = .type "tuple" ∧ o.dict = none) ∨
      (T = "dict" ∧ ((∃ kvs, H p = some (.dK kvs)) ∨ ∃ kvs, H p = some (.dT kvs))) ∨ (T = "set" ∧ ∃ S n, H p = some (.set S n))
  | _=>False
theorem tyV_is {pins:List (Addr × Obj)} {σ:St} {H:Hp} {s:Shared} {T:String} {x:V} {v:Value} (I:Inv X pins σ H s) (r:RelV x v) (ty:tyV X.K T x H) :
    s.TypeIs v T ∧ ∀ a, v = .ref a → ∃ ob, s.heap.get? a = some ob ∧ ob.dict = none:=by
  cases x with
  | str z =>
    obtain ⟨t, rfl⟩:=r
    cases (show T = "str" from ty)
    exact ⟨typeIs_str s z t, fun _ e=>nomatch e⟩
  | int i =>
    obtain ⟨t, rfl⟩:=r
    cases (show T = "int" from ty)
    exact ⟨typeIs_int s i t, fun _ e=>nomatch e⟩
  | ref p =>
    cases r
    rcases ty with ⟨rfl, xs, hq⟩ | ⟨rfl, o, hk, hc, hd⟩ | ⟨rfl, hk⟩ | ⟨rfl, S, n, hk⟩
    · obtain ⟨its, _, pl, _⟩:=I.list hq
      refine ⟨pl.isList.typeIs, fun a e=>?_⟩
      cases e
      obtain ⟨o, n, e, c, hd, _⟩:=pl
      exact ⟨o, e, hd⟩
    · refine ⟨⟨o, I.kIn p o hk, hc⟩, fun a e=>?_⟩
      cases e
      exact ⟨o, I.kIn _ o hk, hd⟩
    · have z:∃ o, s.heap.get? p = some o ∧ o.ExactDict:=by
        rcases hk with ⟨kvs, hk⟩ | ⟨kvs, hk⟩
        · obtain ⟨_, _, _, _, o, _, _, e, ex, _⟩:=I.hok p _ hk
          exact ⟨o, e, ex⟩
        · obtain ⟨_, _, _, _, o, _, _, e, ex, _⟩:=I.hok p _ hk
          exact ⟨o, e, ex⟩
      obtain ⟨o, e, ex⟩:=z
      refine ⟨⟨o, e, ex.1⟩, fun a e2=>?_⟩
      cases e2
      exact ⟨o, e, ex.2.1⟩
    · obtain ⟨o, _, _, _, e, ex, _⟩:=I.hok p _ hk
      refine ⟨⟨o, e, ex.1⟩, fun a e2=>?_⟩
      cases e2
      exact ⟨o, e, ex.2.1⟩
  | _=>exact False.elim ty
noncomputable def tBM (K:PySem.W.Frag) (T:String) (r:V → List V → Hp → VK → Prop) (to:TE) (t:TA):TE:=fun σ H Q=>to σ H fun x H1=>tyV K T x H1 ∧ t σ H1 fun xs H2=>r x xs H2 Q
variable {o e:Expr} {es:List Expr} {to:TE} {t:TA} {name:Str} {apos cpos:Pos} {T id:String} {r:V → List V → Hp → VK → Prop}
theorem pe_bm (pa:PlainAttrs T) (slot:Slot T name id) (hty:typeOf (.builtin id) = pure (.type "method_descriptor")) (hm:MtR X id r) (ho:PE X o to) (ha:PA X (e :: es) t)
    (hbase:attributeBase o name X.env (eval o X.env) = eval o X.env:=by rfl)
    (hfew:((backTo cpos (starEach (e :: es) X.env)).all (fun x=>!x.1) && (backToKw cpos (keywordEach [] X.env)).all (fun x=>x.1.isSome)
      && decide ((e :: es).length + ([]:List Keyword).length + (if ([]:List Keyword).isEmpty then 0 else 1) < 30)) = true:=by rfl)
    (hline:(apos.endLine == cpos.line) = true:=by rfl) (hs:starEach (e :: es) X.env = (false, eval e X.env) :: starEach es X.env:=by rfl) (hplain:(backTo cpos (starEach es X.env)).any (·.1) = false:=by rfl) :
    PE X (.Call (.Attribute o name apos) (e :: es) [] cpos) (tBM X.K T r to t):=by
  intro pins s σ H Q I h
  refine wpAny_Call_method_late hbase hfew hline rfl (thn (ho pins s σ H _ I h) fun v s1 ⟨x, H1, I1, r1, ty, q1⟩=>?_)
  obtain ⟨h1, h2⟩:=tyV_is I1 r1 ty
  refine ⟨T, id, pa, slot, hty, h1, h2, ?_⟩
  have hA:=ha cpos pins s1 σ H1 _ I1 q1
  rw [hs] at hA ⊢
  refine Calls.callWith_builtin (by show (false || (backTo cpos (starEach es X.env)).any (·.1)) = false; rw [hplain] <;> rfl) (Calls.evalArgs_plain ?_)
  exact thn hA fun us s2 ⟨vs, H2, I2, r2, q2⟩=>hm pins s2 σ H2 x vs v us Q I2 r1 r2 q2
end
end L2
namespace L2
open PySem PySem.Spec PyProof.Rows
noncomputable def MtM (X:Cx) (id:String) (r:V → List V → Hp → VK → Prop):Prop :=
  ∀ (pins:List (Addr × Obj)) (s:Shared) (σ:St) (H:Hp) (x:V) (xs:List V) (v:Value) (us:List Value) (Q:VK), Inv X pins σ H s → RelV x v → Vals xs us → r x xs H Q →
    wpAny (model X.prog X.w) X.A (call (.builtin id) (v :: us)) (EP X pins σ Q) X.xe s
theorem Vals.one:∀ {x:V} {us:List Value}, Vals [x] us → ∃ u, us = [u] ∧ RelV x u
  | _, _, .cons r .nil=>⟨_, rfl, r⟩
theorem Vals.two:∀ {x y:V} {us:List Value}, Vals [x, y] us → ∃ u v, us = [u, v] ∧ RelV x u ∧ RelV y v
  | _, _, _, .cons r (.cons q .nil)=>⟨_, _, rfl, r, q⟩
theorem Vals.eraseIdx:∀ {xs:List V} {us:List Value} (i:Nat), Vals xs us → Vals (xs.eraseIdx i) (us.eraseIdx i)
  | _, _, _, .nil=>.nil
  | _, _, 0, .cons _ t=>t
  | _, _, i + 1, .cons r t=>.cons r (Vals.eraseIdx i t)
theorem Vals.rep {xs:List V} {us:List Value} (h:Vals xs us):∀ k:Nat, Vals (List.replicate k xs).flatten (List.replicate k us).flatten
  | 0=>.nil
  | k + 1=>by
    rw [List.replicate_succ, List.replicate_succ, List.flatten_cons, List.flatten_cons]
    exact Vals.append h (Vals.rep h k)
theorem len_erase {α:Type}:∀ (l:List α) (i:Nat), (l.eraseIdx i).length ≤ l.length
  | [], _=>Nat.le_refl _
  | _ :: _, 0=>Nat.le_succ _
  | _ :: r, i + 1=>Nat.succ_le_succ (len_erase r i)
theorem foldl_rep (its:List Value):∀ (k:Nat) (acc:List Value),
    List.foldl (fun x1 x2=>x1 ++ x2) acc.toArray (List.replicate k its.toArray) = (acc ++ (List.replicate k its).flatten).toArray
  | 0, acc=>by simp
  | k + 1, acc=>by
    have e:acc.toArray ++ its.toArray = (acc ++ its).toArray:=by simp
    have e2:(acc ++ its) ++ (List.replicate k its).flatten = acc ++ (List.replicate (k + 1) its).flatten:=by
      rw [List.replicate_succ, List.flatten_cons, List.append_assoc]
    rw [← e2, ← foldl_rep its k (acc ++ its), ← e, List.replicate_succ, List.foldl_cons]
section
variable {X:Cx} {pins:List (Addr × Obj)} {σ:St} {H:Hp} {s:Shared} {l b:Addr} {xs ys zs:List V}
theorem Inv.lset {its its':List Value} {n:Nat} {f:Array Value → Array Value} {t':Nat} (I:Inv X pins σ H s) (hH:H l = some (.lst xs))
    (e:s.heap.get? l = some { cls:=.type "list", data:=.seq its.toArray n }) (hf:f its.toArray = its'.toArray) (hv:Vals ys its') (hz:ys.length ≤ sizeLine) :
    Inv X pins σ (upd H l (.lst ys)) { s with heap:=s.heap.update l (Obj.mapSeq f), toks:=t' }:=by
  have q:=PySem.IsL.update e f
  rw [hf] at q
  refine I.write (x:=l) (e:=l) (by rw [hH]; exact trivial) (.inl rfl) (fun b' u hb hu=>(Heap.get?_update_other s.heap (Obj.mapSeq f) (Ne.symm hb)).trans hu) ⟨_, q⟩ ?_
  exact ⟨hz, its', _, hv, q⟩
theorem Inv.lnew {its:List Value} {t':Nat} (I:Inv X pins σ H s) (hv:Vals ys its) (hz:ys.length ≤ sizeLine) :
    Inv X pins σ (upd H s.heap.objs.size (.lst ys)) { s with heap:=s.heap.push { cls:=.type "list", data:=.seq its.toArray }, toks:=t' } :=
  I.laid (fun _ _ q=>Heap.get?_push_of_some _ q) (Nat.le_refl _) ⟨hz, its, 0, hv, Heap.get?_push_size _ rfl⟩
theorem Inv.fresh (I:Inv X pins σ H s):H s.heap.objs.size = none:=I.hok.fresh (Nat.le_refl _)
theorem Inv.lstM (I:Inv X pins σ H s) (hH:H l = some (.lst xs)):xs.length ≤ sizeLine ∧ ∃ (its:List Value) (n:Nat), Vals xs its ∧ xs.length = its.length ∧ s.heap.get? l = some { cls:=.type "list", data:=.seq its.toArray n }:=by
  obtain ⟨z, its, n, r, e⟩:=I.hok l _ hH
  exact ⟨z, its, n, r, r.length, e⟩
theorem notLongL {n:Nat} (h:n ≤ sizeLine):Builtin.List.listTooLong n = false:=by
  unfold Builtin.List.listTooLong
  exact decide_eq_false (by omega)
end
section
variable {X:Cx}
noncomputable def rAppend:V → List V → Hp → VK → Prop:=fun x vs H Q=>∃ l xs y, x = .ref l ∧ vs = [y] ∧ H l = some (.lst xs) ∧ xs.length < sizeLine ∧ Q .non (upd H l (.lst (xs ++ [y])))
theorem mt_append:MtM X "list.append" rAppend:=by
  intro pins s σ H x vs v us Q I rx rv h
  obtain ⟨l, xs, y, rfl, rfl, hH, hz, q⟩:=h
  cases rx
  obtain ⟨u, rfl, ru⟩:=rv.one
  obtain ⟨z, its, n, r, hl, e⟩:=I.lstM hH
  refine call_meets F.slot_list_append ⟨_, e, rfl⟩ F.entry_list_append (F.args_list_append_2 _ _) (PySem.list_append l its.toArray n u (by rw [List.size_toArray]; omega)) ⟨e, ?_⟩
  refine ⟨.non, _, I.lset (its':=its ++ [u]) hH e (by simp) (r.append (.cons ru .nil)) ?_, rfl, q⟩
  rw [List.length_append, List.length_singleton]
  omega
noncomputable def rExtend:V → List V → Hp → VK → Prop:=fun x vs H Q=>∃ l b xs zs, x = .ref l ∧ vs = [.ref b] ∧ H l = some (.lst xs) ∧ H b = some (.lst zs) ∧ xs.length + zs.length ≤ sizeLine ∧ Q .non (upd H l (.lst (xs ++ zs)))
theorem mt_extend:MtM X "list.extend" rExtend:=by
  intro pins s σ H x vs v us Q I rx rv h
  obtain ⟨l, b, xs, zs, rfl, rfl, hH, hB, hz, q⟩:=h
  cases rx
  obtain ⟨u, rfl, ru⟩:=rv.one
  cases ru
  obtain ⟨z, its, n, r, hl, e⟩:=I.lstM hH
  obtain ⟨z2, its2, n2, r2, hl2, e2⟩:=I.lstM hB
  have hsz:its.toArray.size + its2.toArray.size ≤ sizeLine:=by rw [List.size_toArray, List.size_toArray]; omega
  have hlong:¬ (!its.toArray.isEmpty && Builtin.List.listTooLong (its.toArray.size + its2.toArray.size)) = true:=by
    rw [notLongL hsz, Bool.and_false]
    exact Bool.false_ne_true
  refine call_meets F.slot_list_extend ⟨_, e, rfl⟩ F.entry_list_extend (F.args_list_extend_2 _ _)
    (AutoSeq1.list_extend_list_list_0 l its.toArray n b its2.toArray n2 hlong (by rw [List.size_toArray]; omega) (by omega)) ⟨e, e2, ?_⟩
  refine ⟨.non, _, I.lset (its':=its ++ its2) hH e (by simp) (r.append r2) ?_, rfl, q⟩
  rw [List.length_append]
  omega
noncomputable def rPopAt:V → List V → Hp → VK → Prop:=fun x vs H Q=>∃ l xs i k y, x = .ref l ∧ vs = [.int i] ∧ H l = some (.lst xs) ∧ -(2 ^ 63) ≤ i ∧ i < 2 ^ 63 ∧ seqIndex? i xs.length = some k ∧ xs[k]? = some y ∧ Q y (upd H l (.lst (xs.eraseIdx k)))
theorem mt_popAt:MtM X "list.pop" rPopAt:=by
  intro pins s σ H x vs v us Q I rx rv h
  obtain ⟨l, xs, i, k, y, rfl, rfl, hH, h1, h2, hk, hy, q⟩:=h
  cases rx
  obtain ⟨u, rfl, ru⟩:=rv.one
  obtain ⟨t, rfl⟩:=ru
  obtain ⟨z, its, n, r, hl, e⟩:=I.lstM hH
  obtain ⟨w, hw, rw'⟩:=r.get hy
  refine call_meets F.slot_list_pop ⟨_, e, rfl⟩ F.entry_list_pop (F.args_list_pop_2 _ _)
    (MeetsSeq.list_pop_at l its.toArray n i t k w (fitsIndex_both h1 h2) (by rw [List.size_toArray, ← hl]; exact hk) (by rw [← Array.getElem?_toList]; exact hw) (by rw [List.size_toArray]; omega)) ⟨e, ?_⟩
  refine ⟨y, _, I.lset (its':=its.eraseIdx k) hH e ?_ (r.eraseIdx k) ?_, rw', q⟩
  · show its.toArray.eraseIdxIfInBounds k = (its.eraseIdx k).toArray
    rw [List.eraseIdxIfInBounds_toArray]
  · have:=len_erase xs k
    omega
noncomputable def rCat:R2:=fun x y H Q=>∃ l b xs zs, x = .ref l ∧ y = .ref b ∧ H l = some (.lst xs) ∧ H b = some (.lst zs) ∧ xs.length + zs.length ≤ sizeLine ∧ ∀ p, H p = none → Q (.ref p) (upd H p (.lst (xs ++ zs)))
theorem op_cat:OpR X (binaryOp .Add) rCat:=by
  intro pins s σ H x y v u Q I rx ry h
  obtain ⟨l, b, xs, zs, rfl, rfl, hH, hB, hz, q⟩:=h
  cases rx
  cases ry
  obtain ⟨z, its, n, r, hl, e⟩:=I.lstM hH
  obtain ⟨z2, its2, n2, r2, hl2, e2⟩:=I.lstM hB
  refine PySem.P.add_list e e2 ?_ (by rw [List.size_toArray, List.size_toArray]; omega)
  have ea:its.toArray ++ its2.toArray = (its ++ its2).toArray:=by simp
  rw [ea]
  exact ⟨.ref _, _, I.lnew (t':=s.toks) (r.append r2) (by rw [List.length_append]; omega), rfl, q _ I.fresh⟩
noncomputable def rRep:R2:=fun x y H Q=>∃ l k xs, x = .ref l ∧ y = .int k ∧ H l = some (.lst xs) ∧ -(2 ^ 63) ≤ k ∧ k < 2 ^ 63 ∧ xs.length * k.toNat ≤ sizeLine ∧
  ∀ p, H p = none → Q (.ref p) (upd H p (.lst (List.replicate k.toNat xs).flatten))
theorem len_rep {α:Type} (xs:List α) (k:Nat):(List.replicate k xs).flatten.length = k * xs.length:=by
  induction k with
  | zero=>simp
  | succ k ih=>rw [List.replicate_succ, List.flatten_cons, List.length_append, ih, Nat.succ_mul, Nat.add_comm]
theorem op_rep:OpR X (binaryOp .Mult) rRep:=by
  intro pins s σ H x y v u Q I rx ry h
  obtain ⟨l, k, xs, rfl, rfl, hH, h1, h2, hz, q⟩:=h
  cases rx
  obtain ⟨t, rfl⟩:=ry
  obtain ⟨z, its, n, r, hl, e⟩:=I.lstM hH
  have hlen:its.toArray.size * k.toNat ≤ sizeLine:=by rw [List.size_toArray, ← hl]; exact hz
  have hcap:¬ its.toArray.size * k.toNat > (2 ^ 63 - 1) / 8:=by
    have:(sizeLine:Nat) ≤ (2 ^ 63 - 1) / 8:=by decide
    omega
  have hfit:¬ (!Builtin.List.listFitsIndex k) = true:=by
    rw [fitsIndex_both h1 h2]
    exact Bool.false_ne_true
  have hlong:¬ Builtin.List.listTooLong (its.toArray.size * k.toNat) = true:=by
    rw [notLongL hlen]
    exact Bool.false_ne_true
  have hnew:List.foldl (fun x1 x2=>x1 ++ x2) #[] (List.replicate (if its.toArray.isEmpty = true then 0 else k.toNat) its.toArray) = (List.replicate k.toNat its).flatten.toArray:=by
    have f0:∀ m:Nat, List.foldl (fun x1 x2=>x1 ++ x2) #[] (List.replicate m its.toArray) = (List.replicate m its).flatten.toArray:=fun m=>by
      have:=foldl_rep its m []
      rw [List.nil_append] at this
      exact this
    rw [f0]
    cases its with
    | nil=>simp
    | cons a r'=>rw [if_neg (by simp)]
  refine wpAny_binaryOp_repeat_ref (T:="list") (U:="int") (by decide) ⟨_, e, rfl⟩ (fun s'=>typeIs_int s' k t) noFill_list_mul F.fills_int_mul F.slot_int_rmul repeat_list F.slot_int_index.lookup
    (call_meets F.slot_int_rmul (typeIs_int s k t) F.entry_int_rmul (F.args_int_rmul_2 _ _) (int___rmul___int_list k t l its.toArray n)
      ⟨e, rfl, ⟨_, e, rfl⟩, call_meets F.slot_list_mul ⟨_, e, rfl⟩ F.entry_list_mul (F.args_list_mul_2 _ _) (AutoListH.list___mul___list_int_3 l its.toArray n k t hfit hcap hlong) ⟨e, ?_⟩⟩)
  rw [hnew]
  exact ⟨.ref _, _, I.lnew (t':=s.toks) (r.rep k.toNat) (by rw [len_rep, Nat.mul_comm]; exact hz), rfl, q _ I.fresh⟩
end
section
variable {prog:Program} {w:World} {A:Around} {E:Value → Shared → Prop} {s:Shared}
end
section
variable {X:Cx}
end
end L2
namespace Att
open PySem PySem.W PySem.Calls PyProof.Rows
theorem ints_of_wellAll {P:Params} {h:Heap}:∀ (ns:List Int) (vs:List Value), WellAll P h vs (ns.map WData.int) → IntsAre vs ns:=by
  intro ns
  induction ns with
  | nil =>
    intro vs w
    rw [List.map_nil] at w
    cases w
    exact .nil
  | cons n ns ih =>
    intro vs w
    rw [List.map_cons] at w
    cases w with
    | cons a b =>
      cases a
      exact .cons _ _ (ih _ b)
theorem script_of {l:OpenLaw} {n:Nat} (hn:l.most = some n) {P:Params} {h:Heap} {args:List WData} {vals:List Value}
    (hpre:l.row.toRowW.claim.pre args = true) (hwl:WellAll P h vals args) :
    ∃ a vs ns, vals = [Value.ref a] ∧ args = [WData.list (ns.map WData.int)] ∧ h.get? a = some { cls:=.type "list", data:=.seq vs.toArray } ∧ IntsAre vs ns ∧ ns.length ≤ n:=by
  have hsh:WShape.hasAll [] args [.list .int] = true:=(pre_splitW hpre).1
  have hc:l.pre.holds [] { args:=args } = true:=(pre_splitW hpre).2
  obtain ⟨d, r, rfl, h1, h2⟩:=hasAllW_cons hsh
  obtain rfl:=hasAllW_nil h2
  obtain ⟨xs, rfl, h3⟩:=hasW_list h1
  obtain ⟨ns, rfl⟩:=items_int h3
  have hlen:ns.length ≤ n:=by
    unfold OpenLaw.pre at hc
    have h4:(WTm.not (.lt (.lit (.int (n:Int))) (.len (.arg 0)))).holds [] { args:=[.list (ns.map .int)] } = true:=by
      have h4:=(holds_andW hc).1
      rw [hn] at h4
      exact h4
    have h5:=condW_of h4 (w_not (w_lt w_lit (w_len_list (w_arg rfl))))
    rw [List.length_map] at h5
    refine Nat.le_of_not_lt fun q=>?_
    have q':(n:Int) < ((ns.length:Nat):Int):=by omega
    first
      | (rw [decide_eq_true q'] at h5; exact absurd h5 (by decide))
      | (simp at h5; omega)
  cases hwl with
  | cons w1 w2 =>
    cases w2
    cases w1 with
    | list ho hall=>exact ⟨_, _, ns, rfl, rfl, ho, ints_of_wellAll ns _ hall, hlen⟩
theorem post_true (l:OpenLaw) (args:List WData):l.row.toRowW.claim.post args (.bool true) args = true :=
  postW_of (r:=l.row.toRowW) (X:=(true == true))
    (show WShape.has [] (.bool true) .bool = true by first | rfl | decide | simp [WShape.has, WShape.arms, WShape.armsAll])
    (show (WTm.eq .res (.lit (.bool true))).value [] { args:=args, res:=some (.bool true), after:=args } = some (.bool (true == true)) from w_eq_bool (w_res rfl) w_lit) rfl
theorem attach_call {l:OpenLaw} {n:Nat} {q:Program} {loose:List Str} {XP:(Str → Option Value) → Heap → Prop} {YP:World → Heap → Prop} {d:DefRec}
    (hn:l.most = some n) (hdf:d.params.defaults = [])
    (call:∀ (w:World) (s₀ s₁:Shared) (mg mb:Str → Option Value) (fa:Addr) (o:Obj) (pm cd doc:Value) (a:Addr) (vs:List Value) (ns:List Int),
      Ground q loose [] XP w s₀ mg mb s₁.heap → YP w s₁.heap →
      s₁.heap.get? fa = some o → o.data = .func (docDef d.name d.params d.body d.scope pm cd doc) → s₁.heap.CodeRec cd d.name → mg d.name = some (.ref fa) →
      s₁.heap.get? a = some { cls:=.type "list", data:=.seq vs.toArray } → IntsAre vs ns → ns.length ≤ n → s₁.gens = #[] →
      codeAny (model l.prog w) callerA (.call (.ref fa) ⟨[.ref a], []⟩) (fun r s'=>r = .ok (.ret (.bool true)) ∧ OldK s₁.heap s'.heap ∧ s'.os = s₁.os ∧ AllBare s'.gens) s₁) :
    WalkO q loose XP YP l.row.toRowW d [] (fun f vs=>PySem.call f vs):=by
  intro w s₀ s₁ mg mb G Y fa o pm cd doc dV kV ho hd hcd hD hmg hg args vals as hpre hlay hrd hwl hlo
  obtain rfl:dV = .none:=Dflts.none hD hdf
  obtain rfl:kV = .none:=Dflts.noKw hD
  obtain ⟨a, vs, ns, rfl, rfl, hobj, hints, hlen⟩:=script_of hn hpre hwl
  refine enter_call (codeAny_mono (call w s₀ s₁ mg mb fa o pm cd doc a vs ns G Y ho (fd_plain hd) hcd hmg hobj hints hlen hg) fun r s' hq=>?_)
  obtain ⟨rfl, h2, h3, h4⟩:=hq
  exact ⟨.inl ⟨.bool true, .bool true, [], rfl, fun _=>rfl, .bool true, post_true l _, fun _=>⟨List.Pairwise.nil, fun _ hm=>(nomatch hm)⟩⟩, h2, h3, h4⟩
section
variable {prog:Program} {w:World} {A:Around} {E:Value → Shared → Prop} {s:Shared} {K:Frag}
end
end Att
namespace L2
open PySem PySem.Spec PyProof.Rows
theorem vals_ints:∀ {vs:List Value} {ns:List Int}, IntsAre vs ns → Vals (ns.map V.int) vs
  | _, _, .nil=>.nil
  | _, _, .cons n t h=>.cons ⟨t, rfl⟩ (vals_ints h)
noncomputable def Only (H:Hp):Prop:=∀ b, H b = none ∨ ∃ o xs, H b = some (.frz o (.lst xs))
theorem law_call {P:Program} {w:World} {K:PySem.W.Frag} {mg mb:Str → Option Value} {CX:CXT} {k:Nat} {fa a:Addr} {fd:FuncData} {x:Str} {sp:Sp} {s₁:Shared} {vs:List Value} {ns:List Int}
    (KX:K.In s₁.heap) (hns:s₁.heap.Ns mainGlobals mg) (hb:s₁.heap.Ns builtinsNs mb) (hbb:∀ x:Str, x ≠ "__name__" → mb x = bootBuiltins x) (hlim:s₁.heap.NoLimit) (hg:s₁.gens = #[])
    (ha:s₁.heap.get? a = some { cls:=.type "list", data:=.seq vs.toArray }) (hi:IntsAre vs ns) (hl:ns.length ≤ sizeLine) (hr:Room k callerA)
    (F:∀ base:Heap, K.In base → base.Ns mainGlobals mg → FnOk P w K mg base CX k fa fd [x] sp) (hbind:∀ (s:Shared) (u:Value), BindsTo s fd ⟨[u], []⟩ [(x, u)])
    (hsp:∀ H:Hp, Only H → SqL K H a (ns.map V.int) → sp [.ref a] H (fun v _=>v = .bl true) fun _ _ _=>False)
    (hCX:∀ H e s', CX [] H s₁ (fun _ _ _=>False) e s' → False) :
    codeAny (model P w) callerA (.call (.ref fa) ⟨[.ref a], []⟩) (fun r s'=>r = .ok (.ret (.bool true)) ∧ OldK s₁.heap s'.heap ∧ s'.os = s₁.os ∧ AllBare s'.gens) s₁:=by
  have rv:=vals_ints hi
  have lenV:=hi.length
  -- from an abstract heap in which nothing but the script may be tracked
  have core:∀ H:Hp, Only H → SqL K H a (ns.map V.int) → HOk P w H s₁.heap → (∀ b, H b ≠ none → b = a) → (H a ≠ none → K.lookup a = none) →
      codeAny (model P w) callerA (.call (.ref fa) ⟨[.ref a], []⟩) (fun r s'=>r = .ok (.ret (.bool true)) ∧ OldK s₁.heap s'.heap ∧ s'.os = s₁.os ∧ AllBare s'.gens) s₁:=by
    intro H hO hS hok hA hK
    have base_of:∀ {b:Addr} {o:Obj}, s₁.heap.get? b = some o → H b = none → (hidT s₁.heap H).get? b = some o:=fun e n=>hidT_get e n
    have noA:∀ {b:Addr} {o:Obj} {es:Array DictEntry} {ep:Nat}, s₁.heap.get? b = some o → o.data = .dict es ep → H b = none:=fun {b o es ep} e d=>by
      cases q:H b with
      | none=>rfl
      | some u =>
        have e':b = a:=hA b (by rw [q]; simp)
        subst e'
        rw [ha] at e; cases e
        have d':Data.seq vs.toArray _ = Data.dict es ep:=d
        cases d'
    have nsK:∀ {b:Addr} {m:Str → Option Value}, s₁.heap.Ns b m → (hidT s₁.heap H).Ns b m:=fun {b m} ⟨o, es, ep, e, d, r⟩=>⟨o, es, ep, base_of e (noA e d), d, r⟩
    have hKb:K.In (hidT s₁.heap H):=fun b o e=>base_of (KX b o e) (by
      cases q:H b with
      | none=>rfl
      | some u =>
        have e':b = a:=hA b (by rw [q]; simp)
        subst e'
        rw [hK (by rw [q]; simp)] at e; cases e)
    have hM:Mod K mg (hidT s₁.heap H):=⟨hKb, nsK hns, ⟨mb, nsK hb, hbb⟩, let ⟨mc, h1, h2⟩:=hlim; ⟨mc, nsK h1, h2⟩⟩
    have e0:Env0 P w K mg (hidT s₁.heap H) callerA [] s₁ H:=⟨rfl, hM, fun b o e=>of_hidT e, Nat.le_of_eq (hidT_size _ _), trivial, fun b hb=>absurd (show b ∈ ([]:List Addr) from hb) (by simp), hok, .of_eq hg⟩
    refine codeAny_mono ((F _ hKb (nsK hns)).run callerA [] s₁ H ⟨[.ref a], []⟩ [.ref a] [.ref a] _ _ hr e0 (hbind s₁ (.ref a)) (.cons rfl .nil) (hsp H hO hS)) fun r s' h=>?_
    cases r with
    | error e=>exact (hCX H e s' h).elim
    | ok fl =>
      cases fl with
      | next=>exact False.elim h
      | brk=>exact False.elim h
      | cont=>exact False.elim h
      | ret u =>
        obtain ⟨v, H', os, bare, un, hok', r', q⟩:=h
        have q':v = .bl true:=q
        subst q'
        obtain rfl:u = Value.bool true:=r'
        refine ⟨rfl, OldK.of_keep fun b o e=>?_, os, bare⟩
        cases q:H b with
        | none=>exact un.keep b o e q (by intro z; exact absurd (show b ∈ ([]:List Addr) from z) (by simp)) (by simp)
        | some u =>
          rcases hO b with z | ⟨ob, xs, z⟩
          · rw [q] at z; cases z
          · have z2:=un.frzs b ob _ z
            obtain ⟨e1, _⟩:=hok b _ z
            obtain ⟨e2, _⟩:=hok' b _ z2
            rw [e] at e1; cases e1
            exact e2
  cases hk:K.lookup a with
  | some o =>
    -- the script is one of the module's own objects
    have e:=KX a o hk
    rw [ha] at e
    cases e
    refine core (fun _=>none) (fun _=>.inl rfl) (.inr ⟨_, vs.toArray, _, hk, rfl, rfl, rfl, by rw [List.size_toArray, lenV]; exact hl, by simpa using rv⟩) (fun b u z=>by have z':(none:Option HO) = some u:=z; cases z') (fun b z=>absurd rfl z) fun z=>absurd rfl z
  | none =>
    refine core (fun b=>if b = a then some (.frz { cls:=.type "list", data:=.seq vs.toArray } (.lst (ns.map V.int))) else none) (fun b=>?_) (.inl (.inr ⟨{ cls:=.type "list", data:=.seq vs.toArray }, if_pos rfl⟩)) (fun b u z=>?_) (fun b z=>?_) fun _=>hk
    · by_cases hb:b = a
      · exact .inr ⟨_, _, if_pos hb⟩
      · exact .inl (if_neg hb)
    · by_cases hb:b = a
      · have z':=(if_pos hb).symm.trans z
        cases z'
        subst hb
        exact ⟨ha, by rw [List.length_map]; exact hl, vs, _, rv, ha⟩
      · have z':=(if_neg hb).symm.trans z
        cases z'
    · by_cases hb:b = a
      · exact hb
      · exact absurd (if_neg hb) z
end L2
namespace L2
open PySem PySem.Spec PyProof.Rows
theorem walk_of {l:PySem.W.OpenLaw} {n k:Nat} {q:Program} {loose:List Str} {XP:(Str → Option Value) → Heap → Prop} {YP:World → Heap → Prop} {d:DefRec} {K:Params → PySem.W.Frag} {CX:World → CXT} {sp:World → Sp} {x:Str}
    (hn:l.most = some n) (hn2:n ≤ sizeLine) (hdf:d.params.defaults = []) (hr:Room k callerA)
    (hY:∀ (w:World) (h:Heap), YP w h → (K w.params).In h)
    (F:∀ (w:World) (mg:Str → Option Value) (fa:Addr) (h:Heap), (K w.params).In h → h.Ns mainGlobals mg → mg d.name = some (.ref fa) →
      ∃ fd:FuncData, (∀ (s:Shared) (u:Value), BindsTo s fd ⟨[u], []⟩ [(x, u)]) ∧
        ∀ base:Heap, (K w.params).In base → base.Ns mainGlobals mg → FnOk l.prog w (K w.params) mg base (CX w) k fa fd [x] (sp w))
    (hsp:∀ (w:World) (H:Hp) (a:Addr) (ns:List Int), ns.length ≤ n → Only H → SqL (K w.params) H a (ns.map V.int) → sp w [.ref a] H (fun v _=>v = .bl true) fun _ _ _=>False)
    (hCX:∀ (w:World) (H:Hp) (s:Shared) (e:Value) (s':Shared), CX w [] H s (fun _ _ _=>False) e s' → False) :
    PySem.W.WalkO q loose XP YP l.row.toRowW d [] (fun f vs=>PySem.call f vs):=by
  refine Att.attach_call hn hdf fun w s₀ s₁ mg mb fa o pm cd doc a vs ns G Y ho hd hcd hmg hobj hints hlen hg=>?_
  have KX:=hY w _ Y
  obtain ⟨fd, hb, hF⟩:=F w mg fa _ KX G.T.g hmg
  exact law_call KX G.T.g G.T.b G.T.builtins G.T.nolimit hg hobj hints (Nat.le_trans hlen hn2) hr hF hb (fun H hO hS=>hsp w H a ns hlen hO hS) fun H e s'=>hCX w H s₁ e s'
end L2
namespace L2
open PySem PySem.Spec PyProof.Rows
noncomputable def inClass (s:Stmt) (j:Nat):Stmt:=match s with
  | .ClassDef _ _ _ body _ _ _ _ _ _ _=>body.getD j (.Pass ⟨0, 0, 0, 0⟩)
  | _=>.Pass ⟨0, 0, 0, 0⟩
noncomputable def defArgs (s:Stmt):Arguments:=match s with
  | .FunctionDef _ a _ _ _ _ _ _ _ _=>a
  | _=>{ posonlyargs:=[], args:=[], vararg:=none, kwonlyargs:=[], kw_defaults:=[], kwarg:=none, defaults:=[] }
noncomputable def defBody (s:Stmt):List Stmt:=match s with
  | .FunctionDef _ _ b _ _ _ _ _ _ _=>b
  | _=>[]
noncomputable def defScope (s:Stmt):Scope:=match s with
  | .FunctionDef _ _ _ _ _ _ sc _ _ _=>sc
  | _=>{ kind:=.function, names:=[], isGenerator:=false, isCoroutine:=false }
noncomputable abbrev CX0:CXT:=fun _ _ _ _ _ _=>False
noncomputable abbrev E0:XK:=fun _ _ _=>False
theorem pass0 {X:Cx}:Passes CX0 X E0:=fun _ _ _ _ _ _ _ h=>h.elim
structure Fun (K:PySem.W.Frag) (x qual:Str) (st:Stmt) (f:Addr) (fd:FuncData):Prop where
  ex:∃ (oc:Value) (od:Option Addr) (kV doc pm:Value) (an:Option Addr) (cdv ct:Value) (osl:Array (Option Value)),
    fd = PySem.W.fnOf x qual (defArgs st) (defBody st) (defScope st) .none kV doc pm an cdv ct ∧ K.lookup f = some ⟨oc, od, .func fd, osl⟩ ∧ PySem.W.codeIn K cdv qual = true
  kp:PySem.W.keepIn K (.ref f) = true
section
variable {P:Program} {w:World} {K:PySem.W.Frag} {mg:Str → Option Value} {base:Heap}
theorem Fun.ok {x qual:Str} {st:Stmt} {f:Addr} {fd:FuncData} {N ps:List Str} {k:Nat} {sp:Sp} (F:Fun K x qual st f fd) (S:FnScope N ps (defScope st)) (len:∀ vs H Q E, sp vs H Q E → vs.length = ps.length)
    (hbody:∀ (cdv:Value) (A:Around) (outer:List Env) (s:Shared) (H:Hp) (vs:List V) (Q:VK) (E:XK), Room k (A.deeper (envOfC qual (defScope st) s.heap.objs.size f cdv)) → sp vs H Q E →
      ∃ t, PSs (cxOf CX0 P w K mg base N qual (defScope st) f cdv A outer s H E).nox (defBody st) t ∧ t { nx:=fun _ H'=>Q .non H', rt:=Q } (start N vs) H):FnOk P w K mg base CX0 (k + 1) f fd ps sp:=by
  obtain ⟨oc, od, kV, doc, pm, an, cdv, ct, osl, rfl, lk, hcd⟩:=F.ex
  refine fn_of lk hcd S len fun A outer s H vs Q E hr hsp=>?_
  obtain ⟨t, h, q⟩:=hbody cdv A outer s H vs Q E hr hsp
  exact ⟨t, h.nox, q⟩
theorem Fun.binds {x qual:Str} {st:Stmt} {f:Addr} {fd:FuncData} {ps:List Str} (F:Fun K x qual st f fd)
    (h:∀ (kV doc pm:Value) (an:Option Addr) (cdv ct:Value) (us:List Value), us.length = ps.length → bindArgs (PySem.W.fnOf x qual (defArgs st) (defBody st) (defScope st) .none kV doc pm an cdv ct) ⟨us, []⟩ = pure (ps.zip us)):Binds K fd ps []:=by
  obtain ⟨oc, od, kV, doc, pm, an, cdv, ct, osl, rfl, lk, hcd⟩:=F.ex
  exact .all (h kV doc pm an cdv ct)
theorem fun_mk {x qual:Str} {st:Stmt} {f:Addr} {oc:Value} {od an:Option Addr} {osl:Array (Option Value)} {kV doc pm cdv ct:Value} (l:K.lookup f = some ⟨oc, od, .func (PySem.W.fnOf x qual (defArgs st) (defBody st) (defScope st) .none kV doc pm an cdv ct), osl⟩)
    (c:PySem.W.codeIn K cdv qual = true) (k:PySem.W.keepIn K (.ref f) = true):Fun K x qual st f (PySem.W.fnOf x qual (defArgs st) (defBody st) (defScope st) .none kV doc pm an cdv ct):=⟨⟨oc, od, kV, doc, pm, an, cdv, ct, osl, rfl, l, c⟩, k⟩
end
theorem hu_of {A:Around} {k:Nat} (hr:Room k A):A.units + 1 < cLine:=Nat.lt_of_le_of_lt (Nat.add_le_add_left (by decide:1 ≤ 64) _) hr.units
section
variable {X:Cx}
theorem pv (i:Nat) {x:Str} {pos:Pos} (hN:X.N[i]? = some x:=by rfl) (hv:Vis X.env.scope x:=by first | exact Or.inl rfl | exact Or.inr (Or.inl rfl) | exact Or.inr (Or.inr rfl)) (hd:(x == ("__debug__" : Str)) = false:=by decide)
    (hcd:(x == ("__classdict__" : Str)) = false:=by decide):PE X (.Name x pos) (tVar i):=pe_var hN hv hd hcd
end
theorem iteF {A B:Prop} (h:B):if false = true then A else B:=by
  rw [if_neg Bool.false_ne_true]
  exact h
theorem iteT {A B:Prop} (h:A):if true = true then A else B:=by
  rw [if_pos rfl]
  exact h
theorem ite2 {c A B:Prop} [Decidable c] (h1:c → A) (h2:¬ c → B):if c then A else B:=by
  by_cases h:c
  · rw [if_pos h]
    exact h1 h
  · rw [if_neg h]
    exact h2 h
theorem iteNS {c A B:Prop} [Decidable c] (hc:c) (h:B):if (!decide c) = true then A else B:=by
  rw [decide_eq_true hc]
  exact iteF h
noncomputable def Same (H H':Hp):Prop:=∀ b o, H b = some o → H' b = some o
theorem Same.refl (H:Hp):Same H H:=fun _ _ h=>h
theorem Same.trans {H H1 H2:Hp} (a:Same H H1) (b:Same H1 H2):Same H H2:=fun c o h=>b c o (a c o h)
theorem Same.free {H H':Hp} (e:Same H H') {l:Addr} (h:H' l = Option.none):H l = Option.none:=by
  cases q:H l with
  | none=>rfl
  | some o =>
    rw [e l o q] at h
    cases h
theorem Same.seq {K:PySem.W.Frag} {H H':Hp} {a:Addr} {xs:List V} (e:Same H H') (h:SqL K H a xs):SqL K H' a xs:=by
  rcases h with (h | ⟨o, h⟩) | h
  · exact .inl (.inl (e _ _ h))
  · exact .inl (.inr ⟨o, e _ _ h⟩)
  · exact .inr h
end L2
set_option Elab.async false
set_option linter.all false
set_option maxRecDepth 100000
set_option maxHeartbeats 4000000
namespace L2
open PySem PySem.Spec PyProof.Rows
section
variable {κ:Type} [DecidableEq κ]
noncomputable def valV (kvs:List (κ × V)) (k:κ):Option V:=(kvs.find? fun kv=>decide (kv.1 = k)).map (·.2)
noncomputable def putK (kvs:List (κ × V)) (k:κ) (v:V):List (κ × V) :=
  if (kvs.any fun kv=>decide (kv.1 = k)) = true then kvs.map (fun kv=>if kv.1 = k then (kv.1, v) else kv) else kvs ++ [(k, v)]
theorem valV_pos {p:κ × V} {r:List (κ × V)} {k:κ} (e:p.1 = k):valV (p :: r) k = some p.2:=by simp [valV, List.find?_cons, e]
theorem valV_neg {p:κ × V} {r:List (κ × V)} {k:κ} (e:¬ p.1 = k):valV (p :: r) k = valV r k:=by simp [valV, List.find?_cons, e]
theorem valV_any (k:κ):∀ kvs:List (κ × V), (kvs.any fun kv=>decide (kv.1 = k)) = (valV kvs k).isSome
  | []=>rfl
  | p :: r=>by
    rw [List.any_cons]
    by_cases e:p.1 = k
    · simp only [valV_pos e, decide_eq_true e, Bool.true_or, Option.isSome_some]
    · rw [valV_neg e, decide_eq_false e, Bool.false_or]; exact valV_any k r
theorem valV_map (k j:κ) (y:V):∀ kvs:List (κ × V), valV (kvs.map fun kv=>if kv.1 = k then (kv.1, y) else kv) j = (valV kvs j).map fun x=>if j = k then y else x
  | []=>rfl
  | p :: r=>by
    have ih:=valV_map k j y r
    rw [List.map_cons]
    by_cases h:p.1 = k
    · rw [if_pos h]
      by_cases e:p.1 = j
      · rw [valV_pos (p:=(p.1, y)) e, valV_pos e, Option.map_some, if_pos (e.symm.trans h)]
      · rw [valV_neg (p:=(p.1, y)) e, valV_neg e, ih]
    · rw [if_neg h]
      by_cases e:p.1 = j
      · rw [valV_pos (p:=p) e, valV_pos e, Option.map_some, if_neg (fun z=>h (e.trans z))]
      · rw [valV_neg (p:=p) e, valV_neg e, ih]
theorem valV_snoc (k j:κ) (y:V):∀ kvs:List (κ × V), valV kvs k = none → valV (kvs ++ [(k, y)]) j = if j = k then some y else valV kvs j
  | [], _=>by
    by_cases e:k = j
    · rw [if_pos e.symm]; exact valV_pos (p:=(k, y)) e
    · rw [if_neg (fun z=>e z.symm)]; exact valV_neg (p:=(k, y)) e
  | p :: r, hn=>by
    rw [List.cons_append]
    have hk:¬ p.1 = k:=fun z=>by rw [valV_pos z] at hn; cases hn
    rw [valV_neg hk] at hn
    have ih:=valV_snoc k j y r hn
    by_cases e:p.1 = j
    · rw [valV_pos e, valV_pos e, if_neg (fun z=>hk (e.trans z))]
    · rw [valV_neg e, valV_neg e, ih]
theorem valV_put (kvs:List (κ × V)) (k j:κ) (y:V):valV (putK kvs k y) j = if j = k then some y else valV kvs j:=by
  unfold putK
  by_cases a:(kvs.any fun kv=>decide (kv.1 = k)) = true
  · rw [if_pos a, valV_map]
    rw [valV_any] at a
    by_cases e:j = k
    · obtain ⟨x, hx⟩:=Option.isSome_iff_exists.mp a
      rw [if_pos e, e, hx, Option.map_some, if_pos rfl]
    · rw [if_neg e]
      cases valV kvs j with
      | none=>rfl
      | some x=>rw [Option.map_some, if_neg e]
  · rw [if_neg a]
    refine valV_snoc k j y kvs ?_
    rw [valV_any] at a
    cases q:valV kvs k with
    | none=>rfl
    | some x=>rw [q] at a; exact (a rfl).elim
theorem length_putK (kvs:List (κ × V)) (k:κ) (v:V):(putK kvs k v).length ≤ kvs.length + 1:=by
  unfold putK
  split
  · rw [List.length_map]; omega
  · rw [List.length_append, List.length_cons, List.length_nil]; omega
theorem putK_new {kvs:List (κ × V)} {k:κ} (v:V) (h:valV kvs k = none):putK kvs k v = kvs ++ [(k, v)]:=by
  unfold putK
  rw [valV_any, h]
  exact if_neg (by decide)
theorem RelO.isSome_eq {o:Option V} {u:Option Value} (r:RelO o u):o.isSome = u.isSome:=by
  cases o with
  | none=>cases u with
    | none=>rfl
    | some _=>exact (show False from r).elim
  | some _=>cases u with
    | none=>exact (show False from r).elim
    | some _=>rfl
theorem KV.val {kvs:List (κ × V)} {vs:List (κ × Value)} (r:KV kvs vs) (k:κ):RelO (valV kvs k) (valueAt vs k):=by
  unfold KV at r
  induction r with
  | nil=>exact True.intro
  | @cons p q ps qs h t ih =>
    obtain ⟨h1, h2⟩:=h
    by_cases e:p.1 = k
    · have e':q.1 = k:=h1.symm.trans e
      have b:valueAt (q :: qs) k = some q.2:=by simp [valueAt, List.find?_cons, e']
      rw [valV_pos e, b]; exact h2
    · have e':¬ q.1 = k:=fun z=>e (h1.trans z)
      have b:valueAt (q :: qs) k = valueAt qs k:=by simp [valueAt, List.find?_cons, e']
      rw [valV_neg e, b]; exact ih
theorem KV.any {kvs:List (κ × V)} {vs:List (κ × Value)} (r:KV kvs vs) (k:κ):(kvs.any fun kv=>decide (kv.1 = k)) = vs.any fun kv=>decide (kv.1 = k):=by
  unfold KV at r
  induction r with
  | nil=>rfl
  | cons h t ih=>rw [List.any_cons, List.any_cons, ih, h.1]
theorem KV.repl {kvs:List (κ × V)} {vs:List (κ × Value)} (r:KV kvs vs) (k:κ) {y:V} {u:Value} (ry:RelV y u) :
    KV (kvs.map fun kv=>if kv.1 = k then (kv.1, y) else kv) (vs.map fun kv=>if kv.1 = k then (kv.1, u) else kv):=by
  unfold KV at r ⊢
  induction r with
  | nil=>exact .nil
  | @cons p q ps qs h t ih =>
    rw [List.map_cons, List.map_cons]
    refine .cons ?_ ih
    obtain ⟨h1, h2⟩:=h
    by_cases e:p.1 = k
    · rw [if_pos e, if_pos (h1.symm.trans e)]; exact ⟨h1, ry⟩
    · rw [if_neg e, if_neg (fun z=>e (h1.trans z))]; exact ⟨h1, h2⟩
theorem KV.put {kvs:List (κ × V)} {vs:List (κ × Value)} (r:KV kvs vs) (k:κ) {y:V} {u:Value} (ry:RelV y u):KV (putK kvs k y) (stored vs k u):=by
  unfold putK stored
  rw [r.any k]
  by_cases e:(vs.any fun kv=>decide (kv.1 = k)) = true
  · rw [if_pos e, if_pos e]; exact r.repl k ry
  · rw [if_neg e, if_neg e]; exact Paired.snoc r ⟨rfl, ry⟩
theorem KV.length {kvs:List (κ × V)} {vs:List (κ × Value)} (r:KV kvs vs):kvs.length = vs.length:=Paired.length r
end
theorem kV_is {P:Program} {w:World} {k:Key} {u:Value} (r:RelV (kV k) u):(mixKind P w).is k u = true:=by
  cases k with
  | inl i=>obtain ⟨t, e⟩:=(show ∃ t, u = Value.int i t from r); subst e; exact mixKind_int P w i t
  | inr x=>obtain ⟨t, e⟩:=(show ∃ t, u = Value.str x t from r); subst e; exact mixKind_str P w x t
theorem items_are {P:Program} {w:World}:∀ {ks:List Key} {us:List Value}, Vals (ks.map kV) us → ItemsAre (mixKind P w) ks us
  | [], _, r=>by rw [List.map_nil] at r; cases r; exact .nil
  | k :: ks, _, r=>by
    rw [List.map_cons] at r
    cases r with
    | cons h t=>exact .cons (kV_is h) (items_are t)
noncomputable abbrev KT (H:Hp):List (List Key × V) → List (List Key × Addr × Value) → Prop:=Paired fun p q=>p.1 = q.1 ∧ H q.2.1 = some (.tup (p.1.map kV)) ∧ RelV p.2 q.2.2
theorem KT.val {H:Hp} {kvs:List (List Key × V)} {xs:List (List Key × Addr × Value)} (r:KT H kvs xs) (k:List Key):RelO (valV kvs k) ((atKey xs k).map (·.2)):=by
  induction r with
  | nil=>exact True.intro
  | @cons p q ps qs h t ih =>
    obtain ⟨h1, _, h2⟩:=h
    by_cases e:p.1 = k
    · have e':q.1 = k:=h1.symm.trans e
      have b:atKey (q :: qs) k = some q.2:=by simp [atKey, List.find?_cons, e']
      rw [valV_pos e, b]; exact h2
    · have e':¬ q.1 = k:=fun z=>e (h1.trans z)
      have b:atKey (q :: qs) k = atKey qs k:=by simp [atKey, List.find?_cons, e']
      rw [valV_neg e, b]; exact ih
theorem KT.repl {H:Hp} {kvs:List (List Key × V)} {xs:List (List Key × Addr × Value)} (r:KT H kvs xs) (k:List Key) {y:V} {u:Value} (ry:RelV y u) :
    KT H (kvs.map fun kv=>if kv.1 = k then (kv.1, y) else kv) (xs.map (putAt k u)):=by
  induction r with
  | nil=>exact .nil
  | @cons p q ps qs h t ih =>
    rw [List.map_cons, List.map_cons]
    refine .cons ?_ ih
    obtain ⟨h1, h2, h3⟩:=h
    unfold putAt
    by_cases e:p.1 = k
    · rw [if_pos e, if_pos (h1.symm.trans e)]; exact ⟨h1, h2, ry⟩
    · rw [if_neg e, if_neg (fun z=>e (h1.trans z))]; exact ⟨h1, h2, h3⟩
theorem KT.put {H:Hp} {kvs:List (List Key × V)} {xs:List (List Key × Addr × Value)} (r:KT H kvs xs) (k:List Key) {b:Addr} {y:V} {u:Value} (hb:H b = some (.tup (k.map kV))) (ry:RelV y u) :
    KT H (putK kvs k y) (storedH xs k b u):=by
  have e:(kvs.any fun kv=>decide (kv.1 = k)) = (atKey xs k).isSome:=by
    rw [valV_any, (r.val k).isSome_eq, Option.isSome_map]
  unfold putK storedH
  rw [e]
  by_cases q:(atKey xs k).isSome = true
  · rw [if_pos q, if_pos q]; exact r.repl k ry
  · rw [if_neg q, if_neg q]; exact Paired.snoc r ⟨rfl, hb, ry⟩
theorem KT.keeps {H H':Hp} {kvs:List (List Key × V)} {xs:List (List Key × Addr × Value)} (r:KT H kvs xs) (ht:∀ b ys, H b = some (.tup ys) → H' b = some (.tup ys)):KT H' kvs xs :=
  Paired.mapP r fun _ _ z=>⟨z.1, ht _ _ z.2.1, z.2.2⟩
section
variable {P:Program} {w:World} {H:Hp} {h:Heap} {a:Addr}
theorem rd_of {u:HO} (ok:HOk P w H h) (e:Rd H a u):ObjOk P w H h a u:=e.ok ok
theorem dk_rd {kvs:List (Key × V)} (ok:HOk P w H h) (e:Rd H a (.dK kvs)):kvs.length ≤ sizeLine ∧ (a == sysModules) = false ∧ ∃ vs, KV kvs vs ∧ h.DictOf (mixKind P w) a vs :=
  show ObjOk P w H h a (.dK kvs) from rd_of ok e
theorem dk_of {kvs:List (Key × V)} (ok:HOk P w H h) (e:H a = some (.dK kvs)):kvs.length ≤ sizeLine ∧ (a == sysModules) = false ∧ ∃ vs, KV kvs vs ∧ h.DictOf (mixKind P w) a vs:=dk_rd ok (.inl e)
theorem key_of {ks:List Key} (ok:HOk P w H h) (e:H a = some (.tup (ks.map kV))):(tupleKind (mixKind P w)).is h ks a:=by
  obtain ⟨_, its, r, o, h1, h2, n, h3⟩:=(show ObjOk P w H h a (.tup (ks.map kV)) from ok a _ e)
  exact ⟨o, its.toArray, n, h1, h2, h3, by simpa using items_are r⟩
theorem dt_rd {kvs:List (List Key × V)} (ok:HOk P w H h) (e:Rd H a (.dT kvs)):kvs.length ≤ sizeLine ∧ (a == sysModules) = false ∧
    ∃ xs, KT H kvs xs ∧ h.DictOfH (tupleKind (mixKind P w)) a xs:=by
  obtain ⟨z, y, xs, r, o, es, ep, h1, h2, h3, h4, h5⟩:=(show ObjOk P w H h a (.dT kvs) from rd_of ok e)
  refine ⟨z, y, xs, r, o, es, ep, h1, h2, h3, h4, fun x hx=>?_, h5⟩
  have all:∀ {l:List (List Key × V)} {m:List (List Key × Addr × Value)}, KT H l m → ∀ x ∈ m, (tupleKind (mixKind P w)).is h x.1 x.2.1:=by
    intro l m q
    induction q with
    | nil=>intro x hx; exact nomatch hx
    | @cons p q ps qs hq t ih =>
      intro x hx
      rcases List.mem_cons.mp hx with e | hx
      · subst e
        exact key_of ok (by rw [← hq.1]; exact hq.2.1)
      · exact ih x hx
  exact all r x hx
theorem dt_of {kvs:List (List Key × V)} (ok:HOk P w H h) (e:H a = some (.dT kvs)):kvs.length ≤ sizeLine ∧ (a == sysModules) = false ∧
    ∃ xs, KT H kvs xs ∧ h.DictOfH (tupleKind (mixKind P w)) a xs:=dt_rd ok (.inl e)
end
noncomputable def DGet (H:Hp) (a:Addr) (y:V) (r:Option V):Prop :=
  (∃ kvs k, Rd H a (.dK kvs) ∧ y = kV k ∧ r = valV kvs k) ∨ ∃ kvs k b, Rd H a (.dT kvs) ∧ y = .ref b ∧ H b = some (.tup (k.map kV)) ∧ r = valV kvs k
noncomputable def DPut (H:Hp) (a:Addr) (y v:V) (H':Hp):Prop :=
  (∃ kvs k, H a = some (.dK kvs) ∧ y = kV k ∧ kvs.length < sizeLine ∧ H' = upd H a (.dK (putK kvs k v))) ∨
  ∃ kvs k b, H a = some (.dT kvs) ∧ y = .ref b ∧ H b = some (.tup (k.map kV)) ∧ kvs.length < sizeLine ∧ H' = upd H a (.dT (putK kvs k v))
theorem DGet.t {H:Hp} {a b:Addr} {kvs:List (List Key × V)} {k:List Key} (e:H a = some (.dT kvs)) (eb:H b = some (.tup (k.map kV))):DGet H a (.ref b) (valV kvs k):=.inr ⟨kvs, k, b, .inl e, rfl, eb, rfl⟩
theorem DPut.t {H:Hp} {a b:Addr} {kvs:List (List Key × V)} {k:List Key} {v:V} (e:H a = some (.dT kvs)) (eb:H b = some (.tup (k.map kV))) (hl:kvs.length < sizeLine) :
    DPut H a (.ref b) v (upd H a (.dT (putK kvs k v))):=.inr ⟨kvs, k, b, e, rfl, eb, hl, rfl⟩
section
variable {X:Cx} {pins:List (Addr × Obj)} {σ:St} {H:Hp} {s:Shared} {a:Addr} {y v:V} {u r:Value} {o:Option V} {A:Around} {E:Value → Shared → Prop}
theorem Inv.big (I:Inv X pins σ H s):sysModules < s.heap.objs.size:=by
  have h:mainGlobals < s.heap.objs.size:=(I.mod.glob.keeps I.bk).lt
  exact Nat.lt_trans (by decide) h
theorem d_getItem {Q:Value → Shared → Prop} (hu:A.units + 1 < cLine) (I:Inv X pins σ H s) (g:DGet H a y (some v)) (ry:RelV y u) (h:∀ w' s', Inv X pins σ H s' → RelV v w' → Q w' s') :
    wpAny (model X.prog X.w) A (getItem (.ref a) u) Q E s:=by
  rcases g with ⟨kvs, k, e, ey, l⟩ | ⟨kvs, k, b, e, ey, eb, l⟩
  · subst ey
    obtain ⟨z, hd, vs, rel, dd⟩:=dk_rd I.hok e
    obtain ⟨w', hw, rw'⟩:=RelO.some_of (v:=v) (o:=valueAt vs k) (by rw [l]; exact rel.val k)
    exact wpAny_getItem_of (kV_is ry) dd.mapOf hw (h w' _ (I.tok _) rw')
  · subst ey
    cases (show u = Value.ref b from ry)
    obtain ⟨z, hd, xs, rel, dd⟩:=dt_rd I.hok e
    obtain ⟨w', hw, rw'⟩:=RelO.some_of (v:=v) (o:=(atKey xs k).map (·.2)) (by rw [l]; exact rel.val k)
    obtain ⟨p, hp, hp2⟩:=Option.map_eq_some_iff.mp hw
    refine wpAny_getItem_heap (tupleKind_room_in1 hu) (key_of I.hok eb) dd hp ?_
    rw [hp2]
    exact h w' _ (I.tok _) rw'
theorem d_notIn {Q:Value → Shared → Prop} (hu:A.units + 1 < cLine) (I:Inv X pins σ H s) (g:DGet H a y o) (ry:RelV y u) (h:∀ s', Inv X pins σ H s' → Q (.bool (!o.isSome)) s') :
    wpAny (model X.prog X.w) A (compareOp .NotIn u (.ref a)) Q E s:=by
  rcases g with ⟨kvs, k, e, ey, l⟩ | ⟨kvs, k, b, e, ey, eb, l⟩
  · subst ey
    obtain ⟨z, hd, vs, rel, dd⟩:=dk_rd I.hok e
    refine wpAny_notIn_of (kV_is ry) hd dd.mapOf ?_
    rw [← (rel.val k).isSome_eq, ← l]
    exact h _ (I.tok _)
  · subst ey
    cases (show u = Value.ref b from ry)
    obtain ⟨z, hd, xs, rel, dd⟩:=dt_rd I.hok e
    refine wpAny_notIn_heap (tupleKind_room_in1 hu) (key_of I.hok eb) hd dd ?_
    have q:=(rel.val k).isSome_eq
    rw [Option.isSome_map] at q
    rw [← q, ← l]
    exact h _ (I.tok _)
theorem d_write {h':Heap} {t':Nat} {ob:HO} (I:Inv X pins σ H s) (mu:Mut (H a)) (hs:Heap.SameBut a s.heap h') (he:∃ q, h'.get? a = some q) (new:ObjOk X.prog X.w (upd H a ob) h' a ob) :
    Inv X pins σ (upd H a ob) { s with heap:=h', toks:=t' } :=
  I.write (x:=a) (e:=a) mu (.inl rfl) (fun b q hb z=>(hs.2 b hb).trans z) he new
theorem dk_new {P:Program} {w:World} {H':Hp} {h':Heap} {kvs:List (Key × V)} {vs:List (Key × Value)} (z:kvs.length ≤ sizeLine) (hd:(a == sysModules) = false) (rel:KV kvs vs) (dd:h'.DictOf (mixKind P w) a vs) :
    ObjOk P w H' h' a (.dK kvs):=⟨z, hd, vs, rel, dd⟩
theorem d_setItem {H':Hp} {Q:Unit → Shared → Prop} (hu:A.units + 1 < cLine) (I:Inv X pins σ H s) (g:DPut H a y v H') (ry:RelV y u) (rv:RelV v r) (h:∀ s', Inv X pins σ H' s' → Q () s') :
    wpAny (model X.prog X.w) A (setItem (.ref a) u r) Q E s:=by
  rcases g with ⟨kvs, k, e, ey, l, eH⟩ | ⟨kvs, k, b, e, ey, eb, l, eH⟩
  · subst ey eH
    obtain ⟨z, hd, vs, rel, dd⟩:=dk_of I.hok e
    have hz:vs.length ≤ sizeLine:=by rw [← rel.length]; exact z
    have hl:(putK kvs k v).length ≤ sizeLine:=by have:=length_putK kvs k v; omega
    refine wpAny_setItem_pairs (hsz:=hz) (kV_is ry) dd fun h' dd' hs=>h _ ?_
    have he:∃ q, h'.get? a = some q:=let ⟨q, _, _, hq, _⟩:=dd'; ⟨q, hq⟩
    exact d_write I (by rw [e]; exact True.intro) hs he (dk_new hl hd (rel.put k rv) dd')
  · subst ey eH
    cases (show u = Value.ref b from ry)
    obtain ⟨z, hd, xs, rel, dd⟩:=dt_of I.hok e
    have hz:xs.length ≤ sizeLine:=by rw [← Paired.length rel]; exact z
    have hl:(putK kvs k v).length ≤ sizeLine:=by have:=length_putK kvs k v; omega
    refine wpAny_setItem_heap (hsz:=hz) (tupleKind_room_in1 hu) (key_of I.hok eb) dd fun h' dd' hs=>h _ ?_
    obtain ⟨q, es, ep, hq, h2, h3, h4, _, h5⟩:=dd'
    refine d_write I (by rw [e]; exact True.intro) hs ⟨q, hq⟩ ⟨hl, hd, _, (rel.put k eb rv).keeps fun c ys ec=>?_, q, es, ep, hq, h2, h3, h4, h5⟩
    rw [upd_ne (ne_of ec e (fun z=>nomatch z))]
    exact ec
end
section
variable {X:Cx} {pins:List (Addr × Obj)} {σ:St} {H:Hp} {s:Shared} {a:Addr} {kvs:List (Key × V)} {k:Key} {u:Value} {A:Around} {E:Value → Shared → Prop}
end
noncomputable def NoSl (i:Expr):Prop:=∀ ov iv, subscripted i false ov iv = operate [ov, iv] (getItem ov iv)
theorem subD_of {prog:Program} {w:World} {A:Around} {E:Value → Shared → Prop} {s:Shared} {env:Env} {value slice:Expr} {pos:Pos} {T id:String} {Q:Value → Shared → Prop}
    (hl:typeLookup (.type T) "__getitem__" = pure (some (.builtin id))) (hs:NoSl slice)
    (h:wpAny (model prog w) A (eval value env) (fun o s₁=>wpAny (model prog w) A (eval slice env) (fun i s₂=>s₂.TypeIs o T ∧ wpAny (model prog w) A (getItem o i) Q E s₂) E s₁) E s) :
    wpAny (model prog w) A (eval (.Subscript value slice pos) env) Q E s:=by
  refine Subscript_ (wpAny_mono h (fun o s₁ h₁=>wpAny_mono h₁ (fun i s₂ h₂=>?_) fun _ _ x=>x) fun _ _ x=>x)
  obtain ⟨hT, h₂⟩:=h₂
  unfold subscriptTail
  refine wpAny_bind ?_
  rw [getitemInPython_of_ne hT.not_modules]
  refine wpAny_bind (wpAny_specialOf hT hl ?_)
  have fin:wpAny (model prog w) A (subscripted slice false o i) (fun r s₃=>wpAny (model prog w) A (letTemporaryGo value o r >>= fun _=>pure r) Q E s₃) E s₂:=by
    rw [hs o i]
    exact wpAny_operating (wpAny_mono h₂ (fun r s₃ h₃=>wpAny_bind (wpAny_letTemporaryGo (wpAny_pure h₃))) fun _ _ x=>x)
  first
    | exact wpAny_pure (wpAny_bind fin)
    | exact wpAny_bind (wpAny_pure (wpAny_bind fin))
    | exact wpAny_bind fin
theorem dict_typeIs {X:Cx} {pins:List (Addr × Obj)} {σ:St} {H:Hp} {s:Shared} {a:Addr} {y:V} {o:Option V} (I:Inv X pins σ H s) (g:DGet H a y o):s.TypeIs (.ref a) "dict":=by
  rcases g with ⟨kvs, k, e, _, _⟩ | ⟨kvs, k, b, e, _, _, _⟩
  · obtain ⟨_, _, vs, _, dd⟩:=dk_rd I.hok e
    exact dd.typeIs
  · obtain ⟨_, _, xs, _, dd⟩:=dt_rd I.hok e
    exact dd.typeIs
noncomputable def tDGet (td ty:TE):TE:=fun σ H Q=>td σ H fun x H1=>ty σ H1 fun y H2=>∃ a v, x = .ref a ∧ DGet H2 a y (some v) ∧ Q v H2
noncomputable def tDNotIn (ty td:TE):TE:=fun σ H Q=>ty σ H fun y H1=>td σ H1 fun x H2=>∃ a o, x = .ref a ∧ DGet H2 a y o ∧ Q (.bl (!o.isSome)) H2
noncomputable def sDPut (td ty tv:TE):TS:=fun D σ H=>tv σ H fun v H1=>td σ H1 fun x H2=>ty σ H2 fun y H3=>∃ a H4, x = .ref a ∧ DPut H3 a y v H4 ∧ D.nx σ H4
section
variable {X:Cx} {o i e value:Expr} {pos pos' tpos:Pos} {td ty tv:TE}
theorem pe_dget (hu:X.A.units + 1 < cLine) (ho:PE X o td) (hi:PE X i ty) (hs:NoSl i):PE X (.Subscript o i pos) (tDGet td ty):=by
  intro pins s σ H Q I h
  refine subD_of PySem.F.slot_dict_getitem.lookup hs (thn (ho pins s σ H _ I h) fun u s1 ⟨x, H1, I1, rx, q1⟩=>thn (hi pins s1 σ H1 _ I1 q1) fun iv s2 ⟨y, H2, I2, ry, a, v, ex, g, q2⟩=>?_)
  subst ex
  obtain rfl:u = Value.ref a:=rx
  exact ⟨dict_typeIs I2 g, d_getItem hu I2 g ry fun w' s3 I3 rw'=>⟨v, H2, I3, rw', q2⟩⟩
theorem pc_dnotin (hu:X.A.units + 1 < cLine) (hi:PE X i ty) (ho:PE X o td):PC X .NotIn i o (tDNotIn ty td):=by
  intro pins s σ H Q I h
  refine thn (hi pins s σ H _ I h) fun iv s1 ⟨y, H1, I1, ry, q1⟩=>thn (ho pins s1 σ H1 _ I1 q1) fun u s2 ⟨x, H2, I2, rx, a, ov, ex, g, q2⟩=>?_
  subst ex
  obtain rfl:u = Value.ref a:=rx
  exact d_notIn hu I2 g ry fun s3 I3=>⟨.bl (!ov.isSome), H2, I3, rfl, q2⟩
theorem ps_dput (hu:X.A.units + 1 < cLine) (ho:PE X o td) (hi:PE X i ty) (hv:PE X value tv) (hs:swapsWith value (some (.Subscript o i pos')) pos.line X.env = pure false) :
    PS X (.Assign [.Subscript o i pos'] value pos) (sDPut td ty tv):=by
  intro pins s σ H D I h
  refine wpAny_Assign_Subscript (thn (hv pins s σ H _ I h) fun r s1 ⟨v, H1, I1, rv, q1⟩=>thn (ho pins s1 σ H1 _ I1 q1) fun u s2 ⟨x, H2, I2, rx, q2⟩=>thn (hi pins s2 σ H2 _ I2 q2) fun iv s3 ⟨y, H3, I3, ry, a, H4, ex, g, q3⟩=>?_) hs
  subst ex
  obtain rfl:u = Value.ref a:=rx
  exact d_setItem hu I3 g ry rv fun s4 I4=>⟨σ, H4, I4, q3⟩
end
theorem dt_empty {P:Program} {w:World} {H:Hp} (h:Heap) (hb:sysModules < h.objs.size):ObjOk P w H (h.push { cls:=.type "dict", data:=.dict #[] }) h.objs.size (.dT []) :=
  ⟨Nat.zero_le _, beq_eq_false_iff_ne.mpr (Ne.symm (Nat.ne_of_lt hb)), [], .nil, _, #[], 0, Heap.get?_push_size _ rfl, ⟨rfl, rfl, rfl⟩, rfl, rfl, List.nodup_nil⟩
noncomputable def tDNewT:TE:=fun _ H Q=>∀ p, H p = none → Q (.ref p) (upd H p (.dT []))
section
variable {X:Cx} {pos:Pos}
theorem pe_dnewT:PE X (.Dict [] [] pos) tDNewT:=fun pins s σ H Q I h =>
  wpAny_Dict_empty ⟨.ref s.heap.objs.size, _, I.laid (a:=s.heap.objs.size) (o:=.dT []) (t':=s.toks) (fun _ _ q=>Heap.get?_push_of_some _ q) (Nat.le_refl _) (dt_empty s.heap I.big), rfl, h _ (I.hok.fresh (Nat.le_refl _))⟩
end
section
variable {X:Cx} {pins:List (Addr × Obj)} {σ:St} {H:Hp} {s:Shared} {a:Addr} {y d:V} {u r:Value} {o:Option V} {A:Around} {E:Value → Shared → Prop}
end
section
variable {X:Cx} {o e f:Expr} {apos cpos:Pos} {td ty tx:TE}
end
section
variable {X:Cx} {pins:List (Addr × Obj)} {σ:St} {H:Hp} {s:Shared} {a:Addr} {kvs:List (Key × V)} {A:Around} {E:Value → Shared → Prop}
end
section
variable {X:Cx} {pins:List (Addr × Obj)} {σ:St} {H:Hp} {s:Shared} {a:Addr} {y:V} {u:Value} {A:Around} {E:Value → Shared → Prop}
end
end L2
namespace L2
open PySem
noncomputable def BB (n:Nat) (i:Int):Prop:=i.natAbs < 2 ^ n
noncomputable def CMulB (i j:Int):Prop:=∃ m n, m + n ≤ 100000000 ∧ ((BB m i ∧ BB n j) ∨ BB 64 i ∨ BB 64 j)
noncomputable def CDivB (_ j:Int):Prop:=j ≠ 0 ∧ BB 9000 j
noncomputable def rAddI:R2:=rI0 fun i j=>.int (i + j)
noncomputable def rSubI:R2:=rI0 fun i j=>.int (i - j)
noncomputable def rMulI:R2:=rI CMulB fun i j=>.int (i * j)
noncomputable def rDivI:R2:=rI CDivB fun i j=>.int (i.fdiv j)
noncomputable def rDivC:R2:=rI CDiv fun i j=>.int (i / j)
noncomputable def rModI:R2:=rI (fun _ j=>0 < j) fun i j=>.int (i % j)
noncomputable def rPowI:R2:=rI CPow fun i j=>.int (i ^ j.toNat)
noncomputable def rNegI:V → Hp → VK → Prop:=rU fun i=>.int (-i)
noncomputable def rLtI:R2:=rI0 fun i j=>.bl (decide (i < j))
noncomputable def rLeI:R2:=rI0 fun i j=>.bl (decide (i ≤ j))
noncomputable def rGtI:R2:=rI0 fun i j=>.bl (decide (j < i))
noncomputable def rGeI:R2:=rI0 fun i j=>.bl (decide (j ≤ i))
noncomputable def cAbs:List V → Hp → VK → Prop:=fun xs H Q=>∃ i, xs = [.int i] ∧ Q (.int (if i < 0 then -i else i)) H
noncomputable def cLen (K:PySem.W.Frag):List V → Hp → VK → Prop:=fun xs H Q=>∃ p ys, xs = [.ref p] ∧ (SqL K H p ys ∨ SqT K H p ys) ∧ Q (.int ys.length) H
noncomputable def isB (x:V) (H:Hp) (T:String) (b:Bool):Prop:=match x with
  | .int _=>(T = "int" ∧ b = true) ∨ (T = "bool" ∧ b = false)
  | .bl _=>T = "bool" ∧ b = true
  | .ref p=>T = "tuple" ∧ b = true ∧ ∃ xs, H p = some (.tup xs)
  | _=>False
noncomputable def cIsB:List V → Hp → VK → Prop:=fun xs H Q=>∃ x T b, xs = [x, .ty T] ∧ isB x H T b ∧ Q (.bl b) H
theorem BB.mono {m n:Nat} {i:Int} (h:BB m i) (hm:m ≤ n):BB n i:=Nat.lt_of_lt_of_le h (Nat.pow_le_pow_right (by decide) hm)
theorem CMulB.l {i j:Int} (h:BB 64 i):CMulB i j:=⟨0, 0, by decide, .inr (.inl h)⟩
theorem CMulB.r {i j:Int} (h:BB 64 j):CMulB i j:=⟨0, 0, by decide, .inr (.inr h)⟩
theorem Same.tup {K:PySem.W.Frag} {H H':Hp} {a:Addr} {xs:List V} (e:Same H H') (h:SqT K H a xs):SqT K H' a xs:=by
  rcases h with (h | ⟨o, h⟩) | h
  · exact .inl (.inl (e _ _ h))
  · exact .inl (.inr ⟨o, e _ _ h⟩)
  · exact .inr h
theorem tVar_el {i:Nat} {σ:St} {H:Hp} {Q:VK} (h:tVar i σ H Q):∃ v, σ[i]? = some (some v) ∧ Q v H:=by
  first
  | exact h
  | (unfold tVar at h
     split at h
     · exact ⟨_, ‹_›, h⟩
     · exact h.elim)
theorem tVar_in {i:Nat} {σ:St} {H:Hp} {Q:VK} {v:V} (e:σ[i]? = some (some v)) (q:Q v H):tVar i σ H Q:=by
  first
  | exact ⟨v, e, q⟩
  | (unfold tVar
     rw [e]
     exact q)
theorem Same.upd {H:Hp} {p:Addr} {o:HO} (h:H p = none):Same H (upd H p o):=fun b u e=>by
  rw [upd_ne (ne_of_none e h)]; exact e
theorem BB.of_le {n:Nat} {i j:Int} (h:BB n j) (hl:i.natAbs ≤ j.natAbs):BB n i:=Nat.lt_of_le_of_lt hl h
theorem BB.mul {m n:Nat} {i j:Int} (hi:BB m i) (hj:BB n j):BB (m + n) (i * j):=by
  unfold BB at *
  rw [Int.natAbs_mul, Nat.pow_add]
  exact Nat.mul_lt_mul_of_lt_of_lt hi hj
theorem BB.add {n:Nat} {i j:Int} (hi:BB n i) (hj:BB n j):BB (n + 1) (i + j):=by
  unfold BB at *
  rw [Nat.pow_succ]
  omega
theorem BB.gcd {n:Nat} {i j:Int} (hj:BB n j) (h0:j ≠ 0):BB n (Int.gcd i j:Nat):=by
  refine hj.of_le ?_
  rw [Int.natAbs_natCast]
  exact Int.gcd_le_natAbs_right _ h0
theorem BB.neg {n:Nat} {i:Int} (h:BB n i):BB n (-i):=by unfold BB at *; rwa [Int.natAbs_neg]
theorem CMulB.b {m n:Nat} {i j:Int} (hi:BB m i) (hj:BB n j) (h:m + n ≤ 100000000:=by decide):CMulB i j:=⟨m, n, h, .inl ⟨hi, hj⟩⟩
noncomputable def caught (σ:St) (caps:List Nat):St:=caps.map fun j=>(σ[j]?).join
noncomputable def CompRd (J:It) (σ:St) (caps:List Nat) (te:TE) (H1:Hp) (fin:List V → Hp → Prop):Prop :=
  ∃ (n:Nat) (W:Nat → List V → Hp → Prop), n ≤ sizeLine ∧ W 0 [] H1 ∧ ∀ i ys H2, i ≤ n → ys.length = i → W i ys H2 →
    (J.stop i H2 ∧ fin ys H2) ∨ (i < n ∧ J.go i H2 ∧ ∀ x H3, J.yld i H2 x H3 → te (some x :: caught σ caps) H3 fun y H4=>W (i + 1) (ys ++ [y]) H4)
noncomputable def tComp (wi:TI) (caps:List Nat) (te:TE):TE:=fun σ H Q=>wi σ H fun J H1=>CompRd J σ caps te H1 fun ys H2=>∀ p, H2 p = none → Q (.ref p) (upd H2 p (.lst ys))
noncomputable def Ite (K:PySem.W.Frag) (a:Addr):It :=
  ⟨fun i H=>∃ xs x, SqL K H a xs ∧ xs[i]? = some x, fun i H v H'=>∃ p x, v = .ref p ∧ H p = none ∧ H' = upd H p (.tup [.int i, x]) ∧ ∀ xs, SqL K H a xs → xs[i]? = some x, fun i H=>∃ xs, SqL K H a xs ∧ xs.length ≤ i⟩
noncomputable def iEnum (K:PySem.W.Frag) (tl:TE):TI:=fun σ H R=>tl σ H fun x H1=>∃ a, x = .ref a ∧ (∃ xs, SqL K H1 a xs) ∧ R (Ite K a) H1
theorem for_enum {K:PySem.W.Frag} {a:Addr} {xs:List V} {g:TG} {tb:TS} {D:Ends} {σ:St} {H:Hp} (Pv:Nat → St → Hp → Prop) (h0:Pv 0 σ H) (hl:∀ i σ H, i ≤ xs.length → Pv i σ H → SqL K H a xs)
    (hs:∀ i x p σ H, xs[i]? = some x → Pv i σ H → H p = none → g (.ref p) σ (upd H p (.tup [.int i, x])) fun σ2 H2=>tb { D with nx:=Pv (i + 1), ct:=Pv (i + 1), bk:=D.nx } σ2 H2) (hd:∀ σ H, Pv xs.length σ H → D.nx σ H) :
    ∃ W:Nat → Nat → St → Hp → Prop, (∃ m, W 0 m σ H) ∧ ∀ i m σ H, W i m σ H →
      ((Ite K a).stop i H ∧ D.nx σ H) ∨ ((Ite K a).go i H ∧ ∃ N:St → Hp → Prop, (∀ σ' H', N σ' H' → ∃ m', m' < m ∧ W (i + 1) m' σ' H') ∧ ∀ x H', (Ite K a).yld i H x H' → g x σ H' fun σ2 H2=>tb { D with nx:=N, ct:=N, bk:=D.nx } σ2 H2):=by
  refine ⟨fun i m σ H=>m = xs.length - i ∧ i ≤ xs.length ∧ Pv i σ H, ⟨xs.length, by simp, Nat.zero_le _, h0⟩, ?_⟩
  rintro i m σ H ⟨rfl, hi, p⟩
  have q:=hl i σ H hi p
  by_cases hlt:i < xs.length
  · refine .inr ⟨⟨xs, xs[i], q, by simp [hlt]⟩, Pv (i + 1), fun σ' H' p'=>⟨xs.length - (i + 1), by omega, rfl, hlt, p'⟩, fun x H' y=>?_⟩
    obtain ⟨pp, z, e1, e2, e3, y⟩:=y
    subst e1 e3
    exact hs i z pp σ _ (y xs q) p e2
  · have e:i = xs.length:=by omega
    subst e
    exact .inl ⟨⟨xs, q, Nat.le_refl _⟩, hd σ H p⟩
theorem comp_list {K:PySem.W.Frag} {a:Addr} {xs:List V} {σ:St} {caps:List Nat} {te:TE} {H1:Hp} {fin:List V → Hp → Prop} (W:Nat → List V → Hp → Prop) (hz:xs.length ≤ sizeLine) (h0:W 0 [] H1) (hl:∀ i ys H, i ≤ xs.length → W i ys H → SqL K H a xs)
    (hs:∀ i x ys H, xs[i]? = some x → ys.length = i → W i ys H → te (some x :: caught σ caps) H fun y H4=>W (i + 1) (ys ++ [y]) H4) (hd:∀ ys H, ys.length = xs.length → W xs.length ys H → fin ys H):CompRd (Itl K a) σ caps te H1 fin:=by
  refine ⟨xs.length, W, hz, h0, fun i ys H2 hi hy hw=>?_⟩
  have q:=hl i ys H2 hi hw
  by_cases hlt:i < xs.length
  · refine .inr ⟨hlt, ⟨xs, xs[i], q, by simp [hlt]⟩, fun x H3 y=>?_⟩
    obtain ⟨e, y⟩:=y
    subst e
    exact hs i x ys _ (y xs q) hy hw
  · have e:i = xs.length:=by omega
    subst e
    exact .inl ⟨⟨xs, q, Nat.le_refl _⟩, hd ys H2 hy hw⟩
theorem comp_range {lo:Int} {n:Nat} {σ:St} {caps:List Nat} {te:TE} {H1:Hp} {fin:List V → Hp → Prop} (W:Nat → List V → Hp → Prop) (hz:n ≤ sizeLine) (h0:W 0 [] H1)
    (hs:∀ i ys H, i < n → ys.length = i → W i ys H → te (some (.int (lo + i)) :: caught σ caps) H fun y H4=>W (i + 1) (ys ++ [y]) H4) (hd:∀ ys H, ys.length = n → W n ys H → fin ys H):CompRd (Itr lo n) σ caps te H1 fin:=by
  refine ⟨n, W, hz, h0, fun i ys H2 hi hy hw=>?_⟩
  by_cases hlt:i < n
  · refine .inr ⟨hlt, hlt, fun x H3 y=>?_⟩
    obtain ⟨e1, e2⟩:=y
    subst e1 e2
    exact hs i ys _ hlt hy hw
  · have e:i = n:=by omega
    subst e
    exact .inl ⟨Nat.le_refl _, hd ys H2 hy hw⟩
noncomputable def cSum (K:PySem.W.Frag):List V → Hp → VK → Prop:=fun xs H Q=>∃ p ns, xs = [.ref p] ∧ SqL K H p (List.map V.int ns) ∧ Q (.int ns.sum) H
noncomputable def cList (K:PySem.W.Frag):List V → Hp → VK → Prop:=fun xs H Q=>∃ p ys, xs = [.ref p] ∧ (SqL K H p ys ∨ SqT K H p ys) ∧ ∀ l, H l = none → Q (.ref l) (upd H l (.lst ys))
noncomputable def rInsert:V → List V → Hp → VK → Prop:=fun x vs H Q=>∃ l xs k v, x = .ref l ∧ vs = [.int (k:Nat), v] ∧ H l = some (.lst xs) ∧ k ≤ xs.length ∧ xs.length < sizeLine ∧ Q .non (upd H l (.lst (xs.take k ++ v :: xs.drop k)))
noncomputable def rEqT (K:PySem.W.Frag):R2:=fun x y H Q=>∃ a b ns ms, x = .ref a ∧ y = .ref b ∧ SqT K H a (List.map V.int ns) ∧ SqT K H b (List.map V.int ms) ∧ Q (.bl (decide (ns = ms))) H
theorem Same.put {H H':Hp} {p:Addr} {o:HO} (s:Same H H') (h:H p = none):Same H (L2.upd H' p o):=fun b u e=>by
  rw [upd_ne (ne_of_none e h)]; exact s b u e
end L2
namespace L2
open PySem PySem.Spec PyProof.Rows
theorem bt_int:bootBuiltins "int" = some (.type "int"):=by decide +kernel
theorem bt_bool:bootBuiltins "bool" = some (.type "bool"):=by decide +kernel
theorem bt_list:bootBuiltins "list" = some (.type "list"):=by decide +kernel
theorem bt_abs:bootBuiltins "abs" = some (.builtin "abs"):=by decide +kernel
theorem bt_len:bootBuiltins "len" = some (.builtin "len"):=by decide +kernel
theorem bt_isinstance:bootBuiltins "isinstance" = some (.builtin "isinstance"):=by decide +kernel
theorem bt_sum:bootBuiltins "sum" = some (.builtin "sum"):=by decide +kernel
theorem intBits_leB {n:Nat} {k:Int} (h:BB n k):Builtin.Int.intBits k ≤ n:=by
  unfold Builtin.Int.intBits
  split
  · exact Nat.zero_le _
  · rename_i h0
    have hp:k.natAbs ≠ 0:=by simpa using h0
    have h2:=(Nat.log2_lt hp).mpr h
    omega
theorem CMulB.ok {i j:Int} (h:CMulB i j):IntMulOk i j:=by
  obtain ⟨m, n, hz, ⟨h1, h2⟩ | h1 | h1⟩:=h
  · exact IntMulOk.of_le (intBits_leB h1) (intBits_leB h2) (by omega)
  · exact .of_left (intBits_leB h1)
  · exact .of_right (intBits_leB h1)
theorem noPyB {i j:Int} (h:BB 9000 j):Builtin.divisionGoesByPylong i j = false:=by
  refine PyProof.noPylong_of_log2 ?_
  by_cases h0:j.natAbs = 0
  · rw [h0]; decide +kernel
  · exact (Nat.log2_lt h0).mpr h
section
variable {X:Cx}
theorem op_mulB:OpR X (binaryOp .Mult) rMulI:=opI fun _ _ _ _ _ _ _ hc q=>mul_int q hc.ok
theorem op_fdivB:OpR X (binaryOp .FloorDiv) rDivI:=opI fun _ _ _ _ _ _ _ hc q=>floordiv_int hc.1 q (.inl (noPyB hc.2))
theorem kit_ii (K:PySem.W.Frag):PySem.W.kitOne K (.type "int") (.type "int") = some true:=by rfl
theorem kit_ib (K:PySem.W.Frag):PySem.W.kitOne K (.type "int") (.type "bool") = some false:=by rfl
theorem kit_bb (K:PySem.W.Frag):PySem.W.kitOne K (.type "bool") (.type "bool") = some true:=by rfl
theorem kit_tt (K:PySem.W.Frag):PySem.W.kitOne K (.type "tuple") (.type "tuple") = some true:=by rfl
theorem call_isB:CallR X (.builtin "isinstance") cIsB:=by
  intro pins s σ H xs us Q I r h
  obtain ⟨x, T, b, rfl, hb, q⟩:=h
  obtain ⟨u, c, rfl, ru, rc⟩:=vals2 r
  obtain rfl:c = Value.type T:=rc
  have fin:∀ tk, EP X pins σ Q (.bool b) { s with toks:=tk }:=fun tk=>⟨.bl b, H, I.tok _, rfl, q⟩
  cases x with
  | int i =>
    rcases hb with ⟨rfl, rfl⟩ | ⟨rfl, rfl⟩
    · exact isinst_ok I ru (.int i) (kit_ii _) fin
    · exact isinst_ok I ru (.int i) (kit_ib _) fin
  | bl i =>
    obtain ⟨rfl, rfl⟩:=hb
    exact isinst_ok I ru (.bl i) (kit_bb _) fin
  | ref p =>
    obtain ⟨rfl, rfl, xs, hp⟩:=hb
    exact isinst_ok I ru (.tup hp) (kit_tt _) fin
  | _=>exact (show False from hb).elim
end
end L2
namespace L2
open PySem PySem.Spec PyProof.Rows
noncomputable def closOf (env:Env):List (Str × NameKind) → List (Str × Addr) → List (Str × Addr)
  | [], cs=>cs
  | (n, k) :: r, cs=>closOf env r (if (k == NameKind.free) = true then (n, (env.cells.lookup n).getD 0) :: cs else cs)
theorem closureFor_eq {scope:Scope} {env:Env} (h:∀ p ∈ scope.names, p.2 = .free → ∃ c, env.cells.lookup p.1 = some c):closureFor scope env = pure (closOf env scope.names []):=by
  have go:∀ (f:Str × NameKind → List (Str × Addr) → Sem (ForInStep (List (Str × Addr)))), (∀ n k cs, f (n, k) cs = if (k == NameKind.free) = true then (cellOf env n >>= fun a=>pure (ForInStep.yield ((n, a) :: cs))) else pure (ForInStep.yield cs)) →
      ∀ (l:List (Str × NameKind)) (cs:List (Str × Addr)), (∀ p ∈ l, p.2 = .free → ∃ c, env.cells.lookup p.1 = some c) → (forIn l cs f:Sem _) = pure (closOf env l cs):=by
    intro f hf l
    induction l with
    | nil=>intro cs _; rfl
    | cons p r ih =>
      intro cs hl
      obtain ⟨n, k⟩:=p
      have hr:∀ p ∈ r, p.2 = .free → ∃ c, env.cells.lookup p.1 = some c:=fun p hp=>hl p (List.mem_cons_of_mem _ hp)
      rw [List.forIn_cons, hf]
      by_cases hk:(k == NameKind.free) = true
      · obtain ⟨c, hc⟩:=hl (n, k) List.mem_cons_self (by simpa using hk)
        have hc':env.cells.lookup n = some c:=hc
        have e:cellOf env n = pure c:=by unfold cellOf; rw [hc']
        rw [if_pos hk, e, pure_bind, pure_bind]
        dsimp only
        rw [ih _ hr]
        have e2:closOf env ((n, k) :: r) cs = closOf env r ((n, c) :: cs):=by
          show closOf env r (if (k == NameKind.free) = true then (n, (env.cells.lookup n).getD 0) :: cs else cs) = _
          rw [if_pos hk, hc']; rfl
        rw [e2]
      · rw [if_neg hk, pure_bind]
        dsimp only
        rw [ih _ hr]
        have e2:closOf env ((n, k) :: r) cs = closOf env r cs:=by
          show closOf env r (if (k == NameKind.free) = true then (n, (env.cells.lookup n).getD 0) :: cs else cs) = _
          rw [if_neg hk]
        rw [e2]
  unfold closureFor
  show (forIn scope.names [] _ >>= fun s=>pure s) = _
  rw [go _ (fun n k cs=>by rfl) scope.names [] h, pure_bind]
theorem closOf_all {env:Env}:∀ {l:List (Str × NameKind)} {cs:List (Str × Addr)}, (∀ p ∈ l, p.2 = .free → ∃ c, env.cells.lookup p.1 = some c) → (∀ p ∈ cs, env.cells.lookup p.1 = some p.2) → ∀ p ∈ closOf env l cs, env.cells.lookup p.1 = some p.2
  | [], _, _, h, p, hp=>h p hp
  | (n, k) :: r, cs, hl, h, p, hp=>by
    refine closOf_all (l:=r) (fun q hq=>hl q (List.mem_cons_of_mem _ hq)) (fun q hq=>?_) p hp
    by_cases hk:(k == NameKind.free) = true
    · rw [if_pos hk] at hq
      rcases List.mem_cons.mp hq with rfl | hq
      · obtain ⟨c, hc⟩:=hl (n, k) List.mem_cons_self (by simpa using hk)
        have hc':env.cells.lookup n = some c:=hc
        show env.cells.lookup n = some ((env.cells.lookup n).getD 0)
        rw [hc']; rfl
      · exact h q hq
    · rw [if_neg hk] at hq
      exact h q hq
theorem closOf_mono {env:Env} {y:Str}:∀ {l:List (Str × NameKind)} {cs:List (Str × Addr)}, y ∈ cs.map (·.1) → y ∈ (closOf env l cs).map (·.1)
  | [], _, h=>h
  | (n, k) :: r, cs, h=>by
    refine closOf_mono (l:=r) ?_
    by_cases hk:(k == NameKind.free) = true
    · rw [if_pos hk]; exact List.mem_cons_of_mem _ h
    · rw [if_neg hk]; exact h
theorem closOf_has {env:Env} {y:Str}:∀ {l:List (Str × NameKind)} {cs:List (Str × Addr)}, (y, NameKind.free) ∈ l → y ∈ (closOf env l cs).map (·.1)
  | [], _, h=>nomatch h
  | (n, k) :: r, cs, h=>by
    rcases List.mem_cons.mp h with e | h
    · cases e
      refine closOf_mono (l:=r) ?_
      rw [if_pos (by rfl)]
      exact List.mem_cons_self
    · exact closOf_has (l:=r) h
theorem lookup_of_key {α:Type} {y:Str}:∀ {l:List (Str × α)}, y ∈ l.map (·.1) → ∃ c, l.lookup y = some c
  | [], h=>nomatch h
  | (n, c) :: r, h=>by
    cases hx:y == n with
    | true=>exact ⟨c, by simp only [List.lookup_cons, hx]⟩
    | false =>
      have h':y ∈ r.map (·.1):=by
        rcases List.mem_cons.mp h with e | h
        · have e':y = n:=e
          rw [e'] at hx; simp at hx
        · exact h
      obtain ⟨c', e⟩:=lookup_of_key h'
      exact ⟨c', by simp only [List.lookup_cons, hx]; exact e⟩
theorem relabel_cell {env:Env} (hk:env.scope.kind = .function):∀ {names:List (Str × NameKind)} {y:Str}, names.lookup y = some .free → env.kindOf y = some .cell →
    (names.map fun (n, k)=>if (k == NameKind.free && env.scope.kind == .function && env.kindOf n == some .cell) then (n, NameKind.cell) else (n, k)).lookup y = some .cell
  | [], _, h, _=>by simp at h
  | (n, k) :: r, y, h, hc=>by
    have ih:=@relabel_cell env hk r y
    show List.lookup y ((if (k == NameKind.free && env.scope.kind == .function && env.kindOf n == some .cell) = true then (n, NameKind.cell) else (n, k)) :: _) = _
    cases hx:y == n with
    | true =>
      simp only [List.lookup_cons, hx] at h
      cases h
      have e:y = n:=by simpa using hx
      subst e
      have ht:(NameKind.free == NameKind.free && env.scope.kind == .function && env.kindOf y == some .cell) = true:=by rw [hk, hc]; rfl
      rw [if_pos ht]; simp only [List.lookup_cons, hx]
    | false =>
      simp only [List.lookup_cons, hx] at h
      by_cases hc':(k == NameKind.free && env.scope.kind == .function && env.kindOf n == some .cell) = true
      · rw [if_pos hc']; simp only [List.lookup_cons, hx]; exact ih h hc
      · rw [if_neg hc']; simp only [List.lookup_cons, hx]; exact ih h hc
theorem relabel_of {env:Env}:∀ {names:List (Str × NameKind)} {y:Str}, (∀ p ∈ names, p.2 ≠ .cell) →
    (∃ k, (names.map fun (n, k)=>if (k == NameKind.free && env.scope.kind == .function && env.kindOf n == some .cell) then (n, NameKind.cell) else (n, k)).lookup y = some k ∧ (k = .cell ∨ k = .free)) → (y, NameKind.free) ∈ names
  | [], _, _, ⟨_, h, _⟩=>by simp at h
  | (n, k) :: r, y, hn, ⟨kk, h, hkk⟩=>by
    have h:List.lookup y ((if (k == NameKind.free && env.scope.kind == .function && env.kindOf n == some .cell) = true then (n, NameKind.cell) else (n, k)) :: r.map fun (n, k)=>if (k == NameKind.free && env.scope.kind == .function && env.kindOf n == some .cell) then (n, NameKind.cell) else (n, k)) = some kk:=h
    have ih:=@relabel_of env r y fun p hp=>hn p (List.mem_cons_of_mem _ hp)
    cases hx:y == n with
    | true =>
      have e:y = n:=by simpa using hx
      subst e
      by_cases hc':(k == NameKind.free && env.scope.kind == .function && env.kindOf y == some .cell) = true
      · have hf:k = .free:=by
          rw [Bool.and_eq_true, Bool.and_eq_true] at hc'
          simpa using hc'.1.1
        rw [hf]; exact List.mem_cons_self
      · rw [if_neg hc'] at h
        simp only [List.lookup_cons, hx] at h
        have e2:k = kk:=Option.some.inj h
        subst e2
        rcases hkk with z | z
        · exact absurd z (hn (y, k) List.mem_cons_self)
        · rw [z]; exact List.mem_cons_self
    | false =>
      have h2:(r.map fun (n, k)=>if (k == NameKind.free && env.scope.kind == .function && env.kindOf n == some .cell) then (n, NameKind.cell) else (n, k)).lookup y = some kk:=by
        by_cases hc':(k == NameKind.free && env.scope.kind == .function && env.kindOf n == some .cell) = true
        · rw [if_pos hc'] at h; simp only [List.lookup_cons, hx] at h; exact h
        · rw [if_neg hc'] at h; simp only [List.lookup_cons, hx] at h; exact h
      exact List.mem_cons_of_mem _ (ih ⟨kk, h2, hkk⟩)
structure CompSt (FS scope:Scope) (N:List Str) (x:Str) (ys:List Str) (caps:List Nat):Prop where
  ncell:∀ y ∈ scope.names, y.2 ≠ .cell
  kind:scope.kind = .function
  names:∀ y ∈ scope.names, y.2 = .local → scope.names.lookup y.1 = some .local
  loc:scope.names.lookup x = some .local
  fr:∀ p ∈ scope.names, p.2 = .free → FS.names.lookup p.1 = some .cell
  fk:FS.kind = .function
  cap:∀ p ∈ ys.zip caps, N[p.2]? = some p.1 ∧ scope.names.lookup p.1 = some .free
  len:ys.length = caps.length
  nd:(x :: ys).Nodup
noncomputable abbrev clsOf (X:Cx) (scope:Scope):List (Str × Addr):=closOf X.env scope.names []
noncomputable def cxComp (X:Cx) (scope:Scope) (NY:List Str) (s:Shared) (H:Hp) (ex:List Addr) (pn:List (Addr × Obj)):Cx :=
  { X with N:=NY, s₀:=s, H₀:=H, env:=compEnvC scope (clsOf X scope) s.heap.objs.size X.env, outer:=X.stack, stack:=X.stack, ex:=ex, fn:=fun _=>false, pn:=pn, xe:=fun _ _=>False }
section
variable {X:Cx} {pins:List (Addr × Obj)} {σ:St} {H:Hp} {s:Shared}
theorem Inv.adopt {D:Addr} {o:HO} (I:Inv X pins σ H s) (hn:H D = none) (hs:X.s₀.heap.objs.size ≤ D) (hL:D ≠ X.env.locals) (hc:∀ x c, X.env.cells.lookup x = some c → c ≠ D) (hp:∀ p ∈ X.pn ++ pins, p.1 ≠ D)
    (new:ObjOk X.prog X.w (upd H D o) s.heap D o):Inv X pins σ (upd H D o) s:=by
  have u:Un X.fs X.ex H (upd H D o) s.heap s.heap → True:=fun _=>trivial
  refine ⟨I.ok, I.os, I.bare, ⟨I.base.keep, I.base.slot, fun b ob e n hx=>?_, I.base.there, fun b xs e=>?_, fun b ob xs e=>?_, fun b ps e=>?_⟩, I.loc, I.cell, ?_, fun x c e=>?_, fun p h=>?_, fun b ob e=>?_, I.len⟩
  · rw [upd_ne (Nat.ne_of_lt (Nat.lt_of_lt_of_le (Heap.lt_size e) hs))]; exact I.base.free b ob e n hx
  · have q:=I.base.tups b xs e
    rw [upd_ne (ne_of_none q hn)]; exact q
  · have q:=I.base.frzs b ob xs e
    rw [upd_ne (ne_of_none q hn)]; exact q
  · obtain ⟨more, q⟩:=I.base.tbls b ps e
    exact ⟨more, by rw [upd_ne (ne_of_none q hn)]; exact q⟩
  · rw [upd_ne (Ne.symm hL)]; exact I.free
  · rw [upd_ne (hc x c e)]; exact I.freeC x c e
  · obtain ⟨a1, a2, a3⟩:=I.pin p h
    exact ⟨a1, by rw [upd_ne (hp p h)]; exact a2, a3⟩
  · by_cases hb:b = D
    · subst hb; rw [upd_same] at e; cases e; exact new
    · rw [upd_ne hb] at e
      exact (I.hok b ob e).stay (fun c v _ q=>q) (fun c q=>by rw [upd_ne (ne_of_none q hn)]; exact q) fun c xs q=>by rw [upd_ne (ne_of_none q hn)]; exact q
end
section
variable {X:Cx} {scope:Scope} {x:Str} {ys:List Str} {caps:List Nat}
end
section
variable {X:Cx} {scope:Scope} {x:Str} {ys:List Str} {caps:List Nat} {elt iter:Expr} {te:TE} {px pos:Pos}
theorem nxE {α:Type} {t:Sem α} {Q Q':α → Shared → Prop} {M:Model} {A:Around} {F E:Value → Shared → Prop} {s:Shared} (hF:F = fun _ _=>False) (h:wpAny M A t Q F s) (hQ:∀ a s, Q a s → Q' a s):wpAny M A t Q' E s :=
  wpAny_mono h hQ fun e s' z=>by
    rw [hF] at z
    exact z.elim
noncomputable abbrev lstO (its:List Value) (n:Nat):Obj:={ cls:=.type "list", data:=.seq its.toArray n }
end
end L2
namespace L2
open PySem PySem.Spec PyProof.Rows
theorem bt_enumerate:bootBuiltins "enumerate" = some (.type "enumerate"):=by decide +kernel
section
variable {X:Cx} {pins:List (Addr × Obj)} {σ:St} {H:Hp} {s:Shared} {h':Heap}
theorem Inv.turnedL {t':Nat} {ch:List Addr} (I:Inv X pins σ H s) (k:∀ b o, b ∉ ch → s.heap.get? b = some o → h'.get? b = some o) (hf:∀ b ∈ ch, FpOk X pins H b):Inv X pins σ H { s with heap:=h', toks:=t' }:=by
  have nit:∀ b u, H b = some u → b ∉ ch:=fun b u e z=>by rw [(hf b z).1] at e; cases e
  refine I.step (g':=s.gens) (d':=s.drawn) (ch:=ch) (fun b hb=>?_) (fun b o _ _ hc e _=>k b o hc e) (fun b o _ _ hc e _=>⟨o.slots, k b o hc e⟩) (fun _ _ _ _ n=>n)
    (fun b o hc e=>⟨o, k b o hc e⟩) (fun _ _ e=>e) (fun _ _ _ e=>e) (fun b ps e=>⟨#[], by rw [e]; simp⟩) (fun m hm=>?_) (fun b u e=>?_) I.bare
  · obtain ⟨a1, a2, a3, a4, a5, a6⟩:=hf b hb
    exact ⟨a4, a2, a5, a6⟩
  · obtain ⟨o, es, ep, ho, r⟩:=hm
    exact ⟨o, es, ep, k _ o (fun z=>(hf _ z).2.1 rfl) ho, r⟩
  · refine (I.hok b u e).stay (fun c v hc q=>k c v ?_ q) (fun _ q=>q) fun _ _ q=>q
    rcases hc with z | z
    · rw [z]; exact nit b u e
    · exact nit c _ z
end
theorem turn_enum {P:Program} {w:World} {K:PySem.W.Frag} {elts:List Expr} {k:Nat} {tp:Pos} (a e it:Addr) (hne:e ≠ it) :
    Turn P w K (.Tuple elts k tp) (Ite K a) [e, it] e (fun i h=>(∃ old, IsEnum h e it i old) ∧ h.IsListIter it a i) where
  mem:=by simp
  obj:=fun i h st b hb=>by
    obtain ⟨⟨old, he⟩, hit⟩:=st
    have z:b = e ∨ b = it:=by simpa using hb
    rcases z with rfl | rfl
    · exact ⟨_, he, fun v z=>by
        have z':Data.fields _ = Data.cell v:=z
        cases z'⟩
    · obtain ⟨o, e, c, d⟩:=hit
      exact ⟨o, e, fun v z=>by rw [d] at z; cases z⟩
  keep:=fun i h h' st k=>by
    obtain ⟨⟨old, he⟩, hit⟩:=st
    exact ⟨⟨old, k e (by simp) _ he⟩, hit.at fun o q=>k it (by simp) o q⟩
  item:=by
    intro X hP hw hK hc i pins s σ H E I hf st hg
    subst hP hw hK
    obtain ⟨xs, x, hq, hx⟩:=hg
    obtain ⟨its, rv, p, hz⟩:=I.list hq
    obtain ⟨u, hu, ru⟩:=rv.get hx
    obtain ⟨⟨old, he⟩, hit⟩:=st
    refine wpAny_pyNext_enum_item he hit p.isList (x:=u) (by simpa using hu) hne fun h1 out hit1 tup sz kp=>⟨_, rfl, ?_⟩
    refine wpAny_letOwnedTupleGo_enum (s:={ s with heap:=h1, toks:=s.toks + 1 }) out fun h2 en sb=>?_
    have hel:e < s.heap.objs.size:=Heap.lt_size he
    have hTe:s.heap.objs.size ≠ e:=Nat.ne_of_gt hel
    have sb':Heap.SameBut e h1 h2:=sb
    have I1:Inv X pins σ H { s with heap:=h2, toks:=s.toks + 1 }:=I.turnedL (ch:=[e, it]) (fun b o hb q=>by
      have hb':b ≠ e ∧ b ≠ it:=by simpa using hb
      exact (sb'.2 b hb'.1).trans (kp b o hb'.1 hb'.2 q)) hf
    have hTn:H s.heap.objs.size = none:=I.hok.fresh (Nat.le_refl _)
    have tup2:h2.get? s.heap.objs.size = some { cls:=.type "tuple", data:=.seq #[.int i s.toks, u] }:=(sb'.2 _ hTe).trans tup
    have I2:Inv X pins σ (upd H s.heap.objs.size (.tup [.int i, x])) { s with heap:=h2, toks:=s.toks + 1 }:=I1.adopt hTn I.sz (Nat.ne_of_gt I.lt) (fun y c q=>by
      obtain ⟨v, z⟩:=I.cell y c q
      exact Nat.ne_of_lt z.lt) (fun q hq=>Nat.ne_of_lt (Heap.lt_size (I.pin q hq).1)) ⟨by show 2 ≤ sizeLine; decide, [.int i s.toks, u], .cons ⟨_, rfl⟩ (.cons ru .nil), ⟨_, tup2, rfl, _, rfl⟩⟩
    refine ⟨.ref s.heap.objs.size, _, I2, rfl, ⟨_, x, rfl, hTn, rfl, fun ys hy=>by rw [I.list_inj hy hq]; exact hx⟩, ⟨⟨_, by have:=en; exact_mod_cast this⟩, ?_⟩, fun b hb=>?_⟩
    · obtain ⟨o, q, r⟩:=hit1
      exact ⟨o, (sb'.2 it (Ne.symm hne)).trans q, r⟩
    · have hb0:=(hf b hb).1
      have z:b = e ∨ b = it:=by simpa using hb
      have hlt:b < s.heap.objs.size:=by
        rcases z with rfl | rfl
        · exact hel
        · obtain ⟨o, q, _⟩:=hit
          exact Heap.lt_size q
      rw [upd_ne (Nat.ne_of_lt hlt)]
      exact hb0
  done:=by
    intro X hP hw hK hc i pins s σ H E I hf st hg
    subst hP hw hK
    obtain ⟨xs, hq, hx⟩:=hg
    obtain ⟨its, rv, p, hz⟩:=I.list hq
    obtain ⟨⟨old, he⟩, hit⟩:=st
    obtain ⟨f0, f1, f2, f3, f4, f5⟩:=hf it (by simp)
    have hl:=rv.length
    exact wpAny_pyNext_enum_end (I.ok.hd hc) he hit p.isList (by simp; omega) fun h' eb=>⟨rfl, I.turned (t':=s.toks) (fun b o hb e=>eb b o hb e) f0 f1 f3 f4 f5⟩
  self:=fun _ _ _ _ _ st h=>by
    obtain ⟨⟨old, he⟩, hit⟩:=st
    exact wpAny_pyIter_enum he h
section
variable {X:Cx}
theorem pi_enum {elts:List Expr} {k:Nat} {tp:Pos} {a:Expr} {tl:TE} {p pos:Pos} (hg:Gl X "enumerate") (hm:X.mg "enumerate" = none) (hl:PE X a tl) (hs:starEach [a] X.env = [(false, eval a X.env)]:=by rfl):PI X (.Tuple elts k tp) (.Call (.Name "enumerate" p) [a] [] pos) (iEnum X.K tl):=by
  intro pins s σ H R I h
  have hA:PA X [a] (tCons tl tNil):=pa_cons hl pa_nil (by rw [hs]; rfl)
  refine Call_ (ld_blt I hg hm bt_enumerate (PyProof.Rows.callWith_type1 (thn (hA pos pins s σ H (fun vs H1=>∃ x, vs = [x] ∧ ∃ a, x = .ref a ∧ (∃ xs, SqL X.K H1 a xs) ∧ R (Ite X.K a) H1) I ?_) fun us s1 ⟨vs, H1, I1, r1, q1⟩=>?_) hs rfl))
  · show tl σ H fun x H1=>∃ y, [x] = [y] ∧ _
    have e:(fun (x:V) (H1:Hp)=>∃ y, [x] = [y] ∧ ∃ a, y = V.ref a ∧ (∃ xs, SqL X.K H1 a xs) ∧ R (Ite X.K a) H1) = fun x H1=>∃ a, x = V.ref a ∧ (∃ xs, SqL X.K H1 a xs) ∧ R (Ite X.K a) H1:=by
      funext x H1
      exact propext ⟨fun ⟨y, e, r⟩=>by cases e; exact r, fun r=>⟨x, rfl, r⟩⟩
    have h':tl σ H fun x H1=>∃ a, x = V.ref a ∧ (∃ xs, SqL X.K H1 a xs) ∧ R (Ite X.K a) H1:=h
    rw [← e] at h'
    exact h'
  · obtain ⟨x, e1, b, e2, ⟨xs, hq⟩, q⟩:=q1
    subst e1 e2
    obtain ⟨u, rfl, ru⟩:=vals1 r1
    cases ru
    obtain ⟨its, rv, pl, hz⟩:=I1.list hq
    refine call_enumerate_list pl.isList fun h1 he hit hsz hk=>?_
    refine wpAny_pyIter_enum he ?_
    have I2:Inv X pins σ H1 { s1 with heap:=h1 }:=I1.kept (t':=s1.toks) hk
    refine ⟨s1.heap.objs.size + 1, [s1.heap.objs.size + 1, s1.heap.objs.size], _, Ite X.K b, H1, rfl, I2, turn_enum b _ _ (Nat.succ_ne_self _), ⟨⟨_, he⟩, hit⟩, fun c hc=>?_, q⟩
    have z:c = s1.heap.objs.size + 1 ∨ c = s1.heap.objs.size:=by simpa using hc
    have hle:s1.heap.objs.size ≤ c:=by rcases z with rfl | rfl <;> omega
    exact I1.fpOk hle (I1.hok.fresh hle)
theorem preSum_take (ns:List Int):∀ n, n ≤ ns.length → preSum (fun i=>ns.getD i 0) n = (ns.take n).sum
  | 0, _=>by simp [preSum]
  | n + 1, h=>by
    show preSum _ n + ns.getD n 0 = _
    have hn:n < ns.length:=by omega
    rw [preSum_take ns n (by omega), List.take_succ, List.sum_append, List.getD_eq_getElem?_getD, List.getElem?_eq_getElem hn]
    simp
theorem call_sumL (hc:X.calm = true):CallR X (.builtin "sum") (cSum X.K):=by
  intro pins s σ H xs us Q I r h
  obtain ⟨p, ns, rfl, hq, q⟩:=h
  obtain ⟨u, rfl, ru⟩:=vals1 r
  cases ru
  obtain ⟨its, rv, pl, hz⟩:=I.list hq
  have hl:=rv.length
  rw [List.length_map] at hl
  have hpl:p < s.heap.objs.size:=by obtain ⟨o, e, _⟩:=pl.isList; exact Heap.lt_size e
  refine call_sum_walkG (wpAny_pyIter_list pl.isList ⟨s.heap.objs.size, _, _, _, _, _, fun i=>ns.getD i 0, rfl, Walks.list (A:=X.A.in1) (I.ok.hd hc) s.heap.objs.size p (Nat.ne_of_lt hpl) its.toArray, ⟨⟨_, Heap.get?_push_size _ rfl, rfl, rfl⟩, pl.isList.push _⟩, fun b hb=>?_, fun i v hv=>?_, fun h' tk t' hk=>?_⟩)
  · show b < (s.heap.push _).objs.size
    rw [Heap.size_push]
    have z:b = s.heap.objs.size ∨ b = p:=by simpa using hb
    rcases z with rfl | rfl
    · exact Nat.lt_succ_self _
    · exact Nat.lt_succ_of_lt hpl
  · have hv':its[i]? = some v:=by simpa using hv
    obtain ⟨x, ex, rx⟩:∃ x, (List.map V.int ns)[i]? = some x ∧ RelV x v:=by
      have hi:i < its.length:=(List.getElem?_eq_some_iff.mp hv').1
      have hi2:i < (List.map V.int ns).length:=by rw [List.length_map]; omega
      obtain ⟨u, eu, ru⟩:=rv.get (i:=i) (x:=(List.map V.int ns)[i]) (List.getElem?_eq_getElem hi2)
      rw [hv'] at eu; cases eu
      exact ⟨_, List.getElem?_eq_getElem hi2, ru⟩
    rw [List.getElem?_map] at ex
    cases e:ns[i]? with
    | none=>rw [e] at ex; cases ex
    | some z =>
      rw [e] at ex
      have:V.int z = x:=Option.some.inj ex
      subst this
      obtain ⟨t, rfl⟩:=rx
      exact ⟨t, by show Value.int z t = Value.int (ns.getD i 0) t; rw [List.getD_eq_getElem?_getD, e]; rfl⟩
  · have e:preSum (fun i=>ns.getD i 0) its.toArray.size = ns.sum:=by
      rw [List.size_toArray, ← hl, preSum_take ns _ (Nat.le_refl _), List.take_length]
    rw [e]
    refine ⟨.int ns.sum, H, I.kept fun b o q=>?_, ⟨_, rfl⟩, q⟩
    exact hk b o (by
      intro z
      have z':b = s.heap.objs.size:=by simpa using z
      exact absurd (Heap.lt_size q) (by rw [z']; exact Nat.lt_irrefl _)) (Heap.get?_push_of_some _ q)
theorem ins_fits {kk:Int} {k:Nat} (h:(k:Int) = kk) (hk:k < sizeLine):¬(!Builtin.List.listFitsIndex kk) = true:=by
  have hs:sizeLine = 16777216:=sizeLine_eq
  have hf:Builtin.List.listFitsIndex kk = true:=fitsIndex_both (by omega) (by omega)
  rw [hf]; decide
theorem ins_eq {its:List Value} {w':Value} {kk:Int} {k:Nat} (h:(k:Int) = kk) (hk:k ≤ its.length) :
    (have q:=if kk < 0 then (kk + (its.toArray.size:Int)).toNat else min kk.toNat its.toArray.size; (its.toArray.extract 0 q).push w' ++ its.toArray.extract q) = (its.take k ++ w' :: its.drop k).toArray:=by
  have hkk:(if kk < 0 then (kk + (its.toArray.size:Int)).toNat else min kk.toNat its.toArray.size) = k:=by
    rw [if_neg (by omega), List.size_toArray]
    omega
  show ((its.toArray.extract 0 (if kk < 0 then (kk + (its.toArray.size:Int)).toNat else min kk.toNat its.toArray.size)).push w' ++ its.toArray.extract (if kk < 0 then (kk + (its.toArray.size:Int)).toNat else min kk.toNat its.toArray.size)) = _
  rw [hkk]
  simp
  exact List.take_of_length_le (by simp)
theorem mt_insert:MtM X "list.insert" rInsert:=by
  intro pins s σ H x vs v us Q I rx rv h
  obtain ⟨l, xs, k, y, rfl, rfl, hH, hk, hz, q⟩:=h
  cases rx
  obtain ⟨u, w', rfl, ru, rw'⟩:=rv.two
  obtain ⟨t, rfl⟩:=ru
  obtain ⟨z, its, n, r, hl, e⟩:=I.lstM hH
  generalize hkk:(k:Int) = kk
  have hn:¬(!Builtin.List.listFitsIndex kk) = true:=ins_fits hkk (by omega)
  have hsz:its.toArray.size ≤ sizeLine:=by rw [List.size_toArray]; omega
  have M:=AutoSeq1.list_insert_list_int_val_1 l its.toArray n kk t w' hn hsz
  refine call_meets F.slot_list_insert ⟨_, e, rfl⟩ F.entry_list_insert (F.args_list_insert_3 _ _ _) M ⟨e, ?_⟩
  refine ⟨.non, _, I.lset (its':=its.take k ++ w' :: its.drop k) hH e (ins_eq hkk (by omega)) ((r.take k).append (.cons rw' (r.drop k))) ?_, rfl, q⟩
  rw [List.length_append, List.length_cons, List.length_take, List.length_drop]
  omega
theorem eqAt_ints {A:Around} {s:Shared} {i j:Int} {u v:Value} (r1:RelV (.int i) u) (r2:RelV (.int j) v):SeqAt.EqAt A s u v (i == j):=by
  obtain ⟨t, rfl⟩:=r1
  obtain ⟨t', rfl⟩:=r2
  exact fun prog w E Q hq=>wpAny_eqBool_int hq
theorem all_eq_ints:∀ (ns ms:List Int), ((List.range (min ns.length ms.length)).all (fun j=>ns.getD j 0 == ms.getD j 0) && ns.length == ms.length) = decide (ns = ms):=by
  intro ns ms
  rw [Bool.eq_iff_iff, decide_eq_true_eq, Bool.and_eq_true, List.all_eq_true, beq_iff_eq]
  constructor
  · rintro ⟨h1, h2⟩
    refine List.ext_getElem h2 fun i hi hj=>?_
    have:=h1 i (List.mem_range.mpr (by omega))
    rw [List.getD_eq_getElem?_getD, List.getD_eq_getElem?_getD, List.getElem?_eq_getElem hi, List.getElem?_eq_getElem hj] at this
    simpa using this
  · rintro rfl
    exact ⟨fun j _=>by simp, rfl⟩
theorem op_eqT (hu:X.A.units + 1 < cLine):OpR X (compareOp .Eq) (rEqT X.K):=by
  intro pins s σ H x y v u Q I rx ry h
  obtain ⟨a, b, ns, ms, rfl, rfl, ha, hb, q⟩:=h
  cases rx
  cases ry
  obtain ⟨its, r1, p1, _⟩:=I.tuple ha
  obtain ⟨its2, r2, p2, _⟩:=I.tuple hb
  have l1:=r1.length
  have l2:=r2.length
  rw [List.length_map] at l1 l2
  refine SeqAt.eq_tupleAt (e:=fun j=>ns.getD j 0 == ms.getD j 0) p1 p2 (by omega) (fun j h1 h2=>?_) ?_
  · have h1':j < ns.length:=by rw [l1]; simpa using h1
    have h2':j < ms.length:=by rw [l2]; simpa using h2
    obtain ⟨u1, e1, q1⟩:=r1.get (i:=j) (x:=.int ns[j]) (by rw [List.getElem?_map, List.getElem?_eq_getElem h1']; rfl)
    obtain ⟨u2, e2, q2⟩:=r2.get (i:=j) (x:=.int ms[j]) (by rw [List.getElem?_map, List.getElem?_eq_getElem h2']; rfl)
    have g1:its.toArray[j] = u1:=by
      have:=List.getElem?_eq_some_iff.mp e1
      obtain ⟨_, e⟩:=this
      simpa using e
    have g2:its2.toArray[j] = u2:=by
      have:=List.getElem?_eq_some_iff.mp e2
      obtain ⟨_, e⟩:=this
      simpa using e
    rw [g1, g2]
    have:=eqAt_ints (A:=X.A.in1) (s:=s) q1 q2
    simpa [List.getD_eq_getElem?_getD, List.getElem?_eq_getElem h1', List.getElem?_eq_getElem h2'] using this
  · have e:((List.range (min its.toArray.size its2.toArray.size)).all (fun j=>ns.getD j 0 == ms.getD j 0) && its.toArray.size == its2.toArray.size) = decide (ns = ms):=by
      rw [List.size_toArray, List.size_toArray, ← l1, ← l2]
      exact all_eq_ints ns ms
    rw [e]
    exact ⟨.bl (decide (ns = ms)), H, I, rfl, q⟩
end
end L2
namespace L2
open PySem PySem.Spec PyProof.Rows
noncomputable def TrP (PO:Obj → Prop) (h base:Heap) (e:Addr) (c a0 fl:Value):Prop :=
  ∃ oe vs T oT ts, h.get? e = some oe ∧ PO oe ∧ oe.cls = c ∧ vs[0]? = some a0 ∧ oe.data = .fields vs ∧ vs[1]? = some (.ref T) ∧ base.get? T = none ∧ T ≠ e ∧ h.get? T = some oT ∧ oT.data = .fields ts ∧ ts[3]? = some fl
noncomputable def Stb (PO:Obj → Prop):Prop:=∀ o f, PO o → PO (Obj.mapFields f o)
noncomputable def tbObj (head:Value) (L:Addr) (pl:List Value):Obj:={ cls:=.type "traceback", dict:=none, data:=.fields ([head, .ref L, .none, rawInt L, .none] ++ (if pl.isEmpty then List.replicate 6 Value.none else pl)).toArray }
section
variable {M:Model} {A:Around} {E:Value → Shared → Prop} {s:Shared} {PO:Obj → Prop} {base:Heap} {env:Env} {outer:List Env} {L e:Addr} {a0:Value}
theorem nof_ne {h:Heap} {b x:Addr} {o ox:Obj} {vs:Array Value} (hx:h.get? x = some ox) (hd:ox.data = .fields vs) (hb:h.get? b = some o) (hn:∀ vs, o.data ≠ .fields vs):b ≠ x:=fun z=>by
  subst z
  rw [hx] at hb
  exact hn vs (by rw [← Option.some.inj hb]; exact hd)
theorem entryP (hP:Stb PO) {oe:Obj} {vs:Array Value} {head:Value} {hadNext:Bool} {Q:Unit → Shared → Prop} (fr:A.frames = some (env :: outer)) (fl:s.heap.FunFrames base (env :: outer)) (ef:env.frame = some L) (ge:s.heap.get? e = some oe) (po:PO oe)
    (kb:base.StaysIn s.heap) (ne:base.get? e = none) (dd:oe.data = .fields vs) (sz:1 < vs.size) (v0:vs[0]? = some a0)
    (k:∀ h', base.StaysIn h' → h'.FunFrames base (env :: outer) → TrP PO h' base e oe.cls a0 (rawInt L) → s.heap.UpToSlots h' → Q () { s with heap:=h' }) :
    wpAny M A (frameOf env >>= fun a=>entryPlaceOf L hadNext >>= fun pl=>EntryCells.newEntry head a .none (rawInt L) .none pl >>= fun b=>setField (.ref e) 1 b) Q E s:=by
  have off:e ∉ (env :: outer).filterMap (·.frame):=fun hm=>by
    obtain ⟨_, o, ho, hn⟩:=fl.mem hm
    exact nof_ne ge dd ho hn rfl
  refine wpAny_bind (wpAny_frameOf_fun fr fl ef fun h1 q1=>wpAny_bind (wpAny_entryPlaceOf fun pl hpl=>?_))
  unfold EntryCells.newEntry newFields
  refine wpAny_bind (wpAny_newObj_type ?_ (hpl.sizeOk5 _ _ _ _ _))
  have e1:h1.get? e = some oe:=(q1.2.1 e off).trans ge
  have b1:base.StaysIn h1:=fun b o hb=>(q1.2.1 b fun hm=>by rw [(fl.mem hm).1] at hb; cases hb).trans (kb b o hb)
  have e2:=Heap.get?_push_of_some (h:=h1) (tbObj head L pl) e1
  have Te:h1.objs.size ≠ e:=Nat.ne_of_gt (Heap.lt_size e1)
  have d3:=Obj.data_mapFields dd (·.setIfInBounds 1 (Value.ref h1.objs.size))
  have e3:=Heap.get?_update_self (Obj.mapFields (·.setIfInBounds 1 (Value.ref h1.objs.size))) e2 (Obj.isFreed_of_fields d3)
  have T3:=(Heap.get?_update_other (h1.push (tbObj head L pl)) (Obj.mapFields (·.setIfInBounds 1 (Value.ref h1.objs.size))) (Ne.symm Te)).trans (Heap.get?_push_size h1 rfl)
  have keep:∀ b o, b ≠ e → h1.get? b = some o → ((h1.push (tbObj head L pl)).update e (Obj.mapFields (·.setIfInBounds 1 (Value.ref h1.objs.size)))).get? b = some o:=fun b o hb q=>by
    rw [Heap.get?_update_other _ _ (Ne.symm hb)]; exact Heap.get?_push_of_some _ q
  refine wpAny_setField e2 dd sz (k _ (fun b o hb=>keep b o (fun z=>by rw [z, ne] at hb; cases hb) (b1 b o hb)) (fl.of_keeps fun b o hb hn=>?_) ?_ fun b o hb hn=>?_)
  · obtain ⟨sl, hs⟩:=q1.2.2 b o hb
    exact ⟨_, keep b _ (nof_ne ge dd hb hn) hs, rfl⟩
  · refine ⟨_, _, h1.objs.size, _, _, e3, hP _ _ po, Obj.cls_mapFields _ _, by rw [Array.getElem?_setIfInBounds_ne (by decide)]; exact v0, d3, by simp [sz], b1.fresh, Te, T3, rfl, ?_⟩
    first
      | (simp; done)
      | (rcases hpl with rfl | ⟨_, _, _, _, _, _, _, rfl⟩ <;> simp)
  · obtain ⟨sl, hs⟩:=q1.2.2 b o hb
    exact ⟨sl, keep b _ (nof_ne ge dd hb hn) hs⟩
theorem noteFirstP (hP:Stb PO) {oe:Obj} {vs:Array Value} {Q:Unit → Shared → Prop} (fr:A.frames = some (env :: outer)) (fl:s.heap.FunFrames base (env :: outer)) (ef:env.frame = some L) (ge:s.heap.get? e = some oe) (po:PO oe)
    (kb:base.StaysIn s.heap) (ne:base.get? e = none) (dd:oe.data = .fields vs) (v1:vs[1]? = some .none) (v0:vs[0]? = some a0)
    (k:∀ h', base.StaysIn h' → h'.FunFrames base (env :: outer) → TrP PO h' base e oe.cls a0 (rawInt L) → s.heap.UpToSlots h' → Q () { s with heap:=h' }):wpAny M A (noteFrame (.ref e) env) Q E s:=by
  unfold noteFrame
  simp only [ef]
  refine wpAny_bind (wpAny_field ge dd v1 ?_)
  rw [if_neg (by decide)]
  exact entryP hP fr fl ef ge po kb ne dd (Array.getElem?_eq_some_iff.mp v1).1 v0 k
theorem noteNextP (hP:Stb PO) {c:Value} {Q:Unit → Shared → Prop} (fr:A.frames = some (env :: outer)) (fl:s.heap.FunFrames base (env :: outer)) (ef:env.frame = some L) (tr:TrP PO s.heap base e c a0 .none) (kb:base.StaysIn s.heap) (ne:base.get? e = none)
    (k:∀ h', base.StaysIn h' → h'.FunFrames base (env :: outer) → TrP PO h' base e c a0 (rawInt L) → s.heap.UpToSlots h' → Q () { s with heap:=h' }):wpAny M A (noteFrame (.ref e) env) Q E s:=by
  obtain ⟨oe, vs, T, oT, ts, ge, po, rfl, v0, dd, v1, nT, Te, gT, dT, t3⟩:=tr
  unfold noteFrame
  simp only [ef]
  refine wpAny_bind (wpAny_field ge dd v1 ?_)
  rw [if_pos (by simp)]
  refine wpAny_bind (wpAny_field gT dT t3 ?_)
  rw [if_neg (by simp [rawInt])]
  refine wpAny_bind (wpAny_setField gT dT (Array.getElem?_eq_some_iff.mp t3).1 ?_)
  have ot:∀ b, b ≠ T → (s.heap.update T (Obj.mapFields (·.setIfInBounds 3 Value.none))).get? b = s.heap.get? b:=fun b hb=>Heap.get?_update_other _ _ (Ne.symm hb)
  exact entryP (s:={ s with heap:=s.heap.update T (Obj.mapFields (·.setIfInBounds 3 Value.none)) }) hP fr (fl.of_keeps fun b o hb hn=>⟨o, (ot b (nof_ne gT dT hb hn)).trans hb, rfl⟩) ef ((ot e (Ne.symm Te)).trans ge) po
    (fun b o hb=>(ot b fun z=>by rw [z, nT] at hb; cases hb).trans (kb b o hb)) ne dd (Array.getElem?_eq_some_iff.mp v1).1 v0
    fun h' x1 x2 x3 x4=>k h' x1 x2 x3 fun b o hb hn=>x4 b o ((ot b (nof_ne gT dT hb hn)).trans hb) hn
theorem flightP {c fl:Value} {l:List Env} {Q:Unit → Shared → Prop} (kb:base.StaysIn s.heap) (ff:s.heap.FunFrames base l) (tr:TrP PO s.heap base e c a0 fl)
    (k:∀ h', base.StaysIn h' → h'.FunFrames base l → TrP PO h' base e c a0 .none → s.heap.UpToSlots h' → Q () { s with heap:=h' }):wpAny M A (setFlight (.ref e) none) Q E s:=by
  obtain ⟨oe, vs, T, oT, ts, ge, po, ec, v0, dd, v1, nT, Te, gT, dT, t3⟩:=tr
  have s3:3 < ts.size:=(Array.getElem?_eq_some_iff.mp t3).1
  have ot:∀ b, b ≠ T → (s.heap.update T (Obj.mapFields (·.setIfInBounds 3 ((none:Option Addr).elim Value.none fun f=>rawInt f)))).get? b = s.heap.get? b:=fun b hb=>Heap.get?_update_other _ _ (Ne.symm hb)
  unfold setFlight
  refine wpAny_bind (wpAny_field ge dd v1 ?_)
  rw [if_pos (by simp)]
  refine wpAny_setField gT dT s3 (k _ (fun b o hb=>(ot b fun z=>by rw [z, nT] at hb; cases hb).trans (kb b o hb)) (ff.of_keeps fun b o hb hn=>⟨o, (ot b (nof_ne gT dT hb hn)).trans hb, rfl⟩) ?_ fun b o hb hn=>⟨o.slots, (ot b (nof_ne gT dT hb hn)).trans hb⟩)
  exact ⟨oe, vs, T, _, _, (ot e (Ne.symm Te)).trans ge, po, ec, v0, dd, v1, nT, Te, Heap.get?_update_self _ gT (Obj.isFreed_of_fields (Obj.data_mapFields dT _)), Obj.data_mapFields dT _, by simp [s3]⟩
end
end L2
namespace L2
open PySem PySem.Spec PyProof.Rows
theorem ObjOk.got {P:Program} {w:World} {H:Hp} {h:Heap} {a:Addr} {o:HO} (x:ObjOk P w H h a o):∃ ob, h.get? a = some ob:=by
  cases o with
  | lst xs=>obtain ⟨_, _, _, _, e⟩:=x; exact ⟨_, e⟩
  | tup xs=>obtain ⟨_, _, _, ob, e, _⟩:=x; exact ⟨ob, e⟩
  | dK kvs=>obtain ⟨_, _, _, _, ob, _, _, e, _⟩:=x; exact ⟨ob, e⟩
  | dT kvs=>obtain ⟨_, _, _, _, ob, _, _, e, _⟩:=x; exact ⟨ob, e⟩
  | set S n=>obtain ⟨ob, _, _, _, e, _⟩:=x; exact ⟨ob, e⟩
  | ins C dx fs=>obtain ⟨_, _, _, e, _⟩:=x; exact ⟨_, e⟩
  | own y=>obtain ⟨ob, e⟩:=x; exact ⟨ob, e⟩
  | xd fs=>obtain ⟨_, ⟨ob, _, _, e, _⟩, _⟩:=x; exact ⟨ob, e⟩
  | rng lo hi=>obtain ⟨_, _, _, e⟩:=x; exact ⟨_, e⟩
  | frz ob u=>obtain ⟨e, _⟩:=x; exact ⟨ob, e⟩
  | tbl ps=>exact ⟨_, show h.get? a = some _ from x⟩
  | met f y=>exact ⟨_, show h.get? a = some _ from x⟩
  | ext φ=>obtain ⟨_, ⟨ob, e⟩, _⟩:=x; exact ⟨ob, e⟩
theorem HOk.byB {P:Program} {w:World} {H:Hp} {h h' B:Heap} (x:HOk P w H h) (c:∀ b o, H b = some o → ∃ ob, h.get? b = some ob ∧ B.get? b = some ob) (st:B.StaysIn h'):HOk P w H h':=fun a o e =>
  (x a o e).stay (fun b u hb q=>by
    have key:∀ o', H b = some o' → h'.get? b = some u:=fun o' eo=>by
      obtain ⟨ob, e1, e2⟩:=c b o' eo
      rw [q] at e1
      rw [Option.some.inj e1]
      exact st b ob e2
    rcases hb with z | z
    · exact key o (z ▸ e)
    · exact key _ z) (fun _ q=>q) fun _ _ q=>q
theorem Un.byB {fs:List Addr} {H H':Hp} {h h1 h2 B:Heap} (U:Un fs [] H H' h h1) (c2:∀ b ob, h.get? b = some ob → H b = none → b ∉ fs → B.get? b = some ob) (c3:∀ b ob, h.get? b = some ob → b ∉ fs → ∃ ob', B.get? b = some ob')
    (st:B.StaysIn h2) (up:h1.UpToSlots h2) (hf:∀ b ∈ fs, ∃ o, h1.get? b = some o ∧ ∀ vs, o.data ≠ .fields vs):Un fs [] H H' h h2 where
  keep:=fun b o e n hb _=>st b o (c2 b o e n hb)
  slot:=fun b o e n hb hx=>by
    obtain ⟨sl, q⟩:=U.slot b o e n hb hx
    obtain ⟨o', q', d⟩:=hf b hb
    rw [q] at q'
    have q2:=Option.some.inj q'
    subst q2
    obtain ⟨sl', z⟩:=up b _ q d
    exact ⟨sl', z⟩
  free:=U.free
  there:=fun b o e hx=>by
    by_cases hb:b ∈ fs
    · obtain ⟨o', q', d⟩:=hf b hb
      obtain ⟨sl, z⟩:=up b o' q' d
      exact ⟨_, z⟩
    · obtain ⟨o', z⟩:=c3 b o e hb
      exact ⟨o', st b o' z⟩
  tups:=U.tups
  frzs:=U.frzs
  tbls:=U.tbls
noncomputable def FlyW (od:Option Addr) (base:Heap) (l:List Env) (e:Addr) (c a0:Value) (h:Heap):Prop:=base.StaysIn h ∧ base.get? e = none ∧ h.FunFrames base l ∧ TrP (fun o=>o.dict = od) h base e c a0 .none
noncomputable def FlyH (od:Option Addr) (base:Heap) (l:List Env) (e:Addr) (c a0:Value) (L:Addr) (h:Heap):Prop:=base.StaysIn h ∧ base.get? e = none ∧ h.FunFrames base l ∧ TrP (fun o=>o.dict = od) h base e c a0 (rawInt L)
theorem stb_dict (od:Option Addr):Stb (fun o=>o.dict = od):=fun o f h=>by
  obtain ⟨c, d, dt, sl⟩:=o
  cases dt <;> exact h
theorem FlyW.first {od:Option Addr} {base h:Heap} {l:List Env} {e:Addr} {c a0:Value} (x:FlyW od base l e c a0 h):∃ oe vs, h.get? e = some oe ∧ oe.cls = c ∧ oe.dict = od ∧ oe.data = .fields vs :=
  let ⟨_, _, _, oe, vs, _, _, _, ge, po, ec, _, dd, _⟩:=x; ⟨oe, vs, ge, ec, po, dd⟩
section
variable {M:Model} {A:Around} {E:Value → Shared → Prop} {s:Shared} {base:Heap} {env:Env} {outer:List Env} {L e:Addr} {c a0:Value} {od:Option Addr}
theorem leaves_onD {Q:Unit → Shared → Prop} (fr:A.frames = some (env :: outer)) (ef:env.frame = some L) (fl:FlyW od base (env :: outer) e c a0 s.heap) (hQ:∀ h', FlyW od base outer e c a0 h' → s.heap.UpToSlots h' → Q () { s with heap:=h' }):wpAny M A (leaving env (.ref e)) Q E s:=by
  obtain ⟨f1, f2, f3, f4⟩:=fl
  unfold leaving
  refine wpAny_bind (noteNextP (stb_dict od) fr f3 ef f4 f1 f2 fun h1 x1 x2 x3 x4=>?_)
  exact flightP (s:={ s with heap:=h1 }) x1 x2 x3 fun h2 y1 y2 y3 y4=>hQ h2 ⟨y1, f2, y2.2.2, y3⟩ (x4.trans y4)
theorem leaves_firstD {Q:Unit → Shared → Prop} {oe:Obj} {vs:Array Value} (fr:A.frames = some (env :: outer)) (ef:env.frame = some L) (kb:base.StaysIn s.heap) (fl:s.heap.FunFrames base (env :: outer)) (ne:base.get? e = none) (ge:s.heap.get? e = some oe) (dd:oe.data = .fields vs) (v1:vs[1]? = some .none) (v0:vs[0]? = some a0)
    (hQ:∀ h', FlyW oe.dict base outer e oe.cls a0 h' → s.heap.UpToSlots h' → Q () { s with heap:=h' }):wpAny M A (leaving env (.ref e)) Q E s:=by
  unfold leaving
  refine wpAny_bind (noteFirstP (stb_dict oe.dict) fr fl ef ge rfl kb ne dd v1 v0 fun h1 x1 x2 x3 x4=>?_)
  exact flightP (s:={ s with heap:=h1 }) x1 x2 x3 fun h2 y1 y2 y3 y4=>hQ h2 ⟨y1, ne, y2.2.2, y3⟩ (x4.trans y4)
theorem looks_onD {Q:Unit → Shared → Prop} (fr:A.frames = some (env :: outer)) (ef:env.frame = some L) (fl:FlyW od base (env :: outer) e c a0 s.heap) (hQ:∀ h', FlyH od base (env :: outer) e c a0 L h' → s.heap.UpToSlots h' → Q () { s with heap:=h' }):wpAny M A (noteFrame (.ref e) env) Q E s :=
  noteNextP (stb_dict od) fr fl.2.2.1 ef fl.2.2.2 fl.1 fl.2.1 fun h1 x1 x2 x3 x4=>hQ h1 ⟨x1, fl.2.1, x2, x3⟩ x4
theorem landsD {l:List Env} {Q:Unit → Shared → Prop} (fl:FlyH od base l e c a0 L s.heap) (hQ:∀ h', FlyW od base l e c a0 h' → s.heap.UpToSlots h' → Q () { s with heap:=h' }):wpAny M A (setFlight (.ref e) none) Q E s :=
  flightP fl.1 fl.2.2.1 fl.2.2.2 fun h1 x1 x2 x3 x4=>hQ h1 ⟨x1, fl.2.1, x2, x3⟩ x4
theorem lands_againD {l:List Env} {Q:Unit → Shared → Prop} (fl:FlyW od base l e c a0 s.heap) (hQ:∀ h', FlyW od base l e c a0 h' → s.heap.UpToSlots h' → Q () { s with heap:=h' }):wpAny M A (setFlight (.ref e) none) Q E s :=
  flightP fl.1 fl.2.2.1 fl.2.2.2 fun h1 x1 x2 x3 x4=>hQ h1 ⟨x1, fl.2.1, x2, x3⟩ x4
end
structure Fly (P:Program) (w:World) (outer:List Env) (H:Hp) (s:Shared) (cls:Value) (od:Option Addr) (a:Addr) (H':Hp) (B:Heap) (s':Shared):Prop where
  os:s'.os = s.os
  bare:AllBare s'.gens
  un:Un (frs outer) [] H H' s.heap s'.heap
  hok:HOk P w H' s'.heap
  fr:H' a = none
  nw:s.heap.get? a = none
  fl:∃ a0, FlyW od B outer a cls a0 s'.heap
  c1:∀ b o, H' b = some o → ∃ ob, s'.heap.get? b = some ob ∧ B.get? b = some ob
  c2:∀ b ob, s.heap.get? b = some ob → H b = none → b ∉ frs outer → B.get? b = some ob
  c3:∀ b ob, s.heap.get? b = some ob → b ∉ frs outer → ∃ ob', B.get? b = some ob'
noncomputable def CXF (P:Program) (w:World):CXT:=fun outer H s E e s'=>∃ a cls od H' B, e = .ref a ∧ Fly P w outer H s cls od a H' B s' ∧ E cls od H'
theorem passN {X:Cx} {P:Program} {w:World}:Passes (CXF P w) X E0:=fun _ _ _ _ _ _ _ ⟨_, _, _, _, _, _, _, q⟩=>q.elim
section
variable {X:Cx} {pins:List (Addr × Obj)} {σ:St} {H H':Hp} {s s':Shared} {cls:Value} {od:Option Addr} {a:Addr} {B:Heap}
theorem Inv.newer (I:Inv X pins σ H s) (hex:X.ex = []) {b:Addr} (h:s.heap.get? b = none):X.s₀.heap.get? b = none:=by
  cases q:X.s₀.heap.get? b with
  | none=>rfl
  | some o =>
    obtain ⟨o', z⟩:=I.base.there b o q (by rw [hex]; simp)
    rw [h] at z; cases z
theorem Inv.offStack (I:Inv X pins σ H s) {b:Addr} {ob:Obj} (e:X.s₀.heap.get? b = some ob) (hb:b ∉ X.fs):b ∉ frs X.stack:=fun z=>by
  rcases List.mem_cons.mp (I.stkSub b z) with z | z
  · exact absurd (Nat.lt_of_lt_of_le (Heap.lt_size e) I.ok.above) (by rw [z]; exact Nat.lt_irrefl _)
  · exact hb z
theorem Fly.inv (I:Inv X pins σ H s) (F:Fly X.prog X.w X.stack H s cls od a H' B s') {h2:Heap} (st:B.StaysIn h2) (up:s'.heap.UpToSlots h2):Inv X pins σ H' { s' with heap:=h2 }:=by
  obtain ⟨a0, fl⟩:=F.fl
  refine I.call' (s':={ s' with heap:=h2 }) (ch:=[]) F.os (F.un.byB F.c2 F.c3 st up fun b hb=>?_) (F.hok.byB F.c1 st) F.bare (fun b z=>absurd z (by simp))
  obtain ⟨_, o, ho, hd⟩:=fl.2.2.1.mem hb
  exact ⟨o, ho, hd⟩
theorem Fly.on {E:Value → Shared → Prop} {M:Model} (I:Inv X pins σ H s) (hex:X.ex = []) (hst:X.stack = X.env :: X.outer) (hfr:X.env.frame = some X.env.locals) (F:Fly X.prog X.w X.stack H s cls od a H' B s') :
    wpAny M X.A (leaving X.env (.ref a)) (fun _ s2=>Fly X.prog X.w X.outer X.H₀ X.s₀ cls od a H' B s2) E s':=by
  obtain ⟨a0, fl⟩:=F.fl
  have fl':=fl
  rw [hst] at fl'
  have hA:X.A.frames = some (X.env :: X.outer):=by rw [I.ok.frames, hst]
  refine leaves_onD hA hfr fl' fun h2 fl2 up=>?_
  have J:Inv X pins σ H' { s' with heap:=h2 }:=F.inv I fl2.1 up
  have b0:Un X.fs [] X.H₀ H' X.s₀.heap h2:=by have:=J.base; rw [hex] at this; exact this
  refine ⟨J.os, J.bare, b0, J.hok, F.fr, I.newer hex F.nw, ⟨a0, fl2⟩, fun b o e=>?_, fun b ob e n hb=>?_, fun b ob e hb=>?_⟩
  · obtain ⟨ob, _, e2⟩:=F.c1 b o e
    exact ⟨ob, fl2.1 b ob e2, e2⟩
  · exact F.c2 b ob (I.base.keep b ob e n hb (by rw [hex]; simp)) (I.base.free b ob e n (by rw [hex]; simp)) (I.offStack e hb)
  · obtain ⟨o', e'⟩:=I.base.there b ob e (by rw [hex]; simp)
    exact F.c3 b o' e' (I.offStack e hb)
theorem Fly.first {E:Value → Shared → Prop} {M:Model} {oe:Obj} {vs:Array Value} {a0:Value} (I:Inv X pins σ H s) (hex:X.ex = []) (hst:X.stack = X.env :: X.outer) (hfr:X.env.frame = some X.env.locals) (ge:s.heap.get? a = some oe) (oc:oe.cls = cls) (hd:oe.data = .fields vs) (v1:vs[1]? = some .none) (v0:vs[0]? = some a0) (hH:H a = none) (nw:X.s₀.heap.get? a = none) :
    wpAny M X.A (leaving X.env (.ref a)) (fun _ s2=>∃ B, Fly X.prog X.w X.outer X.H₀ X.s₀ cls oe.dict a H B s2) E s:=by
  have hA:X.A.frames = some (X.env :: X.outer):=by rw [I.ok.frames, hst]
  have stk:=I.stack
  have hin:∀ env ∈ X.stack, ∀ b, env.frame = some b → b ∈ a :: frs X.stack:=fun env he b hb=>List.mem_cons_of_mem _ (List.mem_filterMap.mpr ⟨env, he, hb⟩)
  have hl:=PySem.W.funFrames_hide stk hin
  have off:∀ b, b ≠ a → b ∉ frs X.stack → b ∉ a :: frs X.stack:=fun b h1 h2 z=>by
    rcases List.mem_cons.mp z with z | z
    · exact h1 z
    · exact h2 z
  have c1:∀ b o, H b = some o → ∃ ob, s.heap.get? b = some ob ∧ (PySem.W.hideAll s.heap (a :: frs X.stack)).get? b = some ob:=fun b o e=>by
    obtain ⟨ob, e1⟩:=(I.hok b o e).got
    refine ⟨ob, e1, PySem.W.hideAll_get _ e1 (off b (fun z=>by rw [z, hH] at e; cases e) fun z=>?_)⟩
    have:=I.stkFree b z
    rw [e] at this; cases this
  have c2:∀ b ob, X.s₀.heap.get? b = some ob → X.H₀ b = none → b ∉ X.fs → (PySem.W.hideAll s.heap (a :: frs X.stack)).get? b = some ob:=fun b ob e n hb =>
    PySem.W.hideAll_get _ (I.base.keep b ob e n hb (by rw [hex]; simp)) (off b (fun z=>by rw [z, nw] at e; cases e) (I.offStack e hb))
  have c3:∀ b ob, X.s₀.heap.get? b = some ob → b ∉ X.fs → ∃ ob', (PySem.W.hideAll s.heap (a :: frs X.stack)).get? b = some ob':=fun b ob e hb=>by
    obtain ⟨o', e'⟩:=I.base.there b ob e (by rw [hex]; simp)
    exact ⟨o', PySem.W.hideAll_get _ e' (off b (fun z=>by rw [z, nw] at e; cases e) (I.offStack e hb))⟩
  have b0:Un X.fs [] X.H₀ H X.s₀.heap s.heap:=by have:=I.base; rw [hex] at this; exact this
  have hl2:s.heap.FunFrames (PySem.W.hideAll s.heap (a :: frs X.stack)) (X.env :: X.outer):=by
    generalize PySem.W.hideAll s.heap (a :: frs X.stack) = G at hl ⊢
    rw [hst] at hl
    exact hl
  refine leaves_firstD (base:=PySem.W.hideAll s.heap (a :: frs X.stack)) hA hfr (fun b o q=>PySem.W.of_hideAll _ q) hl2 (PySem.W.hideAll_none _ List.mem_cons_self) ge hd v1 v0 fun h2 fl up=>?_
  have un:Un X.fs [] X.H₀ H X.s₀.heap h2:=b0.byB c2 c3 fl.1 up fun b hb=>by
    obtain ⟨_, o, ho, hd⟩:=I.funs.mem hb
    exact ⟨o, ho, hd⟩
  refine ⟨_, I.os, I.bare, un, I.hok.byB c1 fl.1, hH, nw, ⟨a0, by rw [← oc]; exact fl⟩, fun b o e=>?_, c2, c3⟩
  obtain ⟨ob, _, e2⟩:=c1 b o e
  exact ⟨ob, fl.1 b ob e2, e2⟩
end
section
variable {P:Program} {w:World} {K:PySem.W.Frag} {mg:Str → Option Value} {base:Heap} {N ps:List Str} {qual:Str} {scope:Scope} {f:Addr} {cd:Value} {A:Around} {outer:List Env} {s:Shared} {H:Hp} {E:XK}
theorem passF:Passes (CXF P w) (cxOf (CXF P w) P w K mg base N qual scope f cd A outer s H E) E:=fun pins σ H1 s1 e s' I ⟨a, cls, od, H', B, he, F, q⟩=>by
  subst he
  exact wpAny_mono (Fly.on (E:=fun e' s2=>CXF P w outer H s E e' s2) (M:=model P w) I rfl rfl rfl F) (fun _ s2 F2=>⟨a, cls, od, H', B, rfl, F2, q⟩) fun _ _ z=>z
theorem Fun.okX {x:Str} {st:Stmt} {fd:FuncData} {k:Nat} {sp:Sp} (F:Fun K x qual st f fd) (S:FnScope N ps (defScope st)) (len:∀ vs H Q E, sp vs H Q E → vs.length = ps.length)
    (hbody:∀ (cdv:Value) (A:Around) (outer:List Env) (s:Shared) (H:Hp) (vs:List V) (Q:VK) (E:XK), Room k (A.deeper (envOfC qual (defScope st) s.heap.objs.size f cdv)) → sp vs H Q E →
      ∃ t, PSs (cxOf (CXF P w) P w K mg base N qual (defScope st) f cdv A outer s H E) (defBody st) t ∧ t { nx:=fun _ H'=>Q .non H', rt:=Q } (start N vs) H):FnOk P w K mg base (CXF P w) (k + 1) f fd ps sp:=by
  obtain ⟨oc, od, kV, doc, pm, an, cdv, ct, osl, rfl, lk, hcd⟩:=F.ex
  exact fn_of lk hcd S len fun A outer s H vs Q E hr hsp=>hbody cdv A outer s H vs Q E hr hsp
end
noncomputable def excD (a:Addr) (c:Value) (od:Option Addr):HO:=.ext fun h=>∃ o, h.get? a = some o ∧ o.cls = c ∧ o.dict = od ∧ ∃ vs, o.data = .fields vs
noncomputable abbrev Cx.inx (X:Cx) (a:Addr):Cx:={ X with A:=X.A.mark (some (.ref a)), calm:=false }
section
variable {X:Cx} {pins:List (Addr × Obj)} {σ:St} {H H':Hp} {s s':Shared} {cls:Value} {od:Option Addr} {a:Addr} {B:Heap}
theorem Inv.inx (I:Inv X pins σ H s) (a:Addr):Inv (X.inx a) pins σ H s :=
  ⟨⟨I.ok.mod, I.ok.kind, I.ok.glob, I.ok.blt, I.ok.above, I.ok.inj, I.ok.has, I.ok.cab, (fun z=>nomatch z), I.ok.frames, I.ok.stk, I.ok.exf, I.ok.bs, I.ok.bsz, I.ok.noex, I.ok.exfs, I.ok.funs, I.ok.frf⟩, I.os, I.bare, I.base, I.loc, I.cell, I.free, I.freeC, I.pin, I.hok, I.len⟩
theorem Inv.back (J:Inv ((X.inx a).nox) pins σ H s) (ok:X.Ok):Inv X pins σ H s:=⟨ok, J.os, J.bare, J.base, J.loc, J.cell, J.free, J.freeC, J.pin, J.hok, J.len⟩
theorem Inv.adoptE {D:Addr} {o:HO} (I:Inv X pins σ H s) (hn:H D = none) (hs:X.s₀.heap.get? D = none) (hL:D ≠ X.env.locals) (hc:∀ x c, X.env.cells.lookup x = some c → c ≠ D) (hp:∀ p ∈ X.pn ++ pins, p.1 ≠ D)
    (new:ObjOk X.prog X.w (upd H D o) s.heap D o):Inv X pins σ (upd H D o) s:=by
  have old:∀ b u, H b = some u → upd H D o b = some u:=fun b u q=>by rw [upd_ne (ne_of_none q hn)]; exact q
  refine ⟨I.ok, I.os, I.bare, ⟨I.base.keep, I.base.slot, fun b ob e n hx=>?_, I.base.there, fun b xs e=>old _ _ (I.base.tups b xs e), fun b ob xs e=>old _ _ (I.base.frzs b ob xs e), fun b ps e=>?_⟩, I.loc, I.cell, ?_, fun x c e=>?_, fun p h=>?_, fun b ob e=>?_, I.len⟩
  · have hb:b ≠ D:=fun z=>by rw [z, hs] at e; cases e
    rw [upd_ne hb]; exact I.base.free b ob e n hx
  · obtain ⟨more, q⟩:=I.base.tbls b ps e
    exact ⟨more, old _ _ q⟩
  · rw [upd_ne (Ne.symm hL)]; exact I.free
  · rw [upd_ne (hc x c e)]; exact I.freeC x c e
  · obtain ⟨a1, a2, a3⟩:=I.pin p h
    exact ⟨a1, by rw [upd_ne (hp p h)]; exact a2, a3⟩
  · by_cases hb:b = D
    · subst hb; rw [upd_same] at e; cases e; exact new
    · rw [upd_ne hb] at e
      exact (I.hok b ob e).stay (fun c v _ q=>q) (fun c q=>old _ _ q) fun c xs q=>old _ _ q
theorem gone_ok {M:Model} {A:Around} {E:Value → Shared → Prop} {i:Nat} {x:Str} {pos:Pos} {Q:Unit → Shared → Prop} (I:Inv X pins σ H s) (hN:X.N.Nodup) (hi:X.N[i]? = some x) (hk:X.env.scope.names.lookup x = some .local)
    (h:∀ s', Inv X pins (σ.set i none) H s' → Q () s'):wpAny M A (do bindName X.env x .none; unbindBehindTheSuite X.env x pos) Q E s:=by
  obtain ⟨m, hn, hl⟩:=id I.loc
  have hp:(X.env.scope.kind == .class || (X.env.scope.kind == .module && X.env.locals != X.env.globals)) = false:=by rw [I.ok.kind]; rfl
  refine wpAny_nameGoes_keeps hk hn hp fun h' v hn' hs=>h _ ?_
  obtain ⟨oL, _, _, hoL, _⟩:=id hn
  have older:∀ b o, X.s₀.heap.get? b = some o → b ≠ X.env.locals:=fun b o e=>Nat.ne_of_lt (Nat.lt_of_lt_of_le (Heap.lt_size e) I.ok.above)
  refine ⟨I.ok, I.os, I.bare, ⟨fun b o e n hb hx=>(hs.2 b (older b o e)).trans (I.base.keep b o e n hb hx), fun b o e n hb hx=>?_, I.base.free, fun b o e hx=>?_, I.base.tups, I.base.frzs, I.base.tbls⟩, ⟨_, hn', fun j y v' e1 e2 e3=>?_⟩, fun y c e=>?_, I.free, I.freeC, fun p hp=>?_, fun b ob e=>?_, by simpa using I.len⟩
  · obtain ⟨sl, e1⟩:=I.base.slot b o e n hb hx
    exact ⟨sl, (hs.2 b (older b o e)).trans e1⟩
  · obtain ⟨o', e1⟩:=I.base.there b o e hx
    exact ⟨o', (hs.2 b (older b o e)).trans e1⟩
  · by_cases hj:j = i
    · subst hj
      rw [List.getElem?_set] at e2
      split at e2
      · split at e2 <;> cases e2
      · exact absurd rfl ‹_›
    · rw [List.getElem?_set_ne (Ne.symm hj)] at e2
      obtain ⟨u', r', q⟩:=hl j y v' e1 e2 e3
      refine ⟨u', r', ?_⟩
      rcases q with ⟨k, e⟩ | ⟨k, c, e, z⟩
      · have ne:y ≠ x:=fun e=>hj (nodup_ix hN e1 (e ▸ hi))
        exact .inl ⟨k, by simp [ne, e]⟩
      · exact .inr ⟨k, c, e, z.sameBut hs (I.cne y c e)⟩
  · obtain ⟨w', z⟩:=I.cell y c e
    exact ⟨w', z.sameBut hs (I.cne y c e)⟩
  · obtain ⟨e, n, ne, nf, d⟩:=I.pin p hp
    exact ⟨(hs.2 p.1 ne).trans e, n, ne, nf, d⟩
  · refine (I.hok b ob e).stay (fun c w' hc q=>(hs.2 c ?_).trans q) (fun _ q=>q) fun _ _ q=>q
    intro z
    subst z
    rcases hc with z | z
    · rw [← z, I.free] at e; cases e
    · rw [I.free] at z; cases z
end
noncomputable def PEx (X:Cx) (e:Expr) (te:XK → TE):Prop :=
  ∀ (pins:List (Addr × Obj)) (s:Shared) (σ:St) (H:Hp) (Q:VK) (E:XK) (xe:Value → Shared → Prop), Inv X pins σ H s → te E σ H Q →
    (∀ H1 s1 e1 s', Inv X pins σ H1 s1 → CXF X.prog X.w X.stack H1 s1 E e1 s' → xe e1 s') → wpAny (model X.prog X.w) X.A (eval e X.env) (EP X pins σ Q) xe s
section
variable {X:Cx} {k:Nat} {f C:Addr} {fd:FuncData} {ps:List Str} {sp:Sp} {dvs:List V} {ds:List Value} {x m:Str} {p pos apos:Pos} {e o:Expr} {es:List Expr} {ta:TE} {t:TA}
theorem run_fnX {pins:List (Addr × Obj)} {σ:St} {H:Hp} {s:Shared} {Q:VK} {E:XK} {xe:Value → Shared → Prop} {us:List Value} {vs:List V} (F:FnOk X.prog X.w X.K X.mg X.base (CXF X.prog X.w) k f fd ps sp) (hr:Room k X.A) (hb:Binds X.K fd ps [])
    (I:Inv X pins σ H s) (r:Vals vs us) (h:sp vs H Q E) (hx:∀ e1 s', CXF X.prog X.w X.stack H s E e1 s' → xe e1 s'):wpAny (model X.prog X.w) X.A (call (.ref f) us) (EP X pins σ Q) xe s:=by
  have hl:(us ++ []).length = ps.length:=by rw [List.append_nil, ← r.length]; exact F.len _ _ _ _ h
  have bt:=hb s us I.kIn hl
  rw [List.append_nil] at bt
  refine wpAny_call (codeAny_mono (F.run X.A X.stack s H ⟨us, []⟩ us vs Q E hr I.env0 bt r h) fun res s' hq=>?_)
  cases res with
  | error e=>exact hx e s' hq
  | ok fl =>
    cases fl with
    | ret u=>exact I.after hq
    | next=>exact False.elim hq
    | brk=>exact False.elim hq
    | cont=>exact False.elim hq
theorem pex_call (F:FnOk X.prog X.w X.K X.mg X.base (CXF X.prog X.w) k f fd ps sp) (hr:Room k X.A) (hg:Gl X x) (hm:X.mg x = some (.ref f)) (hk:PySem.W.keepIn X.K (.ref f) = true) (hb:Binds X.K fd ps [])
    (ha:PA X.nox (e :: es) t) (hdb:(x == ("__debug__" : Str)) = false:=by decide) (he:starEach (e :: es) X.env = (false, eval e X.env) :: starEach es X.env:=by rfl) (hpl:(backTo pos (starEach es X.env)).any (·.1) = false:=by rfl) :
    PEx X (.Call (.Name x p) (e :: es) [] pos) (fun E=>tCall sp [] E t):=by
  intro pins s σ H Q E xe I h hx
  refine wpAny_Call_Name_kw (ld_glob I hg hm ?_ hdb)
  refine PySem.W.callWith_K (h₀:=X.base) I.ok.mod.kin hk (wpAny_mono (ha pos pins s σ H _ (I.wish _) h) (fun us s1 ⟨vs, H1, I1, r, q⟩=>⟨I1.kIn, ?_⟩) fun _ _ z=>z.elim) he hpl
  have q':sp (vs ++ []) H1 Q E:=q
  rw [List.append_nil] at q'
  exact run_fnX F hr hb I1.unwish r q' fun e1 s' z=>hx H1 s1 e1 s' I1.unwish z
end
noncomputable def tTry (te:XK → TE) (c0:Value) (j:Nat) (ts:TS):TS:=fun D σ H=>te (fun cls od H2=>cls = c0 ∧ ∀ a, H2 a = none → ts { nx:=fun σ' H'=>D.nx (σ'.set j none) H', rt:=fun _ _=>False } (σ.set j (some (.ref a))) (upd H2 a (excD a c0 od))) σ H fun _ H2=>D.nx σ H2
theorem ps_try {X:Cx} {te:XK → TE} {ts:TS} {c c0:Value} {cx n:Str} {j:Nat} {e:Expr} {s0:Stmt} {suite:List Stmt} {p1 np hp tp:Pos} (he:PEx X e te) (hs:∀ a, PSs ((X.inx a).nox) (s0 :: suite) ts)
    (hst:X.stack = X.env :: X.outer) (hfr:X.env.frame = some X.env.locals) (hex:X.ex = []) (hg:Gl X cx) (hm:X.mg cx = some c) (hmt:PySem.W.exmOne X.K c0 c = some true) (hN:X.N.Nodup) (hj:X.N[j]? = some n) (hn:X.env.scope.names.lookup n = some .local)
    (hdb:(cx == ("__debug__" : Str)) = false:=by decide) (hsw:swapsWith e none p1.line X.env = pure false:=by rfl) :
    PS X (.Try [.Expr e p1] [.ExceptHandler (some (.Name cx np)) (some n) (s0 :: suite) hp] [] [] tp) (tTry te c0 j ts):=by
  intro pins s σ H D I h
  refine wpAny_Try_except (wpAny_execs_cons (wpAny_Expr_any (wpAny_mono (he pins s σ H _ _ _ I h fun H1 s1 e1 s' I1 z=>?_) (fun v s1 ⟨y, H1, I1, r1, q1⟩=>wpAny_execs_nil (wpAny_execs_nil ⟨σ, H1, I1, q1⟩)) fun _ _ z=>z) I.quiet hsw))
  obtain ⟨a, cls, od, H', B, e0, F, ec, q⟩:=z
  subst e0 ec
  obtain ⟨a0, fl⟩:=F.fl
  have fl':=fl
  rw [hst] at fl'
  have hA:X.A.frames = some (X.env :: X.outer):=by rw [I.ok.frames, hst]
  refine looks_onD hA hfr fl' fun h4 held up4=>landsD (s:={ s' with heap:=h4 }) held fun h5 fl5 up5=>?_
  have I5:Inv X pins σ H' { s' with heap:=h5 }:=F.inv I1 fl5.1 (up4.trans up5)
  obtain ⟨ob, _, hob, hobc, _, _⟩:=fl5.first
  have LT:PySem.W.Looks (model X.prog X.w) h5 (typeOf (.ref a)) cls:=hobc ▸ (PySem.W.Looks.ld hob).andThen .now
  refine wpAny_handleBy_cons (codeAny_handlers_test (ld_glob (X:=X.inx a) (I5.inx a) hg hm ((PySem.W.exm_one I5.kIn LT hmt).here (codeAny_handlers_suite_as ?_)) hdb)) (by intro z; cases z)
  refine lands_againD (s:={ s' with heap:=h5 }) fl5 fun h6 fl6 up6=>?_
  have I6:Inv X pins σ H' { s' with heap:=h6 }:=F.inv I1 fl6.1 ((up4.trans up5).trans up6)
  obtain ⟨oe, vs, hoe, hoc, hdc, hod⟩:=fl6.first
  have nL:a ≠ X.env.locals:=fun z=>by
    obtain ⟨_, ⟨oL, _, _, e1, _⟩, _⟩:=I1.loc
    rw [← z, F.nw] at e1; cases e1
  have nC:∀ y c, X.env.cells.lookup y = some c → c ≠ a:=fun y c e1 z=>by
    obtain ⟨_, oc, e2, _⟩:=I1.cell y c e1
    rw [z, F.nw] at e2; cases e2
  have nP:∀ p ∈ X.pn ++ pins, p.1 ≠ a:=fun p hp z=>by
    have e1:=(I1.pin p hp).1
    rw [z, F.nw] at e1; cases e1
  have I7:Inv X pins σ (upd H' a (excD a cls od)) { s' with heap:=h6 }:=I6.adoptE F.fr (I1.newer hex F.nw) nL nC nP ⟨⟨oe, hoe, hoc, hdc, vs, hod⟩, ⟨oe, hoe⟩, fun g1 g2 ⟨o, e1, r⟩ kp=>⟨o, kp o e1, r⟩⟩
  refine store_ok I7 hN hj (.inl hn) (v:=.ref a) (u:=.ref a) rfl (fun s8 I8=>?_) (.inr hn)
  refine wpAny_mono (hs a pins s8 _ _ _ (I8.inx a |>.wish _) (q a F.fr)) (fun fl9 s9 z=>?_) fun _ _ z=>z.elim
  cases fl9 with
  | next =>
    obtain ⟨σ', H9, I9, q9⟩:=z
    exact gone_ok (I9.back I.ok) hN hj hn fun s10 I10=>⟨_, _, I10, q9⟩
  | ret v=>obtain ⟨_, _, _, _, _, z⟩:=z; exact z.elim
  | brk=>obtain ⟨_, _, _, z⟩:=z; exact z.elim
  | cont=>obtain ⟨_, _, _, z⟩:=z; exact z.elim
end L2
namespace L2
open PySem PySem.Spec PyProof.Rows
noncomputable def gadr (K:PySem.W.Frag) (x:Str):Addr:=match PySem.W.nsIn K mainGlobals x with
  | some (some (.ref C))=>C
  | _=>0
theorem gadr_of {K:PySem.W.Frag} {x:Str} {C:Addr} (h:PySem.W.nsIn K mainGlobals x = some (some (.ref C))):gadr K x = C:=by unfold gadr; rw [h]
noncomputable def ExcAt (a C:Addr) (h:Heap):Prop:=∃ o, h.get? a = some o ∧ o.cls = .ref C ∧ ∃ vs, o.data = .fields vs
noncomputable def KX (K:PySem.W.Frag) (C:Addr):Prop:=∀ a, PySem.W.KitX K (.ref a) (.ref C) (ExcAt a C)
noncomputable def isE (K:PySem.W.Frag) (C:Addr) (H:Hp) (y:V) (b:Bool):Prop :=
  (∃ D, y = .ref D ∧ PySem.W.kitOne K (.ref C) (.ref D) = some b) ∨ (∃ T, y = .ty T ∧ PySem.W.kitOne K (.ref C) (.type T) = some b) ∨ (∃ p Ds, y = .ref p ∧ H p = some (.tup (List.map V.ref Ds)) ∧ PySem.W.kitAny K (.ref C) (List.map Value.ref Ds) = some b)
noncomputable def cIsE (K:PySem.W.Frag):List V → Hp → VK → Prop:=fun xs H Q=>∃ a C od y b, xs = [.ref a, y] ∧ H a = some (excD a (.ref C) od) ∧ KX K C ∧ isE K C H y b ∧ Q (.bl b) H
structure XT (K:PySem.W.Frag) (R:Str) (others:List Str):Prop where
  any:PySem.W.kitAny K (.ref (gadr K R)) (others.map fun x=>.ref (gadr K x)) = some false
  val:PySem.W.kitOne K (.ref (gadr K R)) (.type "ValueError") = some true
  kx:KX K (gadr K R)
theorem XT.own {K:PySem.W.Frag} {R:Str} {others:List Str} (_:XT K R others):PySem.W.kitOne K (.ref (gadr K R)) (.ref (gadr K R)) = some true:=by
  unfold PySem.W.kitOne; rw [if_pos (by simp)]
section
variable {X:Cx}
theorem ExcAt.of {pins:List (Addr × Obj)} {σ:St} {H:Hp} {s:Shared} {a C:Addr} (I:Inv X pins σ H s) {od:Option Addr} (h:H a = some (excD a (.ref C) od)):ExcAt a C s.heap:=let ⟨o, e1, e2, _, e3⟩:=(I.hok a _ h).1; ⟨o, e1, e2, e3⟩
theorem tup_of {pins:List (Addr × Obj)} {σ:St} {H:Hp} {s:Shared} {p:Addr} {Ds:List Addr} (I:Inv X pins σ H s) (h:H p = some (.tup (List.map V.ref Ds))):∃ o n, s.heap.get? p = some o ∧ o.cls = .type "tuple" ∧ o.data = .seq (List.map Value.ref Ds).toArray n:=by
  obtain ⟨_, its, r, o, e, c, n, d⟩:=I.hok p _ h
  have key:∀ (Ds:List Addr) (its:List Value), Vals (List.map V.ref Ds) its → its = List.map Value.ref Ds:=by
    intro Ds
    induction Ds with
    | nil=>intro its r; cases r; rfl
    | cons D r' ih =>
      intro its r
      cases r with
      | cons q t =>
        have q':_ = Value.ref D:=q
        rw [q', ih _ t]; rfl
  have:=key Ds its r
  subst this
  exact ⟨o, n, e, c, d⟩
theorem call_isE:CallR X (.builtin "isinstance") (cIsE X.K):=by
  intro pins s σ H xs us Q I r h
  obtain ⟨a, C, od, y, b, rfl, hH, kx, hb, q⟩:=h
  obtain ⟨u, c, rfl, ru, rc⟩:=vals2 r
  obtain rfl:u = Value.ref a:=ru
  have at_:=ExcAt.of I hH
  have fin:∀ tk, EP X pins σ Q (.bool b) { s with toks:=tk }:=fun tk=>⟨.bl b, H, I.tok _, rfl, q⟩
  rcases hb with ⟨D, rfl, e⟩ | ⟨T, rfl, e⟩ | ⟨p, Ds, rfl, hp, e⟩
  · obtain rfl:c = Value.ref D:=rc
    exact PySem.W.kia_one (kx a) I.kIn at_ e (fun z=>nomatch z) fin
  · obtain rfl:c = Value.type T:=rc
    exact PySem.W.kia_one (kx a) I.kIn at_ e (fun z=>nomatch z) fin
  · obtain rfl:c = Value.ref p:=rc
    obtain ⟨⟨oc, od, dt, sl⟩, n, e1, e2, e3⟩:=tup_of I hp
    dsimp only at e2 e3
    subst e2 e3
    exact PySem.W.kia_tup (kx a) I.kIn at_ e1 e (fun z=>nomatch z) fin
end
theorem sub_of {K:PySem.W.Frag} {M:Model} {h:Heap} {a C:Addr} {T:Value} {b:Bool} (X:K.In h) (at_:ExcAt a C h) (e:PySem.W.mroIn K C T = some b):PySem.W.Looks M h (isInstance (.ref a) T) b:=by
  obtain ⟨o, e1, e2, _⟩:=at_
  have L0:PySem.W.Looks M h (typeOf (.ref a)) (.ref C):=e2 ▸ (PySem.W.Looks.ld e1).andThen .now
  exact L0.andThen (PySem.W.looks_mroIn X e)
section
open PySem.W Builtin Builtin.ObjectAttr Builtin.Getset_descriptor
theorem exc_classget {prog:Program} {w:World} {A:Around} {s:Shared} {K:Frag} {x C:Addr} {R:Result → Shared → Prop} {tp:Value} (X:K.In s.heap) (at_:ExcAt x C s.heap) (hm:mroIn K C (.type "object") = some true) (h:R (.ok (.ret (.ref C))) s) :
    codeAny (model prog w) A (.call (.builtin "getset_descriptor.__get__") ⟨[.builtin "object.__class__", .ref x, tp], []⟩) R s:=by
  obtain ⟨o, e1, e2, vs, e3⟩:=at_
  obtain ⟨hh, g, dr, t, os⟩:=s
  have L0:Looks (model prog w) hh (typeOf (.ref x)) (.ref C):=e2 ▸ (Looks.ld e1).andThen .now
  have L1:=looks_mroIn (M:=model prog w) X hm
  refine codeAny_call_builtin KF.slot_gs.plain KF.entry_gs (KF.slot_gs.check _ _ _ _ _ _ _ _ KF.type_class (KF.args_gs _ _ _) ?_)
  unfold Builtin.«getset_descriptor.__get__» descrGet; rw [dga_obj]
  refine wpAny_bind (wpAny_pure ?_)
  unfold descrGetter descrCheckInstance descrNameAndClass isInstance; simp only [KF.owner_class]
  repeat lk
  refine ⟨Code.quiet_builtin _ (by decide +kernel), codeAny_builtin KF.entry_class ?_⟩; unfold Builtin.«object.__class__» shownTypeOf
  repeat lk
  exact h
theorem exc_class {prog:Program} {w:World} {A:Around} {E:Value → Shared → Prop} {s:Shared} {K:Frag} {x C:Addr} {Q:Option Value → Shared → Prop}
    (hga:findIn K (.ref C) "__getattribute__" = some (some (.builtin "BaseException.__getattribute__"))) (hgh:findIn K (.ref C) "__getattr__" = some none) (hcl:findIn K (.ref C) "__class__" = some (some (.builtin "object.__class__")))
    (hn:specialIn K (.builtin "object.__class__") "__get__" = some (some (.builtin "getset_descriptor.__get__"))) (htk:takesIn K (.builtin "object.__class__") = some true) (hm:mroIn K C (.type "object") = some true) (hb:mroIn K C (.type "BaseException") = some true)
    (X:K.In s.heap) (at_:ExcAt x C s.heap) (h:Q (some (.ref C)) { s with toks:=s.toks + 1 }):wpAny (model prog w) A (getAttr? (.ref x) "__class__") Q E s:=by
  obtain ⟨o, e1, e2, vs, e3⟩:=id at_
  obtain ⟨hh, g, dr, t, os⟩:=s
  have L0:Looks (model prog w) hh (typeOf (.ref x)) (.ref C):=e2 ▸ (Looks.ld e1).andThen .now
  have L1:=looks_findIn (M:=model prog w) X hga
  have L2:=looks_findIn (M:=model prog w) X hgh
  have L3:=looks_findIn (M:=model prog w) X hcl
  have L4:=looks_specialIn (M:=model prog w) X hn
  have L5:=looks_takesIn (M:=model prog w) X htk
  have L6:Looks (model prog w) hh (isInstance (.ref x) (.type "BaseException")) true:=sub_of X at_ hb
  have LD:Looks (model prog w) hh (dataDescriptor? (some (.builtin "object.__class__")) (some (.builtin "getset_descriptor.__get__"))) (some (.builtin "getset_descriptor.__get__", .builtin "object.__class__")):=L5.andThen .now
  have LF:Looks (model prog w) hh (find (.ref x) (.ref C) "__class__") (.bind (.builtin "getset_descriptor.__get__") (.builtin "object.__class__")):=L3.andThen (L4.andThen (LD.andThen (Looks.tag .now)))
  have bnd:=PySem.F.attr_ValueError.ga.bind (.ref x)
  have hne:(Value.builtin "BaseException.__getattribute__" == Value.builtin "object.__getattribute__") = false:=by decide +kernel
  have hk:builtinKind "BaseException.__getattribute__" = some .slot:=by decide +kernel
  have hsp:splitId "BaseException.__getattribute__" = some ("BaseException", "__getattribute__"):=by decide +kernel
  unfold getAttr? getAttrBy? getAttrBy
  refine wpAny_bind (wpAny_mkText (wpAny_bind (wpAny_attempt (wpAny_holding (wpAny_bind (L0.at (wpAny_bind (L1.at ?_))))))))
  dsimp only
  rw [hne, Bool.and_false, if_neg Bool.false_ne_true]
  unfold getAttrByItsOwn hookBefore
  rw [if_pos (show onTheHeap (Value.ref C) = true from rfl)]
  refine wpAny_bind (L2.at (wpAny_bind (wpAny_attempt (wpAny_holding ?_))))
  unfold callGetattribute boundAndCalled
  rw [Bool.false_and, if_neg Bool.false_ne_true, bnd]
  refine wpAny_bind (wpAny_pure (wpAny_call (codeAny_call_builtin PySem.F.attr_ValueError.ga.plain PySem.F.entry_bexc_ga ?_)))
  have ha:=PySem.F.args_bexc_ga (.ref x) (.str "__class__" t)
  show wpAny _ _ (checkBuiltinCall _ ⟨[.ref x, .str "__class__" t], []⟩) _ _ _
  simp only [checkBuiltinCall, hk, hsp]
  refine wpAny_bind (L6.at ?_)
  repeat (first | lk | wp_step)
  show wpAny _ _ (run (.call (.builtin "getset_descriptor.__get__") ⟨[.builtin "object.__class__", .ref x, .ref C], []⟩) none) _ _ _
  refine wpAny_run (exc_classget X at_ hm ?_)
  repeat (first | lk | wp_step)
  exact h
end
theorem kitx_exc {K:PySem.W.Frag} {a C:Addr} (hga:PySem.W.findIn K (.ref C) "__getattribute__" = some (some (.builtin "BaseException.__getattribute__"))) (hgh:PySem.W.findIn K (.ref C) "__getattr__" = some none) (hcl:PySem.W.findIn K (.ref C) "__class__" = some (some (.builtin "object.__class__")))
    (hn:PySem.W.specialIn K (.builtin "object.__class__") "__get__" = some (some (.builtin "getset_descriptor.__get__"))) (htk:PySem.W.takesIn K (.builtin "object.__class__") = some true) (hm:PySem.W.mroIn K C (.type "object") = some true) (hb:PySem.W.mroIn K C (.type "BaseException") = some true) :
    PySem.W.KitX K (.ref a) (.ref C) (ExcAt a C):=by
  obtain ⟨cd, hc, _⟩:=Option.bind_eq_some_iff.mp hm
  have key:∃ c d sl, K.lookup C = some ⟨c, d, .cls cd, sl⟩:=by
    unfold PySem.W.clsIn at hc
    split at hc
    · rename_i c' d' cd' sl' ho
      have:=Option.some.inj hc
      subst this
      exact ⟨_, _, _, ho⟩
    · cases hc
  obtain ⟨c, d, sl, ho⟩:=key
  refine ⟨fun M h X p=>?_, fun M h X p=>?_, fun h tp dd its n sl' X e=>?_, fun X p q=>exc_class hga hgh hcl hn htk hm hb X p q⟩
  · obtain ⟨o, e1, e2, _⟩:=p
    exact e2 ▸ (PySem.W.Looks.ld e1).andThen .now
  · intro A' Q' E' s' k q
    unfold isType loadHead
    exact wpAny_bind (wpAny_loadPart (k _ _ (X _ _ ho)) (wpAny_pure q))
  · refine Bool.eq_false_iff.mpr fun q=>?_
    have z:C = tp:=Value.ref.inj (beq_iff_eq.mp q)
    subst z
    cases (X _ _ ho).symm.trans e
end L2
namespace L2
theorem bt_ValueError:PySem.bootBuiltins "ValueError" = some (.type "ValueError"):=by decide +kernel
end L2
namespace L2
open PySem PySem.Spec PyProof.Rows Builtin Builtin.ObjectAttr
def vTail:List Value:=[.type "ValueError", .type "Exception", .type "BaseException", .type "object"]
noncomputable def onlyVal:List Value → Bool
  | .ref _ :: r=>onlyVal r
  | l=>l == vTail
noncomputable def excOver (K:PySem.W.Frag) (C:Addr):Bool:=(PySem.W.clsIn K C).any fun cd=>onlyVal cd.mro
theorem refuse_val (self:Value):∀ {l:List Value}, onlyVal l = true → refuseLoop self "__setattr__" l = pure ()
  | .ref c :: r, e=>by rw [refuseLoop_ref]; exact refuse_val self (l:=r) e
  | [], e=>by simp [onlyVal, vTail] at e
  | .type n :: r, e=>by
    have:(Value.type n :: r) = vTail:=beq_iff_eq.mp e
    rw [this]; exact PySem.F.store_ValueError.passes self
  | .none :: r, e=>by have:(Value.none :: r) = vTail:=beq_iff_eq.mp e; cases this
  | .bool b :: r, e=>by have:(Value.bool b :: r) = vTail:=beq_iff_eq.mp e; cases this
  | .int i t :: r, e=>by have:(Value.int i t :: r) = vTail:=beq_iff_eq.mp e; cases this
  | .float x t :: r, e=>by have:(Value.float x t :: r) = vTail:=beq_iff_eq.mp e; cases this
  | .str x t :: r, e=>by have:(Value.str x t :: r) = vTail:=beq_iff_eq.mp e; cases this
  | .builtin b :: r, e=>by have:(Value.builtin b :: r) = vTail:=beq_iff_eq.mp e; cases this
theorem val_has:∀ {l:List Value}, onlyVal l = true → l.contains (.type "object") = true ∧ l.isEmpty = false
  | .ref c :: r, e=>⟨by rw [List.contains_cons, (val_has (l:=r) e).1, Bool.or_true], rfl⟩
  | [], e=>by simp [onlyVal, vTail] at e
  | .type n :: r, e=>by
    have:(Value.type n :: r) = vTail:=beq_iff_eq.mp e
    rw [this]; exact ⟨by decide, rfl⟩
section
variable {prog:Program} {w:World} {A:Around} {E:Value → Shared → Prop} {s:Shared} {K:PySem.W.Frag} {e C:Addr} {name:Str} {v:Value}
theorem osaX {ox:Obj} {od:Option Obj} {tk:Tok} {R:Result → Shared → Prop} (X:K.In s.heap) (J:PySem.W.InstAt s.heap e ox C od) (ho:excOver K C = true) (ht:PySem.W.findIn K (.ref C) name = some none)
    (h:wpAny (model prog w) A.in1 (storeInOwnDict (.ref e) (.ref C) (.str name tk) name v false) (fun fin s'=>match fin with | .done f=>R (.ok f) s' | .again c'=>c'.quiet = true ∧ codeAny (model prog w) A c' R s') (fun x s'=>R (.error x) s') s) :
    codeAny (model prog w) A (.call (.builtin "object.__setattr__") ⟨[.ref e, .str name tk, v], []⟩) R s:=by
  obtain ⟨cd, hc, hv⟩:=PySem.W.any_some ho
  obtain ⟨v1, v2⟩:=val_has hv
  have sub:PySem.W.Looks (model prog w) s.heap (isInstance (.ref e) (.type "object")) true:=J.type.andThen (PySem.W.looks_mroIn X (by unfold PySem.W.mroIn; rw [hc, Option.bind_some, if_neg (by rw [v2]; decide), v1]))
  have F:=PySem.F.store_object
  refine codeAny_call_builtin F.slot.plain F.entry (@PySem.W.check_slot (model prog w) _ _ s "object.__setattr__" "object" "__setattr__" (.ref e) [.str name tk, v] [] _ F.kind F.split sub (F.args _ _ _) ?_)
  rw [PySem.W.osa_eq, refuse_eq]
  refine wpAny_bind (wpAny_bind (J.type.here (wpAny_bind (((PySem.W.looks_clsIn X hc).andThen .now:PySem.W.Looks (model prog w) s.heap (mroOf (.ref C)) cd.mro).here ?_))))
  rw [refuse_val _ hv]
  refine wpAny_pure (wpAny_bind (J.type.here (wpAny_bind ((PySem.W.looks_findIn X ht).here (wpAny_bind (wpAny_pure ?_))))))
  exact h
theorem setX_new {oe:Obj} {vs:Array Value} {Q:Unit → Shared → Prop} (X:K.In s.heap) (ge:s.heap.get? e = some oe) (oc:oe.cls = .ref C) (dd:oe.data = .fields vs) (dn:oe.dict = none)
    (hs:PySem.W.findIn K (.ref C) "__setattr__" = some (some (.builtin "object.__setattr__"))) (ho:excOver K C = true) (ht:PySem.W.findIn K (.ref C) name = some none) (hh:PySem.W.hasDictIn K C = true)
    (h:∀ h', (∀ b o, b ≠ e → s.heap.get? b = some o → h'.get? b = some o) → h'.get? e = some { oe with dict:=some s.heap.objs.size } → h'.Ns1 s.heap.objs.size (fun y=>if y = name then some v else none) → Q () { s with heap:=h', toks:=s.toks + 2 }) :
    wpAny (model prog w) A (setAttr (.ref e) name v) Q E s:=by
  have J:PySem.W.InstAt s.heap e oe C none:=⟨ge, oc, by unfold PySem.W.notCls; rw [dd], by rw [dn]; trivial⟩
  refine PySem.W.set_plain X J hs (osaX (s:={ s with toks:=s.toks + 1 }) X J ho ht ?_)
  obtain ⟨cd, hc, hd'⟩:=PySem.W.any_some hh
  refine wpAny_bind (wpAny_pure (wpAny_bind (wpAny_bind (wpAny_loadPart ge ?_))))
  obtain ⟨c0, d0, dt, sl⟩:=oe
  dsimp only at oc dd dn
  subst oc dd dn
  have ne:e ≠ s.heap.objs.size:=Nat.ne_of_lt (Heap.lt_size ge)
  have e1:=Heap.get?_push_of_some (h:=s.heap) ({ cls:=.type "dict", data:=.dict #[] }:Obj) ge
  refine wpAny_bind (PySem.W.Looks.here (s:={ s with toks:=s.toks + 1 }) (PySem.W.looks_clsIn X hc) ?_)
  rw [hd']
  refine wpAny_bind (wpAny_alloc' (wpAny_bind (wpAny_update' e1 (wpAny_pure ?_))))
  have gd:((s.heap.push { cls:=.type "dict", data:=.dict #[] }).update e fun o=>{ o with dict:=some s.heap.objs.size }).get? s.heap.objs.size = some { cls:=.type "dict", data:=.dict #[] }:=(Heap.get?_update_ne _ _ _ _ ne.symm).trans (Heap.get?_push_at rfl rfl)
  have nd:((s.heap.push { cls:=.type "dict", data:=.dict #[] }).update e fun o=>{ o with dict:=some s.heap.objs.size }).Ns s.heap.objs.size (fun _=>none):=⟨_, #[], _, gd, rfl, (fun x hx=>absurd hx (by simp)), fun _=>rfl⟩
  show wpAny _ _ (storeInDict s.heap.objs.size _ name v) _ _ _
  unfold storeInDict newKeyGuard
  refine wpAny_bind (wpAny_pure (wpAny_bind (wpAny_nsSet1 (Heap.Ns1.of_empty nd) fun h2 n2 s2=>?_)))
  obtain ⟨oD, esD, epD, hoD, hdD, hcD⟩:=n2.count (Within.cons name v Within.nil)
  refine wpAny_bind (wpAny_lookBehind hoD (by rw [hdD]; exact pastItsLine_dict (Nat.le_trans hcD (by rw [List.length_cons, List.length_nil, sizeLine_eq]; omega))) ?_)
  refine wpAny_pure (h h2 (fun b o hb q=>(s2.2 b (Nat.ne_of_lt (Heap.lt_size q))).trans ((Heap.get?_update_ne _ _ _ _ hb).trans (Heap.get?_push_of_some _ q))) ((s2.2 e ne).trans (Heap.get?_update_self _ e1 rfl)) ?_)
  exact n2
theorem setX_more {oe:Obj} {vs:Array Value} {dx:Addr} {mA:Str → Option Value} {ns:List Str} {Q:Unit → Shared → Prop} (X:K.In s.heap) (ge:s.heap.get? e = some oe) (oc:oe.cls = .ref C) (dd:oe.data = .fields vs) (dn:oe.dict = some dx) (nsx:s.heap.Ns1 dx mA) (hw:Within mA ns) (hsz:ns.length < 1000)
    (hs:PySem.W.findIn K (.ref C) "__setattr__" = some (some (.builtin "object.__setattr__"))) (ho:excOver K C = true) (ht:PySem.W.findIn K (.ref C) name = some none) (hh:PySem.W.hasDictIn K C = true)
    (h:∀ h', Heap.SameBut dx s.heap h' → h'.Ns1 dx (fun y=>if y = name then some v else mA y) → Q () { s with heap:=h', toks:=s.toks + 2 }) :
    wpAny (model prog w) A (setAttr (.ref e) name v) Q E s:=by
  obtain ⟨od, _, _, hod, _⟩:=id nsx
  have J:PySem.W.InstAt s.heap e oe C (some od):=⟨ge, oc, by unfold PySem.W.notCls; rw [dd], by rw [dn]; exact hod⟩
  refine PySem.W.set_plain X J hs (osaX (s:={ s with toks:=s.toks + 1 }) X J ho ht ?_)
  obtain ⟨cd, hc, hd'⟩:=PySem.W.any_some hh
  refine wpAny_bind (wpAny_pure (wpAny_bind (wpAny_bind (wpAny_loadPart ge ?_))))
  obtain ⟨c0, d0, dt, sl⟩:=oe
  dsimp only at oc dd dn
  subst oc dd dn
  refine wpAny_bind (PySem.W.Looks.here (s:={ s with toks:=s.toks + 1 }) (PySem.W.looks_clsIn X hc) ?_)
  rw [hd']
  refine wpAny_pure (a:=some dx) ?_
  show wpAny _ _ (storeInDict dx _ name v) _ _ _
  unfold storeInDict newKeyGuard
  refine wpAny_bind (wpAny_pure (wpAny_bind (wpAny_nsSet1 (s:={ s with toks:=s.toks + 1 }) nsx fun h2 n2 s2=>?_)))
  obtain ⟨oD, esD, epD, hoD, hdD, hcD⟩:=n2.count (Within.cons name v hw)
  refine wpAny_bind (wpAny_lookBehind hoD (by rw [hdD]; exact pastItsLine_dict (Nat.le_trans hcD (by rw [List.length_cons, sizeLine_eq]; omega))) ?_)
  exact wpAny_pure (h h2 s2 n2)
end
end L2
namespace L2
open PySem PySem.Spec PyProof.Rows
section
open PySem.W Builtin Builtin.ObjectAttr Builtin.Getset_descriptor
theorem getX {prog:Program} {w:World} {A:Around} {E:Value → Shared → Prop} {s:Shared} {K:Frag} {x C dx:Addr} {oe:Obj} {vs:Array Value} {mA:Str → Option Value} {name:Str} {v:Value} {expr:Bool} {Q:Value → Shared → Prop}
    (hga:findIn K (.ref C) "__getattribute__" = some (some (.builtin "BaseException.__getattribute__"))) (hgh:findIn K (.ref C) "__getattr__" = some none) (hh:hasDictIn K C = true) (ha:findIn K (.ref C) name = some none) (hb:mroIn K C (.type "BaseException") = some true)
    (X:K.In s.heap) (ge:s.heap.get? x = some oe) (oc:oe.cls = .ref C) (dd:oe.data = .fields vs) (dn:oe.dict = some dx) (nsx:s.heap.Ns1 dx mA) (hv:mA name = some v) (hv':handedIn v = true) (h:Q v { s with toks:=s.toks + 1 }):wpAny (model prog w) A (getAttr (.ref x) name expr) Q E s:=by
  obtain ⟨od, hod, hl⟩:=lookIn_ns nsx
  have J:InstAt s.heap x oe C (some od):=⟨ge, oc, by unfold notCls; rw [dd], by rw [dn]; exact hod⟩
  obtain ⟨hp, g, d, t, os⟩:=s
  have L0:Looks (model prog w) hp (typeOf (.ref x)) (.ref C):=J.type
  have L1:=looks_findIn (M:=model prog w) X hga
  have L2:=looks_findIn (M:=model prog w) X hgh
  have L6:Looks (model prog w) hp (isInstance (.ref x) (.type "BaseException")) true:=sub_of X ⟨oe, ge, oc, vs, dd⟩ hb
  have LF:Looks (model prog w) hp (find (.ref x) (.ref C) name) (.value v):=looks_find X J (findObj_own hh ha rfl (by rw [hl, hv]))
  have bnd:=PySem.F.attr_ValueError.ga.bind (.ref x)
  have hne:(Value.builtin "BaseException.__getattribute__" == Value.builtin "object.__getattribute__") = false:=by decide +kernel
  have hk:builtinKind "BaseException.__getattribute__" = some .slot:=by decide +kernel
  have hsp:splitId "BaseException.__getattribute__" = some ("BaseException", "__getattribute__"):=by decide +kernel
  unfold getAttr getAttrBy
  refine wpAny_bind (wpAny_mkText (wpAny_holding (wpAny_bind (L0.at (wpAny_bind (L1.at ?_))))))
  dsimp only
  rw [hne, Bool.and_false, if_neg Bool.false_ne_true]
  unfold getAttrByItsOwn hookBefore
  rw [if_pos (show onTheHeap (Value.ref C) = true from rfl)]
  refine wpAny_bind (L2.at (wpAny_bind (wpAny_attempt (wpAny_holding ?_))))
  unfold callGetattribute boundAndCalled
  rw [show (expr && onTheHeap (Value.builtin "BaseException.__getattribute__")) = false by cases expr <;> rfl, if_neg Bool.false_ne_true, bnd]
  refine wpAny_bind (wpAny_pure (wpAny_call (codeAny_call_builtin PySem.F.attr_ValueError.ga.plain PySem.F.entry_bexc_ga ?_)))
  have hargs:=PySem.F.args_bexc_ga (.ref x) (.str name t)
  show wpAny _ _ (checkBuiltinCall _ ⟨[.ref x, .str name t], []⟩) _ _ _
  simp only [checkBuiltinCall, hk, hsp]
  refine wpAny_bind (L6.at ?_)
  repeat (first | lk | wp_step)
  show wpAny _ _ (handedOut v) _ _ _
  rw [handedOut_of hv']
  exact wpAny_pure h
end
end L2
namespace L2
open PySem PySem.Spec PyProof.Rows
noncomputable def excI (K:PySem.W.Frag) (C:Addr) (bmB:List Value) (newId:String):Bool:=match K.lookup C with
  | some ⟨.type "type", _, .cls cd, sl⟩=>(match cd.mro, sl.toList with
    | .ref D :: bm, [_, _, _, _, some (.builtin n), _]=>D == C && n == newId && !cd.hasDel && PySem.W.tailIn K bmB bm
    | _, _=>false)
  | _=>false
theorem excI_obj {K:PySem.W.Frag} {h:Heap} {C:Addr} {bmB:List Value} {newId:String} (X:K.In h) (q:excI K C bmB newId = true):∃ bm N' nm qn bs hdct sn sub ab col dd k0 k1 k2 k3 k5, h.get? C = some (excClassObj nm qn C N' bs bm hdct sn sub ab col dd k0 k1 k2 k3 k5 newId) ∧ OwnTail h bmB bm:=by
  unfold excI at q
  split at q
  · rename_i dd cd sl ho
    split at q
    · rename_i D bm k0 k1 k2 k3 n k5 hm hs
      rw [Bool.and_eq_true, Bool.and_eq_true, Bool.and_eq_true, beq_iff_eq, beq_iff_eq, Bool.not_eq_true'] at q
      obtain ⟨⟨⟨e1, e2⟩, hdel⟩, ht⟩:=q
      subst e1 e2
      obtain ⟨nm, bs, mro, ns, qn, hd, sn, sub, ab, col, del⟩:=cd
      dsimp only at hm hdel
      subst hm hdel
      have es:sl = #[k0, k1, k2, k3, some (.builtin n), k5]:=by
        cases sl with | mk l=>simp only at hs; rw [hs]
      subst es
      exact ⟨bm, ns, nm, qn, bs, hd, sn, sub, ab, col, dd, k0, k1, k2, k3, k5, X _ _ ho, PySem.W.tail_of_in X ht⟩
    · cases q
  · cases q
section
variable {prog:Program} {w:World} {A:Around} {E:Value → Shared → Prop} {s:Shared} {K:PySem.W.Frag} {nm qn:Str} {C N' fI:Addr} {bs bm bmB bmN:List Value} {hdct:Bool} {sn:List Str} {sub:List Value} {ab:Bool} {col:Option Bool} {dd:Option Addr} {k0 k1 k2 k3 k5:Option Value} {B Bn newId nid initId inN:String} {rest:List Value}
theorem typeCallX {Q:Fin → Shared → Prop} (Fn:ExcBaseFacts Bn newId inN bmN) (hBn:bmB.contains (.type Bn) = true) (FB:ExcBaseFacts B nid initId bmB) (T:OwnTail s.heap bmB bm) (hC:s.heap.get? C = some (excClassObj nm qn C N' bs bm hdct sn sub ab col dd k0 k1 k2 k3 k5 newId)) (X:K.In s.heap)
    (hi:PySem.W.findIn K (.ref C) "__init__" = some (some (.ref fI))) (hf:PySem.W.typeIn K (.ref fI) = some (.type "function")) (hz:rest.length ≤ sizeLine)
    (hq:∀ h1 e, Heap.MadeExcOf s.heap h1 e (.ref C) rest → wpAny (model prog w) A (call (.ref fI) (.ref e :: rest)) (fun r s'=>r = .none ∧ Q (.done (.ret (.ref e))) s') E { s with heap:=h1 }) :
    wpAny (model prog w) A (Builtin.«type.__call__» ⟨.ref C :: rest, []⟩) Q E s:=by
  obtain ⟨h, g, d, t, os⟩:=s
  repeat (first
    | with_reducible refine wpAny_madeBy_exc hC ?_
    | with_reducible refine wpAny_loadPart_at hC ?_
    | wp_step)
  refine codeAny_call_builtin_code (Code.quiet_builtin _ Fn.quiet) (wpAny_check_new_subU Fn hBn T hC (codeAny_exc_new_subU Fn hBn FB T hC ?_ hz))
  show wpAny _ _ _ _ _ _
  have kp:∀ b o, h.get? b = some o → ((h.push { cls:=.type "tuple", data:=.seq rest.toArray }).push { cls:=.ref C, data:=.fields #[.ref h.objs.size, .none, .none, .none, .bool false, .none] }).get? b = some o:=fun b o q=>Heap.get?_push_of_some _ (Heap.get?_push_of_some _ q)
  have C1:=kp _ _ hC
  have X1:=X.keeps kp
  have ge:((h.push { cls:=.type "tuple", data:=.seq rest.toArray }).push { cls:=.ref C, data:=.fields #[.ref h.objs.size, .none, .none, .none, .bool false, .none] }).get? (h.objs.size + 1) = some { cls:=.ref C, data:=.fields #[.ref h.objs.size, .none, .none, .none, .bool false, .none] }:=by heap_get
  have cc:(Value.ref C :: bm).contains (.ref C) = true:=by simp
  unfold isInstance
  repeat (first
    | (with_reducible refine wpAny_isSubtype_exc C1 ?_; rw [cc])
    | with_reducible refine wpAny_loadPart_at ge ?_
    | wp_step)
  refine PySem.W.Looks.here (s:=⟨_, g, d, t, os⟩) (PySem.W.looks_findIn X1 hi) (wpAny_holding (wpAny_bind (PySem.W.Looks.here (s:=⟨_, g, d, t, os⟩) (PySem.W.bind_fn X1 _ hf) (wpAny_bind ?_))))
  refine wpAny_mono (hq _ (h.objs.size + 1) ⟨kp, Heap.get?_none_of_le (Nat.le_succ _), h.objs.size, ge, Heap.get?_none_of_le (Nat.le_refl _), Heap.get?_push_of_some _ (Heap.get?_push_at rfl rfl)⟩) (fun r s' hr=>?_) fun _ _ x=>x
  obtain ⟨rfl, hQ⟩:=hr
  wp_walk
  exact hQ
theorem callX {Q:Value → Shared → Prop} (Fn:ExcBaseFacts Bn newId inN bmN) (hBn:bmB.contains (.type Bn) = true) (FB:ExcBaseFacts B nid initId bmB) (T:OwnTail s.heap bmB bm) (hC:s.heap.get? C = some (excClassObj nm qn C N' bs bm hdct sn sub ab col dd k0 k1 k2 k3 k5 newId)) (X:K.In s.heap)
    (hi:PySem.W.findIn K (.ref C) "__init__" = some (some (.ref fI))) (hf:PySem.W.typeIn K (.ref fI) = some (.type "function")) (hz:rest.length ≤ sizeLine)
    (hq:∀ h1 e, Heap.MadeExcOf s.heap h1 e (.ref C) rest → wpAny (model prog w) (A.under (.builtin "type.__call__" ⟨.ref C :: rest, []⟩)) (call (.ref fI) (.ref e :: rest)) (fun r s'=>r = .none ∧ Q (.ref e) s') E { s with heap:=h1 }) :
    wpAny (model prog w) A (call (.ref C) rest) Q E s:=by
  obtain ⟨h, g, d, t, os⟩:=s
  have f1:=tc_lookup
  have f2:=tc_bind (.ref C)
  have tT:(⟨h, g, d, t, os⟩:Shared).TypeIs (.ref C) "type":=⟨_, hC, rfl⟩
  refine wpAny_call (codeAny_of_tree (show wpAny _ _ (callAny (.ref C) _) _ _ _ from ?_))
  repeat (any_goals (first | with_reducible refine wpAny_loadPart_at hC ?_ | assumption | wp_step))
  refine ⟨rfl, codeAny_call_builtin_at (Code.quiet_builtin _ (by decide +kernel)) entry_typeCall (wpAny_check_type_call_sub hC (typeCallX (s:=⟨h, g, d, t, os⟩) Fn hBn FB T hC X hi hf hz fun h1 e hm=>?_))⟩
  exact hq h1 e hm
end
end L2
namespace L2
open PySem PySem.Spec PyProof.Rows
noncomputable def excF (e:Addr) (c:Value) (od:Option Addr) (vs:Array Value):HO:=.ext fun h=>∃ o, h.get? e = some o ∧ o.cls = c ∧ o.dict = od ∧ o.data = .fields vs
noncomputable def dctX (dx:Addr) (fs:List (Str × V)):HO:=.ext fun h=>∃ mA, h.Ns1 dx mA ∧ (∀ g, RelO (fs.lookup g) (mA g)) ∧ Within mA (fs.map (·.1))
structure XCl (K:PySem.W.Frag) (C:Addr) (f:Str):Prop where
  sa:PySem.W.findIn K (.ref C) "__setattr__" = some (some (.builtin "object.__setattr__"))
  ov:excOver K C = true
  no:PySem.W.findIn K (.ref C) f = some none
  hd:PySem.W.hasDictIn K C = true
noncomputable def sFldX (K:PySem.W.Frag) (ta tv:TE) (f:Str):TS:=fun D σ H=>tv σ H fun v H1=>ta σ H1 fun x H2=>∃ e C vs, x = .ref e ∧ XCl K C f ∧
  ((H2 e = some (excF e (.ref C) none vs) ∧ ∀ dx, H2 dx = none → dx ≠ e → D.nx σ (upd (upd H2 e (excF e (.ref C) (some dx) vs)) dx (dctX dx [(f, v)]))) ∨
   ∃ dx fs, H2 e = some (excF e (.ref C) (some dx) vs) ∧ H2 dx = some (dctX dx fs) ∧ fs.length < 900 ∧ D.nx σ (upd H2 dx (dctX dx ((f, v) :: fs))))
theorem look_cons {f g:Str} {y:V} {fs:List (Str × V)}:((f, y) :: fs).lookup g = if g = f then some y else fs.lookup g:=by
  rw [List.lookup_cons]
  by_cases q:g = f
  · subst q; simp
  · rw [if_neg q, show (g == f) = false by simpa using q]
section
variable {X:Cx} {o value:Expr} {f:Str} {ta tv:TE} {pos pos':Pos}
theorem excF_ok {P:Program} {w:World} {H:Hp} {h:Heap} {e:Addr} {c:Value} {od:Option Addr} {vs:Array Value} {ob:Obj} (ge:h.get? e = some ob) (oc:ob.cls = c) (dn:ob.dict = od) (dd:ob.data = .fields vs):ObjOk P w H h e (excF e c od vs) :=
  ⟨⟨ob, ge, oc, dn, dd⟩, ⟨ob, ge⟩, fun _ _ ⟨q, e1, r⟩ kp=>⟨q, kp q e1, r⟩⟩
theorem dctX_ok {P:Program} {w:World} {H:Hp} {h:Heap} {dx:Addr} {fs:List (Str × V)} {mA:Str → Option Value} (n:h.Ns1 dx mA) (r:∀ g, RelO (fs.lookup g) (mA g)) (wi:Within mA (fs.map (·.1))):ObjOk P w H h dx (dctX dx fs) :=
  ⟨⟨mA, n, r, wi⟩, let ⟨od, _, _, e1, _⟩:=n; ⟨od, e1⟩, fun _ _ ⟨m, ⟨od, es, ep, e1, c⟩, q⟩ kp=>⟨m, ⟨od, es, ep, kp od e1, c⟩, q⟩⟩
theorem ps_fldX (ha:PE X o ta) (hv:PE X value tv) (hs:swapsWith value (some (.Attribute o f pos')) pos.line X.env = pure false):PS X (.Assign [.Attribute o f pos'] value pos) (sFldX X.K ta tv f):=by
  intro pins s σ H D I h
  refine plainObj_wpAny_Assign_Attribute (thn (hv pins s σ H _ I h) fun u s1 ⟨y, H1, I1, ry, q⟩=>thn (ha pins s1 σ H1 _ I1 q) fun ov s2 ⟨x, H2, I2, rx, e, C, vs, ex, xc, alt⟩=>?_) hs
  subst ex
  obtain rfl:ov = Value.ref e:=rx
  rcases alt with ⟨he, k⟩ | ⟨dx, fs, he, hdx, fl, k⟩
  · obtain ⟨ob, ge, oc, dn, dd⟩:=(I2.hok e _ he).1
    have fr:H2 s2.heap.objs.size = none:=I2.hok.fresh (Nat.le_refl _)
    have ne:s2.heap.objs.size ≠ e:=Nat.ne_of_gt (Heap.lt_size ge)
    refine setX_new I2.kIn ge oc dd dn xc.sa xc.ov xc.no xc.hd fun h' kb ge' n'=>⟨σ, _, ?_, k _ fr ne⟩
    have J:=I2.write (x:=e) (e:=e) (o:=excF e (.ref C) (some s2.heap.objs.size) vs) (h':=h') (t':=s2.toks + 2) (by rw [he]; trivial) (.inl rfl) (fun b q hb z=>kb b q hb z) ⟨_, ge'⟩ (excF_ok ge' oc rfl dd)
    refine J.adoptE (by rw [upd_ne ne]; exact fr) ?_ (Nat.ne_of_gt I2.lt) (fun x c hc z=>?_) (fun p hp z=>?_) (dctX_ok n' (fun g=>?_) ?_)
    · cases q0:X.s₀.heap.get? s2.heap.objs.size with
      | none=>rfl
      | some oo=>exact absurd (Heap.lt_size q0) (Nat.not_lt.mpr I2.sz)
    · obtain ⟨_, oc', e2, _⟩:=I2.cell x c hc
      exact absurd (Heap.lt_size e2) (by rw [z]; exact Nat.lt_irrefl _)
    · have e1:=(I2.pin p hp).1
      exact absurd (Heap.lt_size e1) (by rw [z]; exact Nat.lt_irrefl _)
    · rw [look_cons]
      by_cases q:g = f
      · rw [if_pos q, if_pos q]; exact ry
      · rw [if_neg q, if_neg q]; trivial
    · intro g hg
      by_cases q:g = f
      · rw [q]; exact List.mem_cons_self
      · exact absurd (if_neg q) hg
  · obtain ⟨ob, ge, oc, dn, dd⟩:=(I2.hok e _ he).1
    obtain ⟨mA, n, r, wi⟩:=(I2.hok dx _ hdx).1
    refine setX_more I2.kIn ge oc dd dn n wi (by rw [List.length_map]; omega) xc.sa xc.ov xc.no xc.hd fun h' sb n'=>⟨σ, _, ?_, k⟩
    refine I2.write (x:=dx) (e:=dx) (h':=h') (t':=s2.toks + 2) (by rw [hdx]; trivial) (.inl rfl) (fun b q hb z=>(sb.2 b hb).trans z) (let ⟨od, _, _, e1, _⟩:=n'; ⟨od, e1⟩) (dctX_ok n' (fun g=>?_) ?_)
    · rw [look_cons]
      by_cases q:g = f
      · rw [if_pos q, if_pos q]; exact ry
      · rw [if_neg q, if_neg q]; exact r g
    · intro g hg
      by_cases q:g = f
      · rw [q]; exact List.mem_cons_self
      · exact List.mem_cons_of_mem _ (wi g fun z=>hg (by show (if g = f then some u else mA g) = none; rw [if_neg q]; exact z))
end
end L2
namespace L2
open PySem PySem.Spec PyProof.Rows
structure XCg (K:PySem.W.Frag) (C:Addr) (f:Str):Prop where
  ga:PySem.W.findIn K (.ref C) "__getattribute__" = some (some (.builtin "BaseException.__getattribute__"))
  gh:PySem.W.findIn K (.ref C) "__getattr__" = some none
  hd:PySem.W.hasDictIn K C = true
  no:PySem.W.findIn K (.ref C) f = some none
  mr:PySem.W.mroIn K C (.type "BaseException") = some true
noncomputable def ExcW (H:Hp) (e C dx:Addr):Prop:=(∃ vs, H e = some (excF e (.ref C) (some dx) vs)) ∨ H e = some (excD e (.ref C) (some dx))
noncomputable def tFldX (K:PySem.W.Frag) (ta:TE) (f:Str):TE:=fun σ H Q=>ta σ H fun x H1=>∃ e C dx fs v, x = .ref e ∧ XCg K C f ∧ ExcW H1 e C dx ∧ H1 dx = some (dctX dx fs) ∧ fs.lookup f = some v ∧ Q v H1
section
variable {X:Cx} {e:Expr} {f:Str} {ta:TE} {pos:Pos}
theorem pe_fldX (he:PE X e ta) (hb:attributeBase e f X.env (eval e X.env) = eval e X.env):PE X (.Attribute e f pos) (tFldX X.K ta f):=by
  intro pins s σ H Q I h
  refine attr_of hb (thn (he pins s σ H _ I h) fun u s1 ⟨x, H1, I1, rx, a, C, dx, fs, v, ex, xc, ew, hdx, l, q⟩=>?_)
  subst ex
  obtain rfl:u = Value.ref a:=rx
  obtain ⟨ob, vs, ge, oc, dn, dd⟩:∃ ob vs, s1.heap.get? a = some ob ∧ ob.cls = .ref C ∧ ob.dict = some dx ∧ ob.data = .fields vs:=by
    rcases ew with ⟨vs, ew⟩ | ew
    · obtain ⟨ob, z⟩:=(I1.hok a _ ew).1
      exact ⟨ob, vs, z⟩
    · obtain ⟨ob, z1, z2, z3, vs, z4⟩:=(I1.hok a _ ew).1
      exact ⟨ob, vs, z1, z2, z3, z4⟩
  obtain ⟨mA, n, r, _⟩:=(I1.hok dx _ hdx).1
  obtain ⟨w', hw, rw'⟩:=RelO.some_of (v:=v) (o:=mA f) (by rw [← l]; exact r f)
  exact getX xc.ga xc.gh xc.hd xc.no xc.mr I1.kIn ge oc dd dn n hw (handed_of rw') ⟨v, H1, I1.tok _, rw', q⟩
end
end L2
namespace L2
open PySem PySem.Spec PyProof.Rows
structure MkE (K:PySem.W.Frag) (C f:Addr):Prop where
  ex:excI K C vTail "ValueError.__new__" = true
  init:PySem.W.findIn K (.ref C) "__init__" = some (some (.ref f))
  fn:PySem.W.typeIn K (.ref f) = some (.type "function")
  kp:PySem.W.keepIn K (.ref C) = true
noncomputable def tMakeE (C:Addr) (sp:Sp) (t:TA):TE:=fun σ H Q=>t σ H fun vs H1=>vs.length ≤ sizeLine ∧ ∀ e ws a0, H1 e = none → ws[0]? = some a0 → ws[1]? = some .none → sp (.ref e :: vs) (upd H1 e (excF e (.ref C) none ws)) (fun v H2=>v = .non ∧ Q (.ref e) H2) E0
section
variable {X:Cx} {k:Nat} {f C:Addr} {fd:FuncData} {ps:List Str} {sp:Sp} {pins:List (Addr × Obj)} {σ:St} {H:Hp} {s:Shared} {us:List Value} {vs:List V}
theorem Inv.madeE {h1:Heap} {e:Addr} {ws:Array Value} (I:Inv X pins σ H s) (hex:X.ex = []) (hm:Heap.MadeExcOf s.heap h1 e (.ref C) us):∃ ws a0, H e = none ∧ ws[0]? = some a0 ∧ ws[1]? = some .none ∧ Inv X pins σ (upd H e (excF e (.ref C) none ws)) { s with heap:=h1 }:=by
  obtain ⟨t, ge, _, _⟩:=hm.there
  have J:Inv X pins σ H { s with heap:=h1 }:=I.kept (t':=s.toks) hm.keeps
  have fr:H e = none:=by
    cases q:H e with
    | none=>rfl
    | some o =>
      obtain ⟨ob, e1⟩:=(I.hok e o q).got
      rw [hm.new] at e1; cases e1
  refine ⟨_, _, fr, rfl, rfl, J.adoptE fr (I.newer hex hm.new) (fun z=>?_) (fun x c hc z=>?_) (fun p hp z=>?_) (excF_ok ge rfl rfl rfl)⟩
  · obtain ⟨_, ⟨oL, _, _, e1, _⟩, _⟩:=I.loc
    rw [← z, hm.new] at e1; cases e1
  · obtain ⟨_, oc, e2, _⟩:=I.cell x c hc
    rw [z, hm.new] at e2; cases e2
  · have e1:=(I.pin p hp).1
    rw [z, hm.new] at e1; cases e1
theorem run_makeE {Q:VK} {R:Addr → Array Value → VK} (M:MkE X.K C f) (F:FnOk X.prog X.w X.K X.mg X.base CX0 k f fd ps sp) (hr:Room (k + 1) X.A) (hb:Binds X.K fd ps []) (hex:X.ex = []) (I:Inv X pins σ H s) (r:Vals vs us) (hz:vs.length ≤ sizeLine)
    (h:∀ e ws a0, H e = none → ws[0]? = some a0 → ws[1]? = some .none → sp (.ref e :: vs) (upd H e (excF e (.ref C) none ws)) (R e ws) E0)
    (hk:∀ e ws a0 v H2, X.s₀.heap.get? e = none → ws[0]? = some a0 → ws[1]? = some .none → R e ws v H2 → v = .non ∧ Q (.ref e) H2):wpAny (model X.prog X.w) X.A (call (.ref C) us) (EP X pins σ Q) X.xe s:=by
  obtain ⟨bm, N', nm, qn, bs, hdct, sn, sub, ab, col, dd, k0, k1, k2, k3, k5, hC, T⟩:=excI_obj I.kIn M.ex
  refine callX (K:=X.K) PySem.F.excBase_ValueError (by decide +kernel) PySem.F.excBase_ValueError T hC I.kIn M.init M.fn (by rw [← r.length]; exact hz) fun h1 e hm=>?_
  obtain ⟨ws, a0, fr, w0, w1, J⟩:=I.madeE (ws:=#[]) hex hm
  have hq:=h e ws a0 fr w0 w1
  have r2:Vals (V.ref e :: vs) (Value.ref e :: us):=.cons rfl r
  have hl:(Value.ref e :: us ++ []).length = ps.length:=by
    have z:=r2.length
    rw [F.len _ _ _ _ hq] at z
    rw [List.append_nil]
    exact z.symm
  have bt:=hb _ (Value.ref e :: us) J.kIn hl
  rw [List.append_nil] at bt
  refine wpAny_call (codeAny_mono (F.run _ X.stack _ _ ⟨Value.ref e :: us, []⟩ (Value.ref e :: us) _ _ E0 (hr.make C us []) (J.env0.make C us []) bt r2 hq) fun res s' hq'=>?_)
  cases res with
  | error x=>exact pass0 pins σ _ _ x s' J hq'
  | ok fl =>
    cases fl with
    | ret u =>
      obtain ⟨v, H', I3, rv, q2⟩:=J.after hq'
      obtain ⟨ev, q3⟩:=hk e ws a0 v H' (I.newer hex hm.new) w0 w1 q2
      subst ev
      exact ⟨rv, ⟨V.ref e, H', I3, rfl, q3⟩⟩
    | next=>exact False.elim hq'
    | brk=>exact False.elim hq'
    | cont=>exact False.elim hq'
theorem pe_makeE {x:Str} {p pos:Pos} {e:Expr} {es:List Expr} {t:TA} (M:MkE X.K C f) (F:FnOk X.prog X.w X.K X.mg X.base CX0 k f fd ps sp) (hr:Room (k + 1) X.A) (hex:X.ex = []) (hg:Gl X x) (hm:X.mg x = some (.ref C)) (hb:Binds X.K fd ps [])
    (ha:PA X (e :: es) t) (hdb:(x == ("__debug__" : Str)) = false:=by decide) (he:starEach (e :: es) X.env = (false, eval e X.env) :: starEach es X.env:=by rfl) (hpl:(backTo pos (starEach es X.env)).any (·.1) = false:=by rfl):PE X (.Call (.Name x p) (e :: es) [] pos) (tMakeE C sp t):=by
  intro pins s σ H Q I h
  refine wpAny_Call_Name_kw (ld_glob I hg hm ?_ hdb)
  exact PySem.W.callWith_K (h₀:=X.base) I.ok.mod.kin M.kp (thn (ha pos pins s σ H _ I h) fun us s1 ⟨vs, H1, I1, r, hz, q⟩=>⟨I1.kIn, run_makeE M F hr hb hex I1 r hz q fun _ _ _ _ _ _ _ _ z=>z⟩) he hpl
end
end L2
namespace L2
open PySem PySem.Spec PyProof.Rows
section
variable {M:Model} {A:Around} {E:Value → Shared → Prop} {s:Shared} {env:Env} {nm qn:Str} {C N':Addr} {bs bm:List Value} {hdct:Bool} {sn:List Str} {sub:List Value} {ab:Bool} {col:Option Bool} {dd:Option Addr} {k0 k1 k2 k3 k5:Option Value} {newId:String}
theorem raiseE_stmt {x:Sem Value} {Q:Flow → Shared → Prop} (hB:bm.contains (.type "BaseException") = true) (hh:A.handled = none)
    (h:wpAny M A x (fun v s1=>∃ e oe vs, v = .ref e ∧ s1.heap.get? C = some (excClassObj nm qn C N' bs bm hdct sn sub ab col dd k0 k1 k2 k3 k5 newId) ∧ s1.heap.get? e = some oe ∧ oe.cls = .ref C ∧ oe.data = .fields vs ∧ vs[1]? = some .none ∧ E (.ref e) s1) E s):wpAny M A (raiseStmt env (some x) none) Q E s:=by
  have cB:(Value.ref C :: bm).contains (.type "BaseException") = true:=by rw [List.contains_cons, hB, Bool.or_true]
  unfold raiseStmt
  refine wpAny_bind (wpAny_mono h (fun v s1 q=>?_) fun _ _ x=>x)
  obtain ⟨e, ⟨c0, d0, dt, sl⟩, vs, rfl, hC, ge, oc, od, v1, hE⟩:=q
  dsimp only at oc od
  subst oc od
  obtain ⟨hp, g, d, tk, os⟩:=s1
  repeat (first
    | with_reducible refine wpAny_loadPart_at ge ?_
    | (with_reducible refine wpAny_isSubtype_exc hC ?_; rw [cB])
    | with_reducible refine wpAny_loadPart_at hC ?_
    | wp_step)
  rw [v1]
  refine wpAny_pure ?_
  rw [if_neg (by decide)]
  exact wpAny_pure (wpAny_raiseNew_none hh hE)
end
end L2
namespace L2
open PySem PySem.Spec PyProof.Rows
noncomputable def delH (H:Hp) (e:Addr):Hp:=fun b=>if b = e then none else H b
theorem delH_same {H:Hp} {e:Addr}:delH H e e = none:=if_pos rfl
theorem delH_ne {H:Hp} {e b:Addr} (h:b ≠ e):delH H e b = H b:=if_neg h
theorem delH_none {H:Hp} {e b:Addr} (h:H b = none):delH H e b = none:=by
  by_cases q:b = e
  · rw [q]; exact delH_same
  · rw [delH_ne q]; exact h
noncomputable def tRaiseE (E:XK) (C:Addr) (sp:Sp) (t:TA):TS:=fun _ σ H=>t σ H fun vs H1=>vs.length ≤ sizeLine ∧ ∀ e ws a0, H1 e = none → ws[0]? = some a0 → ws[1]? = some .none → sp (.ref e :: vs) (upd H1 e (excF e (.ref C) none ws)) (fun v H2=>v = .non ∧ ∃ od, H2 e = some (excF e (.ref C) od ws) ∧ E (.ref C) od (delH H2 e)) E0
theorem Inv.drop {X:Cx} {pins:List (Addr × Obj)} {σ:St} {H:Hp} {s:Shared} {e:Addr} {φ:Heap → Prop} (I:Inv X pins σ H s) (hs:X.s₀.heap.get? e = none) (he:H e = some (.ext φ)):Inv X pins σ (delH H e) s:=by
  have old:∀ b u, H b = some u → (∀ ψ, u ≠ .ext ψ) → delH H e b = some u:=fun b u q n=>by
    rw [delH_ne fun z=>?_]
    · exact q
    · rw [z, he] at q
      exact n φ (Option.some.inj q).symm
  refine ⟨I.ok, I.os, I.bare, ⟨I.base.keep, I.base.slot, fun b ob e1 n hx=>delH_none (I.base.free b ob e1 n hx), I.base.there, fun b xs e1=>old _ _ (I.base.tups b xs e1) (fun _ z=>nomatch z), fun b ob xs e1=>old _ _ (I.base.frzs b ob xs e1) (fun _ z=>nomatch z), fun b ps e1=>?_⟩, I.loc, I.cell, delH_none I.free, fun x c e1=>delH_none (I.freeC x c e1), fun p h=>?_, fun b ob e1=>?_, I.len⟩
  · obtain ⟨more, q⟩:=I.base.tbls b ps e1
    exact ⟨more, old _ _ q (fun _ z=>nomatch z)⟩
  · obtain ⟨a1, a2, a3⟩:=I.pin p h
    exact ⟨a1, delH_none a2, a3⟩
  · have nb:b ≠ e:=fun z=>by rw [z, delH_same] at e1; cases e1
    rw [delH_ne nb] at e1
    exact (I.hok b ob e1).stay (fun c v _ q=>q) (fun c q=>old _ _ q (fun _ z=>nomatch z)) fun c xs q=>old _ _ q (fun _ z=>nomatch z)
section
variable {P:Program} {w:World} {K:PySem.W.Frag} {mg:Str → Option Value} {base:Heap} {N ps:List Str} {qual:Str} {scope:Scope} {f:Addr} {cd:Value} {A:Around} {outer:List Env} {s:Shared} {H:Hp} {E:XK}
theorem ps_raiseE {x:Str} {C fI:Addr} {fdI:FuncData} {psI:List Str} {sp:Sp} {k:Nat} {np cpos pos:Pos} {e₀:Expr} {rest:List Expr} {ta:TA}
    (M:MkE K C fI) (F:FnOk P w K mg base CX0 k fI fdI psI sp) (hr:Room (k + 1) (cxOf (CXF P w) P w K mg base N qual scope f cd A outer s H E).A)
    (hg:Gl (cxOf (CXF P w) P w K mg base N qual scope f cd A outer s H E) x) (hm:mg x = some (.ref C)) (hb:Binds K fdI psI [])
    (ha:PA (cxOf (CXF P w) P w K mg base N qual scope f cd A outer s H E) (e₀ :: rest) ta)
    (he:starEach (e₀ :: rest) (cxOf (CXF P w) P w K mg base N qual scope f cd A outer s H E).env = (false, eval e₀ (cxOf (CXF P w) P w K mg base N qual scope f cd A outer s H E).env) :: starEach rest (cxOf (CXF P w) P w K mg base N qual scope f cd A outer s H E).env:=by rfl)
    (hpl:(backTo cpos (starEach rest (cxOf (CXF P w) P w K mg base N qual scope f cd A outer s H E).env)).any (·.1) = false:=by rfl) (hdb:(x == ("__debug__" : Str)) = false:=by decide) :
    PS (cxOf (CXF P w) P w K mg base N qual scope f cd A outer s H E) (.Raise (some (.Call (.Name x np) (e₀ :: rest) [] cpos)) none pos) (tRaiseE E C sp ta):=by
  intro pins s1 σ H1 D I h
  obtain ⟨bm, N', nm, qn, bs, hdct, sn, sub, ab, col, dd, k0, k1, k2, k3, k5, hC, T⟩:=excI_obj (h:=base) I.mod.kin M.ex
  rw [arm_exec_Raise]
  refine wpAny_bind (wpAny_standAt (raiseE_stmt (C:=C) (nm:=nm) (qn:=qn) (N':=N') (bs:=bs) (bm:=bm) (hdct:=hdct) (sn:=sn) (sub:=sub) (ab:=ab) (col:=col) (dd:=dd) (k0:=k0) (k1:=k1) (k2:=k2) (k3:=k3) (k5:=k5) (newId:="ValueError.__new__") (T.hasType PySem.F.excBase_ValueError.hasBase) (I.ok.hd rfl) (wpAny_bind (wpAny_mono (Q:=EP (cxOf (CXF P w) P w K mg base N qual scope f cd A outer s H E) pins σ (fun v H2=>∃ e od ws a0, v = .ref e ∧ s.heap.get? e = none ∧ ws[0]? = some a0 ∧ ws[1]? = some Value.none ∧ H2 e = some (excF e (.ref C) od ws) ∧ E (.ref C) od (delH H2 e))) ?_ (fun v s3 h3=>wpAny_bind (wpAny_standAt (wpAny_pure ?_))) fun _ _ z=>z))))
  · refine wpAny_Call_Name_kw (ld_glob I hg hm ?_ hdb)
    refine PySem.W.callWith_K (h₀:=base) I.ok.mod.kin M.kp (thn (ha cpos pins s1 σ H1 _ I h) fun us s2 ⟨vs, H2, I2, r, hz, q⟩=>⟨I2.kIn, run_makeE M F hr hb rfl I2 r hz q fun e ws a0 v H3 nw w0 w1 z=>?_⟩) he hpl
    obtain ⟨ev, od, hE, q⟩:=z
    exact ⟨ev, e, od, ws, a0, rfl, nw, w0, w1, hE, q⟩
  · obtain ⟨v', H2, I2, rv, e, od, ws, a0, ev, nw, w0, w1, hE, q⟩:=h3
    subst ev
    obtain rfl:v = Value.ref e:=rv
    obtain ⟨oe, ge, oc, od', dd'⟩:=(I2.hok e _ hE).1
    subst od'
    refine ⟨e, oe, ws, rfl, I2.bk _ _ hC, ge, oc, dd', w1, ?_⟩
    exact wpAny_mono (Fly.first (E:=fun e' s2=>CXF P w outer H s E e' s2) (M:=model P w) (I2.drop nw hE) rfl rfl rfl ge oc dd' w1 w0 delH_same nw) (fun _ s4 ⟨B, F⟩=>⟨e, _, _, delH H2 e, B, rfl, F, q⟩) fun _ _ z=>z
end
end L2
namespace L2
open PySem PySem.Spec PyProof.Rows
end L2
namespace L2
open PySem PySem.Spec PyProof.Rows
structure ExK (K:PySem.W.Frag) (R:Str) (fs:List Str):Prop where
  put:∀ f, f ∈ fs → XCl K (gadr K R) f
  get:∀ f, f ∈ fs → XCg K (gadr K R) f
theorem ExK.of {K:PySem.W.Frag} {R:Str} {C:Addr} {fs:List Str} (e:gadr K R = C) (sa:PySem.W.findIn K (.ref C) "__setattr__" = some (some (.builtin "object.__setattr__"))) (ov:excOver K C = true) (hd:PySem.W.hasDictIn K C = true)
    (ga:PySem.W.findIn K (.ref C) "__getattribute__" = some (some (.builtin "BaseException.__getattribute__"))) (gh:PySem.W.findIn K (.ref C) "__getattr__" = some none) (mr:PySem.W.mroIn K C (.type "BaseException") = some true) (no:∀ f, f ∈ fs → PySem.W.findIn K (.ref C) f = some none):ExK K R fs:=by
  subst e
  exact ⟨fun f hf=>⟨sa, ov, no f hf, hd⟩, fun f hf=>⟨ga, gh, hd, no f hf, mr⟩⟩
section
variable {K:PySem.W.Frag} {C P:Addr} {dX dP:Option Addr} {cdX cdP:ClassData} {slX slP:Array (Option Value)} {rX:List Value} {j0 j1 j2 j3 j5:Option Value}
theorem excOver_of (e1:K.lookup C = some ⟨.type "type", dX, .cls cdX, slX⟩) (e8:onlyVal cdX.mro = true):excOver K C = true:=by
  unfold excOver PySem.W.clsIn
  rw [e1]
  exact e8
theorem excI_of (e1:K.lookup C = some ⟨.type "type", dX, .cls cdX, slX⟩) (e2:cdX.mro = .ref C :: .ref P :: rX) (e3:slX.toList = [j0, j1, j2, j3, some (.builtin "ValueError.__new__"), j5]) (e4:cdX.hasDel = false) (e5:K.lookup P = some ⟨.type "type", dP, .cls cdP, slP⟩) (e6:cdP.mro = .ref P :: rX)
    (e7:PySem.W.excIn K P vTail "ValueError.__new__" = true):excI K C vTail "ValueError.__new__" = true:=by
  have key:PySem.W.tailIn K vTail rX = true ∧ PySem.W.nsOkIn K cdP.ns = true ∧ (PySem.W.nsIn K cdP.ns "__init__" == some none) = true:=by
    unfold PySem.W.excIn at e7
    split at e7
    · rename_i dd cd sl ho
      rw [e5] at ho
      cases ho
      split at e7
      · rename_i D bm _ _ _ _ n _ hm hs
        rw [e6] at hm
        cases hm
        simp only [Bool.and_eq_true] at e7
        obtain ⟨⟨⟨_, z1⟩, z2⟩, z3⟩:=e7
        exact ⟨z1, z2, z3⟩
      · cases e7
    · cases e7
  have ht:PySem.W.tailIn K vTail (.ref P :: rX) = true:=by
    unfold PySem.W.tailIn
    dsimp only
    rw [e5]
    dsimp only
    rw [key.1, key.2.1, key.2.2]
    simp
  unfold excI
  split
  · rename_i dd cd sl ho
    rw [e1] at ho
    cases ho
    rw [e2, e3]
    dsimp only
    rw [ht, e4]
    simp
  · rename_i hno
    exact (hno _ _ _ e1).elim
end
end L2
namespace L2
open PySem PySem.Spec PyProof.Rows
noncomputable def REq (K:PySem.W.Frag) (H:Hp) (D:V → V → Bool → Prop) (x y:V) (b:Bool):Prop:=∃ a c xs ys, x = .ref a ∧ y = .ref c ∧
  ((SqL K H a xs ∧ SqL K H c ys ∧ ((xs.length ≠ ys.length ∧ b = false) ∨ (xs.length = ys.length ∧ ∃ e:Nat → Bool, (∀ (j:Nat) x' y', xs[j]? = some x' → ys[j]? = some y' → D x' y' (e j)) ∧ b = (List.range xs.length).all e))) ∨
   (SqT K H a xs ∧ SqT K H c ys ∧ ∃ e:Nat → Bool, (∀ (j:Nat) x' y', xs[j]? = some x' → ys[j]? = some y' → D x' y' (e j)) ∧ b = ((List.range (min xs.length ys.length)).all e && xs.length == ys.length)))
noncomputable def DEq (K:PySem.W.Frag) (H:Hp):Nat → V → V → Bool → Prop
  | 0, x, y, b=>(x = y ∧ (∃ a, x = .ref a) ∧ b = true) ∨ ∃ i j, x = .int i ∧ y = .int j ∧ b = (i == j)
  | n + 1, x, y, b=>((x = y ∧ (∃ a, x = .ref a) ∧ b = true) ∨ ∃ i j, x = .int i ∧ y = .int j ∧ b = (i == j)) ∨ (x ≠ y ∧ REq K H (DEq K H n) x y b)
noncomputable def rNeD (K:PySem.W.Frag) (n:Nat):R2:=fun x y H Q=>∃ b, REq K H (DEq K H n) x y b ∧ Q (.bl (!b)) H
theorem Vals.ix {xs:List V} {us:List Value} (r:Vals xs us) {j:Nat} (h:j < us.toArray.size):∃ x, xs[j]? = some x ∧ RelV x us.toArray[j]:=by
  have hl:=r.length
  have h1:j < us.length:=by simpa using h
  have h2:j < xs.length:=by omega
  obtain ⟨u, e, q⟩:=r.get (i:=j) (x:=xs[j]) (List.getElem?_eq_getElem h2)
  refine ⟨xs[j], List.getElem?_eq_getElem h2, ?_⟩
  have e2:us.toArray[j] = u:=by
    obtain ⟨_, z⟩:=List.getElem?_eq_some_iff.mp e
    simpa using z
  rw [e2]; exact q
section
variable {X:Cx} {pins:List (Addr × Obj)} {σ:St} {H:Hp} {s:Shared}
theorem rc_of {A:Around} {D:V → V → Bool → Prop} (I:Inv X pins σ H s) (hu:A.units < cLine) (hD:∀ x y u v b, RelV x u → RelV y v → D x y b → SeqAt.EqAt A.in1 s u v b) {x y:V} {u v:Value} {b:Bool} (rx:RelV x u) (ry:RelV y v) (h:REq X.K H D x y b):SeqAt.RcAt A s u v b:=by
  obtain ⟨a, c, xs, ys, rfl, rfl, h⟩:=h
  cases rx
  cases ry
  rcases h with ⟨ha, hc, h⟩ | ⟨ha, hc, e, he, rfl⟩
  · obtain ⟨i1, r1, p1, _⟩:=I.list ha
    obtain ⟨i2, r2, p2, _⟩:=I.list hc
    have l1:=r1.length
    have l2:=r2.length
    rcases h with ⟨hn, rfl⟩ | ⟨hl, e, he, rfl⟩
    · exact SeqAt.RcAt.lists_lengths p1.isList p2.isList (by rw [List.size_toArray, List.size_toArray]; simp; omega) hu
    · have q:=SeqAt.RcAt.lists (e:=e) p1.isList p2.isList (by rw [List.size_toArray, List.size_toArray]; omega) hu fun j h1 h2=>by
        obtain ⟨x', ex, rx'⟩:=r1.ix h1
        obtain ⟨y', ey, ry'⟩:=r2.ix h2
        exact hD _ _ _ _ _ rx' ry' (he j x' y' ex ey)
      rw [List.size_toArray, ← l1] at q
      exact q
  · obtain ⟨i1, r1, p1, _⟩:=I.tuple ha
    obtain ⟨i2, r2, p2, _⟩:=I.tuple hc
    have l1:=r1.length
    have l2:=r2.length
    have q:=SeqAt.RcAt.tuples (e:=e) p1 p2 hu fun j h1 h2=>by
      obtain ⟨x', ex, rx'⟩:=r1.ix h1
      obtain ⟨y', ey, ry'⟩:=r2.ix h2
      exact hD _ _ _ _ _ rx' ry' (he j x' y' ex ey)
    rw [List.size_toArray, List.size_toArray, ← l1, ← l2] at q
    exact q
theorem eq_leaf {A:Around} {x y:V} {u v:Value} {b:Bool} (rx:RelV x u) (ry:RelV y v) (h:(x = y ∧ (∃ a, x = .ref a) ∧ b = true) ∨ ∃ i j, x = .int i ∧ y = .int j ∧ b = (i == j)):SeqAt.EqAt A s u v b:=by
  rcases h with ⟨rfl, ⟨a, rfl⟩, rfl⟩ | ⟨i, j, rfl, rfl, rfl⟩
  · cases rx
    cases ry
    exact SeqAt.EqAt.same _
  · exact eqAt_ints rx ry
theorem eq_of_deq (I:Inv X pins σ H s):∀ (n:Nat) (A:Around), A.units + n < cLine → ∀ x y u v b, RelV x u → RelV y v → DEq X.K H n x y b → SeqAt.EqAt A s u v b
  | 0, _, _, _, _, _, _, _, rx, ry, h=>eq_leaf rx ry h
  | n + 1, A, hu, x, y, u, v, b, rx, ry, h=>by
    rcases h with h | ⟨hne, h⟩
    · exact eq_leaf rx ry h
    · have q:=rc_of I (A:=A) (by omega) (fun x y u v b rx ry d=>eq_of_deq I n A.in1 (by show A.units + 1 + n < cLine; omega) x y u v b rx ry d) rx ry h
      obtain ⟨a, c, xs, ys, rfl, rfl, _⟩:=h
      cases rx
      cases ry
      exact SeqAt.EqAt.of_refs (fun z=>hne (by rw [z])) q
end
section
variable {X:Cx}
theorem op_neD (n:Nat) (hu:X.A.units + (n + 1) < cLine):OpR X (compareOp .NotEq) (rNeD X.K n):=by
  intro pins s σ H x y v u Q I rx ry h
  obtain ⟨b, ⟨a, c, xs, ys, rfl, rfl, h⟩, q⟩:=h
  cases rx
  cases ry
  have hD:=eq_of_deq I n X.A.in1 (by show X.A.units + 1 + n < cLine; omega)
  have hu':X.A.units < cLine:=by omega
  have fin:EP X pins σ Q (.bool (!b)) s:=⟨.bl (!b), H, I, rfl, q⟩
  rcases h with ⟨ha, hc, h⟩ | ⟨ha, hc, e, he, rfl⟩
  · obtain ⟨i1, r1, p1, _⟩:=I.list ha
    obtain ⟨i2, r2, p2, _⟩:=I.list hc
    have l1:=r1.length
    have l2:=r2.length
    rcases h with ⟨hn, rfl⟩ | ⟨hl, e, he, rfl⟩
    · exact SeqAt.RcNeAt.lists_lengths p1.isList p2.isList (by rw [List.size_toArray, List.size_toArray]; simp; omega) hu' _ _ _ _ fin
    · have z:=SeqAt.RcNeAt.lists (A:=X.A) (e:=e) p1.isList p2.isList (by rw [List.size_toArray, List.size_toArray]; omega) hu' fun j h1 h2=>by
        obtain ⟨x', ex, rx'⟩:=r1.ix h1
        obtain ⟨y', ey, ry'⟩:=r2.ix h2
        exact hD _ _ _ _ _ rx' ry' (he j x' y' ex ey)
      rw [List.size_toArray, ← l1] at z
      exact z _ _ _ _ fin
  · obtain ⟨i1, r1, p1, _⟩:=I.tuple ha
    obtain ⟨i2, r2, p2, _⟩:=I.tuple hc
    have l1:=r1.length
    have l2:=r2.length
    have z:=SeqAt.RcNeAt.tuples (A:=X.A) (e:=e) p1 p2 hu' fun j h1 h2=>by
      obtain ⟨x', ex, rx'⟩:=r1.ix h1
      obtain ⟨y', ey, ry'⟩:=r2.ix h2
      exact hD _ _ _ _ _ rx' ry' (he j x' y' ex ey)
    rw [List.size_toArray, List.size_toArray, ← l1, ← l2] at z
    exact z _ _ _ _ fin
end
theorem REq.ints {K:PySem.W.Frag} {H:Hp} {n:Nat} {a c:Addr} {ns ms:List Int} (h1:SqL K H a (List.map V.int ns)) (h2:SqL K H c (List.map V.int ms)):REq K H (DEq K H n) (.ref a) (.ref c) (decide (ns = ms)):=by
  refine ⟨a, c, _, _, rfl, rfl, .inl ⟨h1, h2, ?_⟩⟩
  by_cases hl:ns.length = ms.length
  · refine .inr ⟨by simp [hl], fun j=>ns.getD j 0 == ms.getD j 0, fun j x y ex ey=>?_, ?_⟩
    · rw [List.getElem?_map] at ex ey
      cases e1:ns[j]? with
      | none=>rw [e1] at ex; cases ex
      | some i1 =>
        cases e2:ms[j]? with
        | none=>rw [e2] at ey; cases ey
        | some i2 =>
          rw [e1] at ex
          rw [e2] at ey
          have x1:=Option.some.inj ex
          have y1:=Option.some.inj ey
          have leaf:(x = y ∧ (∃ a, x = V.ref a) ∧ (ns.getD j 0 == ms.getD j 0) = true) ∨ ∃ i k, x = V.int i ∧ y = V.int k ∧ (ns.getD j 0 == ms.getD j 0) = (i == k):=.inr ⟨i1, i2, x1.symm, y1.symm, by rw [List.getD_eq_getElem?_getD, List.getD_eq_getElem?_getD, e1, e2]; rfl⟩
          cases n with
          | zero=>exact leaf
          | succ n=>exact .inl leaf
    · have:=all_eq_ints ns ms
      rw [List.length_map, ← this, hl, Nat.min_self]
      simp
  · exact .inl ⟨by simpa using hl, decide_eq_false fun z=>hl (by rw [z])⟩
noncomputable def rCatA:R2:=fun x y H Q=>∃ a b xs ys, x = .ref a ∧ y = .ref b ∧ H a = some (.tup xs) ∧ H b = some (.tup ys) ∧ xs.length + ys.length ≤ sizeLine ∧ ∀ p H', Same H H' → H' p = some (.tup (xs ++ ys)) → Q (.ref p) H'
noncomputable def rSlA:V → Option Int → Option Int → Hp → VK → Prop:=fun x lo hi H Q=>∃ a xs, x = .ref a ∧ H a = some (.tup xs) ∧ ∀ p H', Same H H' → H' p = some (.tup (cutV xs lo hi)) → Q (.ref p) H'
section
variable {X:Cx}
theorem op_catA:OpR X (binaryOp .Add) rCatA:=by
  intro pins s σ H x y v u Q I rx ry h
  obtain ⟨a, b, xs, ys, rfl, rfl, ha, hb, hz, q⟩:=h
  by_cases hx:xs = []
  · subst hx
    cases rx
    cases ry
    obtain ⟨i1, r1, p1, _⟩:=I.tuple (SqT.of ha)
    obtain ⟨i2, r2, p2, _⟩:=I.tuple (SqT.of hb)
    have e1:i1 = []:=by cases r1; rfl
    subst e1
    obtain ⟨⟨cls, dd, data, sl⟩, ho, hc, n, hd⟩:=id p1
    obtain ⟨⟨cls2, dd2, data2, sl2⟩, ho2, hc2, n2, hd2⟩:=id p2
    simp only at hc hd hc2 hd2
    subst hc hd hc2 hd2
    exact concat_meets ⟨_, ho, rfl⟩ ⟨_, ho2, rfl⟩ noFill_tuple_add seq_tuple_add PySem.F.slot_tuple_add PySem.F.entry_tuple_add (PySem.F.args_tuple_add_2 _ _) (tuple_addW0 a b _ _ n n2 dd dd2 sl sl2 (by simp)) ⟨ho, ho2, ⟨.ref b, H, I, rfl, q b H (Same.refl H) hb⟩⟩
  · refine op_catT pins s σ H _ _ v u Q I rx ry ⟨a, b, xs, ys, rfl, rfl, SqT.of ha, SqT.of hb, hx, hz, fun e=>?_, fun _ p hp=>q p _ (Same.upd hp) upd_same⟩
    subst e
    exact q a H (Same.refl H) (by rw [List.append_nil]; exact ha)
end
end L2
namespace L2
open PySem PySem.Spec PyProof.Rows
theorem bt_reversed:bootBuiltins "reversed" = some (.type "reversed"):=by decide +kernel
section
variable {prog:Program} {w:World} {A:Around} {E:Value → Shared → Prop} {s:Shared}
open HT in
theorem slice_whole {t sl:Addr} {items:Array Value} {vl vu:Value} {lo hi:Option Int} {Q:Value → Shared → Prop} (ht:IsTup s.heap t items) (hs:s.heap.IsSliceOf sl vl vu .none) (pl:IsPart vl lo) (pu:IsPart vu hi)
    (hw:sIx items.size 0 lo = 0 ∧ sIx items.size items.size hi = items.size) (h:Q (.ref t) s):wpAny (model prog w) A (getItem (.ref t) (.ref sl)) Q E s:=by
  obtain ⟨os, hos, hcs, hds⟩:=id hs
  have hTs:s.TypeIs (.ref sl) "slice":=⟨os, hos, hcs⟩
  unfold getItem
  try with_reducible refine wpAny_holding ?_
  first | refine wpAny_bind (wpAny_pure ?_) | skip
  refine wpAny_bind (wpAny_sequenceKey ht.typeIs (by decide) ?_)
  refine wpAny_bind (wpAny_callSpecial?_slot (name:=Str.ofString "__getitem__") ht.typeIs PyProof.Rows.slot_tuple_getitem
    (wpAny_call_entry PyProof.Rows.slot_tuple_getitem ht.typeIs entry_tuple_getitem ?_ (args_tuple_getitem _ _)))
  show wpAny _ _ (Builtin.Tuple.tupleItemsOf (.ref t) >>= _) _ _ s
  refine wpAny_bind (tupleItemsOf_ ht ?_)
  refine wpAny_bind (wpAny_typeOf hTs ?_)
  rw [if_pos (by decide)]
  refine wpAny_bind (sliceApplied_gen hs pl pu ?_)
  have yes:((((sIx items.size 0 lo:Nat):Int) == 0 && (1:Int) == 1 && (sIx items.size items.size hi - sIx items.size 0 lo) == items.size) = true):=by
    rw [hw.1, hw.2]; simp
  show wpAny _ _ (if (((sIx items.size 0 lo:Nat):Int) == 0 && (1:Int) == 1 && (sIx items.size items.size hi - sIx items.size 0 lo) == items.size) = true then _ else _) _ _ s
  rw [if_pos yes]
  unfold Builtin.Tuple.tupleIsExact
  refine wpAny_bind (wpAny_bind (wpAny_typeOf ht.typeIs (wpAny_pure ?_)))
  rw [if_pos (by decide)]
  first
    | exact wpAny_bind (wpAny_rule (wpAny_pure ⟨_, rfl, wpAny_pure h⟩))
    | exact wpAny_bind (wpAny_rule (wpAny_bind (wpAny_pure (wpAny_pure ⟨_, rfl, wpAny_pure h⟩))))
    | exact wpAny_bind (wpAny_rule (wpAny_pure h))
end
section
variable {X:Cx}
theorem cutV_whole {xs:List V} {lo hi:Option Int} (h:HT.sIx xs.length 0 lo = 0 ∧ HT.sIx xs.length xs.length hi = xs.length):cutV xs lo hi = xs:=by
  unfold cutV
  rw [h.1, h.2, List.drop_zero, Nat.sub_zero, List.take_length]
theorem sl_tupA:SlR X rSlA:=by
  intro pins s σ H x v vl vu lo hi sl Q I rx hs pl pu h
  obtain ⟨a, xs, rfl, hx, q⟩:=h
  by_cases hw:HT.sIx xs.length 0 lo = 0 ∧ HT.sIx xs.length xs.length hi = xs.length
  · cases rx
    obtain ⟨its, r, ht, hz⟩:=I.tuple (SqT.of hx)
    have hlen:its.toArray.size = xs.length:=by rw [List.size_toArray]; exact r.length.symm
    refine ⟨"tuple", _, PyProof.Rows.slot_tuple_getitem.lookup, ht.typeIs, ?_⟩
    exact slice_whole ht hs pl pu (by rw [hlen]; exact hw) ⟨.ref a, H, I, rfl, q a H (Same.refl H) (by rw [cutV_whole hw]; exact hx)⟩
  · exact sl_tup pins s σ H _ v vl vu lo hi sl Q I rx hs pl pu ⟨a, xs, rfl, SqT.of hx, hw, fun p hp=>q p _ (Same.upd hp) upd_same⟩
end
noncomputable def Itv (K:PySem.W.Frag) (a:Addr) (n:Nat):It :=
  ⟨fun i H=>i < n ∧ ∃ xs, SqL K H a xs ∧ xs.length = n, fun i H v H'=>H' = H ∧ ∀ xs, SqL K H a xs → xs[n - 1 - i]? = some v, fun i _=>n ≤ i⟩
noncomputable def iRev (K:PySem.W.Frag) (tl:TE):TI:=fun σ H R=>tl σ H fun x H1=>∃ a xs, x = .ref a ∧ SqL K H1 a xs ∧ R (Itv K a xs.length) H1
theorem turn_rev {P:Program} {w:World} {K:PySem.W.Frag} {tg:Expr} (a it:Addr) (n:Nat):Turn P w K tg (Itv K a n) [it] it (fun i h=>i ≤ n ∧ h.IsRevIter it a ((n:Int) - 1 - (i:Int))) where
  mem:=by simp
  obj:=fun i h st b hb=>by
    obtain ⟨_, o, e, c, d⟩:=st
    have z:b = it:=by simpa using hb
    subst z
    exact ⟨o, e, fun v z=>by rw [d] at z; cases z⟩
  keep:=fun i h h' st k=>⟨st.1, st.2.at fun o q=>k it (by simp) o q⟩
  item:=by
    intro X hP hw hK hc i pins s σ H E I hf st hg
    subst hP hw hK
    obtain ⟨hi, xs, hq, hn⟩:=hg
    obtain ⟨its, rv, p, hz⟩:=I.list hq
    have hl:=rv.length
    obtain ⟨f0, f1, f2, f3, f4, f5⟩:=hf it (by simp)
    have e1:(n:Int) - 1 - (i:Int) = ((n - 1 - i:Nat):Int):=by omega
    have hit:=st.2
    rw [e1] at hit
    have hlt:n - 1 - i < xs.length:=by omega
    obtain ⟨u, hu, ru⟩:=rv.get (List.getElem?_eq_getElem hlt)
    refine wpAny_pyNext_rev_item hit p.isList (x:=u) (by simpa using hu) fun h' hit' sb=>⟨_, rfl, ?_⟩
    obtain ⟨o', ho', hc', hd'⟩:=id hit'
    refine go_of ho' hc' hd' (by decide +kernel) ?_
    have e2:((n - 1 - i:Nat):Int) - 1 = (n:Int) - 1 - ((i + 1:Nat):Int):=by omega
    rw [e2] at hit'
    exact ⟨_, H, I.turned (t':=s.toks) (fun b o hb e=>(sb.2 b hb).trans e) f0 f1 f3 f4 f5, ru, ⟨rfl, fun ys hy=>by rw [I.list_inj hy hq]; exact List.getElem?_eq_getElem hlt⟩, ⟨hi, hit'⟩, fun b hb=>by
      have z:b = it:=by simpa using hb
      rw [z]; exact f0⟩
  done:=by
    intro X hP hw hK hc i pins s σ H E I hf st hg
    subst hP hw hK
    obtain ⟨f0, f1, f2, f3, f4, f5⟩:=hf it (by simp)
    have e1:(n:Int) - 1 - (i:Int) = -1:=by
      have:=st.1
      have h2:n ≤ i:=hg
      omega
    have hit:=st.2
    rw [e1] at hit
    exact wpAny_pyNext_rev_end (I.ok.hd hc) hit fun h' eb=>⟨rfl, I.turned (t':=s.toks) (fun b o hb e=>eb b o hb e) f0 f1 f3 f4 f5⟩
  self:=fun _ _ _ _ _ st h=>wpAny_pyIter_revIter st.2 h
section
variable {X:Cx}
theorem pi_rev {tg:Expr} {a:Expr} {tl:TE} {p pos:Pos} (hg:Gl X "reversed") (hm:X.mg "reversed" = none) (hl:PE X a tl) (hs:starEach [a] X.env = [(false, eval a X.env)]:=by rfl):PI X tg (.Call (.Name "reversed" p) [a] [] pos) (iRev X.K tl):=by
  intro pins s σ H R I h
  have hA:PA X [a] (tCons tl tNil):=pa_cons hl pa_nil (by rw [hs]; rfl)
  refine Call_ (ld_blt I hg hm bt_reversed (PyProof.Rows.callWith_type1 (thn (hA pos pins s σ H (fun vs H1=>∃ x, vs = [x] ∧ ∃ a xs, x = .ref a ∧ SqL X.K H1 a xs ∧ R (Itv X.K a xs.length) H1) I ?_) fun us s1 ⟨vs, H1, I1, r1, q1⟩=>?_) hs rfl))
  · show tl σ H fun x H1=>∃ y, [x] = [y] ∧ _
    have e:(fun (x:V) (H1:Hp)=>∃ y, [x] = [y] ∧ ∃ a xs, y = V.ref a ∧ SqL X.K H1 a xs ∧ R (Itv X.K a xs.length) H1) = fun x H1=>∃ a xs, x = V.ref a ∧ SqL X.K H1 a xs ∧ R (Itv X.K a xs.length) H1:=by
      funext x H1
      exact propext ⟨fun ⟨y, e, r⟩=>by cases e; exact r, fun r=>⟨x, rfl, r⟩⟩
    have h':tl σ H fun x H1=>∃ a xs, x = V.ref a ∧ SqL X.K H1 a xs ∧ R (Itv X.K a xs.length) H1:=h
    rw [← e] at h'
    exact h'
  · obtain ⟨x, e1, b, xs, e2, hq, q⟩:=q1
    subst e1 e2
    obtain ⟨u, rfl, ru⟩:=vals1 r1
    cases ru
    obtain ⟨its, rv, pl, hz⟩:=I1.list hq
    have hl:=rv.length
    refine call_reversed_list pl.isList ?_
    have hit:(s1.heap.push (revObj b (((its.toArray.size:Nat):Int) - 1))).IsRevIter s1.heap.objs.size b ((xs.length:Int) - 1 - ((0:Nat):Int)):=⟨_, Heap.get?_push_size _ rfl, rfl, by
      show Data.fields #[.ref b, rawInt (((its.toArray.size:Nat):Int) - 1)] = _
      rw [List.size_toArray, ← hl]; simp⟩
    refine wpAny_pyIter_revIter (s:={ s1 with heap:=s1.heap.push (revObj b (((its.toArray.size:Nat):Int) - 1)) }) hit ?_
    refine ⟨s1.heap.objs.size, [s1.heap.objs.size], _, Itv X.K b xs.length, H1, rfl, I1.kept (t':=s1.toks) fun c o e=>Heap.get?_push_of_some _ e, turn_rev b _ _, ⟨Nat.zero_le _, hit⟩, fun c hc=>?_, q⟩
    have z:c = s1.heap.objs.size:=by simpa using hc
    exact I1.fpOk (Nat.le_of_eq z.symm) (I1.hok.fresh (Nat.le_of_eq z.symm))
end
theorem for_rev {K:PySem.W.Frag} {a:Addr} {xs:List V} {g:TG} {tb:TS} {D:Ends} {σ:St} {H:Hp} (Pv:Nat → St → Hp → Prop) (h0:Pv 0 σ H) (hl:∀ i σ H, i ≤ xs.length → Pv i σ H → SqL K H a xs)
    (hs:∀ i x σ H, i < xs.length → xs[xs.length - 1 - i]? = some x → Pv i σ H → g x σ H fun σ2 H2=>tb { D with nx:=Pv (i + 1), ct:=Pv (i + 1), bk:=D.nx } σ2 H2) (hd:∀ σ H, Pv xs.length σ H → D.nx σ H) :
    ∃ W:Nat → Nat → St → Hp → Prop, (∃ m, W 0 m σ H) ∧ ∀ i m σ H, W i m σ H →
      ((Itv K a xs.length).stop i H ∧ D.nx σ H) ∨ ((Itv K a xs.length).go i H ∧ ∃ N:St → Hp → Prop, (∀ σ' H', N σ' H' → ∃ m', m' < m ∧ W (i + 1) m' σ' H') ∧ ∀ x H', (Itv K a xs.length).yld i H x H' → g x σ H' fun σ2 H2=>tb { D with nx:=N, ct:=N, bk:=D.nx } σ2 H2):=by
  refine ⟨fun i m σ H=>m = xs.length - i ∧ i ≤ xs.length ∧ Pv i σ H, ⟨xs.length, by simp, Nat.zero_le _, h0⟩, ?_⟩
  rintro i m σ H ⟨rfl, hi, p⟩
  have q:=hl i σ H hi p
  by_cases hlt:i < xs.length
  · refine .inr ⟨⟨hlt, xs, q, rfl⟩, Pv (i + 1), fun σ' H' p'=>⟨xs.length - (i + 1), by omega, rfl, hlt, p'⟩, fun x H' y=>?_⟩
    obtain ⟨e, y⟩:=y
    subst e
    exact hs i x σ _ hlt (y xs q) p
  · have e:i = xs.length:=by omega
    subst e
    exact .inl ⟨Nat.le_refl _, hd σ H p⟩
end L2
namespace L2
open PySem PySem.Spec PyProof.Rows
section
variable {X:Cx} {scope:Scope} {x:Str} {ys:List Str} {caps:List Nat}
theorem CompSt.cells {pins:List (Addr × Obj)} {σ:St} {H:Hp} {s:Shared} (S:CompSt X.env.scope scope X.N x ys caps) (I:Inv X pins σ H s):∀ p ∈ scope.names, p.2 = .free → ∃ c, X.env.cells.lookup p.1 = some c:=fun p hp hf =>
  I.ok.has p.1 (.inl (S.fr p hp hf))
theorem CompSt.sub {pins:List (Addr × Obj)} {σ:St} {H:Hp} {s:Shared} (S:CompSt X.env.scope scope X.N x ys caps) (I:Inv X pins σ H s) {y:Str} {c:Addr} (e:(clsOf X scope).lookup y = some c):X.env.cells.lookup y = some c :=
  closOf_all (S.cells I) (fun p hp=>absurd hp (by simp)) (y, c) (PySem.mem_of_lookup e)
theorem Inv.enter {pins:List (Addr × Obj)} {σ:St} {H:Hp} {s:Shared} {h₁:Heap} {ex:List Addr} {tk:Nat} {pl:List (Addr × Obj)} (S:CompSt X.env.scope scope X.N x ys caps) (hcalm:X.calm = true) (I:Inv X pins σ H s)
    (hn:h₁.Ns s.heap.objs.size (fun _=>none)) (keep:∀ b o, s.heap.get? b = some o → h₁.get? b = some o)
    (hex:∀ b ∈ ex, b < s.heap.objs.size ∧ b ∉ frs X.stack ∧ (∀ y c, X.env.cells.lookup y = some c → c ≠ b) ∧ X.base.get? b = none)
    (hpl:∀ p ∈ pl, s.heap.get? p.1 = some p.2 ∧ H p.1 = none ∧ p.1 ∉ frs X.stack ∧ ∀ v, p.2.data ≠ .cell v) :
    Inv (cxComp X scope (x :: ys) s H ex (X.pn ++ pins)) pl (none :: caught σ caps) H { s with heap:=h₁, toks:=tk }:=by
  have hL:s.heap.objs.size ≠ X.env.locals:=Nat.ne_of_gt I.lt
  have hCn:∀ b o, s.heap.get? b = some o → b ≠ s.heap.objs.size:=fun b o e=>Nat.ne_of_lt (Heap.lt_size e)
  have cellLt:∀ y c, X.env.cells.lookup y = some c → c < s.heap.objs.size:=fun y c e=>by
    obtain ⟨v, z⟩:=I.cell y c e
    exact z.lt
  have cellUp:∀ {c:Addr} {v:Option Value}, s.heap.IsCell c v → h₁.IsCell c v:=fun {c v} ⟨o, ho, hd⟩=>⟨o, keep c o ho, hd⟩
  refine ⟨⟨I.ok.mod, S.kind, I.ok.glob, I.ok.blt, Nat.le_refl _, fun y z c h1 h2=>I.ok.inj y z c (S.sub I h1) (S.sub I h2), fun y hy=>?_, fun y c hf _=>?_, fun _=>I.ok.hd hcalm, I.ok.frames, .inl rfl, fun b hb=>?_, I.bs, Nat.le_trans I.ok.bsz I.sz, fun b o e hb=>?_, fun b hb=>(hex b hb).2.1, I.stack, I.stkFree⟩,
    rfl, I.bare, Un.kept keep, ⟨_, hn, fun i y v e1 e2 e3=>?_⟩, fun y c e=>?_, I.hok.fresh (Nat.le_refl _), fun y c e=>I.freeC y c (S.sub I e), fun p hp=>?_, I.hok.kept keep, ?_⟩
  · have hy':(y, NameKind.free) ∈ scope.names:=relabel_of (env:=X.env) S.ncell (by
      rcases hy with hy | hy
      · exact ⟨_, hy, .inl rfl⟩
      · exact ⟨_, hy, .inr rfl⟩)
    exact lookup_of_key (closOf_has hy')
  · exact absurd (show false = true from hf) Bool.false_ne_true
  · exact ⟨Nat.ne_of_lt (hex b hb).1, fun y c e=>(hex b hb).2.2.1 y c (S.sub I e)⟩
  · have z:=(hex b hb).2.2.2
    have e':X.base.get? b = some o:=e
    rw [z] at e'; cases e'
  · cases i with
    | zero=>cases e2
    | succ i =>
      have e1':(x :: ys)[i + 1]? = some y:=e1
      have e1:ys[i]? = some y:=by simpa using e1'
      have e2:(caught σ caps)[i]? = some (some v):=by simpa using e2
      obtain ⟨j, hj, hv⟩:∃ j, caps[i]? = some j ∧ σ[j]? = some (some v):=by
        unfold caught at e2
        rw [List.getElem?_map] at e2
        cases q:caps[i]? with
        | none=>rw [q] at e2; cases e2
        | some j =>
          rw [q] at e2
          have e3:(σ[j]?).join = some v:=Option.some.inj e2
          cases q2:σ[j]? with
          | none=>rw [q2] at e3; cases e3
          | some w'=>rw [q2] at e3; exact ⟨j, rfl, by rw [show w' = some v from e3] at q2; exact q2⟩
      have hz:(y, j) ∈ ys.zip caps:=List.mem_of_getElem? (i:=i) (by rw [List.getElem?_zip_eq_some]; exact ⟨e1, hj⟩)
      obtain ⟨hN, hf⟩:=S.cap (y, j) hz
      have hcellX:X.env.kindOf y = some .cell:=S.fr (y, .free) (PySem.mem_of_lookup hf) rfl
      obtain ⟨m, hm, hl⟩:=I.loc
      obtain ⟨u, r, l⟩:=hl j y v hN hv (.inr (.inl hcellX))
      refine ⟨u, r, ?_⟩
      rcases l with ⟨hk, _⟩ | ⟨_, c, hc, hcell⟩
      · rw [hcellX] at hk; cases hk
      · obtain ⟨c', hc'⟩:=lookup_of_key (closOf_has (env:=X.env) (cs:=[]) (PySem.mem_of_lookup hf))
        have:=S.sub I hc'
        rw [hc] at this
        cases this
        exact .inr ⟨.inl (relabel_cell S.fk hf hcellX), c, hc', cellUp hcell⟩
  · obtain ⟨v, z⟩:=I.cell y c (S.sub I e)
    exact ⟨v, cellUp z⟩
  · rcases List.mem_append.mp hp with hp | hp
    · obtain ⟨a1, a2, a3, a4, a5⟩:=I.pin p hp
      exact ⟨keep _ _ a1, a2, hCn _ _ a1, fun z=>(List.mem_cons.mp (I.stkSub p.1 z)).elim a3 a4, a5⟩
    · obtain ⟨a1, a2, a4, a5⟩:=hpl p hp
      exact ⟨keep _ _ a1, a2, hCn _ _ a1, a4, a5⟩
  · show (none :: caught σ caps).length = (x :: ys).length
    rw [List.length_cons, List.length_cons, caught, List.length_map, S.len]
end
end L2
namespace L2
open PySem PySem.Spec PyProof.Rows
noncomputable def CompRdI (J:It) (σ:St) (caps:List Nat) (tt:TT) (te:TE) (H1:Hp) (fin:List V → Hp → Prop):Prop :=
  ∃ (n:Nat) (W:Nat → List V → Hp → Prop), n ≤ sizeLine ∧ W 0 [] H1 ∧ ∀ i ys H2, i ≤ n → ys.length ≤ i → W i ys H2 →
    (J.stop i H2 ∧ fin ys H2) ∨ (i < n ∧ J.go i H2 ∧ ∀ x H3, J.yld i H2 x H3 → tt (some x :: caught σ caps) H3 fun b H4=>if b = true then te (some x :: caught σ caps) H4 fun y H5=>W (i + 1) (ys ++ [y]) H5 else W (i + 1) ys H4)
noncomputable def tCompI (wi:TI) (caps:List Nat) (tt:TT) (te:TE):TE:=fun σ H Q=>wi σ H fun J H1=>CompRdI J σ caps tt te H1 fun ys H2=>∀ p, H2 p = none → Q (.ref p) (upd H2 p (.lst ys))
section
variable {X:Cx} {scope:Scope} {x:Str} {ys:List Str} {caps:List Nat} {elt iter tst:Expr} {te:TE} {tt:TT} {px pos:Pos}
theorem compI_run {pins:List (Addr × Obj)} {σ:St} {H2:Hp} {s2:Shared} {J:It} {fp:List Addr} {it:Addr} {tn:Nat → Heap → Prop} {E:Value → Shared → Prop} {fin:List V → Hp → Prop} {RR:Value → Addr → Result → Shared → Prop}
    (hcalm:X.calm = true) (S:CompSt X.env.scope scope X.N x ys caps) (hT:∀ s H ex pn, PT (cxComp X scope (x :: ys) s H ex pn) tst tt) (he:∀ s H ex pn, PE (cxComp X scope (x :: ys) s H ex pn) elt te)
    (I2:Inv X pins σ H2 s2) (T:Turn X.prog X.w X.K (.Name x px) J fp it tn) (st2:tn 0 s2.heap) (f2:∀ b ∈ fp, FpOk X pins H2 b) (rd:CompRdI J σ caps tt te H2 fin)
    (hRR:∀ (C:Addr) (ysV:List V) (its:List Value) (n:Nat) (H8:Hp) (s8:Shared) (m:Str → Option Value), C = s2.heap.objs.size + 1 → Inv X pins σ H8 s8 → H8 s2.heap.objs.size = none → H8 C = none → Vals ysV its → ysV.length ≤ sizeLine →
      s8.heap.get? s2.heap.objs.size = some (lstO its n) → s8.heap.Ns C m → fin ysV H8 → RR (.ref s2.heap.objs.size) C (.ok .next) s8) :
    wpAny (model X.prog X.w) X.A (newList []) (fun acc s₃=>wpAny (model X.prog X.w) X.A (newFunctionEnv scope X.env.globals (clsOf X scope) [] X.env.qual none .none (some X.env)) (fun cenv s₄ =>
      codeAny (model X.prog X.w) X.A (.compStart (.ListComp elt [⟨.Name x px, iter, [tst], 0⟩] scope pos) 0 (.ref it) acc { cenv with scope:=relabel scope X.env }) (RR acc cenv.locals) s₄) E s₃) E s2:=by
  obtain ⟨n0, W, hn0, w0, turn⟩:=rd
  refine wpAny_newObj_type (wpAny_newFunctionEnv S.ncell (by intro y hy; simp at hy) (fun h₁ hns hsb=>?_) S.kind)
  dsimp only at hns hsb ⊢
  generalize hg3:s2.heap.push { cls:=.type "list", dict:=none, data:=.seq ([]:List Value).toArray } = g3 at hns hsb ⊢
  have hC:g3.objs.size = s2.heap.objs.size + 1:=by rw [← hg3, Heap.size_push]
  have up3:∀ b o, s2.heap.get? b = some o → g3.get? b = some o:=fun b o e=>hg3 ▸ Heap.get?_push_of_some _ e
  have I3:Inv X pins σ H2 { s2 with heap:=g3 }:=I2.kept (t':=s2.toks) up3
  have keep:∀ b o, g3.get? b = some o → h₁.get? b = some o:=fun b o e=>hsb.extBut b o (Nat.ne_of_lt (Heap.lt_size e)) (Heap.get?_push_of_some _ e)
  have objD:g3.get? s2.heap.objs.size = some (lstO [] 0):=hg3 ▸ Heap.get?_push_size _ rfl
  have hDL:s2.heap.objs.size ≠ X.env.locals:=Nat.ne_of_gt I2.lt
  have hDfs:s2.heap.objs.size ∉ X.fs:=I2.nofs (Nat.le_refl _)
  have hDst:s2.heap.objs.size ∉ frs X.stack:=fun z=>(List.mem_cons.mp (I2.stkSub _ z)).elim hDL hDfs
  have hDc:∀ y c, X.env.cells.lookup y = some c → c ≠ s2.heap.objs.size:=fun y c e=>by
    obtain ⟨v, z⟩:=I2.cell y c e
    exact Nat.ne_of_lt z.lt
  have hDp:∀ p ∈ X.pn ++ pins, p.1 ≠ s2.heap.objs.size:=fun p hp=>Nat.ne_of_lt (Heap.lt_size (I2.pin p hp).1)
  have hfl:∀ b ∈ fp, b < s2.heap.objs.size:=fun b hb=>by
    obtain ⟨o, e, _⟩:=T.obj _ _ st2 b hb
    exact Heap.lt_size e
  have hbz:X.base.objs.size ≤ X.s₀.heap.objs.size:=I2.ok.bsz
  have hch:∀ b ∈ s2.heap.objs.size :: fp, (b ∈ X.ex ∨ X.s₀.heap.objs.size ≤ b) ∧ b ≠ X.env.locals ∧ (∀ y c, X.env.cells.lookup y = some c → c ≠ b) ∧ ∀ p ∈ X.pn ++ pins, p.1 ≠ b:=fun b hb=>by
    rcases List.mem_cons.mp hb with rfl | hb
    · exact ⟨.inr I2.sz, hDL, hDc, hDp⟩
    · obtain ⟨a1, a2, a3, a4, a5, a6⟩:=f2 b hb
      exact ⟨a4, a2, a5, a6⟩
  have hex:∀ b ∈ s2.heap.objs.size :: fp, b < g3.objs.size ∧ b ∉ frs X.stack ∧ (∀ y c, X.env.cells.lookup y = some c → c ≠ b) ∧ X.base.get? b = none:=fun b hb=>by
    have hst:b ∉ frs X.stack:=by
      rcases List.mem_cons.mp hb with rfl | hb
      · exact hDst
      · obtain ⟨a1, a2, a3, a4, a5, a6⟩:=f2 b hb
        exact fun z=>(List.mem_cons.mp (I2.stkSub _ z)).elim a2 a3
    have hlt:b < g3.objs.size:=by
      rw [hC]
      rcases List.mem_cons.mp hb with rfl | hb
      · exact Nat.lt_succ_self _
      · exact Nat.lt_succ_of_lt (hfl b hb)
    refine ⟨hlt, hst, (hch b hb).2.2.1, ?_⟩
    cases q:X.base.get? b with
    | none=>rfl
    | some o =>
      rcases (hch b hb).1 with z | z
      · exact absurd z (I2.ok.noex b o q)
      · exact absurd (Nat.lt_of_lt_of_le (Heap.lt_size q) (Nat.le_trans hbz z)) (Nat.lt_irrefl _)
  have hD2:H2 s2.heap.objs.size = none:=I2.hok.fresh (Nat.le_refl _)
  have I4:Inv (cxComp X scope (x :: ys) { s2 with heap:=g3 } H2 (s2.heap.objs.size :: fp) (X.pn ++ pins)) [(s2.heap.objs.size, lstO [] 0)] (none :: caught σ caps) H2 { s2 with heap:=h₁, toks:=s2.toks + ([]:List (Str × Value)).length } :=
    Inv.enter S hcalm I3 hns keep hex fun p hp=>by
      have e:p = (s2.heap.objs.size, lstO [] 0):=by simpa using hp
      subst e
      exact ⟨objD, hD2, hDst, fun v z=>nomatch z⟩
  have st4:tn 0 h₁:=T.keep _ _ _ st2 fun b hb o e=>keep b o (up3 b o e)
  generalize hY:cxComp X scope (x :: ys) { s2 with heap:=g3 } H2 (s2.heap.objs.size :: fp) (X.pn ++ pins) = Y at I4
  have yP:Y.prog = X.prog:=by rw [← hY]; rfl
  have yW:Y.w = X.w:=by rw [← hY]; rfl
  have yK:Y.K = X.K:=by rw [← hY]; rfl
  have yA:Y.A = X.A:=by rw [← hY]; rfl
  have yC:Y.calm = true:=by rw [← hY]; exact hcalm
  have yX:Y.xe = fun _ _=>False:=by rw [← hY]; rfl
  have yN:Y.N = x :: ys:=by rw [← hY]; rfl
  have yE:Y.env = compEnvC scope (clsOf X scope) g3.objs.size X.env:=by rw [← hY]; rfl
  have yex:Y.ex = s2.heap.objs.size :: fp:=by rw [← hY]; rfl
  have ypn:Y.pn = X.pn ++ pins:=by rw [← hY]; rfl
  have yfs:Y.fs = frs X.stack:=by rw [← hY]; rfl
  have ybase:∀ {pl σ' H' s'}, Inv Y pl σ' H' s' → Un (frs X.stack) (s2.heap.objs.size :: fp) H2 H' g3 s'.heap ∧ s'.os = s2.os:=by
    intro pl σ' H' s' I
    rw [← hY] at I
    exact ⟨I.base, I.os⟩
  have yhe:PE Y elt te:=by rw [← hY]; exact he _ _ _ _
  have yht:PT Y tst tt:=by rw [← hY]; exact hT _ _ _ _
  have ycl:∀ y c, Y.env.cells.lookup y = some c → X.env.cells.lookup y = some c:=fun y c e=>by
    rw [yE] at e
    exact S.sub I2 e
  have yfp:∀ {H':Hp} {o:Obj}, (∀ b ∈ fp, H' b = none) → ∀ b ∈ fp, FpOk Y [(s2.heap.objs.size, o)] H' b:=fun {H' o} hn b hb=>by
    obtain ⟨a1, a2, a3, a4, a5, a6⟩:=f2 b hb
    refine ⟨hn b hb, ?_, ?_, ?_, fun y c e=>a5 y c (ycl y c e), fun p hp=>?_⟩
    · rw [yE]; exact Nat.ne_of_lt (hex b (List.mem_cons_of_mem _ hb)).1
    · rw [yfs]; exact (hex b (List.mem_cons_of_mem _ hb)).2.1
    · rw [yex]; exact .inl (List.mem_cons_of_mem _ hb)
    · rw [ypn] at hp
      rcases List.mem_append.mp hp with hp | hp
      · exact a6 p hp
      · have e:p = (s2.heap.objs.size, o):=by simpa using hp
        subst e
        exact Nat.ne_of_gt (hfl b hb)
  have loop:∀ s₃:Shared, s₃ = { s2 with heap:=h₁, toks:=s2.toks + ([]:List (Str × Value)).length } →
      codeAny (model X.prog X.w) X.A (.compLoop (.ListComp elt [⟨.Name x px, iter, [tst], 0⟩] scope pos) 0 (.ref it) (.ref s2.heap.objs.size) (compEnvC scope (clsOf X scope) g3.objs.size X.env)) (RR (.ref s2.heap.objs.size) g3.objs.size) s₃:=by
    rintro s₃ rfl
    refine codeAny_loop rfl (fun k s'=>∃ i ysV its cnt H' o, k = n0 + 1 - i ∧ Inv Y [(s2.heap.objs.size, lstO its cnt)] (o :: caught σ caps) H' s' ∧ tn i s'.heap ∧ (∀ b ∈ fp, H' b = none) ∧ Vals ysV its ∧ ysV.length ≤ i ∧ i ≤ n0 ∧ W i ysV H') ?_ (n0 + 1)
      ⟨0, [], [], 0, H2, none, rfl, I4, st4, fun b hb=>(f2 b hb).1, .nil, Nat.le_refl _, Nat.zero_le _, w0⟩
    rintro k s' ⟨i, ysV, its, cnt, H', o, rfl, I', tni, frn, vv, hlen, hin, hw⟩
    show wpAny _ _ ((compTurn (.ListComp elt [⟨.Name x px, iter, [tst], 0⟩] scope pos) 0 (.ref it) (.ref s2.heap.objs.size) (compEnvC scope (clsOf X scope) g3.objs.size X.env)).onRaise (fun x=>do noteFrame x (compEnvC scope (clsOf X scope) g3.objs.size X.env); theTreesLotGoes x)) _ _ s'
    refine wpAny_noted ?_
    rw [compTurn_list]
    have fpok:=yfp (o:=lstO its cnt) frn
    rcases turn i ysV H' hin hlen hw with ⟨stop, hfin⟩ | ⟨hlt, go, step⟩
    · refine wpAny_bind (wpAny_standAt (wpAny_bind (thn (Q:=fun r s1=>r = none ∧ Inv Y [(s2.heap.objs.size, lstO its cnt)] (o :: caught σ caps) H' s1) ?_ fun r s1 ⟨hr, I1⟩=>?_)))
      · have:=T.done Y yP yW yK yC i _ s' _ H' (notedBy (model X.prog X.w) X.A (compEnvC scope (clsOf X scope) g3.objs.size X.env) fun e s'=>RR (.ref s2.heap.objs.size) g3.objs.size (.error e) s') I' fpok tni stop
        rw [yA] at this
        exact this
      · subst hr
        refine wpAny_pure ?_
        obtain ⟨ub, uo⟩:=ybase I1
        obtain ⟨m, hm, _⟩:=I1.loc
        obtain ⟨p1, p2, _⟩:=I1.pin (s2.heap.objs.size, lstO its cnt) (List.mem_append_right _ List.mem_cons_self)
        have hok:HOk X.prog X.w H' s1.heap:=by have:=I1.hok; rw [yP, yW] at this; exact this
        have hCf:=I1.free
        rw [yE] at hm hCf
        refine hRR g3.objs.size ysV its cnt H' s1 m hC (I3.call' uo ub hok I1.bare hch) p2 hCf vv (by omega) p1 hm hfin
    · refine wpAny_bind (wpAny_standAt (wpAny_bind (thn (Q:=fun r s1=>∃ u, r = some u ∧ wpAny (model X.prog X.w) X.A (letOwnedTupleGo (.Name x px) (.ref it) u) (fun _ s5=>∃ x H5, Inv Y [(s2.heap.objs.size, lstO its cnt)] (o :: caught σ caps) H5 s5 ∧ RelV x u ∧ J.yld i H' x H5 ∧ tn (i + 1) s5.heap ∧ ∀ b ∈ fp, H5 b = none)
          (notedBy (model X.prog X.w) X.A (compEnvC scope (clsOf X scope) g3.objs.size X.env) fun e s'=>RR (.ref s2.heap.objs.size) g3.objs.size (.error e) s') s1) ?_ fun r s1 ⟨u, hr, h4⟩=>?_)))
      · have:=T.item Y yP yW yK yC i _ s' _ H' (notedBy (model X.prog X.w) X.A (compEnvC scope (clsOf X scope) g3.objs.size X.env) fun e s'=>RR (.ref s2.heap.objs.size) g3.objs.size (.error e) s') I' fpok tni go
        rw [yA] at this
        exact this
      · subst hr
        refine wpAny_bind (thn h4 fun _ s5 ⟨xv, H5, I5, r5, y5, st5, fr5⟩=>?_)
        have I5':=I5.pinned (yfp fr5) (T.obj _ _ st5)
        have hloc:Y.env.scope.names.lookup x = some .local:=by rw [yE]; exact lookup_relabel_local S.loc
        have sto:=fun (Q:Unit → Shared → Prop) (k:∀ s6, Inv Y _ ((o :: caught σ caps).set 0 (some xv)) H5 s6 → Q () s6)=>store_ok (M:=model X.prog X.w) (A:=X.A) (E:=notedBy (model X.prog X.w) X.A (compEnvC scope (clsOf X scope) g3.objs.size X.env) fun e s'=>RR (.ref s2.heap.objs.size) g3.objs.size (.error e) s') (i:=0) (x:=x) I5' (by rw [yN]; exact S.nd) (by rw [yN]; rfl) (.inl hloc) r5 k (.inr hloc)
        rw [yE] at sto
        refine wpAny_bind (wpAny_assign_Name (sto _ fun s6 I6=>?_))
        have tv:=yht _ s6 _ H5 _ I6 (step xv H5 y5)
        rw [yP, yW, yA, yE] at tv
        refine wpAny_bind (wpAny_tests_one (nxE yX tv fun ok s6' ⟨H6, I6', w6⟩=>?_))
        have hil:=vv.length
        cases ok with
        | false =>
          rw [if_neg Bool.false_ne_true] at w6
          rw [if_neg Bool.false_ne_true]
          obtain ⟨zD, hD7, hDl7, hDf7, _⟩:=I6'.pin (s2.heap.objs.size, lstO its cnt) (List.mem_append_right _ (List.mem_append_left _ List.mem_cons_self))
          have I9:Inv Y [(s2.heap.objs.size, lstO its cnt)] (some xv :: caught σ caps) H6 s6':=I6'.pins_of fun p hp=>by
            have e:p = (s2.heap.objs.size, lstO its cnt):=by simpa using hp
            subst e
            exact ⟨zD, hD7, hDl7, hDf7, (fun v z=>nomatch z)⟩
          refine wpAny_pure ⟨rfl, n0 + 1 - (i + 1), by omega, i + 1, ysV, its, cnt, H6, some xv, rfl, I9, ?_, ?_, vv, by omega, hlt, w6⟩
          · refine T.keep _ _ _ st5 fun b hb ob e=>?_
            exact (I6'.pin (b, ob) (List.mem_append_right _ (List.mem_append_right _ (mem_pinsAt hb e)))).1
          · intro b hb
            obtain ⟨ob, e, _⟩:=T.obj _ _ st5 b hb
            exact (I6'.pin (b, ob) (List.mem_append_right _ (List.mem_append_right _ (mem_pinsAt hb e)))).2.1
        | true =>
          rw [if_pos rfl] at w6
          rw [if_pos rfl]
          have ev:=yhe _ s6' _ H6 _ I6' w6
          rw [yP, yW, yA, yE] at ev
          refine wpAny_bind (wpAny_bind (nxE yX ev fun yv s7 ⟨y, H7, I7, r7, w7⟩=>?_))
          obtain ⟨zD, hD7, hDl7, hDf7, _⟩:=I7.pin (s2.heap.objs.size, lstO its cnt) (List.mem_append_right _ (List.mem_append_left _ List.mem_cons_self))
          refine wpAny_bind (append_at zD (fun h8 sb8 d8=>wpAny_pure (wpAny_pure ⟨rfl, ?_⟩)) (by rw [List.size_toArray]; omega))
          have I7':Inv Y [] (some xv :: caught σ caps) H7 s7:=I7.pins_of fun p hp=>nomatch hp
          have I8:Inv Y [] (some xv :: caught σ caps) H7 { s7 with heap:=h8 }:=I7'.turned (t':=s7.toks) (fun b ob hb e=>(sb8.2 b hb).trans e) hD7 hDl7 (.inl (by rw [yex]; exact List.mem_cons_self)) (fun y c e=>hDc y c (ycl y c e)) (fun p hp=>by
            rw [ypn, List.append_nil] at hp
            exact hDp p hp)
          have I9:Inv Y [(s2.heap.objs.size, lstO (its ++ [yv]) (cnt + 1))] (some xv :: caught σ caps) H7 { s7 with heap:=h8 }:=I8.pins_of fun p hp=>by
            have e:p = (s2.heap.objs.size, lstO (its ++ [yv]) (cnt + 1)):=by simpa using hp
            subst e
            refine ⟨?_, hD7, hDl7, hDf7, fun v z=>nomatch z⟩
            show h8.get? s2.heap.objs.size = some { cls:=.type "list", data:=.seq (its ++ [yv]).toArray (cnt + 1) }
            rw [d8, List.push_toArray]
          refine ⟨n0 + 1 - (i + 1), by omega, i + 1, ysV ++ [y], its ++ [yv], cnt + 1, H7, some xv, rfl, I9, ?_, ?_, vv.append (.cons r7 .nil), by rw [List.length_append]; show ysV.length + 1 ≤ i + 1; omega, hlt, w7⟩
          · refine T.keep _ _ _ st5 fun b hb ob e=>(sb8.2 b (Nat.ne_of_lt (hfl b hb))).trans ?_
            exact (I7.pin (b, ob) (List.mem_append_right _ (List.mem_append_right _ (mem_pinsAt hb e)))).1
          · intro b hb
            obtain ⟨ob, e, _⟩:=T.obj _ _ st5 b hb
            exact (I7.pin (b, ob) (List.mem_append_right _ (List.mem_append_right _ (mem_pinsAt hb e)))).2.1
  exact codeAny_compStart_list (loop _ rfl) (T.self _ 0 _ _ _ st4 (loop _ rfl))
theorem pe_compI {wi:TI} {FS:Scope} {N:List Str} (S0:CompSt FS scope N x ys caps) (hFS:X.env.scope = FS) (hN0:X.N = N) (hcalm:X.calm = true) (hi:PI X (.Name x px) iter wi) (hT:∀ s H ex pn, PT (cxComp X scope (x :: ys) s H ex pn) tst tt) (he:∀ s H ex pn, PE (cxComp X scope (x :: ys) s H ex pn) elt te)
    (hs:∀ v, foldedSetIterable iter X.env v = pure v:=by intro _; rfl):PE X (.ListComp elt [⟨.Name x px, iter, [tst], 0⟩] scope pos) (tCompI wi caps tt te):=by
  have S:CompSt X.env.scope scope X.N x ys caps:=by rw [hFS, hN0]; exact S0
  intro pins s σ H Q I h
  rw [eval_ListComp]
  refine wpAny_comprehension_free (use:=none) rfl hs (closureFor_eq (S.cells I)) S.kind S.names (thn (hi pins s σ H _ I h) fun v s1 h1=>thn h1 fun itv s2 h2=>?_)
  obtain ⟨it, fp, tn, J, H2, rfl, I2, T, st2, f2, rd⟩:=h2
  refine compI_run (RR:=fun acc C=>compPost (model X.prog X.w) X.A X.xe none (EP X pins σ Q) acc C) hcalm S hT he I2 T st2 f2 rd ?_
  intro C ysV its n H8 s8 m hC I8 hD hC8 vv hz oD hn fin
  refine ⟨m, hn, fun h' sb=>?_⟩
  have sz:=I2.sz
  have lt:=I2.lt
  have ap:∀ b:Addr, b < s2.heap.objs.size → b ≠ C ∧ C ≠ b:=fun b hb=>by
    subst hC
    exact ⟨Nat.ne_of_lt (Nat.lt_succ_of_lt hb), Nat.ne_of_gt (Nat.lt_succ_of_lt hb)⟩
  have szC:X.s₀.heap.objs.size ≤ C:=by subst hC; exact Nat.le_succ_of_le sz
  have DC:s2.heap.objs.size ≠ C:=by subst hC; exact Nat.ne_of_lt (Nat.lt_succ_self _)
  have cl:∀ y c, X.env.cells.lookup y = some c → c < s2.heap.objs.size:=fun y c e=>by
    obtain ⟨w', z⟩:=I2.cell y c e
    exact z.lt
  have pl:∀ p ∈ X.pn ++ pins, p.1 < s2.heap.objs.size:=fun p hp=>Heap.lt_size (I2.pin p hp).1
  have I9:Inv X pins σ H8 { s8 with heap:=h' }:=I8.turned (t':=s8.toks) (fun b o hb e=>(sb.2 b hb).trans e) hC8 (ap _ lt).2 (.inr szC) (fun y c e=>(ap c (cl y c e)).1) (fun p hp=>(ap p.1 (pl p hp)).1)
  have oD':h'.get? s2.heap.objs.size = some (lstO its n):=(sb.2 _ DC).trans oD
  exact ⟨.ref s2.heap.objs.size, upd H8 s2.heap.objs.size (.lst ysV), I9.adopt hD sz (Nat.ne_of_gt lt) (fun y c e=>Nat.ne_of_lt (cl y c e)) (fun p hp=>Nat.ne_of_lt (pl p hp)) ⟨hz, its, n, vv, oD'⟩, rfl, fin _ hD⟩
theorem ps_setCompI {wi:TI} {FS:Scope} {N:List Str} {i:Nat} {y:Str} {py spos:Pos} (S0:CompSt FS scope N x ys caps) (hFS:X.env.scope = FS) (hN0:X.N = N) (hcalm:X.calm = true) (hN:X.N.Nodup) (hy:X.N[i]? = some y) (hl:Loc X.env.scope y) (hi:PI X (.Name x px) iter wi) (hT:∀ s H ex pn, PT (cxComp X scope (x :: ys) s H ex pn) tst tt) (he:∀ s H ex pn, PE (cxComp X scope (x :: ys) s H ex pn) elt te)
    (hsw:swapsWith (.ListComp elt [⟨.Name x px, iter, [tst], 0⟩] scope pos) (some (.Name y py)) spos.line X.env = pure true:=by rfl)
    (hs:∀ v, foldedSetIterable iter X.env v = pure v:=by intro _; rfl) (hf:X.fn y = true ∨ X.env.scope.names.lookup y = some .local:=by first | exact .inl rfl | exact .inr rfl | assumption) :
    PS X (.Assign [.Name y py] (.ListComp elt [⟨.Name x px, iter, [tst], 0⟩] scope pos) spos) (tAsg (tCompI wi caps tt te) (gName i)):=by
  have S:CompSt X.env.scope scope X.N x ys caps:=by rw [hFS, hN0]; exact S0
  intro pins s σ H D I h
  rw [exec_Assign_Name_used _ _ _ _ hsw]
  refine wpAny_bind (wpAny_standAt (wpAny_bind ?_))
  show wpAny _ X.A (do let _ ← comprehension (.ListComp elt [⟨.Name x px, iter, [tst], 0⟩] scope pos) scope X.env _ (newList []) false (eval iter X.env) (some (assign (.Name y py) X.env))) _ _ s
  refine wpAny_bind (wpAny_mono (wpAny_comprehension_free (use:=some (assign (.Name y py) X.env)) (Q:=fun _ s'=>SP X pins D .next s') rfl hs (closureFor_eq (S.cells I)) S.kind S.names
    (thn (hi pins s σ H _ I h) fun v s1 h1=>thn h1 fun itv s2 h2=>?_)) (fun _ s' hq=>wpAny_pure (wpAny_pure hq)) fun _ _ e=>e)
  obtain ⟨it, fp, tn, J, H2, rfl, I2, T, st2, f2, rd⟩:=h2
  refine compI_run (RR:=fun acc C=>compPost (model X.prog X.w) X.A X.xe (some (assign (.Name y py) X.env)) (fun _ s'=>SP X pins D .next s') acc C) hcalm S hT he I2 T st2 f2 rd ?_
  intro C ysV its n H8 s8 m hC I8 hD hC8 vv hz oD hn fin
  have sz:=I2.sz
  have lt:=I2.lt
  have ap:∀ b:Addr, b < s2.heap.objs.size → b ≠ C ∧ C ≠ b:=fun b hb=>by
    subst hC
    exact ⟨Nat.ne_of_lt (Nat.lt_succ_of_lt hb), Nat.ne_of_gt (Nat.lt_succ_of_lt hb)⟩
  have szC:X.s₀.heap.objs.size ≤ C:=by subst hC; exact Nat.le_succ_of_le sz
  have DC:C ≠ s2.heap.objs.size:=by subst hC; exact Nat.ne_of_gt (Nat.lt_succ_self _)
  have cl:∀ y c, X.env.cells.lookup y = some c → c < s2.heap.objs.size:=fun y c e=>by
    obtain ⟨w', z⟩:=I2.cell y c e
    exact z.lt
  have pl:∀ p ∈ X.pn ++ pins, p.1 < s2.heap.objs.size:=fun p hp=>Heap.lt_size (I2.pin p hp).1
  have I9:Inv X pins σ (upd H8 s2.heap.objs.size (.lst ysV)) s8:=I8.adopt hD sz (Nat.ne_of_gt lt) (fun y c e=>Nat.ne_of_lt (cl y c e)) (fun p hp=>Nat.ne_of_lt (pl p hp)) ⟨hz, its, n, vv, oD⟩
  show wpAny (model X.prog X.w) X.A (assign (.Name y py) X.env (.ref s2.heap.objs.size)) _ _ s8
  refine wpAny_assign_Name (store_ok2 (v:=.ref s2.heap.objs.size) I9 hN hy hl rfl (fun s9 I10 ⟨a, sa, ha⟩=>?_) hf)
  have hCa:C ≠ a:=by
    rcases ha with rfl | e
    · exact (ap _ lt).2
    · exact (ap _ (cl _ _ e)).2
  refine ⟨m, hn.sameBut sa hCa, fun h' sb=>⟨_, _, I10.turned (t':=s9.toks) (fun b o hb e=>(sb.2 b hb).trans e) ?_ (ap _ lt).2 (.inr szC) (fun y c e=>(ap c (cl y c e)).1) (fun p hp=>(ap p.1 (pl p hp)).1), fin _ hD⟩⟩
  rw [upd_ne DC]
  exact hC8
end
end L2
namespace L2
open PySem PySem.Spec PyProof.Rows
noncomputable def cLenT:List V → Hp → VK → Prop:=fun xs H Q=>∃ p kvs, xs = [.ref p] ∧ H p = some (.dT kvs) ∧ Q (.int (kvs.length:Nat)) H
theorem len_any {prog:Program} {w:World} {d:Addr} (hd:(d == sysModules) = false):MeetsIn prog w (Builtin.«dict.__len__» ⟨[.ref d], []⟩) (fun _ R s=>∃ o es ep, s.heap.get? d = some o ∧ o.data = .dict es ep ∧ R (.ok (.ret (.int (es.size:Nat) s.toks))) { s with toks:=s.toks + 1 }) :=
  .of_wp fun A R s ⟨o, es, ep, ho, hdat, h⟩=>by
    show wpAny _ _ (dictSize d >>= _) _ _ s; unfold dictSize
    refine wpAny_bind (wpAny_bind (wpAny_dictEntries ho hdat (wpAny_pure ?_)))
    show wpAny _ _ (Builtin.Dict.pendingCount d >>= _) _ _ s; refine wpAny_bind (wpAny_pendingCount_other hd ?_)
    refine wpAny_ret_mkInt ?_; rw [Nat.add_zero]; exact h
section
variable {X:Cx}
theorem call_lenT:CallR X (.builtin "len") cLenT:=by
  intro pins s σ H xs us Q I r h
  obtain ⟨p, kvs, rfl, hp, q⟩:=h
  obtain ⟨u, rfl, ru⟩:=vals1 r
  cases ru
  obtain ⟨z, hd, ys, rel, o, es, ep, ho, hc, hdat, he, _⟩:=dt_of I.hok hp
  have hT:s.TypeIs (.ref p) "dict":=⟨o, ho, hc.1⟩
  have sz:es.size = kvs.length:=by rw [size_of_entries he]; exact (Paired.length rel).symm
  have hz:(es.size:Int) < 2 ^ 63:=by rw [sz]; rw [sizeLine_eq] at z; omega
  refine Calls.call_function_entry kind_len plain_len entry_len (args_len1 _) ?_
  unfold Builtin.«len»
  refine wpAny_bind (m:=oneArg "len" _) (wpAny_pure ?_)
  refine wpAny_bind (m:=callSpecial? (.ref p) (Str.ofString "__len__")) (wpAny_callSpecial?_slot (name:=Str.ofString "__len__") hT F.slot_dict_len (call_meetsIn F.slot_dict_len hT F.entry_dict_len (F.args_dict_len_1 _) (len_any hd) ⟨o, es, ep, ho, hdat, ?_⟩))
  show wpAny _ _ _ _ _ { s with toks:=s.toks + 1 }
  refine wpAny_bind (wpAny_holding (wpAny_pure (wpAny_bind (wpAny_letGo ?_))))
  show wpAny _ _ (if ((es.size:Nat):Int) < 0 then _ else _) _ _ _; rw [if_neg (by omega)]
  show wpAny _ _ (if ((es.size:Nat):Int) ≥ 2 ^ 63 then _ else _) _ _ _; rw [if_neg (by omega)]
  refine wpAny_bind (wpAny_mkInt (wpAny_pure ⟨_, rfl, ?_⟩))
  exact ⟨.int (kvs.length:Nat), H, (I.tok _).tok _, ⟨_, by rw [sz]⟩, q⟩
noncomputable def isB2 (x:V) (H:Hp) (T:String) (b:Bool):Prop:=isB x H T b ∨ (∃ p xs, x = .ref p ∧ H p = some (.lst xs) ∧ T = "list" ∧ b = true)
noncomputable def cIsB2:List V → Hp → VK → Prop:=fun xs H Q=>∃ x T b, xs = [x, .ty T] ∧ isB2 x H T b ∧ Q (.bl b) H
theorem kit_ll (K:PySem.W.Frag):PySem.W.kitOne K (.type "list") (.type "list") = some true:=by rfl
theorem call_isB2:CallR X (.builtin "isinstance") cIsB2:=by
  intro pins s σ H xs us Q I r h
  obtain ⟨x, T, b, rfl, hb, q⟩:=h
  rcases hb with hb | ⟨p, ys, rfl, hp, rfl, rfl⟩
  · exact call_isB pins s σ H _ us Q I r ⟨x, T, b, rfl, hb, q⟩
  · obtain ⟨u, c, rfl, ru, rc⟩:=vals2 r
    obtain rfl:c = Value.type "list":=rc
    exact isinst_ok I ru (.lst hp) (kit_ll _) fun tk=>⟨.bl true, H, I.tok _, rfl, q⟩
end
section
variable {prog:Program} {w:World} {A:Around} {E:Value → Shared → Prop} {s:Shared}
variable {R:Result → Shared → Prop} {I:Addr} {fp wr:List Addr} {G:Array GenState → Array GenState → Prop} {n:Nat} {P:Nat → Value → Prop} {St:Nat → Shared → Prop}
end
section
variable {X:Cx}
end
end L2
namespace L2
open PySem PySem.Spec PyProof.Rows
structure TabK (K:PySem.W.Frag):Prop where
  cl:Cls K (gadr K "Table")
  nM:NoAttr K (gadr K "Table") "many"
  nC:NoAttr K (gadr K "Table") "cells"
theorem comp_rangeI {lo:Int} {n:Nat} {σ:St} {caps:List Nat} {tt:TT} {te:TE} {H1:Hp} {fin:List V → Hp → Prop} (W:Nat → List V → Hp → Prop) (hz:n ≤ sizeLine) (h0:W 0 [] H1)
    (hs:∀ i ys H, i < n → ys.length ≤ i → W i ys H → tt (some (.int (lo + i)) :: caught σ caps) H fun b H4=>if b = true then te (some (.int (lo + i)) :: caught σ caps) H4 fun y H5=>W (i + 1) (ys ++ [y]) H5 else W (i + 1) ys H4)
    (hd:∀ ys H, W n ys H → fin ys H):CompRdI (Itr lo n) σ caps tt te H1 fin:=by
  refine ⟨n, W, hz, h0, fun i ys H2 hi hy hw=>?_⟩
  by_cases hlt:i < n
  · refine .inr ⟨hlt, hlt, fun x H3 y=>?_⟩
    obtain ⟨e1, e2⟩:=y
    subst e1 e2
    exact hs i ys _ hlt hy hw
  · have e:i = n:=by omega
    subst e
    exact .inl ⟨Nat.le_refl _, hd ys H2 hw⟩
end L2
namespace L2
open PySem PySem.Spec PyProof.Rows
noncomputable def rngL (n:Nat):List Int:=(List.range n).map Int.ofNat
theorem rngL_get {n k:Nat} (h:k < n):(rngL n)[k]? = some (k:Int):=by
  unfold rngL; rw [List.getElem?_map, List.getElem?_range h]; rfl
theorem rngL_length (n:Nat):(rngL n).length = n:=by unfold rngL; rw [List.length_map, List.length_range]
noncomputable def tLRng (ta:TE):TE:=fun σ H Q=>ta σ H fun x H1=>∃ n:Nat, x = .int n ∧ n ≤ 10000 ∧ ∀ p, H1 p = none → Q (.ref p) (upd H1 p (.lst (List.map V.int (rngL n))))
theorem vals_of_get:∀ {xs:List V} {us:List Value}, xs.length = us.length → (∀ (i:Nat) (x:V) (u:Value), xs[i]? = some x → us[i]? = some u → RelV x u) → Vals xs us
  | [], [], _, _=>.nil
  | [], _ :: _, h, _=>by simp at h
  | _ :: _, [], h, _=>by simp at h
  | x :: xs, u :: us, h, k=>.cons (k 0 x u rfl rfl) (vals_of_get (by simpa using h) fun i x u h1 h2=>k (i + 1) x u (by simpa using h1) (by simpa using h2))
section
variable {X:Cx}
theorem pe_lrng {a:Expr} {tl:TE} {p1 p2 pos1 pos2:Pos} (hg1:Gl X "list") (hm1:X.mg "list" = none) (hg2:Gl X "range") (hm2:X.mg "range" = none) (hc:X.calm = true) (hl:PE X a tl)
    (hs1:starEach [.Call (.Name "range" p2) [a] [] pos2] X.env = [(false, eval (.Call (.Name "range" p2) [a] [] pos2) X.env)]:=by rfl) (hs2:starEach [a] X.env = [(false, eval a X.env)]:=by rfl) :
    PE X (.Call (.Name "list" p1) [.Call (.Name "range" p2) [a] [] pos2] [] pos1) (tLRng tl):=by
  intro pins s σ H Q I h
  have hA:PA X [a] (tCons tl tNil):=pa_cons hl pa_nil (by rw [hs2]; rfl)
  refine Call_ (ld_blt I hg1 hm1 bt_list (PyProof.Rows.callWith_type1 (spliced_more ?_ (by rw [hs1]; rfl)) hs1 rfl))
  refine Call_ (ld_blt I hg2 hm2 boot_range (PyProof.Rows.callWith_type1 (thn (hA pos2 pins s σ H (fun vs H1=>∃ x, vs = [x] ∧ ∃ n:Nat, x = .int n ∧ n ≤ 10000 ∧ ∀ p, H1 p = none → Q (.ref p) (upd H1 p (.lst (List.map V.int (rngL n))))) I ?_) fun us s1 ⟨vs, H1, I1, r1, q1⟩=>?_) hs2 rfl))
  · show tl σ H fun x H1=>∃ y, [x] = [y] ∧ _
    have e:(fun (x:V) (H1:Hp)=>∃ y, [x] = [y] ∧ ∃ n:Nat, y = V.int n ∧ n ≤ 10000 ∧ ∀ p, H1 p = none → Q (.ref p) (upd H1 p (.lst (List.map V.int (rngL n))))) = fun x H1=>∃ n:Nat, x = V.int n ∧ n ≤ 10000 ∧ ∀ p, H1 p = none → Q (.ref p) (upd H1 p (.lst (List.map V.int (rngL n)))):=by
      funext x H1
      exact propext ⟨fun ⟨y, e, r⟩=>by cases e; exact r, fun r=>⟨x, rfl, r⟩⟩
    have h':tl σ H fun x H1=>∃ n:Nat, x = V.int n ∧ n ≤ 10000 ∧ ∀ p, H1 p = none → Q (.ref p) (upd H1 p (.lst (List.map V.int (rngL n)))):=h
    rw [← e] at h'
    exact h'
  · obtain ⟨x, e1, n, e2, hn, q⟩:=q1
    subst e1 e2
    obtain ⟨u, rfl, ru⟩:=vals1 r1
    obtain ⟨t, rfl⟩:=ru
    refine call_range_1 (spliced_none ?_)
    have hz:Builtin.Range.rangeSize 0 (n:Int) 1 = (n:Int):=by rw [rangeSize_one]; split <;> omega
    refine call_list_range (I1.ok.hd hc) (IsRange.new ..) (small_one (by decide) (by decide) (by omega) (by omega)) hz (by omega) fun h2 tk acc c' hk hS hacc=>?_
    have kp:∀ c o, s1.heap.get? c = some o → h2.get? c = some o:=fun c o e=>hk c o (Heap.get?_push_of_some _ e)
    have gsz:(s1.heap.push { cls:=.type "range", data:=.fields #[.int 0 s1.toks, .int (n:Int) t, .int 1 (s1.toks + 1)] }).objs.size = s1.heap.objs.size + 1:=Heap.size_push ..
    have lt:s1.heap.objs.size ≤ (s1.heap.push { cls:=.type "range", data:=.fields #[.int 0 s1.toks, .int (n:Int) t, .int 1 (s1.toks + 1)] }).objs.size:=by rw [gsz]; exact Nat.le_succ _
    refine ⟨.ref _, _, I1.laid (t':=tk) (o:=.lst (List.map V.int (rngL n))) kp lt ⟨by rw [List.length_map, rngL_length, sizeLine_eq]; omega, acc.toList, c', vals_of_get (by rw [List.length_map, rngL_length, Array.length_toList, hacc.1]) fun i x u h1 h3=>?_, by simpa using hS⟩, rfl, q _ (I1.hok.fresh lt)⟩
    have hi:i < n:=by
      have:=(List.getElem?_eq_some_iff.mp h1).1
      rwa [List.length_map, rngL_length] at this
    rw [List.getElem?_map, rngL_get hi] at h1
    cases h1
    obtain ⟨tk', e⟩:=hacc.2 i u (by simpa using h3)
    rw [e]
    exact ⟨tk', by simp⟩
end
end L2
namespace L2
open PySem PySem.Spec PyProof.Rows
section
variable {prog:Program} {w:World} {K:Type} [DecidableEq K] {knd:HeapKind prog w K} {A:Around} {E:Value → Shared → Prop} {s:Shared}
end
section
variable {X:Cx}
end
end L2
namespace L2
open PySem PySem.Spec PyProof.Rows
theorem bt_zip:bootBuiltins "zip" = some (.type "zip"):=by decide +kernel
noncomputable def Itz (K:PySem.W.Frag) (a b:Addr):It :=
  ⟨fun i H=>∃ xs x ys y, SqL K H a xs ∧ xs[i]? = some x ∧ SqL K H b ys ∧ ys[i]? = some y,
   fun i H v H'=>∃ p x y, v = .ref p ∧ H p = none ∧ H' = upd H p (.tup [x, y]) ∧ (∀ xs, SqL K H a xs → xs[i]? = some x) ∧ (∀ ys, SqL K H b ys → ys[i]? = some y),
   fun i H=>∃ xs ys, SqL K H a xs ∧ SqL K H b ys ∧ (xs.length ≤ i ∨ ys.length ≤ i)⟩
noncomputable def iZip (K:PySem.W.Frag) (t:TA):TI:=fun σ H R=>t σ H fun vs H1=>∃ a b, vs = [.ref a, .ref b] ∧ (∃ xs, SqL K H1 a xs) ∧ (∃ ys, SqL K H1 b ys) ∧ R (Itz K a b) H1
theorem turn_zip {P:Program} {w:World} {K:PySem.W.Frag} {elts:List Expr} {k:Nat} {tp:Pos} (a b z TI TO i1 i2:Addr) (D:ZipApart z TI TO i1 i2 a b) :
    Turn P w K (.Tuple elts k tp) (Itz K a b) [z, TI, TO, i1, i2] z (fun i h=>IsZip h z TI TO .none ∧ IsPair h TI (.ref i1) (.ref i2) ∧ (∃ u v, IsPair h TO u v) ∧ h.IsListIter i1 a i ∧ h.IsListIter i2 b i) where
  mem:=by simp
  obj:=fun i h st c hc=>by
    obtain ⟨hz, hTI, ⟨u, v, hTO⟩, ⟨o1, e1, c1, d1⟩, ⟨o2, e2, c2, d2⟩⟩:=st
    have q:c = z ∨ c = TI ∨ c = TO ∨ c = i1 ∨ c = i2:=by simpa using hc
    rcases q with rfl | rfl | rfl | rfl | rfl
    · exact ⟨_, hz, fun v z=>nomatch z⟩
    · exact ⟨_, hTI, fun v z=>nomatch z⟩
    · exact ⟨_, hTO, fun v z=>nomatch z⟩
    · exact ⟨o1, e1, fun v z=>by rw [d1] at z; cases z⟩
    · exact ⟨o2, e2, fun v z=>by rw [d2] at z; cases z⟩
  keep:=fun i h h' st kp=>by
    obtain ⟨hz, hTI, ⟨u, v, hTO⟩, h1, h2⟩:=st
    exact ⟨kp z (by simp) _ hz, kp TI (by simp) _ hTI, ⟨u, v, kp TO (by simp) _ hTO⟩, h1.at fun o q=>kp i1 (by simp) o q, h2.at fun o q=>kp i2 (by simp) o q⟩
  item:=by
    intro X hP hw hK hc i pins s σ H E I hf st hg
    subst hP hw hK
    obtain ⟨xs, x, ys, y, hq, hx, hr, hy⟩:=hg
    obtain ⟨its, rv, p, hz'⟩:=I.list hq
    obtain ⟨jts, sv, r, hw'⟩:=I.list hr
    obtain ⟨u, hu, ru⟩:=rv.get hx
    obtain ⟨v, hv, rw'⟩:=sv.get hy
    obtain ⟨hz, hTI, ⟨u0, v0, hTO⟩, h1, h2⟩:=st
    refine wpAny_pyNext_zip_item D hz hTI hTO h1 h2 p.isList r.isList (x:=u) (y:=v) (by simpa using hu) (by simpa using hv) fun g a1 a2 a3 a4 a5 a6 kp=>⟨_, rfl, ?_⟩
    refine wpAny_letOwnedTupleGo_zip (s:={ s with heap:=g }) a1 fun g2 en sb=>?_
    have sb':Heap.SameBut z g g2:=sb
    have lt:∀ {c:Addr} {o:Obj}, s.heap.get? c = some o → c < s.heap.objs.size:=fun e=>Heap.lt_size e
    have lz:=lt hz
    have lTI:=lt hTI
    have lTO:=lt hTO
    have l1:i1 < s.heap.objs.size:=by obtain ⟨_, e, _⟩:=h1; exact lt e
    have l2:i2 < s.heap.objs.size:=by obtain ⟨_, e, _⟩:=h2; exact lt e
    have I1:Inv X pins σ H { s with heap:=g2, toks:=s.toks }:=I.turnedL (ch:=[z, TI, TO, i1, i2]) (fun c o hb q=>by
      have hb':c ≠ z ∧ c ≠ TI ∧ c ≠ TO ∧ c ≠ i1 ∧ c ≠ i2:=by simpa using hb
      exact (sb'.2 c hb'.1).trans (kp c o hb'.1 hb'.2.2.1 hb'.2.2.2.1 hb'.2.2.2.2 q)) hf
    have hTn:H s.heap.objs.size = none:=I.hok.fresh (Nat.le_refl _)
    have tup2:g2.get? s.heap.objs.size = some { cls:=.type "tuple", data:=.seq #[u, v] }:=(sb'.2 _ (Nat.ne_of_gt lz)).trans a5
    have I2:Inv X pins σ (upd H s.heap.objs.size (.tup [x, y])) { s with heap:=g2, toks:=s.toks }:=I1.adopt hTn I.sz (Nat.ne_of_gt I.lt) (fun n c q=>by
      obtain ⟨v, z⟩:=I.cell n c q
      exact Nat.ne_of_lt z.lt) (fun q hq=>Nat.ne_of_lt (Heap.lt_size (I.pin q hq).1)) ⟨by show 2 ≤ sizeLine; decide, [u, v], .cons ru (.cons rw' .nil), ⟨_, tup2, rfl, _, rfl⟩⟩
    refine ⟨.ref s.heap.objs.size, _, I2, rfl, ⟨_, x, y, rfl, hTn, rfl, fun zs hy'=>by rw [I.list_inj hy' hq]; exact hx, fun zs hy'=>by rw [I.list_inj hy' hr]; exact hy⟩, ⟨en, ?_, ⟨_, _, (sb'.2 _ D.TOz).trans a2⟩, ?_, ?_⟩, fun c hb=>?_⟩
    · exact (sb'.2 _ D.TIz).trans (kp _ _ D.TIz D.TITO D.TIi1 D.TIi2 hTI)
    · obtain ⟨o, q, t⟩:=a3
      exact ⟨o, (sb'.2 _ D.i1z).trans q, t⟩
    · obtain ⟨o, q, t⟩:=a4
      exact ⟨o, (sb'.2 _ D.i2z).trans q, t⟩
    · have hb0:=(hf c hb).1
      have q:c = z ∨ c = TI ∨ c = TO ∨ c = i1 ∨ c = i2:=by simpa using hb
      have hlt:c < s.heap.objs.size:=by rcases q with rfl | rfl | rfl | rfl | rfl <;> assumption
      rw [upd_ne (Nat.ne_of_lt hlt)]
      exact hb0
  done:=by
    intro X hP hw hK hc i pins s σ H E I hf st hg
    subst hP hw hK
    obtain ⟨xs, ys, hq, hr, hx⟩:=hg
    obtain ⟨its, rv, p, hz'⟩:=I.list hq
    obtain ⟨jts, sv, r, hw'⟩:=I.list hr
    obtain ⟨hz, hTI, ⟨u0, v0, hTO⟩, h1, h2⟩:=st
    have l1:=rv.length
    have l2:=sv.length
    refine wpAny_pyNext_zip_end (I.ok.hd hc) D hz hTI hTO h1 h2 p.isList r.isList (by simp; omega) fun g kp=>⟨rfl, ?_⟩
    exact I.turnedL (t':=s.toks) (ch:=[z, TI, TO, i1, i2]) (fun c o hb q=>by
      have hb':c ≠ z ∧ c ≠ TI ∧ c ≠ TO ∧ c ≠ i1 ∧ c ≠ i2:=by simpa using hb
      exact kp c o hb'.1 hb'.2.2.1 hb'.2.2.2.1 hb'.2.2.2.2 q) hf
  self:=fun _ _ _ _ _ st h=>wpAny_pyIter_zip st.1 h
theorem zip_apart {n l1 l2:Nat} (h1:l1 < n) (h2:l2 < n):ZipApart (n + 4) (n + 2) (n + 3) n (n + 1) l1 l2:=by
  constructor <;> (intro e; have e2:(_:Nat) = _:=e; omega)
section
variable {X:Cx}
theorem pi_zip {elts:List Expr} {k:Nat} {tp:Pos} {a b:Expr} {t:TA} {p pos:Pos} (hg:Gl X "zip") (hm:X.mg "zip" = none) (hl:PA X [a, b] t)
    (he:starEach (a :: [b]) X.env = (false, eval a X.env) :: starEach [b] X.env:=by rfl) (hpl:(backTo pos (starEach [b] X.env)).any (·.1) = false:=by rfl):PI X (.Tuple elts k tp) (.Call (.Name "zip" p) [a, b] [] pos) (iZip X.K t):=by
  intro pins s σ H R I h
  refine wpAny_Call_Name_kw (ld_blt I hg hm bt_zip ?_)
  refine PyProof.Rows.callWith_type1 (thn (hl pos pins s σ H _ I h) fun us s1 ⟨vs, H1, I1, r1, q1⟩=>?_) he hpl
  obtain ⟨l1, l2, e0, ⟨xs, hq⟩, ⟨ys, hr⟩, q⟩:=q1
  subst e0
  cases r1 with
  | cons ra r1 =>
  cases r1 with
  | cons rb r1 =>
  cases r1
  cases ra
  cases rb
  obtain ⟨its, rv, pl, hz'⟩:=I1.list hq
  obtain ⟨jts, sv, pm, hw'⟩:=I1.list hr
  have lt1:l1 < s1.heap.objs.size:=by obtain ⟨o, e, _⟩:=pl.isList; exact Heap.lt_size e
  have lt2:l2 < s1.heap.objs.size:=by obtain ⟨o, e, _⟩:=pm.isList; exact Heap.lt_size e
  refine call_zip_2 pl.isList pm.isList fun g hz hTI hTO h1 h2 hsz hk=>?_
  refine wpAny_pyIter_zip hz ?_
  have I2:Inv X pins σ H1 { s1 with heap:=g }:=I1.kept (t':=s1.toks) hk
  refine ⟨s1.heap.objs.size + 4, [s1.heap.objs.size + 4, s1.heap.objs.size + 2, s1.heap.objs.size + 3, s1.heap.objs.size, s1.heap.objs.size + 1], _, Itz X.K l1 l2, H1, rfl, I2, turn_zip l1 l2 _ _ _ _ _ (zip_apart lt1 lt2), ⟨hz, hTI, ⟨_, _, hTO⟩, h1, h2⟩, fun c hc=>?_, q⟩
  have z:c = s1.heap.objs.size + 4 ∨ c = s1.heap.objs.size + 2 ∨ c = s1.heap.objs.size + 3 ∨ c = s1.heap.objs.size ∨ c = s1.heap.objs.size + 1:=by simpa using hc
  have hle:s1.heap.objs.size ≤ c:=by rcases z with rfl | rfl | rfl | rfl | rfl <;> omega
  exact I1.fpOk hle (I1.hok.fresh hle)
end
end L2
namespace L2
open PySem PySem.Spec PyProof.Rows
section
variable {X:Cx} {pins:List (Addr × Obj)} {σ:List (Option V)} {H:Hp} {s:Shared}
end
section
variable {prog:Program} {w:World} {A:Around} {E:Value → Shared → Prop} {s:Shared}
end
section
variable {X:Cx}
end
end L2
namespace L2
open PySem PySem.Spec PyProof.Rows
section
variable {X:Cx}
end
end L2
namespace L2
open PySem PySem.Spec PyProof.Rows
structure CompStG (FS scope:Scope) (N:List Str) (xs ys:List Str) (caps:List Nat):Prop where
  ncell:∀ y ∈ scope.names, y.2 ≠ .cell
  kind:scope.kind = .function
  names:∀ y ∈ scope.names, y.2 = .local → scope.names.lookup y.1 = some .local
  fr:∀ p ∈ scope.names, p.2 = .free → FS.names.lookup p.1 = some .cell
  fk:FS.kind = .function
  cap:∀ p ∈ ys.zip caps, N[p.2]? = some p.1 ∧ scope.names.lookup p.1 = some .free
  len:ys.length = caps.length
noncomputable def CompRdG (J:It) (σ:St) (k:Nat) (caps:List Nat) (g:TG) (te:TE) (H1:Hp) (fin:List V → Hp → Prop):Prop :=
  ∃ (n:Nat) (W:Nat → List V → Hp → Prop), n ≤ sizeLine ∧ W 0 [] H1 ∧ ∀ i ys H2, i ≤ n → ys.length = i → W i ys H2 →
    (J.stop i H2 ∧ fin ys H2) ∨ (i < n ∧ J.go i H2 ∧ ∀ x H3, J.yld i H2 x H3 → ∀ os:St, os.length = k → g x (os ++ caught σ caps) H3 fun σ2 H4=>(∃ os':St, os'.length = k ∧ σ2 = os' ++ caught σ caps) ∧ te σ2 H4 fun y H5=>W (i + 1) (ys ++ [y]) H5)
noncomputable def tCompG (wi:TI) (k:Nat) (caps:List Nat) (g:TG) (te:TE):TE:=fun σ H Q=>wi σ H fun J H1=>CompRdG J σ k caps g te H1 fun ys H2=>∀ p, H2 p = none → Q (.ref p) (upd H2 p (.lst ys))
section
variable {X:Cx} {scope:Scope} {xs ys:List Str} {caps:List Nat}
theorem CompStG.cells {pins:List (Addr × Obj)} {σ:St} {H:Hp} {s:Shared} (S:CompStG X.env.scope scope X.N xs ys caps) (I:Inv X pins σ H s):∀ p ∈ scope.names, p.2 = .free → ∃ c, X.env.cells.lookup p.1 = some c:=fun p hp hf =>
  I.ok.has p.1 (.inl (S.fr p hp hf))
theorem CompStG.sub {pins:List (Addr × Obj)} {σ:St} {H:Hp} {s:Shared} (S:CompStG X.env.scope scope X.N xs ys caps) (I:Inv X pins σ H s) {y:Str} {c:Addr} (e:(clsOf X scope).lookup y = some c):X.env.cells.lookup y = some c :=
  closOf_all (S.cells I) (fun p hp=>absurd hp (by simp)) (y, c) (PySem.mem_of_lookup e)
theorem Inv.enterG {pins:List (Addr × Obj)} {σ:St} {H:Hp} {s:Shared} {h₁:Heap} {ex:List Addr} {tk:Nat} {pl:List (Addr × Obj)} (S:CompStG X.env.scope scope X.N xs ys caps) (hcalm:X.calm = true) (I:Inv X pins σ H s)
    (hn:h₁.Ns s.heap.objs.size (fun _=>none)) (keep:∀ b o, s.heap.get? b = some o → h₁.get? b = some o)
    (hex:∀ b ∈ ex, b < s.heap.objs.size ∧ b ∉ frs X.stack ∧ (∀ y c, X.env.cells.lookup y = some c → c ≠ b) ∧ X.base.get? b = none)
    (hpl:∀ p ∈ pl, s.heap.get? p.1 = some p.2 ∧ H p.1 = none ∧ p.1 ∉ frs X.stack ∧ ∀ v, p.2.data ≠ .cell v) :
    Inv (cxComp X scope (xs ++ ys) s H ex (X.pn ++ pins)) pl (xs.map (fun _=>none) ++ caught σ caps) H { s with heap:=h₁, toks:=tk }:=by
  have hL:s.heap.objs.size ≠ X.env.locals:=Nat.ne_of_gt I.lt
  have hCn:∀ b o, s.heap.get? b = some o → b ≠ s.heap.objs.size:=fun b o e=>Nat.ne_of_lt (Heap.lt_size e)
  have cellLt:∀ y c, X.env.cells.lookup y = some c → c < s.heap.objs.size:=fun y c e=>by
    obtain ⟨v, z⟩:=I.cell y c e
    exact z.lt
  have cellUp:∀ {c:Addr} {v:Option Value}, s.heap.IsCell c v → h₁.IsCell c v:=fun {c v} ⟨o, ho, hd⟩=>⟨o, keep c o ho, hd⟩
  refine ⟨⟨I.ok.mod, S.kind, I.ok.glob, I.ok.blt, Nat.le_refl _, fun y z c h1 h2=>I.ok.inj y z c (S.sub I h1) (S.sub I h2), fun y hy=>?_, fun y c hf _=>?_, fun _=>I.ok.hd hcalm, I.ok.frames, .inl rfl, fun b hb=>?_, I.bs, Nat.le_trans I.ok.bsz I.sz, fun b o e hb=>?_, fun b hb=>(hex b hb).2.1, I.stack, I.stkFree⟩,
    rfl, I.bare, Un.kept keep, ⟨_, hn, fun i y v e1 e2 e3=>?_⟩, fun y c e=>?_, I.hok.fresh (Nat.le_refl _), fun y c e=>I.freeC y c (S.sub I e), fun p hp=>?_, I.hok.kept keep, ?_⟩
  · have hy':(y, NameKind.free) ∈ scope.names:=relabel_of (env:=X.env) S.ncell (by
      rcases hy with hy | hy
      · exact ⟨_, hy, .inl rfl⟩
      · exact ⟨_, hy, .inr rfl⟩)
    exact lookup_of_key (closOf_has hy')
  · exact absurd (show false = true from hf) Bool.false_ne_true
  · exact ⟨Nat.ne_of_lt (hex b hb).1, fun y c e=>(hex b hb).2.2.1 y c (S.sub I e)⟩
  · have z:=(hex b hb).2.2.2
    have e':X.base.get? b = some o:=e
    rw [z] at e'; cases e'
  · have e1':(xs ++ ys)[i]? = some y:=e1
    obtain ⟨i, e1, e2⟩:∃ i', ys[i']? = some y ∧ (caught σ caps)[i']? = some (some v):=by
      by_cases hi:i < xs.length
      · rw [List.getElem?_append_left (by rw [List.length_map]; exact hi), List.getElem?_map, List.getElem?_eq_getElem hi] at e2
        cases e2
      · rw [List.getElem?_append_right (by omega)] at e1'
        rw [List.getElem?_append_right (by rw [List.length_map]; omega), List.length_map] at e2
        exact ⟨_, e1', e2⟩
    obtain ⟨j, hj, hv⟩:∃ j, caps[i]? = some j ∧ σ[j]? = some (some v):=by
      unfold caught at e2
      rw [List.getElem?_map] at e2
      cases q:caps[i]? with
      | none=>rw [q] at e2; cases e2
      | some j =>
        rw [q] at e2
        have e3:(σ[j]?).join = some v:=Option.some.inj e2
        cases q2:σ[j]? with
        | none=>rw [q2] at e3; cases e3
        | some w'=>rw [q2] at e3; exact ⟨j, rfl, by rw [show w' = some v from e3] at q2; exact q2⟩
    have hz:(y, j) ∈ ys.zip caps:=List.mem_of_getElem? (i:=i) (by rw [List.getElem?_zip_eq_some]; exact ⟨e1, hj⟩)
    obtain ⟨hN, hf⟩:=S.cap (y, j) hz
    have hcellX:X.env.kindOf y = some .cell:=S.fr (y, .free) (PySem.mem_of_lookup hf) rfl
    obtain ⟨m, hm, hl⟩:=I.loc
    obtain ⟨u, r, l⟩:=hl j y v hN hv (.inr (.inl hcellX))
    refine ⟨u, r, ?_⟩
    rcases l with ⟨hk, _⟩ | ⟨_, c, hc, hcell⟩
    · rw [hcellX] at hk; cases hk
    · obtain ⟨c', hc'⟩:=lookup_of_key (closOf_has (env:=X.env) (cs:=[]) (PySem.mem_of_lookup hf))
      have:=S.sub I hc'
      rw [hc] at this
      cases this
      exact .inr ⟨.inl (relabel_cell S.fk hf hcellX), c, hc', cellUp hcell⟩
  · obtain ⟨v, z⟩:=I.cell y c (S.sub I e)
    exact ⟨v, cellUp z⟩
  · rcases List.mem_append.mp hp with hp | hp
    · obtain ⟨a1, a2, a3, a4, a5⟩:=I.pin p hp
      exact ⟨keep _ _ a1, a2, hCn _ _ a1, fun z=>(List.mem_cons.mp (I.stkSub p.1 z)).elim a3 a4, a5⟩
    · obtain ⟨a1, a2, a4, a5⟩:=hpl p hp
      exact ⟨keep _ _ a1, a2, hCn _ _ a1, a4, a5⟩
  · show (xs.map (fun _=>none) ++ caught σ caps).length = (xs ++ ys).length
    rw [List.length_append, List.length_append, List.length_map, caught, List.length_map, S.len]
end
section
variable {X:Cx} {scope:Scope} {xs ys:List Str} {caps:List Nat} {elt iter tg:Expr} {te:TE} {g:TG} {pos:Pos}
theorem compG_run {pins:List (Addr × Obj)} {σ:St} {H2:Hp} {s2:Shared} {J:It} {fp:List Addr} {it:Addr} {tn:Nat → Heap → Prop} {E:Value → Shared → Prop} {fin:List V → Hp → Prop} {RR:Value → Addr → Result → Shared → Prop}
    (hcalm:X.calm = true) (S:CompStG X.env.scope scope X.N xs ys caps) (hg:∀ s H ex pn, PG (cxComp X scope (xs ++ ys) s H ex pn) tg g) (he:∀ s H ex pn, PE (cxComp X scope (xs ++ ys) s H ex pn) elt te)
    (I2:Inv X pins σ H2 s2) (T:Turn X.prog X.w X.K tg J fp it tn) (st2:tn 0 s2.heap) (f2:∀ b ∈ fp, FpOk X pins H2 b) (rd:CompRdG J σ xs.length caps g te H2 fin)
    (hRR:∀ (C:Addr) (ysV:List V) (its:List Value) (n:Nat) (H8:Hp) (s8:Shared) (m:Str → Option Value), C = s2.heap.objs.size + 1 → Inv X pins σ H8 s8 → H8 s2.heap.objs.size = none → H8 C = none → Vals ysV its → ysV.length ≤ sizeLine →
      s8.heap.get? s2.heap.objs.size = some (lstO its n) → s8.heap.Ns C m → fin ysV H8 → RR (.ref s2.heap.objs.size) C (.ok .next) s8) :
    wpAny (model X.prog X.w) X.A (newList []) (fun acc s₃=>wpAny (model X.prog X.w) X.A (newFunctionEnv scope X.env.globals (clsOf X scope) [] X.env.qual none .none (some X.env)) (fun cenv s₄ =>
      codeAny (model X.prog X.w) X.A (.compStart (.ListComp elt [⟨tg, iter, [], 0⟩] scope pos) 0 (.ref it) acc { cenv with scope:=relabel scope X.env }) (RR acc cenv.locals) s₄) E s₃) E s2:=by
  obtain ⟨n0, W, hn0, w0, turn⟩:=rd
  refine wpAny_newObj_type (wpAny_newFunctionEnv S.ncell (by intro y hy; simp at hy) (fun h₁ hns hsb=>?_) S.kind)
  dsimp only at hns hsb ⊢
  generalize hg3:s2.heap.push { cls:=.type "list", dict:=none, data:=.seq ([]:List Value).toArray } = g3 at hns hsb ⊢
  have hC:g3.objs.size = s2.heap.objs.size + 1:=by rw [← hg3, Heap.size_push]
  have up3:∀ b o, s2.heap.get? b = some o → g3.get? b = some o:=fun b o e=>hg3 ▸ Heap.get?_push_of_some _ e
  have I3:Inv X pins σ H2 { s2 with heap:=g3 }:=I2.kept (t':=s2.toks) up3
  have keep:∀ b o, g3.get? b = some o → h₁.get? b = some o:=fun b o e=>hsb.extBut b o (Nat.ne_of_lt (Heap.lt_size e)) (Heap.get?_push_of_some _ e)
  have objD:g3.get? s2.heap.objs.size = some (lstO [] 0):=hg3 ▸ Heap.get?_push_size _ rfl
  have hDL:s2.heap.objs.size ≠ X.env.locals:=Nat.ne_of_gt I2.lt
  have hDfs:s2.heap.objs.size ∉ X.fs:=I2.nofs (Nat.le_refl _)
  have hDst:s2.heap.objs.size ∉ frs X.stack:=fun z=>(List.mem_cons.mp (I2.stkSub _ z)).elim hDL hDfs
  have hDc:∀ y c, X.env.cells.lookup y = some c → c ≠ s2.heap.objs.size:=fun y c e=>by
    obtain ⟨v, z⟩:=I2.cell y c e
    exact Nat.ne_of_lt z.lt
  have hDp:∀ p ∈ X.pn ++ pins, p.1 ≠ s2.heap.objs.size:=fun p hp=>Nat.ne_of_lt (Heap.lt_size (I2.pin p hp).1)
  have hfl:∀ b ∈ fp, b < s2.heap.objs.size:=fun b hb=>by
    obtain ⟨o, e, _⟩:=T.obj _ _ st2 b hb
    exact Heap.lt_size e
  have hbz:X.base.objs.size ≤ X.s₀.heap.objs.size:=I2.ok.bsz
  have hch:∀ b ∈ s2.heap.objs.size :: fp, (b ∈ X.ex ∨ X.s₀.heap.objs.size ≤ b) ∧ b ≠ X.env.locals ∧ (∀ y c, X.env.cells.lookup y = some c → c ≠ b) ∧ ∀ p ∈ X.pn ++ pins, p.1 ≠ b:=fun b hb=>by
    rcases List.mem_cons.mp hb with rfl | hb
    · exact ⟨.inr I2.sz, hDL, hDc, hDp⟩
    · obtain ⟨a1, a2, a3, a4, a5, a6⟩:=f2 b hb
      exact ⟨a4, a2, a5, a6⟩
  have hex:∀ b ∈ s2.heap.objs.size :: fp, b < g3.objs.size ∧ b ∉ frs X.stack ∧ (∀ y c, X.env.cells.lookup y = some c → c ≠ b) ∧ X.base.get? b = none:=fun b hb=>by
    have hst:b ∉ frs X.stack:=by
      rcases List.mem_cons.mp hb with rfl | hb
      · exact hDst
      · obtain ⟨a1, a2, a3, a4, a5, a6⟩:=f2 b hb
        exact fun z=>(List.mem_cons.mp (I2.stkSub _ z)).elim a2 a3
    have hlt:b < g3.objs.size:=by
      rw [hC]
      rcases List.mem_cons.mp hb with rfl | hb
      · exact Nat.lt_succ_self _
      · exact Nat.lt_succ_of_lt (hfl b hb)
    refine ⟨hlt, hst, (hch b hb).2.2.1, ?_⟩
    cases q:X.base.get? b with
    | none=>rfl
    | some o =>
      rcases (hch b hb).1 with z | z
      · exact absurd z (I2.ok.noex b o q)
      · exact absurd (Nat.lt_of_lt_of_le (Heap.lt_size q) (Nat.le_trans hbz z)) (Nat.lt_irrefl _)
  have hD2:H2 s2.heap.objs.size = none:=I2.hok.fresh (Nat.le_refl _)
  have I4:Inv (cxComp X scope (xs ++ ys) { s2 with heap:=g3 } H2 (s2.heap.objs.size :: fp) (X.pn ++ pins)) [(s2.heap.objs.size, lstO [] 0)] (xs.map (fun _=>none) ++ caught σ caps) H2 { s2 with heap:=h₁, toks:=s2.toks + ([]:List (Str × Value)).length } :=
    Inv.enterG S hcalm I3 hns keep hex fun p hp=>by
      have e:p = (s2.heap.objs.size, lstO [] 0):=by simpa using hp
      subst e
      exact ⟨objD, hD2, hDst, fun v z=>nomatch z⟩
  have st4:tn 0 h₁:=T.keep _ _ _ st2 fun b hb o e=>keep b o (up3 b o e)
  generalize hY:cxComp X scope (xs ++ ys) { s2 with heap:=g3 } H2 (s2.heap.objs.size :: fp) (X.pn ++ pins) = Y at I4
  have yP:Y.prog = X.prog:=by rw [← hY]; rfl
  have yW:Y.w = X.w:=by rw [← hY]; rfl
  have yK:Y.K = X.K:=by rw [← hY]; rfl
  have yA:Y.A = X.A:=by rw [← hY]; rfl
  have yC:Y.calm = true:=by rw [← hY]; exact hcalm
  have yX:Y.xe = fun _ _=>False:=by rw [← hY]; rfl
  have yN:Y.N = xs ++ ys:=by rw [← hY]; rfl
  have yE:Y.env = compEnvC scope (clsOf X scope) g3.objs.size X.env:=by rw [← hY]; rfl
  have yex:Y.ex = s2.heap.objs.size :: fp:=by rw [← hY]; rfl
  have ypn:Y.pn = X.pn ++ pins:=by rw [← hY]; rfl
  have yfs:Y.fs = frs X.stack:=by rw [← hY]; rfl
  have ybase:∀ {pl σ' H' s'}, Inv Y pl σ' H' s' → Un (frs X.stack) (s2.heap.objs.size :: fp) H2 H' g3 s'.heap ∧ s'.os = s2.os:=by
    intro pl σ' H' s' I
    rw [← hY] at I
    exact ⟨I.base, I.os⟩
  have yhg:PG Y tg g:=by rw [← hY]; exact hg _ _ _ _
  have yhe:PE Y elt te:=by rw [← hY]; exact he _ _ _ _
  have ycl:∀ y c, Y.env.cells.lookup y = some c → X.env.cells.lookup y = some c:=fun y c e=>by
    rw [yE] at e
    exact S.sub I2 e
  have yfp:∀ {H':Hp} {o:Obj}, (∀ b ∈ fp, H' b = none) → ∀ b ∈ fp, FpOk Y [(s2.heap.objs.size, o)] H' b:=fun {H' o} hn b hb=>by
    obtain ⟨a1, a2, a3, a4, a5, a6⟩:=f2 b hb
    refine ⟨hn b hb, ?_, ?_, ?_, fun y c e=>a5 y c (ycl y c e), fun p hp=>?_⟩
    · rw [yE]; exact Nat.ne_of_lt (hex b (List.mem_cons_of_mem _ hb)).1
    · rw [yfs]; exact (hex b (List.mem_cons_of_mem _ hb)).2.1
    · rw [yex]; exact .inl (List.mem_cons_of_mem _ hb)
    · rw [ypn] at hp
      rcases List.mem_append.mp hp with hp | hp
      · exact a6 p hp
      · have e:p = (s2.heap.objs.size, o):=by simpa using hp
        subst e
        exact Nat.ne_of_gt (hfl b hb)
  have loop:∀ s₃:Shared, s₃ = { s2 with heap:=h₁, toks:=s2.toks + ([]:List (Str × Value)).length } →
      codeAny (model X.prog X.w) X.A (.compLoop (.ListComp elt [⟨tg, iter, [], 0⟩] scope pos) 0 (.ref it) (.ref s2.heap.objs.size) (compEnvC scope (clsOf X scope) g3.objs.size X.env)) (RR (.ref s2.heap.objs.size) g3.objs.size) s₃:=by
    rintro s₃ rfl
    refine codeAny_loop rfl (fun k s'=>∃ i ysV its cnt H' os, os.length = xs.length ∧ k = n0 + 1 - i ∧ Inv Y [(s2.heap.objs.size, lstO its cnt)] (os ++ caught σ caps) H' s' ∧ tn i s'.heap ∧ (∀ b ∈ fp, H' b = none) ∧ Vals ysV its ∧ ysV.length = i ∧ i ≤ n0 ∧ W i ysV H') ?_ (n0 + 1)
      ⟨0, [], [], 0, H2, xs.map (fun _=>none), by rw [List.length_map], rfl, I4, st4, fun b hb=>(f2 b hb).1, .nil, rfl, Nat.zero_le _, w0⟩
    rintro k s' ⟨i, ysV, its, cnt, H', os, hos, rfl, I', tni, frn, vv, hlen, hin, hw⟩
    show wpAny _ _ ((compTurn (.ListComp elt [⟨tg, iter, [], 0⟩] scope pos) 0 (.ref it) (.ref s2.heap.objs.size) (compEnvC scope (clsOf X scope) g3.objs.size X.env)).onRaise (fun x=>do noteFrame x (compEnvC scope (clsOf X scope) g3.objs.size X.env); theTreesLotGoes x)) _ _ s'
    refine wpAny_noted ?_
    rw [compTurn_list1]
    have fpok:=yfp (o:=lstO its cnt) frn
    rcases turn i ysV H' hin hlen hw with ⟨stop, hfin⟩ | ⟨hlt, go, step⟩
    · refine wpAny_bind (wpAny_standAt (wpAny_bind (thn (Q:=fun r s1=>r = none ∧ Inv Y [(s2.heap.objs.size, lstO its cnt)] (os ++ caught σ caps) H' s1) ?_ fun r s1 ⟨hr, I1⟩=>?_)))
      · have:=T.done Y yP yW yK yC i _ s' _ H' (notedBy (model X.prog X.w) X.A (compEnvC scope (clsOf X scope) g3.objs.size X.env) fun e s'=>RR (.ref s2.heap.objs.size) g3.objs.size (.error e) s') I' fpok tni stop
        rw [yA] at this
        exact this
      · subst hr
        refine wpAny_pure ?_
        obtain ⟨ub, uo⟩:=ybase I1
        obtain ⟨m, hm, _⟩:=I1.loc
        obtain ⟨p1, p2, _⟩:=I1.pin (s2.heap.objs.size, lstO its cnt) (List.mem_append_right _ List.mem_cons_self)
        have hok:HOk X.prog X.w H' s1.heap:=by have:=I1.hok; rw [yP, yW] at this; exact this
        have hCf:=I1.free
        rw [yE] at hm hCf
        refine hRR g3.objs.size ysV its cnt H' s1 m hC (I3.call' uo ub hok I1.bare hch) p2 hCf vv (by omega) p1 hm hfin
    · refine wpAny_bind (wpAny_standAt (wpAny_bind (thn (Q:=fun r s1=>∃ u, r = some u ∧ wpAny (model X.prog X.w) X.A (letOwnedTupleGo tg (.ref it) u) (fun _ s5=>∃ x H5, Inv Y [(s2.heap.objs.size, lstO its cnt)] (os ++ caught σ caps) H5 s5 ∧ RelV x u ∧ J.yld i H' x H5 ∧ tn (i + 1) s5.heap ∧ ∀ b ∈ fp, H5 b = none)
          (notedBy (model X.prog X.w) X.A (compEnvC scope (clsOf X scope) g3.objs.size X.env) fun e s'=>RR (.ref s2.heap.objs.size) g3.objs.size (.error e) s') s1) ?_ fun r s1 ⟨u, hr, h4⟩=>?_)))
      · have:=T.item Y yP yW yK yC i _ s' _ H' (notedBy (model X.prog X.w) X.A (compEnvC scope (clsOf X scope) g3.objs.size X.env) fun e s'=>RR (.ref s2.heap.objs.size) g3.objs.size (.error e) s') I' fpok tni go
        rw [yA] at this
        exact this
      · subst hr
        refine wpAny_bind (thn h4 fun _ s5 ⟨xv, H5, I5, r5, y5, st5, fr5⟩=>?_)
        have I5':=I5.pinned (yfp fr5) (T.obj _ _ st5)
        have sto:=yhg _ s5 _ H5 xv u _ I5' r5 (step xv H5 y5 os hos)
        rw [yP, yW, yA, yE] at sto
        refine wpAny_bind (nxE yX sto fun _ s6 ⟨σ6, H6, I6, ⟨os', hos', e6⟩, t6⟩=>?_)
        subst e6
        have ev:=yhe _ s6 _ H6 _ I6 t6
        rw [yP, yW, yA, yE] at ev
        refine wpAny_bind (wpAny_bind (nxE yX ev fun yv s7 ⟨y, H7, I7, r7, w7⟩=>?_))
        obtain ⟨zD, hD7, hDl7, hDf7, _⟩:=I7.pin (s2.heap.objs.size, lstO its cnt) (List.mem_append_right _ (List.mem_append_left _ List.mem_cons_self))
        have hil:=vv.length
        refine wpAny_bind (append_at zD (fun h8 sb8 d8=>wpAny_pure (wpAny_pure ⟨rfl, ?_⟩)) (by rw [List.size_toArray]; omega))
        have I7':Inv Y [] (os' ++ caught σ caps) H7 s7:=I7.pins_of fun p hp=>nomatch hp
        have I8:Inv Y [] (os' ++ caught σ caps) H7 { s7 with heap:=h8 }:=I7'.turned (t':=s7.toks) (fun b ob hb e=>(sb8.2 b hb).trans e) hD7 hDl7 (.inl (by rw [yex]; exact List.mem_cons_self)) (fun y c e=>hDc y c (ycl y c e)) (fun p hp=>by
          rw [ypn, List.append_nil] at hp
          exact hDp p hp)
        have I9:Inv Y [(s2.heap.objs.size, lstO (its ++ [yv]) (cnt + 1))] (os' ++ caught σ caps) H7 { s7 with heap:=h8 }:=I8.pins_of fun p hp=>by
          have e:p = (s2.heap.objs.size, lstO (its ++ [yv]) (cnt + 1)):=by simpa using hp
          subst e
          refine ⟨?_, hD7, hDl7, hDf7, fun v z=>nomatch z⟩
          show h8.get? s2.heap.objs.size = some { cls:=.type "list", data:=.seq (its ++ [yv]).toArray (cnt + 1) }
          rw [d8, List.push_toArray]
        refine ⟨n0 + 1 - (i + 1), by omega, i + 1, ysV ++ [y], its ++ [yv], cnt + 1, H7, os', hos', rfl, I9, ?_, ?_, vv.append (.cons r7 .nil), by rw [List.length_append, hlen]; rfl, hlt, w7⟩
        · refine T.keep _ _ _ st5 fun b hb ob e=>(sb8.2 b (Nat.ne_of_lt (hfl b hb))).trans ?_
          exact (I7.pin (b, ob) (List.mem_append_right _ (List.mem_append_right _ (mem_pinsAt hb e)))).1
        · intro b hb
          obtain ⟨ob, e, _⟩:=T.obj _ _ st5 b hb
          exact (I7.pin (b, ob) (List.mem_append_right _ (List.mem_append_right _ (mem_pinsAt hb e)))).2.1
  exact codeAny_compStart_list (loop _ rfl) (T.self _ 0 _ _ _ st4 (loop _ rfl))
theorem pe_compH {wi:TI} {RD:St → VK → It → Hp → Prop} (hRD:∀ σ Q J H1, RD σ Q J H1 → CompRdG J σ xs.length caps g te H1 fun ys H2=>∀ p, H2 p = none → Q (.ref p) (upd H2 p (.lst ys))) {FS:Scope} {N:List Str} (S0:CompStG FS scope N xs ys caps) (hFS:X.env.scope = FS) (hN0:X.N = N) (hcalm:X.calm = true) (hi:PI X tg iter wi) (hg:∀ s H ex pn, PG (cxComp X scope (xs ++ ys) s H ex pn) tg g) (he:∀ s H ex pn, PE (cxComp X scope (xs ++ ys) s H ex pn) elt te)
    (hs:∀ v, foldedSetIterable iter X.env v = pure v:=by intro _; rfl):PE X (.ListComp elt [⟨tg, iter, [], 0⟩] scope pos) (fun σ H Q=>wi σ H (RD σ Q)):=by
  have S:CompStG X.env.scope scope X.N xs ys caps:=by rw [hFS, hN0]; exact S0
  intro pins s σ H Q I h
  rw [eval_ListComp]
  refine wpAny_comprehension_free (use:=none) rfl hs (closureFor_eq (S.cells I)) S.kind S.names (thn (hi pins s σ H _ I h) fun v s1 h1=>thn h1 fun itv s2 h2=>?_)
  obtain ⟨it, fp, tn, J, H2, rfl, I2, T, st2, f2, rd⟩:=h2
  refine compG_run (RR:=fun acc C=>compPost (model X.prog X.w) X.A X.xe none (EP X pins σ Q) acc C) hcalm S hg he I2 T st2 f2 (hRD _ _ _ _ rd) ?_
  intro C ysV its n H8 s8 m hC I8 hD hC8 vv hz oD hn fin
  refine ⟨m, hn, fun h' sb=>?_⟩
  have sz:=I2.sz
  have lt:=I2.lt
  have ap:∀ b:Addr, b < s2.heap.objs.size → b ≠ C ∧ C ≠ b:=fun b hb=>by
    subst hC
    exact ⟨Nat.ne_of_lt (Nat.lt_succ_of_lt hb), Nat.ne_of_gt (Nat.lt_succ_of_lt hb)⟩
  have szC:X.s₀.heap.objs.size ≤ C:=by subst hC; exact Nat.le_succ_of_le sz
  have DC:s2.heap.objs.size ≠ C:=by subst hC; exact Nat.ne_of_lt (Nat.lt_succ_self _)
  have cl:∀ y c, X.env.cells.lookup y = some c → c < s2.heap.objs.size:=fun y c e=>by
    obtain ⟨w', z⟩:=I2.cell y c e
    exact z.lt
  have pl:∀ p ∈ X.pn ++ pins, p.1 < s2.heap.objs.size:=fun p hp=>Heap.lt_size (I2.pin p hp).1
  have I9:Inv X pins σ H8 { s8 with heap:=h' }:=I8.turned (t':=s8.toks) (fun b o hb e=>(sb.2 b hb).trans e) hC8 (ap _ lt).2 (.inr szC) (fun y c e=>(ap c (cl y c e)).1) (fun p hp=>(ap p.1 (pl p hp)).1)
  have oD':h'.get? s2.heap.objs.size = some (lstO its n):=(sb.2 _ DC).trans oD
  exact ⟨.ref s2.heap.objs.size, upd H8 s2.heap.objs.size (.lst ysV), I9.adopt hD sz (Nat.ne_of_gt lt) (fun y c e=>Nat.ne_of_lt (cl y c e)) (fun p hp=>Nat.ne_of_lt (pl p hp)) ⟨hz, its, n, vv, oD'⟩, rfl, fin _ hD⟩
theorem ps_setCompH {wi:TI} {RD:St → VK → It → Hp → Prop} (hRD:∀ σ Q J H1, RD σ Q J H1 → CompRdG J σ xs.length caps g te H1 fun ys H2=>∀ p, H2 p = none → Q (.ref p) (upd H2 p (.lst ys))) {FS:Scope} {N:List Str} {i:Nat} {y:Str} {py spos:Pos} (S0:CompStG FS scope N xs ys caps) (hFS:X.env.scope = FS) (hN0:X.N = N) (hcalm:X.calm = true) (hN:X.N.Nodup) (hy:X.N[i]? = some y) (hl:Loc X.env.scope y) (hi:PI X tg iter wi) (hg:∀ s H ex pn, PG (cxComp X scope (xs ++ ys) s H ex pn) tg g) (he:∀ s H ex pn, PE (cxComp X scope (xs ++ ys) s H ex pn) elt te)
    (hsw:swapsWith (.ListComp elt [⟨tg, iter, [], 0⟩] scope pos) (some (.Name y py)) spos.line X.env = pure true:=by rfl)
    (hs:∀ v, foldedSetIterable iter X.env v = pure v:=by intro _; rfl) (hf:X.fn y = true ∨ X.env.scope.names.lookup y = some .local:=by first | exact .inl rfl | exact .inr rfl | assumption) :
    PS X (.Assign [.Name y py] (.ListComp elt [⟨tg, iter, [], 0⟩] scope pos) spos) (tAsg (fun σ H Q=>wi σ H (RD σ Q)) (gName i)):=by
  have S:CompStG X.env.scope scope X.N xs ys caps:=by rw [hFS, hN0]; exact S0
  intro pins s σ H D I h
  rw [exec_Assign_Name_used _ _ _ _ hsw]
  refine wpAny_bind (wpAny_standAt (wpAny_bind ?_))
  show wpAny _ X.A (do let _ ← comprehension (.ListComp elt [⟨tg, iter, [], 0⟩] scope pos) scope X.env _ (newList []) false (eval iter X.env) (some (assign (.Name y py) X.env))) _ _ s
  refine wpAny_bind (wpAny_mono (wpAny_comprehension_free (use:=some (assign (.Name y py) X.env)) (Q:=fun _ s'=>SP X pins D .next s') rfl hs (closureFor_eq (S.cells I)) S.kind S.names
    (thn (hi pins s σ H _ I h) fun v s1 h1=>thn h1 fun itv s2 h2=>?_)) (fun _ s' hq=>wpAny_pure (wpAny_pure hq)) fun _ _ e=>e)
  obtain ⟨it, fp, tn, J, H2, rfl, I2, T, st2, f2, rd⟩:=h2
  refine compG_run (RR:=fun acc C=>compPost (model X.prog X.w) X.A X.xe (some (assign (.Name y py) X.env)) (fun _ s'=>SP X pins D .next s') acc C) hcalm S hg he I2 T st2 f2 (hRD _ _ _ _ rd) ?_
  intro C ysV its n H8 s8 m hC I8 hD hC8 vv hz oD hn fin
  have sz:=I2.sz
  have lt:=I2.lt
  have ap:∀ b:Addr, b < s2.heap.objs.size → b ≠ C ∧ C ≠ b:=fun b hb=>by
    subst hC
    exact ⟨Nat.ne_of_lt (Nat.lt_succ_of_lt hb), Nat.ne_of_gt (Nat.lt_succ_of_lt hb)⟩
  have szC:X.s₀.heap.objs.size ≤ C:=by subst hC; exact Nat.le_succ_of_le sz
  have DC:C ≠ s2.heap.objs.size:=by subst hC; exact Nat.ne_of_gt (Nat.lt_succ_self _)
  have cl:∀ y c, X.env.cells.lookup y = some c → c < s2.heap.objs.size:=fun y c e=>by
    obtain ⟨w', z⟩:=I2.cell y c e
    exact z.lt
  have pl:∀ p ∈ X.pn ++ pins, p.1 < s2.heap.objs.size:=fun p hp=>Heap.lt_size (I2.pin p hp).1
  have I9:Inv X pins σ (upd H8 s2.heap.objs.size (.lst ysV)) s8:=I8.adopt hD sz (Nat.ne_of_gt lt) (fun y c e=>Nat.ne_of_lt (cl y c e)) (fun p hp=>Nat.ne_of_lt (pl p hp)) ⟨hz, its, n, vv, oD⟩
  show wpAny (model X.prog X.w) X.A (assign (.Name y py) X.env (.ref s2.heap.objs.size)) _ _ s8
  refine wpAny_assign_Name (store_ok2 (v:=.ref s2.heap.objs.size) I9 hN hy hl rfl (fun s9 I10 ⟨a, sa, ha⟩=>?_) hf)
  have hCa:C ≠ a:=by
    rcases ha with rfl | e
    · exact (ap _ lt).2
    · exact (ap _ (cl _ _ e)).2
  refine ⟨m, hn.sameBut sa hCa, fun h' sb=>⟨_, _, I10.turned (t':=s9.toks) (fun b o hb e=>(sb.2 b hb).trans e) ?_ (ap _ lt).2 (.inr szC) (fun y c e=>(ap c (cl y c e)).1) (fun p hp=>(ap p.1 (pl p hp)).1), fin _ hD⟩⟩
  rw [upd_ne DC]
  exact hC8
theorem pgc_name {X:Cx} {scope:Scope} {NY:List Str} {s:Shared} {H:Hp} {ex:List Addr} {pn:List (Addr × Obj)} {i:Nat} {x:Str} {px:Pos} (hN:NY.Nodup) (hi:NY[i]? = some x) (hx:scope.names.lookup x = some .local):PG (cxComp X scope NY s H ex pn) (.Name x px) (gName i) :=
  pg_name (X:=cxComp X scope NY s H ex pn) hN hi (.inl (lookup_relabel_local hx)) (.inr (lookup_relabel_local hx))
theorem CompSt.toG {FS:Scope} {N:List Str} {x:Str} (S:CompSt FS scope N x ys caps):CompStG FS scope N [x] ys caps:=⟨S.ncell, S.kind, S.names, S.fr, S.fk, S.cap, S.len⟩
theorem CompRd.toG {J:It} {σ:St} {te:TE} {H1:Hp} {fin:List V → Hp → Prop}:CompRd J σ caps te H1 fin → CompRdG J σ 1 caps (gName 0) te H1 fin:=by
  rintro ⟨n, W, hn, h0, h⟩
  refine ⟨n, W, hn, h0, fun i ys H2 hi hy hw=>?_⟩
  rcases h i ys H2 hi hy hw with z | ⟨z1, z2, z3⟩
  · exact .inl z
  · refine .inr ⟨z1, z2, fun x H3 y os ho=>?_⟩
    match os, ho with
    | [o], _=>exact ⟨⟨[some x], rfl, rfl⟩, z3 x H3 y⟩
theorem ps_setCompG {wi:TI} {FS:Scope} {N:List Str} {i:Nat} {y:Str} {py spos:Pos} (S0:CompStG FS scope N xs ys caps) (hFS:X.env.scope = FS) (hN0:X.N = N) (hcalm:X.calm = true) (hN:X.N.Nodup) (hy:X.N[i]? = some y) (hl:Loc X.env.scope y) (hi:PI X tg iter wi) (hg:∀ s H ex pn, PG (cxComp X scope (xs ++ ys) s H ex pn) tg g) (he:∀ s H ex pn, PE (cxComp X scope (xs ++ ys) s H ex pn) elt te)
    (hsw:swapsWith (.ListComp elt [⟨tg, iter, [], 0⟩] scope pos) (some (.Name y py)) spos.line X.env = pure true:=by rfl)
    (hs:∀ v, foldedSetIterable iter X.env v = pure v:=by intro _; rfl) (hf:X.fn y = true ∨ X.env.scope.names.lookup y = some .local:=by first | exact .inl rfl | exact .inr rfl | assumption) :
    PS X (.Assign [.Name y py] (.ListComp elt [⟨tg, iter, [], 0⟩] scope pos) spos) (tAsg (tCompG wi xs.length caps g te) (gName i)):=ps_setCompH (RD:=fun σ Q J H1=>CompRdG J σ xs.length caps g te H1 fun ys H2=>∀ p, H2 p = none → Q (.ref p) (upd H2 p (.lst ys))) (fun _ _ _ _ h=>h) S0 hFS hN0 hcalm hN hy hl hi hg he hsw hs hf
end
section
variable {X:Cx} {scope:Scope} {x:Str} {ys:List Str} {caps:List Nat} {elt iter:Expr} {te:TE} {px pos:Pos}
theorem pe_comp {wi:TI} {FS:Scope} {N:List Str} (S0:CompSt FS scope N x ys caps) (hFS:X.env.scope = FS) (hN0:X.N = N) (hcalm:X.calm = true) (hi:PI X (.Name x px) iter wi) (he:∀ s H ex pn, PE (cxComp X scope (x :: ys) s H ex pn) elt te)
    (hs:∀ v, foldedSetIterable iter X.env v = pure v:=by intro _; rfl):PE X (.ListComp elt [⟨.Name x px, iter, [], 0⟩] scope pos) (tComp wi caps te):=pe_compH (xs:=[x]) (g:=gName 0) (fun _ _ _ _ h=>CompRd.toG h) S0.toG hFS hN0 hcalm hi (fun _ _ _ _=>pgc_name S0.nd rfl S0.loc) he hs
theorem ps_setComp {wi:TI} {FS:Scope} {N:List Str} {i:Nat} {y:Str} {py spos:Pos} (S0:CompSt FS scope N x ys caps) (hFS:X.env.scope = FS) (hN0:X.N = N) (hcalm:X.calm = true) (hN:X.N.Nodup) (hy:X.N[i]? = some y) (hl:Loc X.env.scope y) (hi:PI X (.Name x px) iter wi) (he:∀ s H ex pn, PE (cxComp X scope (x :: ys) s H ex pn) elt te)
    (hsw:swapsWith (.ListComp elt [⟨.Name x px, iter, [], 0⟩] scope pos) (some (.Name y py)) spos.line X.env = pure true:=by rfl)
    (hs:∀ v, foldedSetIterable iter X.env v = pure v:=by intro _; rfl) (hf:X.fn y = true ∨ X.env.scope.names.lookup y = some .local:=by first | exact .inl rfl | exact .inr rfl | assumption) :
    PS X (.Assign [.Name y py] (.ListComp elt [⟨.Name x px, iter, [], 0⟩] scope pos) spos) (tAsg (tComp wi caps te) (gName i)):=ps_setCompH (RD:=fun σ Q J H1=>CompRd J σ caps te H1 fun ys H2=>∀ p, H2 p = none → Q (.ref p) (upd H2 p (.lst ys))) (xs:=[x]) (g:=gName 0) (fun _ _ _ _ h=>CompRd.toG h) S0.toG hFS hN0 hcalm hN hy hl hi (fun _ _ _ _=>pgc_name S0.nd rfl S0.loc) he hsw hs hf
end
end L2
namespace L2
open PySem PySem.Spec PyProof.Rows
section
variable {X:Cx}
end
end L2
namespace L2
open PySem PySem.Spec PyProof.Rows
section
variable {X:Cx}
end
end L2
namespace L2
open PySem PySem.Spec PyProof.Rows
theorem compG_zip {K:PySem.W.Frag} {a b:Addr} {xs ys:List V} {σ:St} {k:Nat} {caps:List Nat} {g:TG} {te:TE} {H1:Hp} {fin:List V → Hp → Prop} (W:Nat → List V → Hp → Prop) (hz:xs.length ≤ sizeLine) (he:xs.length = ys.length) (h0:W 0 [] H1) (hl:∀ i zs H, i ≤ xs.length → W i zs H → SqL K H a xs ∧ SqL K H b ys)
    (hs:∀ i x y p zs H, xs[i]? = some x → ys[i]? = some y → zs.length = i → W i zs H → H p = none → ∀ os:St, os.length = k → g (.ref p) (os ++ caught σ caps) (upd H p (.tup [x, y])) fun σ2 H4=>(∃ os':St, os'.length = k ∧ σ2 = os' ++ caught σ caps) ∧ te σ2 H4 fun z H5=>W (i + 1) (zs ++ [z]) H5)
    (hd:∀ zs H, zs.length = xs.length → W xs.length zs H → fin zs H):CompRdG (Itz K a b) σ k caps g te H1 fin:=by
  refine ⟨xs.length, W, hz, h0, fun i zs H2 hi hy hw=>?_⟩
  obtain ⟨q, r⟩:=hl i zs H2 hi hw
  by_cases hlt:i < xs.length
  · have hlt2:i < ys.length:=by omega
    refine .inr ⟨hlt, ⟨xs, xs[i], ys, ys[i], q, by simp [hlt], r, by simp [hlt2]⟩, fun x H3 y os ho=>?_⟩
    obtain ⟨pp, x', y', e1, e2, e3, y1, y2⟩:=y
    subst e1 e3
    exact hs i x' y' pp zs _ (y1 xs q) (y2 ys r) hy hw e2 os ho
  · have e:i = xs.length:=by omega
    subst e
    exact .inl ⟨⟨xs, ys, q, r, .inl (Nat.le_refl _)⟩, hd zs H2 hy hw⟩
end L2
namespace L2
open PySem PySem.Spec PyProof.Rows
section
variable {X:Cx}
end
end L2
namespace L2
open PySem PySem.Spec PyProof.Rows
section
variable {X:Cx}
end
end L2
namespace L2
open PySem PySem.Spec PyProof.Rows
structure CompStC (FS scope:Scope) (N:List Str) (x:Str) (ys:List Str) (caps:List Nat):Prop where
  cf:∀ n acc, cellsFrom n scope.names acc = (x, n) :: acc
  pc:∀ h, pushCells h scope.names = h.push { cls:=.type "cell", data:=.cell none }
  only:∀ y ∈ scope.names, y.2 = .cell → y.1 = x
  xc:scope.names.lookup x = some .cell
  kind:scope.kind = .function
  names:∀ y ∈ scope.names, y.2 = .local → scope.names.lookup y.1 = some .local
  fr:∀ p ∈ scope.names, p.2 = .free → FS.names.lookup p.1 = some .cell
  xf:∀ p ∈ scope.names, p.2 = .free → p.1 ≠ x
  fk:FS.kind = .function
  cap:∀ p ∈ ys.zip caps, N[p.2]? = some p.1 ∧ scope.names.lookup p.1 = some .free
  len:ys.length = caps.length
  nd:(x :: ys).Nodup
noncomputable abbrev clsC (X:Cx) (scope:Scope) (x:Str) (C:Addr):List (Str × Addr):=(x, C + 1) :: clsOf X scope
noncomputable def cxCompC (X:Cx) (scope:Scope) (x:Str) (NY:List Str) (s:Shared) (H:Hp) (ex:List Addr) (pn:List (Addr × Obj)):Cx :=
  { X with N:=NY, s₀:=s, H₀:=H, env:=compEnvC scope (clsC X scope x s.heap.objs.size) s.heap.objs.size X.env, outer:=X.stack, stack:=X.stack, ex:=ex, fn:=fun y=>y == x, pn:=pn, xe:=fun _ _=>False }
theorem lookup_cons_ne {α:Type} {x y:Str} {v:α} {l:List (Str × α)} (h:y ≠ x):((x, v) :: l).lookup y = l.lookup y:=by
  rw [List.lookup_cons, show (y == x) = false by simpa using h]
theorem lookup_cons_eq {α:Type} {x:Str} {v:α} {l:List (Str × α)}:((x, v) :: l).lookup x = some v:=by
  rw [List.lookup_cons, show (x == x) = true by simp]
theorem lookup_relabel_cell {env:Env}:∀ {names:List (Str × NameKind)} {x:Str}, names.lookup x = some .cell →
    (names.map fun (n, k)=>if (k == NameKind.free && env.scope.kind == .function && env.kindOf n == some .cell) then (n, NameKind.cell) else (n, k)).lookup x = some .cell
  | [], _, h=>by simp at h
  | (n, k) :: r, x, h=>by
    have ih:=@lookup_relabel_cell env r x
    show List.lookup x ((if (k == NameKind.free && env.scope.kind == .function && env.kindOf n == some .cell) = true then (n, NameKind.cell) else (n, k)) :: _) = _
    cases hx:x == n with
    | true =>
      simp only [List.lookup_cons, hx] at h
      cases h
      simp [List.lookup_cons, hx]
    | false =>
      simp only [List.lookup_cons, hx] at h
      by_cases hc:(k == NameKind.free && env.scope.kind == .function && env.kindOf n == some .cell) = true
      · rw [if_pos hc]; simp only [List.lookup_cons, hx]; exact ih h
      · rw [if_neg hc]; simp only [List.lookup_cons, hx]; exact ih h
theorem relabel_ofC {env:Env} {x:Str}:∀ {names:List (Str × NameKind)} {y:Str}, (∀ p ∈ names, p.2 = .cell → p.1 = x) →
    (∃ k, (names.map fun (n, k)=>if (k == NameKind.free && env.scope.kind == .function && env.kindOf n == some .cell) then (n, NameKind.cell) else (n, k)).lookup y = some k ∧ (k = .cell ∨ k = .free)) → y = x ∨ (y, NameKind.free) ∈ names
  | [], _, _, ⟨_, h, _⟩=>by simp at h
  | (n, k) :: r, y, hn, ⟨kk, h, hkk⟩=>by
    have h:List.lookup y ((if (k == NameKind.free && env.scope.kind == .function && env.kindOf n == some .cell) = true then (n, NameKind.cell) else (n, k)) :: r.map fun (n, k)=>if (k == NameKind.free && env.scope.kind == .function && env.kindOf n == some .cell) then (n, NameKind.cell) else (n, k)) = some kk:=h
    have ih:=@relabel_ofC env x r y fun p hp=>hn p (List.mem_cons_of_mem _ hp)
    cases hx:y == n with
    | true =>
      have e:y = n:=by simpa using hx
      subst e
      by_cases hc':(k == NameKind.free && env.scope.kind == .function && env.kindOf y == some .cell) = true
      · have hf:k = .free:=by
          rw [Bool.and_eq_true, Bool.and_eq_true] at hc'
          simpa using hc'.1.1
        rw [hf]; exact .inr List.mem_cons_self
      · rw [if_neg hc'] at h
        simp only [List.lookup_cons, hx] at h
        have e2:k = kk:=Option.some.inj h
        subst e2
        rcases hkk with z | z
        · exact .inl (hn (y, k) List.mem_cons_self z)
        · rw [z]; exact .inr List.mem_cons_self
    | false =>
      have h2:(r.map fun (n, k)=>if (k == NameKind.free && env.scope.kind == .function && env.kindOf n == some .cell) then (n, NameKind.cell) else (n, k)).lookup y = some kk:=by
        by_cases hc':(k == NameKind.free && env.scope.kind == .function && env.kindOf n == some .cell) = true
        · rw [if_pos hc'] at h; simp only [List.lookup_cons, hx] at h; exact h
        · rw [if_neg hc'] at h; simp only [List.lookup_cons, hx] at h; exact h
      exact (ih ⟨kk, h2, hkk⟩).imp id (List.mem_cons_of_mem _)
theorem newEnv_cell {M:Model} {A:Around} {E:Value → Shared → Prop} {s:Shared} {scope:Scope} {globals:Addr} {cl:List (Str × Addr)} {x:Str} {qual:Str} {env:Env} {Q:Env → Shared → Prop}
    (cf:∀ n acc, cellsFrom n scope.names acc = (x, n) :: acc) (pc:∀ h, pushCells h scope.names = h.push { cls:=.type "cell", data:=.cell none })
    (hQ:Q (newEnv scope s.heap.objs.size globals ((x, s.heap.objs.size + 1) :: cl) qual none .none (some env) builtinsNs) { s with heap:=(s.heap.push { cls:=.type "dict", data:=.dict #[] }).push { cls:=.type "cell", data:=.cell none } }) :
    wpAny M A (newFunctionEnv scope globals cl [] qual none .none (some env)) Q E s:=by
  simp only [newFunctionEnv, Option.isSome_some, if_true]
  refine wpAny_bind (wpAny_alloc ?_)
  refine wpAny_bind (wpAny_layCells _ (fun name kind cells=>by cases hkc:kind == NameKind.cell <;> simp [hkc]) _ _ _ _ ?_)
  rw [pc, cf]
  rw [show ({ s with heap:=s.heap.push { cls:=.type "dict", data:=.dict #[] } }:Shared).heap.objs.size = s.heap.objs.size + 1 from Heap.size_push ..]
  refine wpAny_bind ?_
  rw [List.forIn_nil]
  exact wpAny_pure (wpAny_pure hQ)
section
variable {X:Cx} {scope:Scope} {x:Str} {ys:List Str} {caps:List Nat}
theorem CompStC.cells {pins:List (Addr × Obj)} {σ:St} {H:Hp} {s:Shared} (S:CompStC X.env.scope scope X.N x ys caps) (I:Inv X pins σ H s):∀ p ∈ scope.names, p.2 = .free → ∃ c, X.env.cells.lookup p.1 = some c:=fun p hp hf =>
  I.ok.has p.1 (.inl (S.fr p hp hf))
theorem CompStC.sub {pins:List (Addr × Obj)} {σ:St} {H:Hp} {s:Shared} (S:CompStC X.env.scope scope X.N x ys caps) (I:Inv X pins σ H s) {y:Str} {c:Addr} (e:(clsOf X scope).lookup y = some c):X.env.cells.lookup y = some c :=
  closOf_all (S.cells I) (fun p hp=>absurd hp (by simp)) (y, c) (PySem.mem_of_lookup e)
theorem CompStC.sub2 {pins:List (Addr × Obj)} {σ:St} {H:Hp} {s:Shared} {C:Addr} (S:CompStC X.env.scope scope X.N x ys caps) (I:Inv X pins σ H s) {y:Str} {c:Addr} (e:(clsC X scope x C).lookup y = some c):(y = x ∧ c = C + 1) ∨ (y ≠ x ∧ X.env.cells.lookup y = some c):=by
  by_cases h:y = x
  · subst h
    rw [lookup_cons_eq] at e
    exact .inl ⟨rfl, (Option.some.inj e).symm⟩
  · rw [lookup_cons_ne h] at e
    exact .inr ⟨h, S.sub I e⟩
theorem Inv.enterC {pins:List (Addr × Obj)} {σ:St} {H:Hp} {s:Shared} {h₁:Heap} {ex:List Addr} {tk:Nat} {pl:List (Addr × Obj)} (S:CompStC X.env.scope scope X.N x ys caps) (hcalm:X.calm = true) (I:Inv X pins σ H s)
    (hn:h₁.Ns s.heap.objs.size (fun _=>none)) (hcl:h₁.IsCell (s.heap.objs.size + 1) none) (keep:∀ b o, s.heap.get? b = some o → h₁.get? b = some o)
    (hex:∀ b ∈ ex, b < s.heap.objs.size ∧ b ∉ frs X.stack ∧ (∀ y c, X.env.cells.lookup y = some c → c ≠ b) ∧ X.base.get? b = none)
    (hpl:∀ p ∈ pl, s.heap.get? p.1 = some p.2 ∧ H p.1 = none ∧ p.1 ∉ frs X.stack ∧ ∀ v, p.2.data ≠ .cell v) :
    Inv (cxCompC X scope x (x :: ys) s H ex (X.pn ++ pins)) pl (none :: caught σ caps) H { s with heap:=h₁, toks:=tk }:=by
  have hL:s.heap.objs.size ≠ X.env.locals:=Nat.ne_of_gt I.lt
  have hCn:∀ b o, s.heap.get? b = some o → b ≠ s.heap.objs.size:=fun b o e=>Nat.ne_of_lt (Heap.lt_size e)
  have cellLt:∀ y c, X.env.cells.lookup y = some c → c < s.heap.objs.size:=fun y c e=>by
    obtain ⟨v, z⟩:=I.cell y c e
    exact z.lt
  have cellUp:∀ {c:Addr} {v:Option Value}, s.heap.IsCell c v → h₁.IsCell c v:=fun {c v} ⟨o, ho, hd⟩=>⟨o, keep c o ho, hd⟩
  refine ⟨⟨I.ok.mod, S.kind, I.ok.glob, I.ok.blt, Nat.le_refl _, fun y z c h1 h2=>?_, fun y hy=>?_, fun y c hf e=>?_, fun _=>I.ok.hd hcalm, I.ok.frames, .inl rfl, fun b hb=>?_, I.bs, Nat.le_trans I.ok.bsz I.sz, fun b o e hb=>?_, fun b hb=>(hex b hb).2.1, I.stack, I.stkFree⟩,
    rfl, I.bare, Un.kept keep, ⟨_, hn, fun i y v e1 e2 e3=>?_⟩, fun y c e=>?_, I.hok.fresh (Nat.le_refl _), fun y c e=>?_, fun p hp=>?_, I.hok.kept keep, ?_⟩
  · rcases S.sub2 I h1 with ⟨e1, e2⟩ | ⟨e1, e2⟩ <;> rcases S.sub2 I h2 with ⟨f1, f2⟩ | ⟨f1, f2⟩
    · rw [e1, f1]
    · exact absurd (cellLt z c f2) (by rw [e2]; exact Nat.not_lt.mpr (Nat.le_succ _))
    · exact absurd (cellLt y c e2) (by rw [f2]; exact Nat.not_lt.mpr (Nat.le_succ _))
    · exact I.ok.inj y z c e2 f2
  · rcases relabel_ofC (env:=X.env) (x:=x) (names:=scope.names) (y:=y) S.only (by
      rcases hy with hy | hy
      · exact ⟨_, hy, .inl rfl⟩
      · exact ⟨_, hy, .inr rfl⟩) with hy' | hy'
    · subst hy'
      exact ⟨_, lookup_cons_eq⟩
    · obtain ⟨c, hc⟩:=lookup_of_key (closOf_has (env:=X.env) (cs:=[]) hy')
      exact ⟨c, (lookup_cons_ne (S.xf _ hy' rfl)).trans hc⟩
  · have hyx:y = x:=by simpa using (show (y == x) = true from hf)
    rcases S.sub2 I e with ⟨_, e2⟩ | ⟨e1, _⟩
    · rw [e2]; exact Nat.le_succ _
    · exact absurd hyx e1
  · refine ⟨Nat.ne_of_lt (hex b hb).1, fun y c e=>?_⟩
    rcases S.sub2 I e with ⟨_, e2⟩ | ⟨_, e2⟩
    · rw [e2]; exact Nat.ne_of_gt (Nat.lt_succ_of_lt (hex b hb).1)
    · exact (hex b hb).2.2.1 y c e2
  · have z:=(hex b hb).2.2.2
    have e':X.base.get? b = some o:=e
    rw [z] at e'; cases e'
  · have e1':(x :: ys)[i]? = some y:=e1
    obtain ⟨i, e1, e2⟩:∃ i':Nat, ys[i']? = some y ∧ (caught σ caps)[i']? = some (some v):=by
      match i, e1', e2 with
      | 0, _, e2=>cases e2
      | i + 1, e1', e2=>exact ⟨i, e1', e2⟩
    obtain ⟨j, hj, hv⟩:∃ j, caps[i]? = some j ∧ σ[j]? = some (some v):=by
      unfold caught at e2
      rw [List.getElem?_map] at e2
      cases q:caps[i]? with
      | none=>rw [q] at e2; cases e2
      | some j =>
        rw [q] at e2
        have e3:(σ[j]?).join = some v:=Option.some.inj e2
        cases q2:σ[j]? with
        | none=>rw [q2] at e3; cases e3
        | some w'=>rw [q2] at e3; exact ⟨j, rfl, by rw [show w' = some v from e3] at q2; exact q2⟩
    have hz:(y, j) ∈ ys.zip caps:=List.mem_of_getElem? (i:=i) (by rw [List.getElem?_zip_eq_some]; exact ⟨e1, hj⟩)
    obtain ⟨hN, hf⟩:=S.cap (y, j) hz
    have hcellX:X.env.kindOf y = some .cell:=S.fr (y, .free) (PySem.mem_of_lookup hf) rfl
    obtain ⟨m, hm, hl⟩:=I.loc
    obtain ⟨u, r, l⟩:=hl j y v hN hv (.inr (.inl hcellX))
    refine ⟨u, r, ?_⟩
    rcases l with ⟨hk, _⟩ | ⟨_, c, hc, hcell⟩
    · rw [hcellX] at hk; cases hk
    · obtain ⟨c', hc'⟩:=lookup_of_key (closOf_has (env:=X.env) (cs:=[]) (PySem.mem_of_lookup hf))
      have:=S.sub I hc'
      rw [hc] at this
      cases this
      exact .inr ⟨.inl (relabel_cell S.fk hf hcellX), c, (lookup_cons_ne (S.xf _ (PySem.mem_of_lookup hf) rfl)).trans hc', cellUp hcell⟩
  · rcases S.sub2 I e with ⟨_, e2⟩ | ⟨_, e2⟩
    · rw [e2]; exact ⟨none, hcl⟩
    · obtain ⟨v, z⟩:=I.cell y c e2
      exact ⟨v, cellUp z⟩
  · rcases S.sub2 I e with ⟨_, e2⟩ | ⟨_, e2⟩
    · rw [e2]; exact I.hok.fresh (Nat.le_succ _)
    · exact I.freeC y c e2
  · rcases List.mem_append.mp hp with hp | hp
    · obtain ⟨a1, a2, a3, a4, a5⟩:=I.pin p hp
      exact ⟨keep _ _ a1, a2, hCn _ _ a1, fun z=>(List.mem_cons.mp (I.stkSub p.1 z)).elim a3 a4, a5⟩
    · obtain ⟨a1, a2, a4, a5⟩:=hpl p hp
      exact ⟨keep _ _ a1, a2, hCn _ _ a1, a4, a5⟩
  · show (none :: caught σ caps).length = (x :: ys).length
    rw [List.length_cons, List.length_cons, caught, List.length_map, S.len]
end
section
variable {X:Cx} {scope:Scope} {x:Str} {ys:List Str} {caps:List Nat} {elt iter tg:Expr} {te:TE} {g:TG} {pos:Pos}
theorem compC_run {pins:List (Addr × Obj)} {σ:St} {H2:Hp} {s2:Shared} {J:It} {fp:List Addr} {it:Addr} {tn:Nat → Heap → Prop} {E:Value → Shared → Prop} {fin:List V → Hp → Prop} {RR:Value → Addr → Result → Shared → Prop}
    (hcalm:X.calm = true) (S:CompStC X.env.scope scope X.N x ys caps) (hg:∀ s H ex pn, PG (cxCompC X scope x (x :: ys) s H ex pn) tg g) (he:∀ s H ex pn, PE (cxCompC X scope x (x :: ys) s H ex pn) elt te)
    (I2:Inv X pins σ H2 s2) (T:Turn X.prog X.w X.K tg J fp it tn) (st2:tn 0 s2.heap) (f2:∀ b ∈ fp, FpOk X pins H2 b) (rd:CompRdG J σ 1 caps g te H2 fin)
    (hRR:∀ (C:Addr) (ysV:List V) (its:List Value) (n:Nat) (H8:Hp) (s8:Shared) (m:Str → Option Value), C = s2.heap.objs.size + 1 → Inv X pins σ H8 s8 → H8 s2.heap.objs.size = none → H8 C = none → Vals ysV its → ysV.length ≤ sizeLine →
      s8.heap.get? s2.heap.objs.size = some (lstO its n) → s8.heap.Ns C m → fin ysV H8 → RR (.ref s2.heap.objs.size) C (.ok .next) s8) :
    wpAny (model X.prog X.w) X.A (newList []) (fun acc s₃=>wpAny (model X.prog X.w) X.A (newFunctionEnv scope X.env.globals (clsOf X scope) [] X.env.qual none .none (some X.env)) (fun cenv s₄ =>
      codeAny (model X.prog X.w) X.A (.compStart (.ListComp elt [⟨tg, iter, [], 0⟩] scope pos) 0 (.ref it) acc { cenv with scope:=relabel scope X.env }) (RR acc cenv.locals) s₄) E s₃) E s2:=by
  obtain ⟨n0, W, hn0, w0, turn⟩:=rd
  refine wpAny_newObj_type (newEnv_cell S.cf S.pc ?_)
  dsimp only
  generalize hg3:s2.heap.push { cls:=.type "list", dict:=none, data:=.seq ([]:List Value).toArray } = g3
  have hC:g3.objs.size = s2.heap.objs.size + 1:=by rw [← hg3, Heap.size_push]
  have up3:∀ b o, s2.heap.get? b = some o → g3.get? b = some o:=fun b o e=>hg3 ▸ Heap.get?_push_of_some _ e
  have I3:Inv X pins σ H2 { s2 with heap:=g3 }:=I2.kept (t':=s2.toks) up3
  have keep:∀ b o, g3.get? b = some o → ((g3.push { cls:=.type "dict", data:=.dict #[] }).push { cls:=.type "cell", data:=.cell none }).get? b = some o:=fun b o e=>Heap.get?_push_of_some _ (Heap.get?_push_of_some _ e)
  have hns:((g3.push { cls:=.type "dict", data:=.dict #[] }).push { cls:=.type "cell", data:=.cell none }).Ns g3.objs.size (fun _=>none):=(Heap.Ns.new g3 (.type "dict")).keeps fun b o e=>Heap.get?_push_of_some _ e
  have hcl:((g3.push { cls:=.type "dict", data:=.dict #[] }).push { cls:=.type "cell", data:=.cell none }).IsCell (g3.objs.size + 1) none:=⟨_, Heap.get?_push_at (Heap.size_push ..).symm rfl, rfl⟩
  generalize (g3.push { cls:=.type "dict", data:=.dict #[] }).push { cls:=.type "cell", data:=.cell none } = h₁ at keep hns hcl ⊢
  have objD:g3.get? s2.heap.objs.size = some (lstO [] 0):=hg3 ▸ Heap.get?_push_size _ rfl
  have hDL:s2.heap.objs.size ≠ X.env.locals:=Nat.ne_of_gt I2.lt
  have hDfs:s2.heap.objs.size ∉ X.fs:=I2.nofs (Nat.le_refl _)
  have hDst:s2.heap.objs.size ∉ frs X.stack:=fun z=>(List.mem_cons.mp (I2.stkSub _ z)).elim hDL hDfs
  have hDc:∀ y c, X.env.cells.lookup y = some c → c ≠ s2.heap.objs.size:=fun y c e=>by
    obtain ⟨v, z⟩:=I2.cell y c e
    exact Nat.ne_of_lt z.lt
  have hDp:∀ p ∈ X.pn ++ pins, p.1 ≠ s2.heap.objs.size:=fun p hp=>Nat.ne_of_lt (Heap.lt_size (I2.pin p hp).1)
  have hfl:∀ b ∈ fp, b < s2.heap.objs.size:=fun b hb=>by
    obtain ⟨o, e, _⟩:=T.obj _ _ st2 b hb
    exact Heap.lt_size e
  have hbz:X.base.objs.size ≤ X.s₀.heap.objs.size:=I2.ok.bsz
  have hch:∀ b ∈ s2.heap.objs.size :: fp, (b ∈ X.ex ∨ X.s₀.heap.objs.size ≤ b) ∧ b ≠ X.env.locals ∧ (∀ y c, X.env.cells.lookup y = some c → c ≠ b) ∧ ∀ p ∈ X.pn ++ pins, p.1 ≠ b:=fun b hb=>by
    rcases List.mem_cons.mp hb with rfl | hb
    · exact ⟨.inr I2.sz, hDL, hDc, hDp⟩
    · obtain ⟨a1, a2, a3, a4, a5, a6⟩:=f2 b hb
      exact ⟨a4, a2, a5, a6⟩
  have hex:∀ b ∈ s2.heap.objs.size :: fp, b < g3.objs.size ∧ b ∉ frs X.stack ∧ (∀ y c, X.env.cells.lookup y = some c → c ≠ b) ∧ X.base.get? b = none:=fun b hb=>by
    have hst:b ∉ frs X.stack:=by
      rcases List.mem_cons.mp hb with rfl | hb
      · exact hDst
      · obtain ⟨a1, a2, a3, a4, a5, a6⟩:=f2 b hb
        exact fun z=>(List.mem_cons.mp (I2.stkSub _ z)).elim a2 a3
    have hlt:b < g3.objs.size:=by
      rw [hC]
      rcases List.mem_cons.mp hb with rfl | hb
      · exact Nat.lt_succ_self _
      · exact Nat.lt_succ_of_lt (hfl b hb)
    refine ⟨hlt, hst, (hch b hb).2.2.1, ?_⟩
    cases q:X.base.get? b with
    | none=>rfl
    | some o =>
      rcases (hch b hb).1 with z | z
      · exact absurd z (I2.ok.noex b o q)
      · exact absurd (Nat.lt_of_lt_of_le (Heap.lt_size q) (Nat.le_trans hbz z)) (Nat.lt_irrefl _)
  have hD2:H2 s2.heap.objs.size = none:=I2.hok.fresh (Nat.le_refl _)
  have I4:Inv (cxCompC X scope x (x :: ys) { s2 with heap:=g3 } H2 (s2.heap.objs.size :: fp) (X.pn ++ pins)) [(s2.heap.objs.size, lstO [] 0)] (none :: caught σ caps) H2 { s2 with heap:=h₁ } :=
    Inv.enterC (tk:=s2.toks) S hcalm I3 hns hcl keep hex fun p hp=>by
      have e:p = (s2.heap.objs.size, lstO [] 0):=by simpa using hp
      subst e
      exact ⟨objD, hD2, hDst, fun v z=>nomatch z⟩
  have st4:tn 0 h₁:=T.keep _ _ _ st2 fun b hb o e=>keep b o (up3 b o e)
  generalize hY:cxCompC X scope x (x :: ys) { s2 with heap:=g3 } H2 (s2.heap.objs.size :: fp) (X.pn ++ pins) = Y at I4
  have yP:Y.prog = X.prog:=by rw [← hY]; rfl
  have yW:Y.w = X.w:=by rw [← hY]; rfl
  have yK:Y.K = X.K:=by rw [← hY]; rfl
  have yA:Y.A = X.A:=by rw [← hY]; rfl
  have yC:Y.calm = true:=by rw [← hY]; exact hcalm
  have yX:Y.xe = fun _ _=>False:=by rw [← hY]; rfl
  have yN:Y.N = x :: ys:=by rw [← hY]; rfl
  have yE:Y.env = compEnvC scope (clsC X scope x g3.objs.size) g3.objs.size X.env:=by rw [← hY]; rfl
  have yex:Y.ex = s2.heap.objs.size :: fp:=by rw [← hY]; rfl
  have ypn:Y.pn = X.pn ++ pins:=by rw [← hY]; rfl
  have yfs:Y.fs = frs X.stack:=by rw [← hY]; rfl
  have ybase:∀ {pl σ' H' s'}, Inv Y pl σ' H' s' → Un (frs X.stack) (s2.heap.objs.size :: fp) H2 H' g3 s'.heap ∧ s'.os = s2.os:=by
    intro pl σ' H' s' I
    rw [← hY] at I
    exact ⟨I.base, I.os⟩
  have yhg:PG Y tg g:=by rw [← hY]; exact hg _ _ _ _
  have yhe:PE Y elt te:=by rw [← hY]; exact he _ _ _ _
  have ycl:∀ b, b < g3.objs.size → (∀ y c, X.env.cells.lookup y = some c → c ≠ b) → ∀ y c, Y.env.cells.lookup y = some c → c ≠ b:=fun b hb hX y c e=>by
    rw [yE] at e
    rcases S.sub2 I2 e with ⟨_, e2⟩ | ⟨_, e2⟩
    · rw [e2]; exact Nat.ne_of_gt (Nat.lt_succ_of_lt hb)
    · exact hX y c e2
  have yfp:∀ {H':Hp} {o:Obj}, (∀ b ∈ fp, H' b = none) → ∀ b ∈ fp, FpOk Y [(s2.heap.objs.size, o)] H' b:=fun {H' o} hn b hb=>by
    obtain ⟨a1, a2, a3, a4, a5, a6⟩:=f2 b hb
    refine ⟨hn b hb, ?_, ?_, ?_, ycl b (hex b (List.mem_cons_of_mem _ hb)).1 a5, fun p hp=>?_⟩
    · rw [yE]; exact Nat.ne_of_lt (hex b (List.mem_cons_of_mem _ hb)).1
    · rw [yfs]; exact (hex b (List.mem_cons_of_mem _ hb)).2.1
    · rw [yex]; exact .inl (List.mem_cons_of_mem _ hb)
    · rw [ypn] at hp
      rcases List.mem_append.mp hp with hp | hp
      · exact a6 p hp
      · have e:p = (s2.heap.objs.size, o):=by simpa using hp
        subst e
        exact Nat.ne_of_gt (hfl b hb)
  have loop:∀ s₃:Shared, s₃ = { s2 with heap:=h₁ } →
      codeAny (model X.prog X.w) X.A (.compLoop (.ListComp elt [⟨tg, iter, [], 0⟩] scope pos) 0 (.ref it) (.ref s2.heap.objs.size) (compEnvC scope (clsC X scope x g3.objs.size) g3.objs.size X.env)) (RR (.ref s2.heap.objs.size) g3.objs.size) s₃:=by
    rintro s₃ rfl
    refine codeAny_loop rfl (fun k s'=>∃ i ysV its cnt H' os, os.length = 1 ∧ k = n0 + 1 - i ∧ Inv Y [(s2.heap.objs.size, lstO its cnt)] (os ++ caught σ caps) H' s' ∧ tn i s'.heap ∧ (∀ b ∈ fp, H' b = none) ∧ Vals ysV its ∧ ysV.length = i ∧ i ≤ n0 ∧ W i ysV H') ?_ (n0 + 1)
      ⟨0, [], [], 0, H2, [none], rfl, rfl, I4, st4, fun b hb=>(f2 b hb).1, .nil, rfl, Nat.zero_le _, w0⟩
    rintro k s' ⟨i, ysV, its, cnt, H', os, hos, rfl, I', tni, frn, vv, hlen, hin, hw⟩
    show wpAny _ _ ((compTurn (.ListComp elt [⟨tg, iter, [], 0⟩] scope pos) 0 (.ref it) (.ref s2.heap.objs.size) (compEnvC scope (clsC X scope x g3.objs.size) g3.objs.size X.env)).onRaise (fun ee=>do noteFrame ee (compEnvC scope (clsC X scope x g3.objs.size) g3.objs.size X.env); theTreesLotGoes ee)) _ _ s'
    refine wpAny_noted ?_
    rw [compTurn_list1]
    have fpok:=yfp (o:=lstO its cnt) frn
    rcases turn i ysV H' hin hlen hw with ⟨stop, hfin⟩ | ⟨hlt, go, step⟩
    · refine wpAny_bind (wpAny_standAt (wpAny_bind (thn (Q:=fun r s1=>r = none ∧ Inv Y [(s2.heap.objs.size, lstO its cnt)] (os ++ caught σ caps) H' s1) ?_ fun r s1 ⟨hr, I1⟩=>?_)))
      · have:=T.done Y yP yW yK yC i _ s' _ H' (notedBy (model X.prog X.w) X.A (compEnvC scope (clsC X scope x g3.objs.size) g3.objs.size X.env) fun e s'=>RR (.ref s2.heap.objs.size) g3.objs.size (.error e) s') I' fpok tni stop
        rw [yA] at this
        exact this
      · subst hr
        refine wpAny_pure ?_
        obtain ⟨ub, uo⟩:=ybase I1
        obtain ⟨m, hm, _⟩:=I1.loc
        obtain ⟨p1, p2, _⟩:=I1.pin (s2.heap.objs.size, lstO its cnt) (List.mem_append_right _ List.mem_cons_self)
        have hok:HOk X.prog X.w H' s1.heap:=by have:=I1.hok; rw [yP, yW] at this; exact this
        have hCf:=I1.free
        rw [yE] at hm hCf
        refine hRR g3.objs.size ysV its cnt H' s1 m hC (I3.call' uo ub hok I1.bare hch) p2 hCf vv (by omega) p1 hm hfin
    · refine wpAny_bind (wpAny_standAt (wpAny_bind (thn (Q:=fun r s1=>∃ u, r = some u ∧ wpAny (model X.prog X.w) X.A (letOwnedTupleGo tg (.ref it) u) (fun _ s5=>∃ x H5, Inv Y [(s2.heap.objs.size, lstO its cnt)] (os ++ caught σ caps) H5 s5 ∧ RelV x u ∧ J.yld i H' x H5 ∧ tn (i + 1) s5.heap ∧ ∀ b ∈ fp, H5 b = none)
          (notedBy (model X.prog X.w) X.A (compEnvC scope (clsC X scope x g3.objs.size) g3.objs.size X.env) fun e s'=>RR (.ref s2.heap.objs.size) g3.objs.size (.error e) s') s1) ?_ fun r s1 ⟨u, hr, h4⟩=>?_)))
      · have:=T.item Y yP yW yK yC i _ s' _ H' (notedBy (model X.prog X.w) X.A (compEnvC scope (clsC X scope x g3.objs.size) g3.objs.size X.env) fun e s'=>RR (.ref s2.heap.objs.size) g3.objs.size (.error e) s') I' fpok tni go
        rw [yA] at this
        exact this
      · subst hr
        refine wpAny_bind (thn h4 fun _ s5 ⟨xv, H5, I5, r5, y5, st5, fr5⟩=>?_)
        have I5':=I5.pinned (yfp fr5) (T.obj _ _ st5)
        have sto:=yhg _ s5 _ H5 xv u _ I5' r5 (step xv H5 y5 os hos)
        rw [yP, yW, yA, yE] at sto
        refine wpAny_bind (nxE yX sto fun _ s6 ⟨σ6, H6, I6, ⟨os', hos', e6⟩, t6⟩=>?_)
        subst e6
        have ev:=yhe _ s6 _ H6 _ I6 t6
        rw [yP, yW, yA, yE] at ev
        refine wpAny_bind (wpAny_bind (nxE yX ev fun yv s7 ⟨y, H7, I7, r7, w7⟩=>?_))
        obtain ⟨zD, hD7, hDl7, hDf7, _⟩:=I7.pin (s2.heap.objs.size, lstO its cnt) (List.mem_append_right _ (List.mem_append_left _ List.mem_cons_self))
        have hil:=vv.length
        refine wpAny_bind (append_at zD (fun h8 sb8 d8=>wpAny_pure (wpAny_pure ⟨rfl, ?_⟩)) (by rw [List.size_toArray]; omega))
        have I7':Inv Y [] (os' ++ caught σ caps) H7 s7:=I7.pins_of fun p hp=>nomatch hp
        have I8:Inv Y [] (os' ++ caught σ caps) H7 { s7 with heap:=h8 }:=I7'.turned (t':=s7.toks) (fun b ob hb e=>(sb8.2 b hb).trans e) hD7 hDl7 (.inl (by rw [yex]; exact List.mem_cons_self)) (ycl _ (by rw [hC]; exact Nat.lt_succ_self _) hDc) (fun p hp=>by
          rw [ypn, List.append_nil] at hp
          exact hDp p hp)
        have I9:Inv Y [(s2.heap.objs.size, lstO (its ++ [yv]) (cnt + 1))] (os' ++ caught σ caps) H7 { s7 with heap:=h8 }:=I8.pins_of fun p hp=>by
          have e:p = (s2.heap.objs.size, lstO (its ++ [yv]) (cnt + 1)):=by simpa using hp
          subst e
          refine ⟨?_, hD7, hDl7, hDf7, fun v z=>nomatch z⟩
          show h8.get? s2.heap.objs.size = some { cls:=.type "list", data:=.seq (its ++ [yv]).toArray (cnt + 1) }
          rw [d8, List.push_toArray]
        refine ⟨n0 + 1 - (i + 1), by omega, i + 1, ysV ++ [y], its ++ [yv], cnt + 1, H7, os', hos', rfl, I9, ?_, ?_, vv.append (.cons r7 .nil), by rw [List.length_append, hlen]; rfl, hlt, w7⟩
        · refine T.keep _ _ _ st5 fun b hb ob e=>(sb8.2 b (Nat.ne_of_lt (hfl b hb))).trans ?_
          exact (I7.pin (b, ob) (List.mem_append_right _ (List.mem_append_right _ (mem_pinsAt hb e)))).1
        · intro b hb
          obtain ⟨ob, e, _⟩:=T.obj _ _ st5 b hb
          exact (I7.pin (b, ob) (List.mem_append_right _ (List.mem_append_right _ (mem_pinsAt hb e)))).2.1
  exact codeAny_compStart_list (loop _ rfl) (T.self _ 0 _ _ _ st4 (loop _ rfl))
theorem pe_compHC {wi:TI} {RD:St → VK → It → Hp → Prop} (hRD:∀ σ Q J H1, RD σ Q J H1 → CompRdG J σ 1 caps g te H1 fun ys H2=>∀ p, H2 p = none → Q (.ref p) (upd H2 p (.lst ys))) {FS:Scope} {N:List Str} (S0:CompStC FS scope N x ys caps) (hFS:X.env.scope = FS) (hN0:X.N = N) (hcalm:X.calm = true) (hi:PI X tg iter wi) (hg:∀ s H ex pn, PG (cxCompC X scope x (x :: ys) s H ex pn) tg g) (he:∀ s H ex pn, PE (cxCompC X scope x (x :: ys) s H ex pn) elt te)
    (hs:∀ v, foldedSetIterable iter X.env v = pure v:=by intro _; rfl):PE X (.ListComp elt [⟨tg, iter, [], 0⟩] scope pos) (fun σ H Q=>wi σ H (RD σ Q)):=by
  have S:CompStC X.env.scope scope X.N x ys caps:=by rw [hFS, hN0]; exact S0
  intro pins s σ H Q I h
  rw [eval_ListComp]
  refine wpAny_comprehension_free (use:=none) rfl hs (closureFor_eq (S.cells I)) S.kind S.names (thn (hi pins s σ H _ I h) fun v s1 h1=>thn h1 fun itv s2 h2=>?_)
  obtain ⟨it, fp, tn, J, H2, rfl, I2, T, st2, f2, rd⟩:=h2
  refine compC_run (RR:=fun acc C=>compPost (model X.prog X.w) X.A X.xe none (EP X pins σ Q) acc C) hcalm S hg he I2 T st2 f2 (hRD _ _ _ _ rd) ?_
  intro C ysV its n H8 s8 m hC I8 hD hC8 vv hz oD hn fin
  refine ⟨m, hn, fun h' sb=>?_⟩
  have sz:=I2.sz
  have lt:=I2.lt
  have ap:∀ b:Addr, b < s2.heap.objs.size → b ≠ C ∧ C ≠ b:=fun b hb=>by
    subst hC
    exact ⟨Nat.ne_of_lt (Nat.lt_succ_of_lt hb), Nat.ne_of_gt (Nat.lt_succ_of_lt hb)⟩
  have szC:X.s₀.heap.objs.size ≤ C:=by subst hC; exact Nat.le_succ_of_le sz
  have DC:s2.heap.objs.size ≠ C:=by subst hC; exact Nat.ne_of_lt (Nat.lt_succ_self _)
  have cl:∀ y c, X.env.cells.lookup y = some c → c < s2.heap.objs.size:=fun y c e=>by
    obtain ⟨w', z⟩:=I2.cell y c e
    exact z.lt
  have pl:∀ p ∈ X.pn ++ pins, p.1 < s2.heap.objs.size:=fun p hp=>Heap.lt_size (I2.pin p hp).1
  have I9:Inv X pins σ H8 { s8 with heap:=h' }:=I8.turned (t':=s8.toks) (fun b o hb e=>(sb.2 b hb).trans e) hC8 (ap _ lt).2 (.inr szC) (fun y c e=>(ap c (cl y c e)).1) (fun p hp=>(ap p.1 (pl p hp)).1)
  have oD':h'.get? s2.heap.objs.size = some (lstO its n):=(sb.2 _ DC).trans oD
  exact ⟨.ref s2.heap.objs.size, upd H8 s2.heap.objs.size (.lst ysV), I9.adopt hD sz (Nat.ne_of_gt lt) (fun y c e=>Nat.ne_of_lt (cl y c e)) (fun p hp=>Nat.ne_of_lt (pl p hp)) ⟨hz, its, n, vv, oD'⟩, rfl, fin _ hD⟩
theorem pgc_cell {X:Cx} {scope:Scope} {x:Str} {NY:List Str} {s:Shared} {H:Hp} {ex:List Addr} {pn:List (Addr × Obj)} {px:Pos} (hN:(x :: NY).Nodup) (hx:scope.names.lookup x = some .cell):PG (cxCompC X scope x (x :: NY) s H ex pn) (.Name x px) (gName 0) :=
  pg_name (X:=cxCompC X scope x (x :: NY) s H ex pn) hN rfl (.inr (lookup_relabel_cell hx)) (.inl (show (x == x) = true by simp))
end
section
variable {X:Cx} {scope:Scope} {x:Str} {ys:List Str} {caps:List Nat} {elt iter:Expr} {te:TE} {px pos:Pos}
theorem pe_compC {wi:TI} {FS:Scope} {N:List Str} (S0:CompStC FS scope N x ys caps) (hFS:X.env.scope = FS) (hN0:X.N = N) (hcalm:X.calm = true) (hi:PI X (.Name x px) iter wi) (he:CompStC X.env.scope scope X.N x ys caps → ∀ s H ex pn, PE (cxCompC X scope x (x :: ys) s H ex pn) elt te)
    (hs:∀ v, foldedSetIterable iter X.env v = pure v:=by intro _; rfl):PE X (.ListComp elt [⟨.Name x px, iter, [], 0⟩] scope pos) (tComp wi caps te) :=
  pe_compHC (g:=gName 0) (fun _ _ _ _ h=>CompRd.toG h) S0 hFS hN0 hcalm hi (fun _ _ _ _=>pgc_cell S0.nd S0.xc) (he (by rw [hFS, hN0]; exact S0)) hs
end
structure CompIn (scope scI:Scope) (own:Bool) (x:Str) (NY:List Str) (z:Str) (zs:List Str) (caps:List Nat):Prop where
  ncell:∀ y ∈ scI.names, y.2 ≠ .cell
  kind:scI.kind = .function
  names:∀ y ∈ scI.names, y.2 = .local → scI.names.lookup y.1 = some .local
  loc:scI.names.lookup z = some .local
  fr:∀ p ∈ scI.names, p.2 = .free → (own = true ∧ p.1 = x) ∨ scope.names.lookup p.1 = some .free
  cap:∀ p ∈ zs.zip caps, NY[p.2]? = some p.1 ∧ scI.names.lookup p.1 = some .free
  len:zs.length = caps.length
  nd:(z :: zs).Nodup
section
variable {X:Cx} {scope scI:Scope} {x z:Str} {ys zs:List Str} {caps capsI:List Nat} {elt iter:Expr} {te:TE} {pz pos:Pos} {wi:TI} {s:Shared} {H:Hp} {ex:List Addr} {pn:List (Addr × Obj)}
theorem pe_compInC (S:CompStC X.env.scope scope X.N x ys caps) (C:CompIn scope scI true x (x :: ys) z zs capsI) (hcalm:X.calm = true) (hi:PI (cxCompC X scope x (x :: ys) s H ex pn) (.Name z pz) iter wi)
    (he:∀ s' H' ex' pn', PE (cxComp (cxCompC X scope x (x :: ys) s H ex pn) scI (z :: zs) s' H' ex' pn') elt te)
    (hs:∀ v, foldedSetIterable iter (cxCompC X scope x (x :: ys) s H ex pn).env v = pure v:=by intro _; rfl):PE (cxCompC X scope x (x :: ys) s H ex pn) (.ListComp elt [⟨.Name z pz, iter, [], 0⟩] scI pos) (tComp wi capsI te):=by
  refine pe_comp (FS:=relabel scope X.env) (N:=x :: ys) ⟨C.ncell, C.kind, C.names, C.loc, fun p hp hf=>?_, S.kind, C.cap, C.len, C.nd⟩ rfl rfl hcalm hi he hs
  rcases C.fr p hp hf with ⟨_, e⟩ | e
  · rw [e]; exact lookup_relabel_cell S.xc
  · exact relabel_cell S.fk e (S.fr (p.1, .free) (PySem.mem_of_lookup e) rfl)
end
end L2
namespace L2
open PySem PySem.Spec PyProof.Rows
section
variable {prog:Program} {w:World} {A:Around} {E:Value → Shared → Prop} {s:Shared}
noncomputable def NxOk (prog:Program) (w:World) (A:Around) (it:Addr) (x:Value) (P P':Heap → Prop):Prop :=
  ∀ (s:Shared) (Q:Value → Shared → Prop) (E:Value → Shared → Prop), P s.heap → (∀ g, P' g → Heap.SameBut it s.heap g → Q x { s with heap:=g }) → wpAny (model prog w) A (Builtin.SmallTypes.nextOf (.ref it)) Q E s
noncomputable def NxEnd (prog:Program) (w:World) (A:Around) (it:Addr) (P:Heap → Prop):Prop :=
  ∀ (s:Shared) (Q:Value → Shared → Prop) (E:Value → Shared → Prop), P s.heap → (∀ g e, Heap.ExtBut it s.heap g → (∃ o, g.get? e = some o ∧ o.cls = .type "StopIteration") → E (.ref e) { s with heap:=g }) → wpAny (model prog w) A (Builtin.SmallTypes.nextOf (.ref it)) Q E s
noncomputable def On2 (it l:Addr) (P:Heap → Prop):Prop:=∀ g g', P g → (∀ o, g.get? it = some o → g'.get? it = some o) → (∀ o, g.get? l = some o → g'.get? l = some o) → P g'
theorem nx_list {it l:Addr} {k:Nat} {xs:Array Value} {x:Value} (hn:l ≠ it) (hx:xs[k]? = some x):NxOk prog w A it x (fun g=>g.IsListIter it l k ∧ g.IsList l xs) (fun g=>g.IsListIter it l (k + 1) ∧ g.IsList l xs) :=
  fun _ _ _ p q=>wpAny_nextOf_list_item p.1 p.2 hx fun g a b=>q g ⟨a, p.2.extBut b.extBut hn⟩ b
theorem nx_list_end (hh:A.handled = none) {it l:Addr} {k:Nat} {xs:Array Value} (hx:xs[k]? = none):NxEnd prog w A it (fun g=>g.IsListIter it l k ∧ g.IsList l xs) :=
  fun _ _ _ p q=>wpAny_nextOf_list_end hh p.1 p.2 hx q
theorem on_list {it l:Addr} {k:Nat} {xs:Array Value}:On2 it l fun g=>g.IsListIter it l k ∧ g.IsList l xs:=fun _ _ p a b=>⟨p.1.at a, p.2.at b⟩
theorem on_tuple {it l:Addr} {k:Nat} {xs:Array Value}:On2 it l fun g=>g.IsTupleIter it l k ∧ g.IsTuple l xs:=fun _ _ p a b =>
  ⟨p.1.at a, let ⟨o, e, r⟩:=p.2; ⟨o, b o e, r⟩⟩
theorem nx_tuple {it l:Addr} {k:Nat} {xs:Array Value} {x:Value} (hn:l ≠ it) (hx:xs[k]? = some x):NxOk prog w A it x (fun g=>g.IsTupleIter it l k ∧ g.IsTuple l xs) (fun g=>g.IsTupleIter it l (k + 1) ∧ g.IsTuple l xs):=by
  intro s Q E p q
  obtain ⟨p1, p2⟩:=p
  obtain ⟨o, ho, hc, hd⟩:=id p1
  obtain ⟨ol, hol, _, nl, hdl⟩:=id p2
  unfold Builtin.SmallTypes.nextOf
  refine wpAny_bind (wpAny_callSpecial?_slot (name:="__next__") p1.typeIs F.slot_tuple_iterator_next (wpAny_call_entry F.slot_tuple_iterator_next p1.typeIs F.entry_tuple_iterator_next ?_ (F.args_tuple_iterator_next_1 _)))
  show wpAny _ _ (field _ 0 >>= _) _ _ s
  refine wpAny_bind (wpAny_field ho hd (x:=.ref l) rfl ?_)
  show wpAny _ _ (if (Value.ref l == Value.none) = true then _ else _) _ _ s
  have ne:¬ ((Value.ref l == Value.none) = true):=fun z=>nomatch (show false = true from z)
  rw [if_neg ne]
  show wpAny _ _ (field _ 1 >>= _) _ _ s
  refine wpAny_bind (wpAny_field ho hd (x:=.int k 0) rfl ?_)
  show wpAny _ _ (seqItems? _ >>= _) _ _ s
  refine wpAny_bind (wpAny_seqItems hol hdl ?_)
  simp only [Int.toNat_natCast, hx]
  refine wpAny_bind (wpAny_setField ho hd (by simp) (wpAny_pure ⟨x, rfl, wpAny_pure (q _ ⟨?_, ?_⟩ (Heap.SameBut.update ..))⟩))
  · exact ⟨_, Heap.get?_update_self _ ho (Obj.isFreed_of_fields (Obj.data_mapFields hd _)), (Obj.cls_mapFields ..).trans hc, by rw [Obj.data_mapFields hd]; simp [rawInt]⟩
  · exact p2.extBut (Heap.SameBut.update ..).extBut hn
theorem nx_tuple_end (hh:A.handled = none) {it l:Addr} {k:Nat} {xs:Array Value} (hx:xs[k]? = none):NxEnd prog w A it (fun g=>g.IsTupleIter it l k ∧ g.IsTuple l xs):=by
  intro s Q E p q
  obtain ⟨p1, p2⟩:=p
  obtain ⟨o, ho, hc, hd⟩:=id p1
  obtain ⟨ol, hol, _, nl, hdl⟩:=id p2
  unfold Builtin.SmallTypes.nextOf
  refine wpAny_bind (wpAny_callSpecial?_slot (name:="__next__") p1.typeIs F.slot_tuple_iterator_next (wpAny_call_entry F.slot_tuple_iterator_next p1.typeIs F.entry_tuple_iterator_next ?_ (F.args_tuple_iterator_next_1 _)))
  show wpAny _ _ (field _ 0 >>= _) _ _ s
  refine wpAny_bind (wpAny_field ho hd (x:=.ref l) rfl ?_)
  show wpAny _ _ (if (Value.ref l == Value.none) = true then _ else _) _ _ s
  have ne:¬ ((Value.ref l == Value.none) = true):=fun z=>nomatch (show false = true from z)
  rw [if_neg ne]
  show wpAny _ _ (field _ 1 >>= _) _ _ s
  refine wpAny_bind (wpAny_field ho hd (x:=.int k 0) rfl ?_)
  show wpAny _ _ (seqItems? _ >>= _) _ _ s
  refine wpAny_bind (wpAny_seqItems hol hdl ?_)
  simp only [Int.toNat_natCast, hx]
  refine wpAny_bind (wpAny_rule (wpAny_bind (wpAny_setField ho hd (by simp) ?_)))
  show wpAny _ _ (newExc _ [] >>= _) _ _ _
  refine wpAny_bind ?_
  simp only [newExc, newTuple]
  refine wpAny_bind (wpAny_newObj_type ?_ (by size_fits))
  refine wpAny_bind (m:=firstArgMember _ _) (wpAny_of_eq (a:=Value.none) (by first | rfl | (simp only [firstArgMember]; rfl)) ?_)
  refine wpAny_newObj_type ?_ (by size_fits)
  simp only [raiseNew]
  refine wpAny_bind (wpAny_handled ?_)
  first | rw [show A.in1.handled = none from hh] | rw [hh]
  refine wpAny_bind (wpAny_pure (wpAny_throw ?_))
  exact q _ _ (((Heap.SameBut.update ..).extBut.push _).push _) ⟨_, Heap.get?_push_size _ rfl, rfl⟩
theorem zp_item {z tI tO j1 j2 m1 m2:Addr} {x y u v:Value} {P1 P1' P2 P2':Heap → Prop} {Q:Value → Shared → Prop} (D:ZipApart z tI tO j1 j2 m1 m2) (kz:IsZip s.heap z tI tO .none) (kI:IsPair s.heap tI (.ref j1) (.ref j2)) (kO:IsPair s.heap tO u v)
    (n1:NxOk prog w A j1 x P1 P1') (n2:NxOk prog w A j2 y P2 P2') (o1:On2 j1 m1 P1) (o1':On2 j1 m1 P1') (o2:On2 j2 m2 P2) (o2':On2 j2 m2 P2') (p1:P1 s.heap) (p2:P2 s.heap)
    (jl1:j1 < s.heap.objs.size) (jl2:j2 < s.heap.objs.size)
    (k:∀ g, IsZip g z tI tO (rawInt s.heap.objs.size) → IsPair g tO x y → P1' g → P2' g → IsPair g s.heap.objs.size x y → g.objs.size = s.heap.objs.size + 1 →
      (∀ c o, c ≠ z → c ≠ tO → c ≠ j1 → c ≠ j2 → s.heap.get? c = some o → g.get? c = some o) → Q (.ref s.heap.objs.size) { s with heap:=g }) :
    wpAny (model prog w) A (Builtin.«zip.__next__» ⟨[.ref z], []⟩) (fun fin s'=>∃ r, fin = .done (.ret r) ∧ Q r s') E s:=by
  show wpAny _ _ (field _ 2 >>= _) _ _ _
  refine wpAny_bind (wpAny_field kz rfl (x:=.bool false) rfl ?_)
  show wpAny _ _ (field _ 3 >>= _) _ _ _
  refine wpAny_bind (wpAny_field kz rfl (x:=.ref tI) rfl (wpAny_bind (wpAny_seqItems kI rfl ?_)))
  show wpAny _ _ (Builtin.SmallTypes.ownedTupleIsFree _ >>= _) _ _ _
  refine wpAny_bind ?_
  unfold Builtin.SmallTypes.ownedTupleIsFree
  refine wpAny_bind (wpAny_field kz rfl (x:=.none) rfl (wpAny_pure ?_))
  simp only [if_true]
  refine wpAny_bind (wpAny_rule (wpAny_bind (wpAny_field kz rfl (x:=.ref tO) rfl (wpAny_bind (wpAny_setField_rec kz (by simp) fun g1 z1 b1=>?_)))))
  replace z1:IsZip g1 z tI tO .ellipsis:=z1
  refine wpAny_bind ?_
  simp only [List.zipIdx_cons, List.zipIdx_nil, List.forIn_cons, List.forIn_nil]
  refine wpAny_bind (wpAny_bind (wpAny_onRaise ?_))
  show wpAny _ _ (Builtin.SmallTypes.nextOf _ >>= _) _ _ _
  have up1:∀ c o, c ≠ z → s.heap.get? c = some o → g1.get? c = some o:=fun c o h e=>b1.extBut _ _ h e
  refine wpAny_bind (n1 { s with heap:=g1 } _ _ (o1 _ _ p1 (fun o e=>up1 _ o D.i1z e) fun o e=>up1 _ o D.l1z e) fun g2 q2 b2=>wpAny_pure ?_)
  have b2:Heap.SameBut j1 g1 g2:=b2
  have up2:∀ c o, c ≠ j1 → g1.get? c = some o → g2.get? c = some o:=fun c o h e=>b2.extBut _ _ h e
  have t2:IsPair g2 tO u v:=up2 _ _ D.TOi1 (up1 _ _ D.TOz kO)
  refine wpAny_bind (wpAny_seqItems t2 rfl (wpAny_bind (wpAny_updateSeq_pair t2 fun g3 t3 b3=>?_)))
  replace t3:IsPair g3 tO x v:=t3
  have b3:Heap.SameBut tO g2 g3:=b3
  have up3:∀ c o, c ≠ tO → g2.get? c = some o → g3.get? c = some o:=fun c o h e=>b3.extBut _ _ h e
  refine wpAny_bind (wpAny_letGo (wpAny_pure (wpAny_bind (wpAny_bind (wpAny_onRaise ?_)))))
  show wpAny _ _ (Builtin.SmallTypes.nextOf _ >>= _) _ _ _
  refine wpAny_bind (n2 { s with heap:=g3 } _ _ (o2 _ _ p2 (fun o e=>up3 _ o D.TOi2.symm (up2 _ o D.i12.symm (up1 _ o D.i2z e))) fun o e=>up3 _ o D.l2TO (up2 _ o D.l2i1 (up1 _ o D.l2z e))) fun g4 q4 b4=>wpAny_pure ?_)
  have b4:Heap.SameBut j2 g3 g4:=b4
  have up4:∀ c o, c ≠ j2 → g3.get? c = some o → g4.get? c = some o:=fun c o h e=>b4.extBut _ _ h e
  have t4:IsPair g4 tO x v:=up4 _ _ D.TOi2 t3
  refine wpAny_bind (wpAny_seqItems t4 rfl (wpAny_bind (wpAny_updateSeq_pair t4 fun g5 t5 b5=>?_)))
  replace t5:IsPair g5 tO x y:=t5
  have b5:Heap.SameBut tO g4 g5:=b5
  have up5:∀ c o, c ≠ tO → g4.get? c = some o → g5.get? c = some o:=fun c o h e=>b5.extBut _ _ h e
  refine wpAny_bind (wpAny_letGo (wpAny_pure (wpAny_pure (wpAny_bind (wpAny_seqItems t5 rfl (wpAny_bind (wpAny_newTuple ?_)))))))
  have sz:g5.objs.size = s.heap.objs.size:=by rw [b5.1, b4.1, b3.1, b2.1, b1.1]
  have z5:IsZip g5 z tI tO .ellipsis:=up5 _ _ D.TOz.symm (up4 _ _ D.i2z.symm (up3 _ _ D.TOz.symm (up2 _ _ D.i1z.symm z1)))
  have zl:z < g5.objs.size:=Heap.lt_size z5
  show wpAny _ _ (Builtin.SmallTypes.ownedTupleHandOut _ (.ref g5.objs.size) >>= _) _ _ _
  refine wpAny_bind ?_
  unfold Builtin.SmallTypes.ownedTupleHandOut
  refine wpAny_bind (wpAny_setField_rec (Heap.get?_push_of_some _ z5) (by simp) fun g7 z7 b7=>?_)
  replace z7:IsZip g7 z tI tO (rawInt g5.objs.size):=z7
  refine wpAny_setField_rec z7 (by simp) fun g8 z8 b8=>?_
  replace z8:IsZip g8 z tI tO (rawInt g5.objs.size):=z8
  have up8:∀ c o, c ≠ z → g5.get? c = some o → g8.get? c = some o:=fun c o h e=>b8.extBut _ _ h (b7.extBut _ _ h (Heap.get?_push_of_some _ e))
  have t8:IsPair g8 g5.objs.size x y:=b8.extBut _ _ (Nat.ne_of_gt zl) (b7.extBut _ _ (Nat.ne_of_gt zl) (Heap.get?_push_size _ rfl))
  have s8:g8.objs.size = g5.objs.size + 1:=by rw [b8.1, b7.1, Heap.size_push]
  rw [sz] at z8 t8 s8
  refine wpAny_pure ⟨_, rfl, ?_⟩
  show Q (.ref g5.objs.size) _
  rw [sz]
  refine k g8 z8 (up8 _ _ D.TOz t5) (o1' _ _ q2 (fun o e=>up8 _ o D.i1z (up5 _ o D.TOi1.symm (up4 _ o D.i12 (up3 _ o D.TOi1.symm e)))) fun o e=>up8 _ o D.l1z (up5 _ o D.l1TO (up4 _ o D.l1i2 (up3 _ o D.l1TO e))))
    (o2' _ _ q4 (fun o e=>up8 _ o D.i2z (up5 _ o D.TOi2.symm e)) fun o e=>up8 _ o D.l2z (up5 _ o D.l2TO e)) t8 s8 fun c o c1 c2 c3 c4 e=>up8 c o c1 (up5 c o c2 (up4 c o c4 (up3 c o c2 (up2 c o c3 (up1 c o c1 e)))))
theorem zp_end {z tI tO j1 j2 m1 m2:Addr} {u v:Value} {P1 P2:Heap → Prop} {Q:Fin → Shared → Prop} (D:ZipApart z tI tO j1 j2 m1 m2) (kz:IsZip s.heap z tI tO .none) (kI:IsPair s.heap tI (.ref j1) (.ref j2)) (kO:IsPair s.heap tO u v)
    (o1:On2 j1 m1 P1) (o2:On2 j2 m2 P2) (p1:P1 s.heap) (p2:P2 s.heap) (ends:NxEnd prog w A j1 P1 ∨ ∃ x P1', NxOk prog w A j1 x P1 P1' ∧ NxEnd prog w A j2 P2)
    (k:∀ g e, (∀ c o, c ≠ z → c ≠ tO → c ≠ j1 → c ≠ j2 → s.heap.get? c = some o → g.get? c = some o) → (∃ o, g.get? e = some o ∧ o.cls = .type "StopIteration") → E (.ref e) { s with heap:=g }) :
    wpAny (model prog w) A (Builtin.«zip.__next__» ⟨[.ref z], []⟩) Q E s:=by
  show wpAny _ _ (field _ 2 >>= _) _ _ _
  refine wpAny_bind (wpAny_field kz rfl (x:=.bool false) rfl ?_)
  show wpAny _ _ (field _ 3 >>= _) _ _ _
  refine wpAny_bind (wpAny_field kz rfl (x:=.ref tI) rfl (wpAny_bind (wpAny_seqItems kI rfl ?_)))
  show wpAny _ _ (Builtin.SmallTypes.ownedTupleIsFree _ >>= _) _ _ _
  refine wpAny_bind ?_
  unfold Builtin.SmallTypes.ownedTupleIsFree
  refine wpAny_bind (wpAny_field kz rfl (x:=.none) rfl (wpAny_pure ?_))
  simp only [if_true]
  refine wpAny_bind (wpAny_rule (wpAny_bind (wpAny_field kz rfl (x:=.ref tO) rfl (wpAny_bind (wpAny_setField_rec kz (by simp) fun g1 z1 b1=>?_)))))
  replace z1:IsZip g1 z tI tO .ellipsis:=z1
  refine wpAny_bind ?_
  simp only [List.zipIdx_cons, List.zipIdx_nil, List.forIn_cons, List.forIn_nil]
  refine wpAny_bind (wpAny_bind (wpAny_onRaise ?_))
  show wpAny _ _ (Builtin.SmallTypes.nextOf _ >>= _) _ _ _
  have up1:∀ c o, c ≠ z → s.heap.get? c = some o → g1.get? c = some o:=fun c o h e=>b1.extBut _ _ h e
  have p1':=o1 _ _ p1 (fun o e=>up1 _ o D.i1z e) fun o e=>up1 _ o D.l1z e
  rcases ends with n1 | ⟨x, P1', n1, n2⟩
  · refine wpAny_bind (n1 { s with heap:=g1 } _ _ p1' fun g2 e b2 he=>?_)
    obtain ⟨oe, hoe, hce⟩:=he
    have z2:IsZip g2 z tI tO .ellipsis:=b2 _ _ D.i1z.symm z1
    have ez:e ≠ z:=fun h=>by rw [h, z2] at hoe; cases hoe; simp at hce
    exact wpAny_setField_rec z2 (by simp) fun g3 _ b3=>k g3 e (fun c o c1 _ c3 _ h=>b3.extBut _ _ c1 (b2 _ _ c3 (up1 c o c1 h))) ⟨oe, b3.extBut _ _ ez hoe, hce⟩
  · refine wpAny_bind (n1 { s with heap:=g1 } _ _ p1' fun g2 q2 b2=>wpAny_pure ?_)
    have b2:Heap.SameBut j1 g1 g2:=b2
    have up2:∀ c o, c ≠ j1 → g1.get? c = some o → g2.get? c = some o:=fun c o h e=>b2.extBut _ _ h e
    have t2:IsPair g2 tO u v:=up2 _ _ D.TOi1 (up1 _ _ D.TOz kO)
    refine wpAny_bind (wpAny_seqItems t2 rfl (wpAny_bind (wpAny_updateSeq_pair t2 fun g3 t3 b3=>?_)))
    have b3:Heap.SameBut tO g2 g3:=b3
    have up3:∀ c o, c ≠ tO → g2.get? c = some o → g3.get? c = some o:=fun c o h e=>b3.extBut _ _ h e
    refine wpAny_bind (wpAny_letGo (wpAny_pure (wpAny_bind (wpAny_bind (wpAny_onRaise ?_)))))
    show wpAny _ _ (Builtin.SmallTypes.nextOf _ >>= _) _ _ _
    refine wpAny_bind (n2 { s with heap:=g3 } _ _ (o2 _ _ p2 (fun o e=>up3 _ o D.TOi2.symm (up2 _ o D.i12.symm (up1 _ o D.i2z e))) fun o e=>up3 _ o D.l2TO (up2 _ o D.l2i1 (up1 _ o D.l2z e))) fun g4 e b4 he=>?_)
    obtain ⟨oe, hoe, hce⟩:=he
    have z4:IsZip g4 z tI tO .ellipsis:=b4 _ _ D.i2z.symm (up3 _ _ D.TOz.symm (up2 _ _ D.i1z.symm z1))
    have ez:e ≠ z:=fun h=>by rw [h, z4] at hoe; cases hoe; simp at hce
    exact wpAny_setField_rec z4 (by simp) fun g5 _ b5=>k g5 e (fun c o c1 c2 c3 c4 h=>b5.extBut _ _ c1 (b4 _ _ c4 (up3 c o c2 (up2 c o c3 (up1 c o c1 h))))) ⟨oe, b5.extBut _ _ ez hoe, hce⟩
theorem zpn_item {z tI tO j1 j2 m1 m2:Addr} {x y u v:Value} {P1 P1' P2 P2':Heap → Prop} {Q:Option Value → Shared → Prop} (D:ZipApart z tI tO j1 j2 m1 m2) (kz:IsZip s.heap z tI tO .none) (kI:IsPair s.heap tI (.ref j1) (.ref j2)) (kO:IsPair s.heap tO u v)
    (n1:∀ A, NxOk prog w A j1 x P1 P1') (n2:∀ A, NxOk prog w A j2 y P2 P2') (o1:On2 j1 m1 P1) (o1':On2 j1 m1 P1') (o2:On2 j2 m2 P2) (o2':On2 j2 m2 P2') (p1:P1 s.heap) (p2:P2 s.heap)
    (jl1:j1 < s.heap.objs.size) (jl2:j2 < s.heap.objs.size)
    (k:∀ g, IsZip g z tI tO (rawInt s.heap.objs.size) → IsPair g tO x y → P1' g → P2' g → IsPair g s.heap.objs.size x y → g.objs.size = s.heap.objs.size + 1 →
      (∀ c o, c ≠ z → c ≠ tO → c ≠ j1 → c ≠ j2 → s.heap.get? c = some o → g.get? c = some o) → Q (some (.ref s.heap.objs.size)) { s with heap:=g }) :
    wpAny (model prog w) A (pyNext (.ref z)) Q E s:=by
  have hT:s.TypeIs (.ref z) "zip":=⟨_, kz, rfl⟩
  unfold pyNext
  refine wpAny_bind (wpAny_attempt (wpAny_callSpecial?_slot (name:="__next__") hT F.slot_zip_next (wpAny_call_entry F.slot_zip_next hT F.entry_zip_next ?_ (F.args_zip_next_1 _))))
  exact zp_item D kz kI kO (n1 _) (n2 _) o1 o1' o2 o2' p1 p2 jl1 jl2 fun g a1 a2 a3 a4 a5 a6 a7=>wpAny_pure (k g a1 a2 a3 a4 a5 a6 a7)
theorem zpn_end (hh:A.handled = none) {z tI tO j1 j2 m1 m2:Addr} {u v:Value} {P1 P2:Heap → Prop} {Q:Option Value → Shared → Prop} (D:ZipApart z tI tO j1 j2 m1 m2) (kz:IsZip s.heap z tI tO .none) (kI:IsPair s.heap tI (.ref j1) (.ref j2)) (kO:IsPair s.heap tO u v)
    (o1:On2 j1 m1 P1) (o2:On2 j2 m2 P2) (p1:P1 s.heap) (p2:P2 s.heap) (ends:∀ A, A.handled = none → NxEnd prog w A j1 P1 ∨ ∃ x P1', NxOk prog w A j1 x P1 P1' ∧ NxEnd prog w A j2 P2)
    (k:∀ g, (∀ c o, c ≠ z → c ≠ tO → c ≠ j1 → c ≠ j2 → s.heap.get? c = some o → g.get? c = some o) → Q none { s with heap:=g }):wpAny (model prog w) A (pyNext (.ref z)) Q E s:=by
  have hT:s.TypeIs (.ref z) "zip":=⟨_, kz, rfl⟩
  unfold pyNext
  refine wpAny_bind (wpAny_attempt (wpAny_callSpecial?_slot (name:="__next__") hT F.slot_zip_next (wpAny_call_entry F.slot_zip_next hT F.entry_zip_next ?_ (F.args_zip_next_1 _))))
  refine zp_end D kz kI kO o1 o2 p1 p2 (ends _ hh) fun g e kp he=>?_
  obtain ⟨oe, hoe, hce⟩:=he
  exact wpAny_bind (wpAny_isInstance (T:="StopIteration") (b:=true) ⟨oe, hoe, hce⟩ isSubtype_stop (wpAny_pure (k g kp)))
noncomputable abbrev zpa (g:Heap) (t:Addr):Heap:=g.push { cls:=.type "tuple_iterator", data:=.fields #[.ref t, .int 0 0] }
noncomputable abbrev zpb (g:Heap) (t l:Addr):Heap:=(zpa g t).push { cls:=.type "list_iterator", data:=.fields #[.ref l, .int 0 0] }
noncomputable abbrev zpc (g:Heap) (t l:Addr):Heap:=(zpb g t l).push { cls:=.type "tuple", data:=.seq #[.ref g.objs.size, .ref (zpa g t).objs.size] }
noncomputable abbrev zpd (g:Heap) (t l:Addr):Heap:=(zpc g t l).push { cls:=.type "tuple", data:=.seq #[.none, .none] }
noncomputable abbrev zpe (g:Heap) (t l:Addr):Heap:=(zpd g t l).push { cls:=.type "zip", data:=.fields #[.none, .bool false, .bool false, .ref (zpb g t l).objs.size, .ref (zpc g t l).objs.size] }
theorem meets_zpt (t l:Addr) (xs ys:Array Value):Meets (Builtin.«zip.__new__» ⟨[.type "zip", .ref t, .ref l], []⟩) (fun _ R s=>s.heap.IsTuple t xs ∧ s.heap.IsList l ys ∧ R (.ok (.ret (.ref (zpd s.heap t l).objs.size))) { s with heap:=zpe s.heap t l }) :=
  .of_wp fun prog w A R s h=>by
    obtain ⟨hp, g, d, tk, os⟩:=s
    obtain ⟨ht, hl, h⟩:=h
    have hsub:=sub_zip
    have h1:Heap.IsTuple (Shared.heap ⟨hp, g, d, tk, os⟩) t xs:=ht
    have h2:Heap.IsList (Shared.heap ⟨hp.push { cls:=.type "tuple_iterator", data:=.fields #[.ref t, .int 0 0] }, g, d, tk, os⟩) l ys:=Heap.IsList.push hl _
    wp_walk using wpAny_pyIter_tuple h1, wpAny_pyIter_list h2
    exact ⟨_, rfl, h⟩
theorem call_zpt {t l:Addr} {xs ys:Array Value} {Q:Value → Shared → Prop} (ht:s.heap.IsTuple t xs) (hl:s.heap.IsList l ys)
    (k:∀ g n, n = s.heap.objs.size → IsZip g (n + 4) (n + 2) (n + 3) .none → IsPair g (n + 2) (.ref n) (.ref (n + 1)) → IsPair g (n + 3) .none .none → g.IsTupleIter n t 0 → g.IsListIter (n + 1) l 0 → (∀ c o, s.heap.get? c = some o → g.get? c = some o) → Q (.ref (n + 4)) { s with heap:=g }) :
    wpAny (model prog w) A (call (.type "zip") [.ref t, .ref l]) Q E s:=by
  refine callType_new F.called_zip (by decide) (F.typeCall_zip_2 _ _) (F.newCall_zip_2 _ _) (fun obj=>F.args_object_init_3 obj _ _) F.entry_zip_new (meets_zpt t l xs ys) ⟨ht, hl, ?_⟩
  have za:(zpa s.heap t).objs.size = s.heap.objs.size + 1:=Heap.size_push ..
  have zb:(zpb s.heap t l).objs.size = s.heap.objs.size + 2:=by rw [Heap.size_push, za]
  have zc:(zpc s.heap t l).objs.size = s.heap.objs.size + 3:=by rw [Heap.size_push, zb]
  have zd:(zpd s.heap t l).objs.size = s.heap.objs.size + 4:=by rw [Heap.size_push, zc]
  have e5:(zpe s.heap t l).get? (zpd s.heap t l).objs.size = some _:=Heap.get?_push_size _ rfl
  have e4:(zpd s.heap t l).get? (zpc s.heap t l).objs.size = some _:=Heap.get?_push_size _ rfl
  have e3:(zpc s.heap t l).get? (zpb s.heap t l).objs.size = some _:=Heap.get?_push_size _ rfl
  have e2:(zpb s.heap t l).get? (zpa s.heap t).objs.size = some _:=Heap.get?_push_size _ rfl
  have e1:(zpa s.heap t).get? s.heap.objs.size = some _:=Heap.get?_push_size _ rfl
  have e4:(zpe s.heap t l).get? (zpc s.heap t l).objs.size = some _:=Heap.get?_push_of_some _ e4
  have up3:∀ b o, (zpc s.heap t l).get? b = some o → (zpe s.heap t l).get? b = some o:=fun b o e=>Heap.get?_push_of_some _ (Heap.get?_push_of_some _ e)
  have up2:∀ b o, (zpb s.heap t l).get? b = some o → (zpe s.heap t l).get? b = some o:=fun b o e=>up3 b o (Heap.get?_push_of_some _ e)
  have up1:∀ b o, (zpa s.heap t).get? b = some o → (zpe s.heap t l).get? b = some o:=fun b o e=>up2 b o (Heap.get?_push_of_some _ e)
  have e3:=up3 _ _ e3
  have e2:=up2 _ _ e2
  have e1:=up1 _ _ e1
  show _ ∧ _
  rw [zb, zc, zd] at e5
  rw [za, zb] at e3
  rw [zc] at e4
  rw [za] at e2
  rw [zd]
  exact ⟨⟨_, e5, rfl⟩, k _ _ rfl e5 e3 e4 ⟨_, e1, rfl, rfl⟩ ⟨_, e2, rfl, rfl⟩ fun b o e=>up1 b o (Heap.get?_push_of_some _ e)⟩
end
noncomputable def Itzt (K:PySem.W.Frag) (a b:Addr):It :=
  ⟨fun i H=>∃ xs x ys y, SqT K H a xs ∧ xs[i]? = some x ∧ SqL K H b ys ∧ ys[i]? = some y,
   fun i H v H'=>∃ p x y, v = .ref p ∧ H p = none ∧ H' = upd H p (.tup [x, y]) ∧ (∀ xs, SqT K H a xs → xs[i]? = some x) ∧ (∀ ys, SqL K H b ys → ys[i]? = some y),
   fun i H=>∃ xs ys, SqT K H a xs ∧ SqL K H b ys ∧ (xs.length ≤ i ∨ ys.length ≤ i)⟩
noncomputable def iZipT (K:PySem.W.Frag) (t:TA):TI:=fun σ H R=>t σ H fun vs H1=>∃ a b, vs = [.ref a, .ref b] ∧ (∃ xs, SqT K H1 a xs) ∧ (∃ ys, SqL K H1 b ys) ∧ R (Itzt K a b) H1
theorem turn_zpt {P:Program} {w:World} {K:PySem.W.Frag} {elts:List Expr} {k:Nat} {tp:Pos} (a b z tI tO j1 j2:Addr) (D:ZipApart z tI tO j1 j2 a b) :
    Turn P w K (.Tuple elts k tp) (Itzt K a b) [z, tI, tO, j1, j2] z (fun i h=>IsZip h z tI tO .none ∧ IsPair h tI (.ref j1) (.ref j2) ∧ (∃ u v, IsPair h tO u v) ∧ h.IsTupleIter j1 a i ∧ h.IsListIter j2 b i) where
  mem:=by simp
  obj:=fun i h st c hc=>by
    obtain ⟨kz, kI, ⟨u, v, kO⟩, ⟨o1, e1, _, d1⟩, ⟨o2, e2, _, d2⟩⟩:=st
    have q:c = z ∨ c = tI ∨ c = tO ∨ c = j1 ∨ c = j2:=by simpa using hc
    rcases q with rfl | rfl | rfl | rfl | rfl
    · exact ⟨_, kz, fun v z=>nomatch z⟩
    · exact ⟨_, kI, fun v z=>nomatch z⟩
    · exact ⟨_, kO, fun v z=>nomatch z⟩
    · exact ⟨o1, e1, fun v z=>by rw [d1] at z; cases z⟩
    · exact ⟨o2, e2, fun v z=>by rw [d2] at z; cases z⟩
  keep:=fun i h h' st kp=>by
    obtain ⟨kz, kI, ⟨u, v, kO⟩, h1, h2⟩:=st
    exact ⟨kp z (by simp) _ kz, kp tI (by simp) _ kI, ⟨u, v, kp tO (by simp) _ kO⟩, h1.at fun o q=>kp j1 (by simp) o q, h2.at fun o q=>kp j2 (by simp) o q⟩
  item:=by
    intro X hP hw hK hc i pins s σ H E I hf st hg
    subst hP hw hK
    obtain ⟨xs, x, ys, y, hq, hx, hr, hy⟩:=hg
    obtain ⟨its, rv, p, _⟩:=I.tuple hq
    obtain ⟨jts, sv, r, _⟩:=I.list hr
    obtain ⟨u, hu, ru⟩:=rv.get hx
    obtain ⟨v, hv, rw'⟩:=sv.get hy
    obtain ⟨kz, kI, ⟨u0, v0, kO⟩, h1, h2⟩:=st
    have lt:∀ {c:Addr} {o:Obj}, s.heap.get? c = some o → c < s.heap.objs.size:=fun e=>Heap.lt_size e
    have l1:j1 < s.heap.objs.size:=by obtain ⟨_, e, _⟩:=h1; exact lt e
    have l2:j2 < s.heap.objs.size:=by obtain ⟨_, e, _⟩:=h2; exact lt e
    refine zpn_item D kz kI kO (fun _=>nx_tuple D.l1i1 (xs:=its.toArray) (k:=i) (by simpa using hu)) (fun _=>nx_list D.l2i2 (xs:=jts.toArray) (k:=i) (by simpa using hv)) on_tuple on_tuple on_list on_list ⟨h1, p⟩ ⟨h2, r.isList⟩ l1 l2 fun g a1 a2 a3 a4 a5 a6 kp=>⟨_, rfl, ?_⟩
    refine wpAny_letOwnedTupleGo_zip (s:={ s with heap:=g }) a1 fun g2 en sb=>?_
    have sb':Heap.SameBut z g g2:=sb
    have lz:=lt kz
    have lI:=lt kI
    have lO:=lt kO
    have I1:Inv X pins σ H { s with heap:=g2, toks:=s.toks }:=I.turnedL (ch:=[z, tI, tO, j1, j2]) (fun c o hb q=>by
      have hb':c ≠ z ∧ c ≠ tI ∧ c ≠ tO ∧ c ≠ j1 ∧ c ≠ j2:=by simpa using hb
      exact (sb'.2 c hb'.1).trans (kp c o hb'.1 hb'.2.2.1 hb'.2.2.2.1 hb'.2.2.2.2 q)) hf
    have hTn:H s.heap.objs.size = none:=I.hok.fresh (Nat.le_refl _)
    have tup2:g2.get? s.heap.objs.size = some { cls:=.type "tuple", data:=.seq #[u, v] }:=(sb'.2 _ (Nat.ne_of_gt lz)).trans a5
    have I2:Inv X pins σ (upd H s.heap.objs.size (.tup [x, y])) { s with heap:=g2, toks:=s.toks }:=I1.adopt hTn I.sz (Nat.ne_of_gt I.lt) (fun n c q=>by
      obtain ⟨v, z⟩:=I.cell n c q
      exact Nat.ne_of_lt z.lt) (fun q hq=>Nat.ne_of_lt (Heap.lt_size (I.pin q hq).1)) ⟨by show 2 ≤ sizeLine; decide, [u, v], .cons ru (.cons rw' .nil), ⟨_, tup2, rfl, _, rfl⟩⟩
    refine ⟨.ref s.heap.objs.size, _, I2, rfl, ⟨_, x, y, rfl, hTn, rfl, fun zs hy'=>by rw [I.tuple_inj hy' hq]; exact hx, fun zs hy'=>by rw [I.list_inj hy' hr]; exact hy⟩, ⟨en, ?_, ⟨_, _, (sb'.2 _ D.TOz).trans a2⟩, ?_, ?_⟩, fun c hb=>?_⟩
    · exact (sb'.2 _ D.TIz).trans (kp _ _ D.TIz D.TITO D.TIi1 D.TIi2 kI)
    · obtain ⟨o, q, t⟩:=a3.1
      exact ⟨o, (sb'.2 _ D.i1z).trans q, t⟩
    · obtain ⟨o, q, t⟩:=a4.1
      exact ⟨o, (sb'.2 _ D.i2z).trans q, t⟩
    · have hb0:=(hf c hb).1
      have q:c = z ∨ c = tI ∨ c = tO ∨ c = j1 ∨ c = j2:=by simpa using hb
      have hlt:c < s.heap.objs.size:=by rcases q with rfl | rfl | rfl | rfl | rfl <;> assumption
      rw [upd_ne (Nat.ne_of_lt hlt)]
      exact hb0
  done:=by
    intro X hP hw hK hc i pins s σ H E I hf st hg
    subst hP hw hK
    obtain ⟨xs, ys, hq, hr, hx⟩:=hg
    obtain ⟨its, rv, p, _⟩:=I.tuple hq
    obtain ⟨jts, sv, r, _⟩:=I.list hr
    obtain ⟨kz, kI, ⟨u0, v0, kO⟩, h1, h2⟩:=st
    have l1:=rv.length
    have l2:=sv.length
    refine zpn_end (I.ok.hd hc) D kz kI kO on_tuple on_list (P1:=fun g=>g.IsTupleIter j1 a i ∧ g.IsTuple a its.toArray) (P2:=fun g=>g.IsListIter j2 b i ∧ g.IsList b jts.toArray) ⟨h1, p⟩ ⟨h2, r.isList⟩ (fun A hA=>?_) fun g kp=>⟨rfl, ?_⟩
    · by_cases hi:i < its.length
      · exact .inr ⟨its[i], _, nx_tuple D.l1i1 (by simp [hi]), nx_list_end hA (by simp; omega)⟩
      · exact .inl (nx_tuple_end hA (by simp; omega))
    · exact I.turnedL (t':=s.toks) (ch:=[z, tI, tO, j1, j2]) (fun c o hb q=>by
        have hb':c ≠ z ∧ c ≠ tI ∧ c ≠ tO ∧ c ≠ j1 ∧ c ≠ j2:=by simpa using hb
        exact kp c o hb'.1 hb'.2.2.1 hb'.2.2.2.1 hb'.2.2.2.2 q) hf
  self:=fun _ _ _ _ _ st h=>wpAny_pyIter_zip st.1 h
section
variable {X:Cx}
theorem pi_zipT {elts:List Expr} {k:Nat} {tp:Pos} {a b:Expr} {t:TA} {p pos:Pos} (hg:Gl X "zip") (hm:X.mg "zip" = none) (hl:PA X [a, b] t)
    (he:starEach (a :: [b]) X.env = (false, eval a X.env) :: starEach [b] X.env:=by rfl) (hpl:(backTo pos (starEach [b] X.env)).any (·.1) = false:=by rfl):PI X (.Tuple elts k tp) (.Call (.Name "zip" p) [a, b] [] pos) (iZipT X.K t):=by
  intro pins s σ H R I h
  refine wpAny_Call_Name_kw (ld_blt I hg hm bt_zip ?_)
  refine PyProof.Rows.callWith_type1 (thn (hl pos pins s σ H _ I h) fun us s1 ⟨vs, H1, I1, r1, q1⟩=>?_) he hpl
  obtain ⟨m1, m2, e0, ⟨xs, hq⟩, ⟨ys, hr⟩, q⟩:=q1
  subst e0
  cases r1 with
  | cons ra r1 =>
  cases r1 with
  | cons rb r1 =>
  cases r1
  cases ra
  cases rb
  obtain ⟨its, rv, pl, _⟩:=I1.tuple hq
  obtain ⟨jts, sv, pm, _⟩:=I1.list hr
  have lt1:m1 < s1.heap.objs.size:=by obtain ⟨o, e, _⟩:=pl; exact Heap.lt_size e
  have lt2:m2 < s1.heap.objs.size:=by obtain ⟨o, e, _⟩:=pm.isList; exact Heap.lt_size e
  refine call_zpt pl pm.isList fun g n hn hz hI hO h1 h2 hk=>wpAny_pyIter_zip hz ?_
  have I2:Inv X pins σ H1 { s1 with heap:=g }:=I1.kept (t':=s1.toks) hk
  refine ⟨n + 4, [n + 4, n + 2, n + 3, n, n + 1], _, Itzt X.K m1 m2, H1, rfl, I2, turn_zpt m1 m2 _ _ _ _ _ (zip_apart (by rw [hn]; exact lt1) (by rw [hn]; exact lt2)), ⟨hz, hI, ⟨_, _, hO⟩, h1, h2⟩, fun c hc=>?_, q⟩
  have z:c = n + 4 ∨ c = n + 2 ∨ c = n + 3 ∨ c = n ∨ c = n + 1:=by simpa using hc
  have hle:s1.heap.objs.size ≤ c:=by rw [← hn]; rcases z with rfl | rfl | rfl | rfl | rfl <;> omega
  exact I1.fpOk hle (I1.hok.fresh hle)
end
theorem for_zipT {K:PySem.W.Frag} {a b:Addr} {xs ys:List V} {g:TG} {tb:TS} {D:Ends} {σ:St} {H:Hp} (Pv:Nat → St → Hp → Prop) (h0:Pv 0 σ H) (hl:∀ i σ H, i ≤ xs.length → Pv i σ H → SqT K H a xs ∧ SqL K H b ys) (he:xs.length = ys.length)
    (hs:∀ i x y p σ H, xs[i]? = some x → ys[i]? = some y → Pv i σ H → H p = none → g (.ref p) σ (upd H p (.tup [x, y])) fun σ2 H2=>tb { D with nx:=Pv (i + 1), ct:=Pv (i + 1), bk:=D.nx } σ2 H2) (hd:∀ σ H, Pv xs.length σ H → D.nx σ H) :
    ∃ W:Nat → Nat → St → Hp → Prop, (∃ m, W 0 m σ H) ∧ ∀ i m σ H, W i m σ H →
      ((Itzt K a b).stop i H ∧ D.nx σ H) ∨ ((Itzt K a b).go i H ∧ ∃ N:St → Hp → Prop, (∀ σ' H', N σ' H' → ∃ m', m' < m ∧ W (i + 1) m' σ' H') ∧ ∀ x H', (Itzt K a b).yld i H x H' → g x σ H' fun σ2 H2=>tb { D with nx:=N, ct:=N, bk:=D.nx } σ2 H2):=by
  refine ⟨fun i m σ H=>m = xs.length - i ∧ i ≤ xs.length ∧ Pv i σ H, ⟨xs.length, by simp, Nat.zero_le _, h0⟩, ?_⟩
  rintro i m σ H ⟨rfl, hi, p⟩
  obtain ⟨q, r⟩:=hl i σ H hi p
  by_cases hlt:i < xs.length
  · have hlt2:i < ys.length:=by omega
    refine .inr ⟨⟨xs, xs[i], ys, ys[i], q, by simp [hlt], r, by simp [hlt2]⟩, Pv (i + 1), fun σ' H' p'=>⟨xs.length - (i + 1), by omega, rfl, hlt, p'⟩, fun x H' y=>?_⟩
    obtain ⟨pp, x', y', e1, e2, e3, y1, y2⟩:=y
    subst e1 e3
    exact hs i x' y' pp σ _ (y1 xs q) (y2 ys r) p e2
  · have e:i = xs.length:=by omega
    subst e
    exact .inl ⟨⟨xs, ys, q, r, .inl (Nat.le_refl _)⟩, hd σ H p⟩
end L2
namespace L2
open PySem PySem.Spec PyProof.Rows
end L2
namespace L2
open PySem PySem.Spec PySem.Calls PyProof.Rows PySem.W PySem.W.X in
theorem walk_x {q:Program} {loose:List Str} {XP:(Str → Option Value) → Heap → Prop} {K:Params → PySem.W.Frag} {as:List Addr} {n t:Nat} {r:PySem.W.RowW} {d:DefRec} {kwd:List (Str × Expr)} {run:Value → List Value → Sem Value}
    (e:∀ P, as = (K P).map (·.1)) (W:PySem.W.WalkO q loose XP (fun w h=>(K w.params).In h) r d kwd run):WalkX q loose XP (obsZ as) (valZ K n t) r d kwd run :=
  fun w s₀ s₁ mg mb G y a o pm cd doc dV kV h1 h2 h3 h4 h5 h6 args vals as' L h7 h8 h9 h10 h11 =>
    W w s₀ s₁ mg mb G (InK.keeps w _ _ (z_facts e y).2.1 L.keeps) a o pm cd doc dV kV h1 h2 h3 h4 h5 h6 args vals as' h7 h8 h9 h10 h11
end L2

set_option Elab.async false
set_option maxRecDepth 100000
set_option maxHeartbeats 4000000
set_option linter.all false
namespace My
open PySem L2
theorem sz0:0 ≤ sizeLine:=by decide
theorem sz1:1 ≤ sizeLine:=by decide
theorem sz2:2 ≤ sizeLine:=by decide
theorem sz3:3 ≤ sizeLine:=by decide
theorem Lq0 {α:Type} {a:α} {l:List α}:(a :: l)[0]? = some a:=rfl
theorem Lq1 {α:Type} {a:α} {l:List α} {i:Nat}:(a :: l)[i + 1]? = l[i]?:=rfl
theorem Ls0 {α:Type} {a b:α} {l:List α}:(a :: l).set 0 b = b :: l:=rfl
theorem Ls1 {α:Type} {a b:α} {l:List α} {i:Nat}:(a :: l).set (i + 1) b = a :: l.set i b:=rfl
theorem Lca {α:Type} {a:α} {l k:List α}:a :: l ++ k = a :: (l ++ k):=rfl
theorem Lna {α:Type} {k:List α}:[] ++ k = k:=rfl
local macro_rules | `(tactic| dsimp? [$xs,*]) => `(tactic| dsimp only [$xs,*, tSeq, tAsg, gName, tVar, tC, tOp, tUn, rI0, rI, rU, rAddI, rSubI, rMulI, rDivI, rDivC, rModI, rPowI, rNegI, rLtI, rLeI, rGtI, rGeI, rEq, rNe, scal_ii, tRet, tIfS, tTest, tB, tNot, tNext, tCall, tCons, tNil, tTup, tLst, tCB, cAbs, cLen, cIsB, tSl, tPart, tNoPart, rSlL, rIxL, rIxT, tAndV, tOrV, tAnd, tOr, tNotV, tPar, tNever, gTup, gCons, gNil, Lq0, Lq1, Ls0, Ls1, Lca, Lna, exI_lit, exB_lit, exR_lit])
local macro_rules | `(tactic| simp_arith [$xs,*]) => `(tactic| simp only [$xs,*, tSeq, tAsg, gName, tVar, tC, tOp, tUn, rI0, rI, rU, rAddI, rSubI, rMulI, rDivI, rDivC, rModI, rPowI, rNegI, rLtI, rLeI, rGtI, rGeI, rEq, rNe, scal_ii, tRet, tIfS, tTest, tB, tNot, tNext, tCall, tCons, tNil, tTup, tLst, tCB, cAbs, cLen, cIsB, tSl, tPart, tNoPart, rSlL, rIxL, rIxT, tAndV, tOrV, tAnd, tOr, tNotV, tPar, tNever, gTup, gCons, gNil, Lq0, Lq1, Ls0, Ls1, Option.some.injEq, exists_eq_left', exists_eq_left, V.int.injEq, V.ref.injEq, V.bl.injEq, V.ty.injEq, List.cons.injEq, and_true, true_and, List.append_nil, exists_and_left, decide_eq_true_eq, Lca, Lna, and_assoc, exI_lit, exB_lit, exR_lit, exI_ex, exB_ex, exR_ex])
theorem abs_eq (i:Int):(if i < 0 then -i else i) = (i.natAbs:Int):=by split <;> omega
theorem atI_map {ns:List Int} {k:Int} (h0:0 ≤ k) (h:k < (ns.length:Int)):atI (List.map V.int ns) k = some (.int (ns.getD k.toNat 0)):=by
  have hk:k.toNat < ns.length:=by omega
  have e:=atI_nat (xs:=List.map V.int ns) (j:=k.toNat) (v:=V.int (ns.getD k.toNat 0)) (by
    rw [List.getElem?_map, List.getElem?_eq_getElem hk, List.getD_eq_getElem?_getD, List.getElem?_eq_getElem hk]; rfl)
  rwa [Int.toNat_of_nonneg h0] at e
theorem atI0 {α:Type} {a:α} {l:List α}:atI (a :: l) 0 = some a:=atI_nat (j:=0) rfl
theorem atI1 {α:Type} {a b:α} {l:List α}:atI (a :: b :: l) 1 = some b:=atI_nat (j:=1) rfl
theorem atI2 {α:Type} {a b c:α} {l:List α}:atI (a :: b :: c :: l) 2 = some c:=atI_nat (j:=2) rfl
theorem atI3 {α:Type} {a b c d:α} {l:List α}:atI (a :: b :: c :: d :: l) 3 = some d:=atI_nat (j:=3) rfl
structure Lo (t b x y:Int):Prop where
  pos:0 < y
  cop:Int.gcd x y = 1
  eq:x * b = t * y
  bx:x.natAbs ≤ t.natAbs
  by_:y.natAbs ≤ b.natAbs
theorem lo_of {t b g q r:Int} (hb:b ≠ 0) (hg:g ≠ 0) (ht:t = g * q) (hbr:b = g * r) (hr:0 < r) (hc:Int.gcd q r = 1):Lo t b (t.fdiv g) (b.fdiv g):=by
  have e1:t.fdiv g = q:=by rw [ht, Int.mul_fdiv_cancel_left _ hg]
  have e2:b.fdiv g = r:=by rw [hbr, Int.mul_fdiv_cancel_left _ hg]
  rw [e1, e2]
  have hg1:1 ≤ g.natAbs:=by omega
  refine ⟨hr, hc, by rw [ht, hbr]; rw [Int.mul_left_comm, Int.mul_assoc], ?_, ?_⟩
  · rw [ht, Int.natAbs_mul]; exact Nat.le_mul_of_pos_left _ hg1
  · rw [hbr, Int.natAbs_mul]; exact Nat.le_mul_of_pos_left _ hg1
theorem gcd_split {t b:Int} (hb:b ≠ 0):∃ q r:Int, t = (Int.gcd t b:Nat) * q ∧ b = (Int.gcd t b:Nat) * r ∧ Int.gcd q r = 1 ∧ 0 < Int.gcd t b:=by
  have hp:0 < Int.gcd t b:=Int.gcd_pos_of_ne_zero_right _ hb
  obtain ⟨q, hq⟩:=Int.gcd_dvd_left (a:=t) (b:=b)
  obtain ⟨r, hr⟩:=Int.gcd_dvd_right (a:=t) (b:=b)
  refine ⟨q, r, hq, hr, ?_, hp⟩
  have e:Int.gcd t b = Int.gcd ((Int.gcd t b:Nat) * q) ((Int.gcd t b:Nat) * r):=by rw [← hq, ← hr]
  rw [Int.gcd_mul_left, Int.natAbs_natCast] at e
  exact Nat.eq_of_mul_eq_mul_left hp (by rw [Nat.mul_one]; exact e.symm)
theorem lo_pos {t b:Int} (hb:0 < b):Lo t b (t.fdiv (Int.gcd t b:Nat)) (b.fdiv (Int.gcd t b:Nat)):=by
  obtain ⟨q, r, h1, h2, h3, h4⟩:=gcd_split (t:=t) (b:=b) (by omega)
  refine lo_of (q:=q) (r:=r) (by omega) (by omega) h1 h2 ?_ h3
  rcases Int.lt_trichotomy r 0 with h | h | h
  · have:(Int.gcd t b:Int) * r < 0:=Int.mul_neg_of_pos_of_neg (by omega) h
    omega
  · rw [h, Int.mul_zero] at h2; omega
  · exact h
theorem lo_neg {t b:Int} (hb:b < 0):Lo t b (t.fdiv (-(Int.gcd t b:Nat))) (b.fdiv (-(Int.gcd t b:Nat))):=by
  obtain ⟨q, r, h1, h2, h3, h4⟩:=gcd_split (t:=t) (b:=b) (by omega)
  refine lo_of (q:=-q) (r:=-r) (by omega) (by omega) (by rw [Int.neg_mul_neg]; exact h1) (by rw [Int.neg_mul_neg]; exact h2) ?_ (by rw [Int.gcd, Int.natAbs_neg, Int.natAbs_neg]; exact h3)
  rcases Int.lt_trichotomy r 0 with h | h | h
  · omega
  · rw [h, Int.mul_zero] at h2; omega
  · have:(Int.gcd t b:Int) * r > 0:=Int.mul_pos (by omega) h
    omega
noncomputable def intO:Option V → Int
  | some (.int i)=>i
  | _=>0
noncomputable def FrsAt (K:PySem.W.Frag) (H:Hp):List Addr → List (Int × Int) → Prop
  | [], []=>True
  | p :: ps, f :: fs=>SqT K H p [.int f.1, .int f.2] ∧ FrsAt K H ps fs
  | _, _=>False
noncomputable def Gd (m:Nat) (f:Int × Int):Prop:=0 < f.2 ∧ BB m f.1 ∧ BB m f.2
theorem FrsAt.same {K:PySem.W.Frag} {H H':Hp} (s:Same H H'):∀ {ps:List Addr} {fs:List (Int × Int)}, FrsAt K H ps fs → FrsAt K H' ps fs
  | [], [], _=>trivial
  | _ :: _, _ :: _, h=>⟨s.tup h.1, h.2.same s⟩
  | [], _ :: _, h=>h.elim
  | _ :: _, [], h=>h.elim
theorem FrsAt.length {K:PySem.W.Frag} {H:Hp}:∀ {ps:List Addr} {fs:List (Int × Int)}, FrsAt K H ps fs → ps.length = fs.length
  | [], [], _=>rfl
  | _ :: _, _ :: _, h=>by rw [List.length_cons, List.length_cons, h.2.length]
  | [], _ :: _, h=>h.elim
  | _ :: _, [], h=>h.elim
theorem FrsAt.get {K:PySem.W.Frag} {H:Hp}:∀ {ps:List Addr} {fs:List (Int × Int)} {i:Nat} {p:Addr}, FrsAt K H ps fs → ps[i]? = some p → ∃ f, fs[i]? = some f ∧ SqT K H p [.int f.1, .int f.2]
  | [], [], _, _, _, e=>by simp at e
  | _ :: _, f :: _, 0, _, h, e=>by simp at e; subst e; exact ⟨f, rfl, h.1⟩
  | _ :: _, _ :: _, i + 1, _, h, e=>by
    obtain ⟨f, e1, e2⟩:=h.2.get (i:=i) (by simpa using e)
    exact ⟨f, by simpa using e1, e2⟩
  | [], _ :: _, _, _, h, _=>h.elim
  | _ :: _, [], _, _, h, _=>h.elim
theorem FrsAt.append {K:PySem.W.Frag} {H:Hp} {qs:List Addr} {gs:List (Int × Int)} (hq:FrsAt K H qs gs):∀ {ps:List Addr} {fs:List (Int × Int)}, FrsAt K H ps fs → FrsAt K H (ps ++ qs) (fs ++ gs)
  | [], [], _=>hq
  | _ :: _, _ :: _, h=>⟨h.1, FrsAt.append hq h.2⟩
  | [], _ :: _, h=>h.elim
  | _ :: _, [], h=>h.elim
theorem get_refs {ps:List Addr} {i:Nat} {x:V} (h:(List.map V.ref ps)[i]? = some x):∃ p, x = .ref p ∧ ps[i]? = some p:=by
  rw [List.getElem?_map] at h
  cases e:ps[i]? with
  | none=>rw [e] at h; cases h
  | some z=>rw [e] at h; exact ⟨z, (Option.some.inj h).symm, rfl⟩
theorem get_ints {ns:List Int} {i:Nat} {x:V} (h:(List.map V.int ns)[i]? = some x):∃ c, x = .int c ∧ ns[i]? = some c:=by
  rw [List.getElem?_map] at h
  cases e:ns[i]? with
  | none=>rw [e] at h; cases h
  | some z=>rw [e] at h; exact ⟨z, (Option.some.inj h).symm, rfl⟩
noncomputable def nf1 (r:Int × Int) (f:Int × Int):Int × Int:=(r.1 * f.2 + f.1 * r.2, r.2 * f.2)
noncomputable def nf (fs:List (Int × Int)):Int × Int:=fs.foldl nf1 (0, 1)
theorem take_snoc {α:Type} {l:List α} {i:Nat} {x:α} (h:l[i]? = some x):l.take (i + 1) = l.take i ++ [x]:=by
  rw [List.take_succ, h]; rfl
theorem nf_snoc {fs:List (Int × Int)} {i:Nat} {f:Int × Int} (h:fs[i]? = some f):nf (fs.take (i + 1)) = nf1 (nf (fs.take i)) f:=by
  unfold nf; rw [take_snoc h, List.foldl_append]; rfl
structure Sm (X Y:Int) (r:Int × Int) (i:Nat):Prop where
  y0:0 < Y
  cop:Int.gcd X Y = 1
  eq:X * r.2 = r.1 * Y
  b0:0 < r.2
  bX:BB (501 * i + 1) X
  bY:BB (501 * i + 1) Y
theorem sm_zero:Sm 0 1 (nf []) 0:=⟨by decide, by decide, by decide, by decide, by unfold BB; decide, by unfold BB; decide⟩
theorem sm_step {X Y X' Y':Int} {r f:Int × Int} {i:Nat} (h:Sm X Y r i) (g:Gd 500 f) (lo:Lo (X * f.2 + f.1 * Y) (Y * f.2) X' Y'):Sm X' Y' (nf1 r f) (i + 1):=by
  obtain ⟨g0, g1, g2⟩:=g
  refine ⟨lo.pos, lo.cop, ?_, Int.mul_pos h.b0 g0, ?_, ?_⟩
  · apply Int.eq_of_mul_eq_mul_left (Int.ne_of_gt h.y0)
    show Y * (X' * (r.2 * f.2)) = Y * ((r.1 * f.2 + f.1 * r.2) * Y')
    have e1:Y * (X' * (r.2 * f.2)) = r.2 * (X' * (Y * f.2)):=by ac_rfl
    rw [e1, lo.eq]
    have e2:r.2 * ((X * f.2 + f.1 * Y) * Y') = (X * r.2) * (f.2 * Y') + f.1 * Y * (r.2 * Y'):=by
      rw [Int.add_mul, Int.mul_add]
      have:r.2 * (X * f.2 * Y') = X * r.2 * (f.2 * Y'):=by ac_rfl
      have:r.2 * (f.1 * Y * Y') = f.1 * Y * (r.2 * Y'):=by ac_rfl
      omega
    rw [e2, h.eq, Int.add_mul, Int.mul_add]
    have:r.1 * Y * (f.2 * Y') = Y * (r.1 * f.2 * Y'):=by ac_rfl
    have:f.1 * Y * (r.2 * Y') = Y * (f.1 * r.2 * Y'):=by ac_rfl
    omega
  · refine BB.of_le (BB.mono ((h.bX.mul g2).add ((g1.mul h.bY).mono ?_)) ?_) lo.bx <;> omega
  · refine BB.of_le (BB.mono (h.bY.mul g2) ?_) lo.by_
    omega
theorem sm_one {X Y:Int} {r:Int × Int} {i:Nat} (h:Sm X Y r i):([X, Y] = [1, 1]) ↔ r.1 = r.2:=by
  constructor
  · intro e
    have e1:X = 1:=by injection e
    have e2:Y = 1:=by injection e with _ e; injection e
    have:=h.eq
    rw [e1, e2] at this
    omega
  · intro e
    have q:=h.eq
    rw [e] at q
    have:X = Y:=Int.eq_of_mul_eq_mul_left (Int.ne_of_gt h.b0) (by rw [Int.mul_comm, q])
    have c:=h.cop
    rw [this, Int.gcd_self] at c
    have y0:=h.y0
    have:Y = 1:=by omega
    rw [‹X = Y›, this]
noncomputable def mix (fs:List (Int × Int)) (many:Int):Bool:=decide ((fs.length:Int) = many) && (fs.all (fun f=>decide (0 ≤ f.1)) && decide ((nf fs).1 = (nf fs).2))
noncomputable def Two (K:PySem.W.Frag) (H:Hp) (p q:Addr) (a b c d:Int):Prop:=SqT K H p [.int a, .int b] ∧ SqT K H q [.int c, .int d] ∧ BB 4000 a ∧ BB 4000 b ∧ BB 4000 c ∧ BB 4000 d ∧ 0 < b ∧ 0 < d
noncomputable def tv (q:List Nat):List V:=q.map fun n:Nat=>V.int (n:Int)
noncomputable def tk (q:List Nat):List Key:=q.map fun n:Nat=>(Sum.inl (n:Int):Key)
theorem tv_tk (q:List Nat):(tk q).map kV = tv q:=by
  unfold tk tv
  rw [List.map_map]
  exact List.map_congr_left fun n _=>rfl
theorem tv_app (a b:List Nat):tv (a ++ b) = tv a ++ tv b:=List.map_append
theorem tv_len (q:List Nat):(tv q).length = q.length:=List.length_map _
theorem tv_get {q:List Nat} {i:Nat} {x:V} (h:(tv q)[i]? = some x):∃ n, q[i]? = some n ∧ x = .int (n:Nat):=by
  unfold tv at h
  rw [List.getElem?_map] at h
  cases e:q[i]? with
  | none=>rw [e] at h; cases h
  | some n=>rw [e] at h; exact ⟨n, rfl, (Option.some.inj h).symm⟩
theorem tv_at {q:List Nat} {i n:Nat} (h:q[i]? = some n):(tv q)[i]? = some (.int (n:Nat)):=by
  unfold tv; rw [List.getElem?_map, h]; rfl
theorem tk_inj:∀ {a b:List Nat}, tk a = tk b → a = b
  | [], [], _=>rfl
  | [], _ :: _, h=>by simp [tk] at h
  | _ :: _, [], h=>by simp [tk] at h
  | x :: a, y :: b, h=>by
    simp only [tk, List.map_cons, List.cons.injEq, Sum.inl.injEq] at h
    have h1:x = y:=by have:=h.1; omega
    rw [h1, tk_inj (a:=a) (b:=b) h.2]
noncomputable def ordR:List Nat → List (List Nat)
  | []=>[[]]
  | s :: rs=>(ordR rs).flatMap fun b=>(List.range s).map fun c=>b ++ [c]
noncomputable def digs:List Nat → Nat → List Nat
  | [], _=>[]
  | s :: rs, n=>digs rs (n / s) ++ [n % s]
noncomputable def prodR:List Nat → Nat
  | []=>1
  | s :: rs=>prodR rs * s
theorem range_mul (s:Nat):∀ m:Nat, List.range (m * s) = (List.range m).flatMap fun i=>(List.range s).map fun c=>i * s + c
  | 0=>by simp
  | m + 1=>by
    rw [Nat.succ_mul, List.range_add, List.range_succ, List.flatMap_append, range_mul s m]
    simp
theorem ordR_eq:∀ rs:List Nat, (∀ s ∈ rs, 1 ≤ s) → ordR rs = (List.range (prodR rs)).map (digs rs)
  | [], _=>by simp [ordR, prodR, digs]
  | s :: rs, h=>by
    have hs:1 ≤ s:=h s (List.mem_cons_self ..)
    have hr:=ordR_eq rs fun t ht=>h t (List.mem_cons_of_mem _ ht)
    show (ordR rs).flatMap _ = (List.range (prodR rs * s)).map (digs (s :: rs))
    rw [hr, range_mul, List.map_flatMap, List.flatMap_map]
    congr 1
    funext i
    rw [List.map_map]
    refine List.map_congr_left fun c hc=>?_
    have hc':c < s:=List.mem_range.mp hc
    show digs rs i ++ [c] = digs rs ((i * s + c) / s) ++ [(i * s + c) % s]
    rw [Nat.mul_comm i s, Nat.mul_add_div (by omega), Nat.div_eq_of_lt hc', Nat.mul_add_mod, Nat.mod_eq_of_lt hc', Nat.add_zero]
theorem ordR_length (rs:List Nat) (h:∀ s ∈ rs, 1 ≤ s):(ordR rs).length = prodR rs:=by rw [ordR_eq rs h, List.length_map, List.length_range]
theorem prodR_le:∀ rs:List Nat, (∀ s ∈ rs, s ≤ 6) → prodR rs ≤ 6 ^ rs.length
  | [], _=>Nat.le_refl _
  | s :: rs, h=>by
    show prodR rs * s ≤ 6 ^ (rs.length + 1)
    rw [Nat.pow_succ]
    exact Nat.mul_le_mul (prodR_le rs fun t ht=>h t (List.mem_cons_of_mem _ ht)) (h s (List.mem_cons_self ..))
theorem ordR_len_each:∀ (rs:List Nat) (q:List Nat), q ∈ ordR rs → q.length = rs.length
  | [], q, h=>by simp [ordR] at h; subst h; rfl
  | s :: rs, q, h=>by
    simp only [ordR, List.mem_flatMap, List.mem_map] at h
    obtain ⟨b, hb, c, _, rfl⟩:=h
    simp [ordR_len_each rs b hb]
theorem ordR_nodup:∀ rs:List Nat, (ordR rs).Nodup
  | []=>by simp [ordR]
  | s :: rs=>by
    show List.Nodup ((ordR rs).flatMap _)
    unfold List.Nodup
    rw [List.pairwise_flatMap]
    refine ⟨fun b _=>?_, (ordR_nodup rs).imp fun {a b} hab x hx y hy e=>?_⟩
    · rw [List.pairwise_map]
      exact List.nodup_range.imp fun {c d} hcd e=>hcd (by simpa using e)
    · obtain ⟨c, _, rfl⟩:=List.mem_map.mp hx
      obtain ⟨d, _, rfl⟩:=List.mem_map.mp hy
      have:=(List.append_inj' e rfl).1
      exact hab this
structure Sz (ns:List Nat):Prop where
  len:ns.length ≤ 3
  ge:∀ n ∈ ns, 1 ≤ n
  le:∀ n ∈ ns, n ≤ 6
theorem Sz.rev {ns:List Nat} (h:Sz ns):Sz ns.reverse:=⟨by rw [List.length_reverse]; exact h.len, fun n hn=>h.ge n (List.mem_reverse.mp hn), fun n hn=>h.le n (List.mem_reverse.mp hn)⟩
theorem Sz.take {ns:List Nat} (h:Sz ns) (i:Nat):Sz (ns.take i):=⟨by have:=h.len; rw [List.length_take]; omega, fun n hn=>h.ge n (List.mem_of_mem_take hn), fun n hn=>h.le n (List.mem_of_mem_take hn)⟩
theorem Sz.many {ns:List Nat} (h:Sz ns):prodR ns ≤ 216:=Nat.le_trans (prodR_le ns h.le) (Nat.le_trans (Nat.pow_le_pow_right (by decide) h.len) (by decide))
theorem Sz.ord {ns:List Nat} (h:Sz ns):(ordR ns).length ≤ 216:=by rw [ordR_length ns h.ge]; exact h.many
noncomputable def wo {α:Type} (h:Nat) (q:List α):List α:=q.take h ++ q.drop (h + 1)
theorem Sz.wo {ns:List Nat} (s:Sz ns) (h:Nat):Sz (wo h ns):=by
  have hm:∀ n ∈ My.wo h ns, n ∈ ns:=fun n hn=>by
    rcases List.mem_append.mp hn with z | z
    · exact List.mem_of_mem_take z
    · exact List.mem_of_mem_drop z
  refine ⟨?_, fun n hn=>s.ge n (hm n hn), fun n hn=>s.le n (hm n hn)⟩
  have:=s.len
  unfold My.wo
  rw [List.length_append, List.length_take, List.length_drop]
  omega
theorem wo_tv (h:Nat) (q:List Nat):wo h (tv q) = tv (wo h q):=by
  unfold wo tv
  rw [List.map_append, List.map_take, List.map_drop]
noncomputable def Ps (H:Hp) (xs:List V) (qs:List (List Nat)):Prop:=xs.length = qs.length ∧ ∀ (i:Nat) (q:List Nat), qs[i]? = some q → ∃ a:Addr, xs[i]? = some (V.ref a) ∧ H a = some (.tup (tv q))
noncomputable def KeepT (H H':Hp):Prop:=∀ a xs, H a = some (.tup xs) → H' a = some (.tup xs)
theorem keepT_same {H H':Hp} (s:Same H H'):KeepT H H':=fun a xs h=>s a _ h
theorem keepT_lst {H:Hp} {l:Addr} {xs:List V} {o:HO} (h:H l = some (.lst xs)):KeepT H (upd H l o):=fun a ys e=>by
  rw [upd_ne (ne_of e h (by intro z; cases z))]; exact e
theorem Ps.keep {H H':Hp} {xs:List V} {qs:List (List Nat)} (p:Ps H xs qs) (k:KeepT H H'):Ps H' xs qs:=⟨p.1, fun i q e=>let ⟨a, h1, h2⟩:=p.2 i q e; ⟨a, h1, k a _ h2⟩⟩
theorem Ps.same {H H':Hp} {xs:List V} {qs:List (List Nat)} (p:Ps H xs qs) (s:Same H H'):Ps H' xs qs:=p.keep (keepT_same s)
theorem Ps.nil {H:Hp}:Ps H [] []:=⟨rfl, fun i q e=>by simp at e⟩
theorem Ps.app {H:Hp} {xs ys:List V} {qs rs:List (List Nat)} (p:Ps H xs qs) (r:Ps H ys rs):Ps H (xs ++ ys) (qs ++ rs):=by
  refine ⟨by rw [List.length_append, List.length_append, p.1, r.1], fun i q e=>?_⟩
  by_cases hi:i < qs.length
  · rw [List.getElem?_append_left hi] at e
    rw [List.getElem?_append_left (by rw [p.1]; exact hi)]
    exact p.2 i q e
  · rw [List.getElem?_append_right (by omega)] at e
    rw [List.getElem?_append_right (by rw [p.1]; omega), p.1]
    exact r.2 _ q e
theorem Ps.one {H:Hp} {a:Addr} {q:List Nat} (h:H a = some (.tup (tv q))):Ps H [.ref a] [q]:=by
  refine ⟨rfl, fun i q' e=>?_⟩
  cases i with
  | zero=>simp at e; subst e; exact ⟨a, rfl, h⟩
  | succ i=>simp at e
theorem Ps.get {H:Hp} {xs:List V} {qs:List (List Nat)} {i:Nat} {x:V} (p:Ps H xs qs) (h:xs[i]? = some x):∃ q a, qs[i]? = some q ∧ x = .ref a ∧ H a = some (.tup (tv q)):=by
  have hl:i < qs.length:=by rw [← p.1]; exact (List.getElem?_eq_some_iff.mp h).1
  obtain ⟨a, e1, e2⟩:=p.2 i qs[i] (List.getElem?_eq_getElem hl)
  rw [h] at e1
  exact ⟨qs[i], a, List.getElem?_eq_getElem hl, Option.some.inj e1, e2⟩
theorem Ps.at {H:Hp} {xs:List V} {qs:List (List Nat)} {i:Nat} (p:Ps H xs qs) (h:i < qs.length):∃ q a, qs[i]? = some q ∧ xs[i]? = some (.ref a) ∧ H a = some (.tup (tv q)):=by
  obtain ⟨a, e1, e2⟩:=p.2 i qs[i] (List.getElem?_eq_getElem h)
  exact ⟨qs[i], a, List.getElem?_eq_getElem h, e1, e2⟩
theorem small {n:Nat} (h:n ≤ 216):n ≤ sizeLine:=by rw [sizeLine_eq]; omega
theorem small' {n:Nat} (h:n ≤ 216):n < sizeLine:=by rw [sizeLine_eq]; omega
theorem drop_cons_of {α:Type} {l:List α} {i:Nat} {x:α} (h:l[i]? = some x):l.drop i = x :: l.drop (i + 1):=by
  obtain ⟨hl, e⟩:=List.getElem?_eq_some_iff.mp h
  rw [List.drop_eq_getElem_cons hl, e]
theorem bb6 {n:Nat} (h:n ≤ 6):BB 3 (n:Int):=by unfold BB; omega
theorem cut_to {xs:List V} {h:Nat}:cutV xs none (some (h:Int)) = xs.take h:=by
  unfold cutV
  rw [HT.sIx_none, HT.sIx_nat, List.drop_zero, Nat.sub_zero]
  by_cases e:h ≤ xs.length
  · rw [Nat.min_eq_left e]
  · rw [Nat.min_eq_right (by omega), List.take_length, List.take_of_length_le (by omega)]
theorem cut_from {xs:List V} {h:Nat}:cutV xs (some (h:Int)) none = xs.drop h:=by
  unfold cutV
  rw [HT.sIx_none, HT.sIx_nat]
  by_cases e:h ≤ xs.length
  · rw [Nat.min_eq_left e, List.take_of_length_le (by rw [List.length_drop]; omega)]
  · rw [Nat.min_eq_right (by omega), List.drop_eq_nil_of_le (Nat.le_refl _), List.drop_eq_nil_of_le (by omega)]; simp
theorem cut_len (xs:List V) (lo hi:Option Int):(cutV xs lo hi).length ≤ xs.length:=cutV_length xs lo hi
theorem nodup_take {α:Type} {l:List α} {i:Nat} {x:α} (h:l.Nodup) (e:l[i]? = some x):x ∉ l.take i:=by
  intro hm
  have h2:(l.take (i + 1)).Nodup:=(List.take_sublist (i + 1) l).nodup h
  have et:l.take (i + 1) = l.take i ++ [x]:=by rw [List.take_add_one, e]; rfl
  rw [et, List.nodup_append] at h2
  exact h2.2.2 x hm x (List.mem_singleton_self x) rfl
noncomputable def Cells (H:Hp) (kvs:List (List Key × V)) (cont:List Nat → List V) (q:List Nat):Prop:=∃ l, valV kvs (tk q) = some (.ref l) ∧ H l = some (.lst (cont q))
theorem Cells.same {H H':Hp} {kvs:List (List Key × V)} {cont:List Nat → List V} {q:List Nat} (c:Cells H kvs cont q) (s:Same H H'):Cells H' kvs cont q:=let ⟨l, h1, h2⟩:=c; ⟨l, h1, s _ _ h2⟩
theorem ordR_lt:∀ (rs q:List Nat), q ∈ ordR rs → ∀ (i n c:Nat), rs.reverse[i]? = some n → q[i]? = some c → c < n
  | [], q, h=>by intro i n c e; simp at e
  | s :: rs, q, h=>by
    simp only [ordR, List.mem_flatMap, List.mem_map, List.mem_range] at h
    obtain ⟨b, hb, x, hx, rfl⟩:=h
    intro i n c e1 e2
    have hl:=ordR_len_each rs b hb
    rw [List.reverse_cons] at e1
    by_cases hi:i < rs.length
    · rw [List.getElem?_append_left (by rw [List.length_reverse]; exact hi)] at e1
      rw [List.getElem?_append_left (by rw [hl]; exact hi)] at e2
      exact ordR_lt rs b hb i n c e1 e2
    · rw [List.getElem?_append_right (by rw [List.length_reverse]; omega), List.length_reverse] at e1
      rw [List.getElem?_append_right (by rw [hl]; omega), hl] at e2
      cases e3:i - rs.length with
      | zero=>rw [e3] at e1 e2; simp at e1 e2; omega
      | succ k=>rw [e3] at e1; simp at e1
theorem lo_lt {u1 u2 sc x1 y1 x2 y2:Int} (h1:Lo u1 sc x1 y1) (h2:Lo u2 sc x2 y2) (hs:0 < sc):x1 * y2 < x2 * y1 ↔ u1 < u2:=by
  have yy:0 < y1 * y2:=Int.mul_pos h1.pos h2.pos
  have e1:x1 * y2 * sc = u1 * (y1 * y2):=by
    have:x1 * y2 * sc = x1 * sc * y2:=by ac_rfl
    rw [this, h1.eq, Int.mul_assoc]
  have e2:x2 * y1 * sc = u2 * (y1 * y2):=by
    have:x2 * y1 * sc = x2 * sc * y1:=by ac_rfl
    rw [this, h2.eq]; ac_rfl
  constructor
  · intro h
    have:=Int.mul_lt_mul_of_pos_right h hs
    rw [e1, e2] at this
    exact Int.lt_of_mul_lt_mul_right this (by omega)
  · intro h
    have:=Int.mul_lt_mul_of_pos_right h yy
    rw [← e1, ← e2] at this
    exact Int.lt_of_mul_lt_mul_right this (by omega)
noncomputable def RfAt (K:PySem.W.Frag) (H:Hp):List Addr → List (List (Int × Int)) → Prop
  | [], []=>True
  | p :: ps, r :: rs=>(∃ qs, H p = some (.lst (List.map V.ref qs)) ∧ FrsAt K H qs r) ∧ RfAt K H ps rs
  | _, _=>False
theorem RfAt.same {K:PySem.W.Frag} {H H':Hp} (s:Same H H'):∀ {ps:List Addr} {rs:List (List (Int × Int))}, RfAt K H ps rs → RfAt K H' ps rs
  | [], [], _=>trivial
  | _ :: _, _ :: _, h=>⟨let ⟨qs, a, b⟩:=h.1; ⟨qs, s _ _ a, b.same s⟩, h.2.same s⟩
  | [], _ :: _, h=>h.elim
  | _ :: _, [], h=>h.elim
theorem RfAt.length {K:PySem.W.Frag} {H:Hp}:∀ {ps:List Addr} {rs:List (List (Int × Int))}, RfAt K H ps rs → ps.length = rs.length
  | [], [], _=>rfl
  | _ :: _, _ :: _, h=>by rw [List.length_cons, List.length_cons, h.2.length]
  | [], _ :: _, h=>h.elim
  | _ :: _, [], h=>h.elim
theorem RfAt.get {K:PySem.W.Frag} {H:Hp}:∀ {ps:List Addr} {rs:List (List (Int × Int))} {i:Nat} {p:Addr}, RfAt K H ps rs → ps[i]? = some p → ∃ r qs, rs[i]? = some r ∧ H p = some (.lst (List.map V.ref qs)) ∧ FrsAt K H qs r
  | [], [], _, _, _, e=>by simp at e
  | _ :: _, r :: _, 0, _, h, e=>by simp at e; subst e; obtain ⟨qs, a, b⟩:=h.1; exact ⟨r, qs, rfl, a, b⟩
  | _ :: _, _ :: _, i + 1, _, h, e=>by
    obtain ⟨f, qs, e1, e2⟩:=h.2.get (i:=i) (by simpa using e)
    exact ⟨f, qs, by simpa using e1, e2⟩
  | [], _ :: _, _, _, h, _=>h.elim
  | _ :: _, [], _, _, h, _=>h.elim
theorem lo_mk {T B x y:Int} (hB:0 < B) (hy:0 < y) (hc:Int.gcd x y = 1) (e:x * B = T * y):Lo T B x y:=by
  have cop:Nat.Coprime x.natAbs y.natAbs:=hc
  have en:x.natAbs * B.natAbs = T.natAbs * y.natAbs:=by rw [← Int.natAbs_mul, ← Int.natAbs_mul, e]
  refine ⟨hy, hc, e, ?_, ?_⟩
  · by_cases h:T = 0
    · rw [h, Int.zero_mul] at e
      rcases Int.mul_eq_zero.mp e with z | z
      · rw [z]; exact Nat.zero_le _
      · omega
    · exact Nat.le_of_dvd (by omega) (cop.dvd_of_dvd_mul_right ⟨_, en.symm⟩)
  · exact Nat.le_of_dvd (by omega) (cop.symm.dvd_of_dvd_mul_left ⟨T.natAbs, by rw [en, Nat.mul_comm]⟩)
theorem lo_mul {a b c d x y ta ba tc bc:Int} (h1:Lo ta ba a b) (h2:Lo tc bc c d) (h:Lo (a * c) (b * d) x y) (b1:0 < ba) (b2:0 < bc):Lo (ta * tc) (ba * bc) x y:=by
  refine lo_mk (Int.mul_pos b1 b2) h.pos h.cop ?_
  have z:0 < b * d:=Int.mul_pos h1.pos h2.pos
  refine Int.eq_of_mul_eq_mul_left (show b * d ≠ 0 by omega) ?_
  calc b * d * (x * (ba * bc)) = x * (b * d) * (ba * bc):=by ac_rfl
    _ = a * c * y * (ba * bc):=by rw [h.eq]
    _ = (a * ba) * (c * bc) * y:=by ac_rfl
    _ = (ta * b) * (tc * d) * y:=by rw [h1.eq, h2.eq]
    _ = b * d * (ta * tc * y):=by ac_rfl
theorem lo_add {a b c d x y ta tc B:Int} (h1:Lo ta B a b) (h2:Lo tc B c d) (h:Lo (a * d + c * b) (b * d) x y) (hB:0 < B):Lo (ta + tc) B x y:=by
  refine lo_mk hB h.pos h.cop ?_
  have z:0 < b * d:=Int.mul_pos h1.pos h2.pos
  refine Int.eq_of_mul_eq_mul_left (show b * d ≠ 0 by omega) ?_
  calc b * d * (x * B) = x * (b * d) * B:=by ac_rfl
    _ = (a * d + c * b) * y * B:=by rw [h.eq]
    _ = ((a * B) * d + (c * B) * b) * y:=by
      rw [Int.mul_assoc, Int.mul_comm y B, ← Int.mul_assoc, Int.add_mul]
      congr 2 <;> ac_rfl
    _ = ((ta * b) * d + (tc * d) * b) * y:=by rw [h1.eq, h2.eq]
    _ = (b * d * ta + b * d * tc) * y:=by congr 2 <;> ac_rfl
    _ = b * d * ((ta + tc) * y):=by rw [← Int.mul_add, Int.mul_assoc]
noncomputable def pT (ps:List (Int × Int)):Int:=ps.foldl (fun t p=>t * p.1) 1
noncomputable def pB (ps:List (Int × Int)):Int:=ps.foldl (fun t p=>t * p.2) 1
theorem pT_snoc (ps:List (Int × Int)) (p:Int × Int):pT (ps ++ [p]) = pT ps * p.1:=by unfold pT; rw [List.foldl_append]; rfl
theorem pB_snoc (ps:List (Int × Int)) (p:Int × Int):pB (ps ++ [p]) = pB ps * p.2:=by unfold pB; rw [List.foldl_append]; rfl
structure Chs (q:List Nat) (ms:List (List (Int × Int))) (ps:List (Int × Int)):Prop where
  l1:ms.length = q.length
  l2:ps.length = q.length
  l3:q.length ≤ 3
  at_:∀ (i n:Nat) (row:List (Int × Int)) (p:Int × Int), q[i]? = some n → ms[i]? = some row → ps[i]? = some p → ∃ f, row[n]? = some f ∧ Lo p.1 p.2 f.1 f.2 ∧ 0 < p.2 ∧ BB 400 p.1 ∧ BB 400 p.2
theorem bb12d:BB 4 (12:Int):=by show (12:Int).natAbs < 2 ^ 4; decide
theorem Lo.bb2 {t b x y:Int} {m n:Nat} (h:Lo t b x y) (ht:BB m t) (hb:BB n b):BB m x ∧ BB n y:=⟨ht.of_le h.bx, hb.of_le h.by_⟩
theorem FrsAt.at_ {K:PySem.W.Frag} {H:Hp} {ps:List Addr} {fs:List (Int × Int)} {i:Nat} {f:Int × Int} (h:FrsAt K H ps fs) (e:fs[i]? = some f):∃ p, ps[i]? = some p ∧ SqT K H p [.int f.1, .int f.2]:=by
  have hl:i < ps.length:=by rw [h.length]; exact (List.getElem?_eq_some_iff.mp e).1
  obtain ⟨g, e2, t⟩:=h.get (List.getElem?_eq_getElem hl)
  rw [e] at e2
  cases e2
  exact ⟨_, List.getElem?_eq_getElem hl, t⟩
noncomputable def RwsAt (H:Hp):List Addr → List (List Int) → Prop
  | [], []=>True
  | p :: ps, r :: rs=>H p = some (.lst (List.map V.int r)) ∧ RwsAt H ps rs
  | _, _=>False
theorem RwsAt.same {H H':Hp} (s:Same H H'):∀ {ps:List Addr} {rs:List (List Int)}, RwsAt H ps rs → RwsAt H' ps rs
  | [], [], _=>trivial
  | _ :: _, _ :: _, h=>⟨s _ _ h.1, h.2.same s⟩
  | [], _ :: _, h=>h.elim
  | _ :: _, [], h=>h.elim
theorem RwsAt.length {H:Hp}:∀ {ps:List Addr} {rs:List (List Int)}, RwsAt H ps rs → ps.length = rs.length
  | [], [], _=>rfl
  | _ :: _, _ :: _, h=>by rw [List.length_cons, List.length_cons, h.2.length]
  | [], _ :: _, h=>h.elim
  | _ :: _, [], h=>h.elim
theorem RwsAt.get {H:Hp}:∀ {ps:List Addr} {rs:List (List Int)} {i:Nat} {p:Addr}, RwsAt H ps rs → ps[i]? = some p → ∃ r, rs[i]? = some r ∧ H p = some (.lst (List.map V.int r))
  | [], [], _, _, _, e=>by simp at e
  | _ :: _, r :: _, 0, _, h, e=>by simp at e; subst e; exact ⟨r, rfl, h.1⟩
  | _ :: _, _ :: _, i + 1, _, h, e=>by
    obtain ⟨f, e1, e2⟩:=h.2.get (i:=i) (by simpa using e)
    exact ⟨f, by simpa using e1, e2⟩
  | [], _ :: _, _, _, h, _=>h.elim
  | _ :: _, [], _, _, h, _=>h.elim
theorem RwsAt.has {H:Hp} {ps:List Addr} {rs:List (List Int)} (h:RwsAt H ps rs) {p:Addr} (hp:p ∈ ps):∃ r, r ∈ rs ∧ H p = some (.lst (List.map V.int r)):=by
  obtain ⟨i, hi⟩:=List.getElem?_of_mem hp
  obtain ⟨r, e1, e2⟩:=h.get hi
  exact ⟨r, List.mem_of_getElem? e1, e2⟩
theorem RwsAt.append {H:Hp} {qs:List Addr} {gs:List (List Int)} (hq:RwsAt H qs gs):∀ {ps:List Addr} {rs:List (List Int)}, RwsAt H ps rs → RwsAt H (ps ++ qs) (rs ++ gs)
  | [], [], _=>hq
  | _ :: _, _ :: _, h=>⟨h.1, RwsAt.append hq h.2⟩
  | [], _ :: _, h=>h.elim
  | _ :: _, [], h=>h.elim
theorem RwsAt.snoc {H:Hp} {q:Addr} {g:List Int} {ps:List Addr} {rs:List (List Int)} (h:RwsAt H ps rs) (hq:H q = some (.lst (List.map V.int g))):RwsAt H (ps ++ [q]) (rs ++ [g]):=RwsAt.append (show RwsAt H [q] [g] from ⟨hq, trivial⟩) h
theorem RwsAt.put {H:Hp} {q:Addr} {o:HO}:∀ {ps:List Addr} {rs:List (List Int)}, q ∉ ps → RwsAt H ps rs → RwsAt (upd H q o) ps rs
  | [], [], _, _=>trivial
  | p :: _, _ :: _, hn, h=>⟨by rw [upd_ne (fun e:p = q=>hn (by rw [e]; exact List.mem_cons_self))]; exact h.1, RwsAt.put (fun z=>hn (List.mem_cons_of_mem _ z)) h.2⟩
  | [], _ :: _, _, h=>h.elim
  | _ :: _, [], _, h=>h.elim
theorem RwsAt.setv {H:Hp} {q:Addr} {g:List Int}:∀ {ps:List Addr} {rs:List (List Int)} {i:Nat}, ps.Nodup → ps[i]? = some q → RwsAt H ps rs → RwsAt (upd H q (.lst (List.map V.int g))) ps (rs.set i g)
  | [], [], _, _, e, _=>by simp at e
  | p :: ps, r :: rs, 0, nd, e, h=>by
    simp at e; subst e
    exact ⟨upd_same, RwsAt.put (List.nodup_cons.mp nd).1 h.2⟩
  | p :: ps, r :: rs, i + 1, nd, e, h=>by
    have e':ps[i]? = some q:=by simpa using e
    have hpq:p ≠ q:=fun z=>(List.nodup_cons.mp nd).1 (z ▸ List.mem_of_getElem? e')
    exact ⟨by rw [upd_ne hpq]; exact h.1, RwsAt.setv (List.nodup_cons.mp nd).2 e' h.2⟩
  | [], _ :: _, _, _, _, h=>h.elim
  | _ :: _, [], _, _, _, h=>h.elim
noncomputable def EnOk (K:PySem.W.Frag) (H:Hp) (xs:List V) (us:List Int) (n:Nat):Prop:=∃ rps fs, xs = List.map V.ref rps ∧ FrsAt K H rps fs ∧ fs.length = n ∧ us.length = n ∧ ∀ (h:Nat) (f:Int × Int) (u:Int), fs[h]? = some f → us[h]? = some u → Lo u 12 f.1 f.2 ∧ BB 400 u
theorem EnOk.same {K:PySem.W.Frag} {H H':Hp} {xs:List V} {us:List Int} {n:Nat} (h:EnOk K H xs us n) (s:Same H H'):EnOk K H' xs us n:=let ⟨rps, fs, a, b, c⟩:=h; ⟨rps, fs, a, b.same s, c⟩
structure PtOk (pss:List (List Int)) (ss:List Nat):Prop where
  len:pss.length = ss.length
  ok:∀ (k:Nat) (row:List Int) (n:Nat), pss[k]? = some row → ss[k]? = some n → row.length = n ∧ (∀ p ∈ row, 0 ≤ p ∧ p ≤ 63000001) ∧ 0 < row.sum
noncomputable def HpAt (H:Hp) (ps:List Addr) (fs:List (Int × Int)):Prop:=∀ (h:Nat) (f:Int × Int), fs[h]? = some f → ∃ p, ps[h]? = some p ∧ H p = some (.tup [.int f.1, .int f.2])
theorem HpAt.same {H H':Hp} {ps:List Addr} {fs:List (Int × Int)} (h:HpAt H ps fs) (s:Same H H'):HpAt H' ps fs:=fun i f e=>let ⟨p, a, b⟩:=h i f e; ⟨p, a, s _ _ b⟩
theorem HpAt.snoc {H:Hp} {ps:List Addr} {fs:List (Int × Int)} {p:Addr} {f:Int × Int} (h:HpAt H ps fs) (hl:ps.length = fs.length) (hp:H p = some (.tup [.int f.1, .int f.2])):HpAt H (ps ++ [p]) (fs ++ [f]):=fun i g e=>by
  by_cases hi:i < fs.length
  · rw [List.getElem?_append_left hi] at e
    obtain ⟨p', a, b⟩:=h i g e
    exact ⟨p', by rw [List.getElem?_append_left (by omega)]; exact a, b⟩
  · have hh:i = fs.length:=by have:=(List.getElem?_eq_some_iff.mp e).1; rw [List.length_append] at this; simp at this; omega
    rw [List.getElem?_append_right (by omega), hh, Nat.sub_self] at e
    cases e
    exact ⟨p, by rw [List.getElem?_append_right (by omega), hh, hl, Nat.sub_self]; rfl, hp⟩
theorem BB.add1 {n:Nat} {a b:Int} (ha:BB n a) (hb:BB n b):BB (n + 1) (a + b):=by
  have h1:a.natAbs < 2 ^ n:=ha
  have h2:b.natAbs < 2 ^ n:=hb
  show (a + b).natAbs < 2 ^ (n + 1)
  rw [Nat.pow_succ]; omega
noncomputable def pqOf (pss:List (List Int)) (q:List Nat):List (Int × Int):=List.zipWith (fun (n:Nat) (row:List Int)=>(row.getD n 0, row.sum)) q pss
structure PlOk (q:List Nat) (pss:List (List Int)):Prop where
  len:q.length = pss.length
  ok:∀ (k n:Nat) (row:List Int), q[k]? = some n → pss[k]? = some row → n < row.length ∧ ∀ p ∈ row, 0 ≤ p ∧ p ≤ 63000001
noncomputable def MsOf (ms:List (List (Int × Int))) (pss:List (List Int)):Prop:=ms.length = pss.length ∧ ∀ (k:Nat) (row:List Int) (fr:List (Int × Int)), pss[k]? = some row → ms[k]? = some fr → fr.length = row.length ∧ ∀ (j:Nat) (p:Int) (f:Int × Int), row[j]? = some p → fr[j]? = some f → Lo p row.sum f.1 f.2
structure MxOk (K:PySem.W.Frag) (H:Hp) (m:Addr) (mps:List Addr) (ms:List (List (Int × Int))) (ns:List Nat):Prop where
  hm:H m = some (.lst (List.map V.ref mps))
  hr:RfAt K H mps ms
  l1:ms.length = ns.length
  l3:ns.length ≤ 3
  ok:∀ (i n:Nat) (row:List (Int × Int)), ns[i]? = some n → ms[i]? = some row → mix row n = true ∧ (∀ f ∈ row, Gd 500 f) ∧ row.length ≤ 7
theorem MxOk.same {K:PySem.W.Frag} {H H':Hp} {m:Addr} {mps:List Addr} {ms:List (List (Int × Int))} {ns:List Nat} (h:MxOk K H m mps ms ns) (s:Same H H'):MxOk K H' m mps ms ns:=⟨s _ _ h.hm, h.hr.same s, h.l1, h.l3, h.ok⟩
theorem mix_all2 {fs:List (Int × Int)} {many:Int} (h:∀ f ∈ fs, 0 ≤ f.1) (e:(fs.length:Int) = many):mix fs many = decide ((nf fs).1 = (nf fs).2):=by
  have:fs.all (fun f=>decide (0 ≤ f.1)) = true:=List.all_eq_true.mpr fun f hf=>decide_eq_true (h f hf)
  unfold mix; rw [this, decide_eq_true e]; simp
theorem nf_parts {S:Int} (hS:0 < S):∀ (row:List Int) (fr:List (Int × Int)), fr.length = row.length → (∀ (j:Nat) (p:Int) (f:Int × Int), row[j]? = some p → fr[j]? = some f → Lo p S f.1 f.2) → ∀ (r:Int × Int) (s:Int), 0 < r.2 → r.1 * S = s * r.2 → (fr.foldl nf1 r).1 * S = (s + row.sum) * (fr.foldl nf1 r).2 ∧ 0 < (fr.foldl nf1 r).2
  | [], [], _, _, r, s, hr, e=>by
    rw [List.foldl_nil, List.sum_nil, Int.add_zero]
    exact ⟨e, hr⟩
  | p :: row, f :: fr, hl, h, r, s, hr, e=>by
    have lo:=h 0 p f rfl rfl
    have:=nf_parts hS row fr (by simpa using hl) (fun j p f e1 e2=>h (j + 1) p f (by simpa using e1) (by simpa using e2)) (nf1 r f) (s + p) (Int.mul_pos hr lo.pos) (by
      show (r.1 * f.2 + f.1 * r.2) * S = (s + p) * (r.2 * f.2)
      calc (r.1 * f.2 + f.1 * r.2) * S = (r.1 * S) * f.2 + (f.1 * S) * r.2:=by rw [Int.add_mul]; congr 1 <;> ac_rfl
        _ = (s * r.2) * f.2 + (p * f.2) * r.2:=by rw [e, lo.eq]
        _ = (s + p) * (r.2 * f.2):=by rw [Int.add_mul]; congr 1 <;> ac_rfl)
    rw [List.foldl_cons, List.sum_cons, ← Int.add_assoc]
    exact this
  | [], _ :: _, hl, _, _, _, _, _=>by simp at hl
  | _ :: _, [], hl, _, _, _, _, _=>by simp at hl
theorem lo_nonneg {p S x y:Int} (h:Lo p S x y) (hp:0 ≤ p) (hS:0 < S):0 ≤ x:=by
  have:0 ≤ x * S:=by rw [h.eq]; exact Int.mul_nonneg hp (Int.le_of_lt h.pos)
  rcases Int.lt_or_le x 0 with hx | hx
  · have:=Int.mul_neg_of_neg_of_pos hx hS; omega
  · exact hx
theorem parts_mix {row:List Int} {fr:List (Int × Int)} {n:Nat} (hS:0 < row.sum) (hp:∀ p ∈ row, 0 ≤ p) (hn:row.length = n) (hl:fr.length = row.length) (h:∀ (j:Nat) (p:Int) (f:Int × Int), row[j]? = some p → fr[j]? = some f → Lo p row.sum f.1 f.2):mix fr n = true:=by
  rw [mix_all2 (fun f hf=>?_) (by rw [hl, hn])]
  · have:=nf_parts hS row fr hl h (0, 1) 0 (by decide) (by rw [Int.zero_mul, Int.zero_mul])
    rw [Int.zero_add] at this
    have e:(nf fr).1 * row.sum = (nf fr).2 * row.sum:=by
      rw [Int.mul_comm (nf fr).2]; exact this.1
    exact decide_eq_true (Int.eq_of_mul_eq_mul_right (by omega) e)
  · obtain ⟨j, hj⟩:=List.getElem?_of_mem hf
    have hjl:j < row.length:=by rw [← hl]; exact (List.getElem?_eq_some_iff.mp hj).1
    exact lo_nonneg (h j _ f (List.getElem?_eq_getElem hjl) hj) (hp _ (List.getElem_mem hjl)) hS
theorem sum_le_parts:∀ (row:List Int) {B:Int}, (∀ p ∈ row, 0 ≤ p ∧ p ≤ B) → 0 ≤ row.sum ∧ row.sum ≤ B * row.length
  | [], B, _=>by rw [List.sum_nil]; exact ⟨Int.le_refl _, by show 0 ≤ B * 0; omega⟩
  | p :: row, B, h=>by
    have h1:=h p List.mem_cons_self
    have h2:=sum_le_parts row fun p hp=>h p (List.mem_cons_of_mem _ hp)
    rw [List.sum_cons, List.length_cons, Int.natCast_add, Int.mul_add]
    exact ⟨by omega, by omega⟩
theorem bb_part {p:Int} (h:0 ≤ p ∧ p ≤ 63000001):BB 26 p:=by unfold BB; omega
theorem bb_sum {row:List Int} (h:∀ p ∈ row, 0 ≤ p ∧ p ≤ 63000001) (hl:row.length ≤ 6):BB 29 row.sum:=by
  have:=sum_le_parts row h
  unfold BB; omega
theorem PtOk.row {pss:List (List Int)} {ss:List Nat} (h:PtOk pss ss) (z:Sz ss) {k:Nat} {row:List Int} (e:pss[k]? = some row):∃ n, ss[k]? = some n ∧ n ≤ 6 ∧ row.length = n ∧ (∀ p ∈ row, 0 ≤ p ∧ p ≤ 63000001) ∧ 0 < row.sum:=by
  have hk:k < ss.length:=by rw [← h.len]; exact (List.getElem?_eq_some_iff.mp e).1
  have hs:=List.getElem?_eq_getElem hk
  obtain ⟨a, b, c⟩:=h.ok k row _ e hs
  exact ⟨_, hs, z.le _ (List.getElem_mem hk), a, b, c⟩
theorem PtOk.plOk {pss:List (List Int)} {ss q:List Nat} (h:PtOk pss ss) (hq:q ∈ ordR ss.reverse):PlOk q pss:=by
  have ql:q.length = ss.length:=by rw [ordR_len_each _ _ hq, List.length_reverse]
  refine ⟨by rw [ql, h.len], fun k n row e1 e2=>?_⟩
  have hk:k < ss.length:=by rw [← h.len]; exact (List.getElem?_eq_some_iff.mp e2).1
  have hs:=List.getElem?_eq_getElem hk
  obtain ⟨a, b, _⟩:=h.ok k row _ e2 hs
  refine ⟨?_, b⟩
  rw [a]
  exact ordR_lt _ _ hq k _ n (by rw [List.reverse_reverse]; exact hs) e1
theorem pqOf_at {pss:List (List Int)} {q:List Nat} {k n:Nat} {row:List Int} (e1:q[k]? = some n) (e2:pss[k]? = some row):(pqOf pss q)[k]? = some (row.getD n 0, row.sum):=by
  unfold pqOf; rw [List.getElem?_zipWith, e1, e2]
theorem parts_chs {pss:List (List Int)} {ss q:List Nat} {ms:List (List (Int × Int))} (h:PtOk pss ss) (z:Sz ss) (m:MsOf ms pss) (hq:q ∈ ordR ss.reverse):Chs q ms (pqOf pss q):=by
  have PO:=h.plOk hq
  have ql:q.length = ss.length:=by rw [ordR_len_each _ _ hq, List.length_reverse]
  refine ⟨by rw [m.1, PO.len], by unfold pqOf; rw [List.length_zipWith, PO.len, Nat.min_self], by rw [ql]; exact z.len, fun i n fr p e1 e2 e3=>?_⟩
  have hi:i < pss.length:=by rw [← PO.len]; exact (List.getElem?_eq_some_iff.mp e1).1
  have er:=List.getElem?_eq_getElem hi
  obtain ⟨nn, _, n6, rl, rb, rs⟩:=h.row z er
  obtain ⟨fl, lo⟩:=m.2 i _ fr er e2
  obtain ⟨nl, _⟩:=PO.ok i n _ e1 er
  rw [pqOf_at e1 er] at e3
  cases e3
  have hat:=List.getElem?_eq_getElem nl
  have hf:=List.getElem?_eq_getElem (show n < fr.length by rw [fl]; exact nl)
  have eg:(pss[i]).getD n 0 = (pss[i])[n]:=by rw [List.getD_eq_getElem?_getD, hat]; rfl
  refine ⟨_, hf, ?_, rs, ?_, (bb_sum rb (by omega)).mono (by decide)⟩
  · show Lo ((pss[i]).getD n 0) _ _ _
    rw [eg]
    exact lo n _ _ hat hf
  · show BB 400 ((pss[i]).getD n 0)
    rw [eg]
    exact (bb_part (rb _ (List.getElem_mem nl))).mono (by decide)
noncomputable def pS (pss:List (List Int)):Int:=pss.foldl (fun t row=>t * row.sum) 1
theorem pS_snoc (pss:List (List Int)) (row:List Int):pS (pss ++ [row]) = pS pss * row.sum:=by unfold pS; rw [List.foldl_append]; rfl
theorem pB_pq {pss:List (List Int)} {q:List Nat} (hl:q.length = pss.length):pB (pqOf pss q) = pS pss:=by
  have:∀ (q:List Nat) (pss:List (List Int)) (t:Int), q.length = pss.length → (pqOf pss q).foldl (fun t p=>t * p.2) t = pss.foldl (fun t row=>t * row.sum) t:=by
    intro q
    induction q with
    | nil=>intro pss t h; cases pss with | nil=>rfl | cons a b=>simp at h
    | cons n q ih=>intro pss t h; cases pss with
      | nil=>simp at h
      | cons row pss=>exact ih pss (t * row.sum) (by simpa using h)
  exact this q pss 1 hl
theorem pS_ok {pss:List (List Int)} {ss:List Nat} (h:PtOk pss ss) (z:Sz ss):∀ i, i ≤ pss.length → 0 < pS (pss.take i) ∧ BB (29 * i + 1) (pS (pss.take i))
  | 0, _=>by rw [List.take_zero]; exact ⟨by decide, by unfold BB; decide⟩
  | i + 1, hi=>by
    have er:=List.getElem?_eq_getElem (show i < pss.length by omega)
    obtain ⟨n, _, n6, rl, rb, rs⟩:=h.row z er
    obtain ⟨a, b⟩:=pS_ok h z i (by omega)
    rw [take_snoc er, pS_snoc]
    exact ⟨Int.mul_pos a rs, (b.mul (bb_sum rb (by omega))).mono (by omega)⟩
theorem pT_ok {pss:List (List Int)} {ss q:List Nat} (h:PtOk pss ss) (z:Sz ss) (hq:q ∈ ordR ss.reverse):∀ i, i ≤ q.length → BB (26 * i + 1) (pT ((pqOf pss q).take i))
  | 0, _=>by rw [List.take_zero]; unfold BB; decide
  | i + 1, hi=>by
    have PO:=h.plOk hq
    have e1:=List.getElem?_eq_getElem (show i < q.length by omega)
    have er:=List.getElem?_eq_getElem (show i < pss.length by rw [← PO.len]; omega)
    obtain ⟨nl, rb⟩:=PO.ok i _ _ e1 er
    rw [take_snoc (pqOf_at e1 er), pT_snoc]
    refine ((pT_ok h z hq i (by omega)).mul (bb_part ?_)).mono (by omega)
    rw [List.getD_eq_getElem?_getD, List.getElem?_eq_getElem nl]
    exact rb _ (List.getElem_mem nl)
theorem parts_mxOk {K:PySem.W.Frag} {H:Hp} {m:Addr} {mps:List Addr} {ms:List (List (Int × Int))} {pss:List (List Int)} {ss:List Nat} (h:PtOk pss ss) (z:Sz ss) (mo:MsOf ms pss) (hm:H m = some (.lst (List.map V.ref mps))) (hr:RfAt K H mps ms):MxOk K H m mps ms ss:=by
  refine ⟨hm, hr, by rw [mo.1, h.len], z.len, fun i n fr e1 e2=>?_⟩
  have hi:i < pss.length:=by rw [← mo.1]; exact (List.getElem?_eq_some_iff.mp e2).1
  have er:=List.getElem?_eq_getElem hi
  obtain ⟨nn, en, n6, rl, rb, rs⟩:=h.row z er
  rw [e1] at en; cases en
  obtain ⟨fl, lo⟩:=mo.2 i _ fr er e2
  refine ⟨parts_mix rs (fun p hp=>(rb p hp).1) rl fl lo, fun f hf=>?_, by omega⟩
  obtain ⟨j, hj⟩:=List.getElem?_of_mem hf
  have hjl:j < (pss[i]).length:=by rw [← fl]; exact (List.getElem?_eq_some_iff.mp hj).1
  have l:=lo j _ f (List.getElem?_eq_getElem hjl) hj
  exact ⟨l.pos, ((bb_part (rb _ (List.getElem_mem hjl))).of_le l.bx).mono (by decide), ((bb_sum rb (by omega)).of_le l.by_).mono (by decide)⟩
theorem deq_frac {K:PySem.W.Frag} {H:Hp} {n:Nat} {p p':Addr} {f:Int × Int} (h:SqT K H p [.int f.1, .int f.2]) (h':SqT K H p' [.int f.1, .int f.2]):DEq K H (n + 1) (.ref p) (.ref p') true:=by
  by_cases e:p = p'
  · subst e
    exact .inl (.inl ⟨rfl, ⟨p, rfl⟩, rfl⟩)
  · refine .inr ⟨fun z=>e (by injection z), p, p', _, _, rfl, rfl, .inr ⟨h, h', fun _=>true, fun j x' y' h1 h2=>?_, by simp⟩⟩
    have leaf:(x' = y' ∧ (∃ a, x' = V.ref a) ∧ true = true) ∨ ∃ i k, x' = V.int i ∧ y' = V.int k ∧ true = (i == k):=by
      match j, h1, h2 with
      | 0, h1, h2=>simp at h1 h2; subst h1 h2; exact .inr ⟨_, _, rfl, rfl, by simp⟩
      | 1, h1, h2=>simp at h1 h2; subst h1 h2; exact .inr ⟨_, _, rfl, rfl, by simp⟩
      | n + 2, h1, _=>simp at h1
    cases n with
    | zero=>exact leaf
    | succ n=>exact .inl leaf
theorem req_fracs {K:PySem.W.Frag} {H:Hp} {n:Nat} {a b:Addr} {ps qs:List Addr} {fs:List (Int × Int)} (ha:SqL K H a (List.map V.ref ps)) (hb:SqL K H b (List.map V.ref qs)) (hp:FrsAt K H ps fs) (hq:FrsAt K H qs fs):REq K H (DEq K H (n + 1)) (.ref a) (.ref b) true:=by
  refine ⟨a, b, _, _, rfl, rfl, .inl ⟨ha, hb, .inr ⟨by rw [List.length_map, List.length_map, hp.length, hq.length], fun _=>true, fun j x y hx hy=>?_, by simp⟩⟩⟩
  obtain ⟨p, rfl, h1⟩:=get_refs hx
  obtain ⟨q, rfl, h2⟩:=get_refs hy
  obtain ⟨f, e, hf⟩:=hp.get h1
  obtain ⟨g, e2, hg⟩:=hq.get h2
  rw [e] at e2
  cases e2
  exact deq_frac hf hg
theorem req_rowsF {K:PySem.W.Frag} {H:Hp} {a b:Addr} {ps qs:List Addr} {ms:List (List (Int × Int))} (ha:SqL K H a (List.map V.ref ps)) (hb:SqL K H b (List.map V.ref qs)) (hp:RfAt K H ps ms) (hq:RfAt K H qs ms):REq K H (DEq K H 2) (.ref a) (.ref b) true:=by
  refine ⟨a, b, _, _, rfl, rfl, .inl ⟨ha, hb, .inr ⟨by rw [List.length_map, List.length_map, hp.length, hq.length], fun _=>true, fun j x y hx hy=>?_, by simp⟩⟩⟩
  obtain ⟨p, rfl, h1⟩:=get_refs hx
  obtain ⟨q, rfl, h2⟩:=get_refs hy
  obtain ⟨f, u, e, hu, hf⟩:=hp.get h1
  obtain ⟨g, w, e2, hw, hg⟩:=hq.get h2
  rw [e] at e2
  cases e2
  by_cases pq:p = q
  · subst pq
    exact .inl (.inl ⟨rfl, ⟨p, rfl⟩, rfl⟩)
  · exact .inr ⟨fun z=>pq (by injection z), req_fracs (SqL.of hu) (SqL.of hw) hf hg⟩
theorem flat_eq {α β:Type} {f g:α → List β}:∀ {L:List α}, (∀ b ∈ L, f b = g b) → L.flatMap f = L.flatMap g
  | [], _=>rfl
  | b :: L, h=>by rw [List.flatMap_cons, List.flatMap_cons, h b List.mem_cons_self, flat_eq fun b hb=>h b (List.mem_cons_of_mem _ hb)]
noncomputable def ins (h c:Nat) (b:List Nat):List Nat:=b.take h ++ c :: b.drop h
theorem ins_snoc {h c d:Nat} {b:List Nat} (hb:h ≤ b.length):ins h c (b ++ [d]) = ins h c b ++ [d]:=by
  unfold ins
  rw [List.take_append_of_le_length hb, List.drop_append_of_le_length hb, List.append_assoc]
  rfl
theorem ins_end {c:Nat} {b:List Nat}:ins b.length c b = b ++ [c]:=by unfold ins; rw [List.take_length, List.drop_length]
theorem range_sel {c:Nat}:∀ {s:Nat}, c < s → (List.range s).filter (fun d=>decide (d = c)) = [c]
  | s + 1, h=>by
    rw [List.range_succ, List.filter_append]
    by_cases e:c < s
    · rw [range_sel e, List.filter_cons_of_neg (by simp; omega)]; rfl
    · have e:c = s:=by omega
      subst e
      rw [List.filter_eq_nil_iff.mpr fun d hd=>by rw [List.mem_range] at hd; simp; omega, List.filter_cons_of_pos (by simp)]; rfl
theorem wo_len {α:Type} {h:Nat} {l:List α} (hl:h < l.length):(wo h l).length + 1 = l.length:=by unfold wo; rw [List.length_append, List.length_take, List.length_drop]; omega
theorem ordR_sel:∀ (rs:List Nat) (h n c:Nat), rs.reverse[h]? = some n → c < n → (ordR rs).filter (fun q=>decide (q[h]? = some c)) = (ordR (wo h rs.reverse).reverse).map (ins h c)
  | [], h, n, c, e, _=>by simp at e
  | s :: rs, h, n, c, e, hc=>by
    rw [List.reverse_cons] at e ⊢
    have rl:rs.reverse.length = rs.length:=List.length_reverse
    by_cases hh:h < rs.length
    · have e':rs.reverse[h]? = some n:=by rwa [List.getElem?_append_left (by omega)] at e
      have ih:=ordR_sel rs h n c e' hc
      have hw:wo h (rs.reverse ++ [s]) = wo h rs.reverse ++ [s]:=by
        unfold wo; rw [List.take_append_of_le_length (by omega), List.drop_append_of_le_length (by omega), List.append_assoc]
      rw [hw, List.reverse_append]
      show List.filter _ ((ordR rs).flatMap fun b=>(List.range s).map fun d=>b ++ [d]) = List.map (ins h c) ((ordR (wo h rs.reverse).reverse).flatMap fun b=>(List.range s).map fun d=>b ++ [d])
      have k1:∀ L:List (List Nat), (∀ b ∈ L, b.length = rs.length) → List.filter (fun q=>decide (q[h]? = some c)) (L.flatMap fun b=>(List.range s).map fun d=>b ++ [d]) = (L.filter fun q=>decide (q[h]? = some c)).flatMap fun b=>(List.range s).map fun d=>b ++ [d]:=by
        intro L
        induction L with
        | nil=>intro _; rfl
        | cons b L ih =>
          intro hL
          have hb:=hL b List.mem_cons_self
          have same:∀ d, (b ++ [d])[h]? = b[h]?:=fun d=>List.getElem?_append_left (by omega)
          rw [List.flatMap_cons, List.filter_append, ih fun b hb=>hL b (List.mem_cons_of_mem _ hb)]
          by_cases p:b[h]? = some c
          · rw [List.filter_cons_of_pos (by simpa using p), List.flatMap_cons, List.filter_eq_self.mpr fun q hq=>?_]
            obtain ⟨d, _, rfl⟩:=List.mem_map.mp hq
            rw [same]; simpa using p
          · rw [List.filter_cons_of_neg (by simpa using p), List.filter_eq_nil_iff.mpr fun q hq=>?_, Lna]
            obtain ⟨d, _, rfl⟩:=List.mem_map.mp hq
            rw [same]; simpa using p
      rw [k1 _ fun b hb=>ordR_len_each rs b hb, ih, List.flatMap_map, List.map_flatMap]
      refine flat_eq fun b hb=>?_
      have bl:b.length = (wo h rs.reverse).length:=by rw [ordR_len_each _ b hb, List.length_reverse]
      have wl:=wo_len (h:=h) (l:=rs.reverse) (by omega)
      rw [List.map_map]
      exact List.map_congr_left fun d _=>(ins_snoc (by omega)).symm
    · have hl:h < (rs.reverse ++ [s]).length:=(List.getElem?_eq_some_iff.mp e).1
      rw [List.length_append, List.length_singleton] at hl
      have eh:h = rs.length:=by omega
      subst eh
      rw [List.getElem?_append_right (by omega), rl, Nat.sub_self] at e
      have es:s = n:=by simpa using e
      subst es
      have hw:wo rs.length (rs.reverse ++ [s]) = rs.reverse:=by
        unfold wo; rw [List.take_append_of_le_length (by omega), List.take_of_length_le (by omega), List.drop_eq_nil_of_le (by simp), List.append_nil]
      rw [hw, List.reverse_reverse]
      show List.filter _ ((ordR rs).flatMap fun b=>(List.range s).map fun d=>b ++ [d]) = _
      have k2:∀ L:List (List Nat), (∀ b ∈ L, b.length = rs.length) → List.filter (fun q=>decide (q[rs.length]? = some c)) (L.flatMap fun b=>(List.range s).map fun d=>b ++ [d]) = L.map (ins rs.length c):=by
        intro L
        induction L with
        | nil=>intro _; rfl
        | cons b L ih =>
          intro hL
          have hb:=hL b List.mem_cons_self
          rw [List.flatMap_cons, List.filter_append, ih fun b hb=>hL b (List.mem_cons_of_mem _ hb), List.map_cons, List.filter_map]
          have:((fun q:List Nat=>decide (q[rs.length]? = some c)) ∘ fun d=>b ++ [d]) = fun d=>decide (d = c):=by
            funext d
            show decide ((b ++ [d])[rs.length]? = some c) = _
            rw [List.getElem?_append_right (by omega), hb, Nat.sub_self]; simp
          rw [this, range_sel hc, ← hb, ins_end]
          rfl
      exact k2 _ fun b hb=>ordR_len_each rs b hb
theorem ordR_ins {ns b:List Nat} {h n c:Nat} (hn:ns[h]? = some n) (hc:c < n) (hb:b ∈ ordR (wo h ns).reverse):ins h c b ∈ ordR ns.reverse:=by
  have:=ordR_sel ns.reverse h n c (by rw [List.reverse_reverse]; exact hn) hc
  rw [List.reverse_reverse] at this
  have hm:ins h c b ∈ (ordR (wo h ns).reverse).map (ins h c):=List.mem_map_of_mem hb
  rw [← this] at hm
  exact (List.mem_filter.mp hm).1
theorem wo_get {α:Type} {h k:Nat} {l:List α}:(wo h l)[k]? = l[if k < h then k else k + 1]?:=by
  unfold wo
  by_cases hk:k < h
  · rw [if_pos hk]
    by_cases hl:k < l.length
    · rw [List.getElem?_append_left (by rw [List.length_take]; omega), List.getElem?_take, if_pos hk]
    · rw [List.getElem?_eq_none (by rw [List.length_append, List.length_take, List.length_drop]; omega), List.getElem?_eq_none (by omega)]
  · rw [if_neg hk]
    by_cases hl:h < l.length
    · rw [List.getElem?_append_right (by rw [List.length_take]; omega), List.getElem?_drop, List.length_take]
      congr 1; omega
    · rw [List.getElem?_eq_none (by rw [List.length_append, List.length_take, List.length_drop]; omega), List.getElem?_eq_none (by omega)]
theorem RfAt.at_ {K:PySem.W.Frag} {H:Hp} {ps:List Addr} {rs:List (List (Int × Int))}:(ps.length = rs.length ∧ ∀ (i:Nat) (p:Addr) (r:List (Int × Int)), ps[i]? = some p → rs[i]? = some r → ∃ qs, H p = some (.lst (List.map V.ref qs)) ∧ FrsAt K H qs r) → RfAt K H ps rs:=by
  induction ps generalizing rs with
  | nil=>intro ⟨h, _⟩; cases rs with | nil=>trivial | cons r rs=>simp at h
  | cons p ps ih =>
    intro ⟨h, k⟩
    cases rs with
    | nil=>simp at h
    | cons r rs=>exact ⟨k 0 p r rfl rfl, ih ⟨by simpa using h, fun i p r e1 e2=>k (i + 1) p r (by simpa using e1) (by simpa using e2)⟩⟩
theorem RfAt.of2 {K:PySem.W.Frag} {H:Hp} {ps:List Addr} {rs:List (List (Int × Int))} (h:RfAt K H ps rs) {i:Nat} {p:Addr} {r:List (Int × Int)} (e1:ps[i]? = some p) (e2:rs[i]? = some r):∃ qs, H p = some (.lst (List.map V.ref qs)) ∧ FrsAt K H qs r:=by
  obtain ⟨r', qs, e3, a, b⟩:=h.get e1
  rw [e2] at e3; cases e3
  exact ⟨qs, a, b⟩
theorem RfAt.wo {K:PySem.W.Frag} {H:Hp} {ps:List Addr} {rs:List (List (Int × Int))} (h:RfAt K H ps rs) (j:Nat):RfAt K H (wo j ps) (wo j rs):=by
  refine RfAt.at_ ⟨by unfold My.wo; rw [List.length_append, List.length_append, List.length_take, List.length_take, List.length_drop, List.length_drop, h.length], fun i p r e1 e2=>?_⟩
  rw [wo_get] at e1 e2
  exact h.of2 e1 e2
theorem PtOk.wo {pss:List (List Int)} {ss:List Nat} (h:PtOk pss ss) (j:Nat):PtOk (wo j pss) (wo j ss):=by
  refine ⟨by unfold My.wo; rw [List.length_append, List.length_append, List.length_take, List.length_take, List.length_drop, List.length_drop, h.len], fun k row n e1 e2=>?_⟩
  rw [wo_get] at e1 e2
  exact h.ok _ row n e1 e2
theorem MsOf.wo {ms:List (List (Int × Int))} {pss:List (List Int)} (h:MsOf ms pss) (j:Nat):MsOf (wo j ms) (wo j pss):=by
  refine ⟨by unfold My.wo; rw [List.length_append, List.length_append, List.length_take, List.length_take, List.length_drop, List.length_drop, h.1], fun k row fr e1 e2=>?_⟩
  rw [wo_get] at e1 e2
  exact h.2 _ row fr e1 e2
noncomputable def sA (un:List Nat → List Int) (po:List Nat → List (Int × Int)) (bs:List (List Nat)) (h c:Nat):Int:=bs.foldl (fun s b=>s + pT (po b) * (un (ins h c b)).getD h 0) 0
theorem sA_snoc (un:List Nat → List Int) (po:List Nat → List (Int × Int)) (bs:List (List Nat)) (b:List Nat) (h c:Nat):sA un po (bs ++ [b]) h c = sA un po bs h c + pT (po b) * (un (ins h c b)).getD h 0:=by unfold sA; rw [List.foldl_append]; rfl
noncomputable def sE (un:List Nat → List Int) (pq:List Nat → List (Int × Int)) (qs:List (List Nat)) (h:Nat):Int:=qs.foldl (fun s q=>s + pT (pq q) * (un q).getD h 0) 0
theorem sE_snoc (un:List Nat → List Int) (pq:List Nat → List (Int × Int)) (qs:List (List Nat)) (q:List Nat) (h:Nat):sE un pq (qs ++ [q]) h = sE un pq qs h + pT (pq q) * (un q).getD h 0:=by unfold sE; rw [List.foldl_append]; rfl
theorem pS_from:∀ (l:List (List Int)) (s:Int), l.foldl (fun t row=>t * row.sum) s = s * pS l
  | [], s=>by show s = s * 1; omega
  | r :: l, s=>by
    have h1:=pS_from l (s * r.sum)
    have h2:=pS_from l (1 * r.sum)
    show l.foldl (fun t row=>t * row.sum) (s * r.sum) = s * l.foldl (fun t row=>t * row.sum) (1 * r.sum)
    rw [h1, h2, Int.one_mul, Int.mul_assoc]
theorem pS_app (a b:List (List Int)):pS (a ++ b) = pS a * pS b:=by
  show (a ++ b).foldl (fun t row=>t * row.sum) 1 = _
  rw [List.foldl_append, pS_from b]
  rfl
theorem pS_row {pss:List (List Int)} {row:List Int} {h:Nat} (e:pss[h]? = some row):pS pss = pS (wo h pss) * row.sum:=by
  have hp:h < pss.length:=(List.getElem?_eq_some_iff.mp e).1
  have ep:pss.take h ++ row :: pss.drop (h + 1) = pss:=by
    have:=List.take_append_drop h pss
    rw [List.drop_eq_getElem_cons hp, (List.getElem?_eq_some_iff.mp e).2] at this
    exact this
  have e1:pS (pss.take h ++ row :: pss.drop (h + 1)) = pS (pss.take h) * (row.sum * pS (pss.drop (h + 1))):=by
    rw [pS_app, show row :: pss.drop (h + 1) = [row] ++ pss.drop (h + 1) from rfl, pS_app, show pS [row] = row.sum by show 1 * row.sum = _; omega]
  rw [ep] at e1
  rw [e1]
  unfold wo
  rw [pS_app]
  ac_rfl
theorem lo_scale {t b x y s:Int} (h:Lo t b x y) (hb:0 < b) (hs:0 < s):Lo (t * s) (b * s) x y:=lo_mk (Int.mul_pos hb hs) h.pos h.cop (by rw [← Int.mul_assoc, h.eq]; ac_rfl)
theorem lo_minus {t b x y:Int} (h:Lo t b x y):Lo (-t) b (-x) y:=⟨h.pos, by rw [Int.neg_gcd]; exact h.cop, by rw [Int.neg_mul, Int.neg_mul, h.eq], by rw [Int.natAbs_neg, Int.natAbs_neg]; exact h.bx, h.by_⟩
theorem lo_sub {a b c d x y ta tc B:Int} (h1:Lo ta B a b) (h2:Lo tc B c d) (h:Lo (a * d - c * b) (b * d) x y) (hB:0 < B):Lo (ta - tc) B x y:=by
  have:=lo_add h1 (lo_minus h2) (x:=x) (y:=y) (by rw [Int.neg_mul, ← Int.sub_eq_add_neg]; exact h) hB
  rwa [← Int.sub_eq_add_neg] at this
theorem HpAt.off {H:Hp} {z:Addr} {ps:List Addr} {fs:List (Int × Int)} {ys zs:List V} (h:HpAt H ps fs) (hz:H z = some (.lst ys)):HpAt (upd H z (.lst zs)) ps fs:=fun i f e=>by
  obtain ⟨p, a, b⟩:=h i f e
  exact ⟨p, a, by rw [upd_ne (ne_of b hz (by intro q; cases q))]; exact b⟩
noncomputable def Flt (r s:Int × Int):Prop:=r.1 * s.2 < s.1 * r.2
theorem nf1_l {r s f:Int × Int} (hf:0 < f.2) (h:Flt r s):Flt (nf1 r f) (nf1 s f):=by
  show (r.1 * f.2 + f.1 * r.2) * (s.2 * f.2) < (s.1 * f.2 + f.1 * s.2) * (r.2 * f.2)
  have h:r.1 * s.2 < s.1 * r.2:=h
  have e1:(r.1 * f.2 + f.1 * r.2) * (s.2 * f.2) = (r.1 * s.2) * (f.2 * f.2) + f.1 * f.2 * (r.2 * s.2):=by rw [Int.add_mul]; congr 1 <;> ac_rfl
  have e2:(s.1 * f.2 + f.1 * s.2) * (r.2 * f.2) = (s.1 * r.2) * (f.2 * f.2) + f.1 * f.2 * (r.2 * s.2):=by rw [Int.add_mul]; congr 1 <;> ac_rfl
  rw [e1, e2]
  have:=Int.mul_lt_mul_of_pos_right h (Int.mul_pos hf hf)
  omega
theorem nf1_r {r f g:Int × Int} (hr:0 < r.2) (h:Flt f g):Flt (nf1 r f) (nf1 r g):=by
  show (r.1 * f.2 + f.1 * r.2) * (r.2 * g.2) < (r.1 * g.2 + g.1 * r.2) * (r.2 * f.2)
  have h:f.1 * g.2 < g.1 * f.2:=h
  have e1:(r.1 * f.2 + f.1 * r.2) * (r.2 * g.2) = (f.1 * g.2) * (r.2 * r.2) + r.1 * r.2 * (f.2 * g.2):=by rw [Int.add_mul, Int.add_comm]; congr 1 <;> ac_rfl
  have e2:(r.1 * g.2 + g.1 * r.2) * (r.2 * f.2) = (g.1 * f.2) * (r.2 * r.2) + r.1 * r.2 * (f.2 * g.2):=by rw [Int.add_mul, Int.add_comm]; congr 1 <;> ac_rfl
  rw [e1, e2]
  have:=Int.mul_lt_mul_of_pos_right h (Int.mul_pos hr hr)
  omega
theorem fold_lt:∀ (fs:List (Int × Int)) {r s:Int × Int}, (∀ f ∈ fs, 0 < f.2) → Flt r s → Flt (fs.foldl nf1 r) (fs.foldl nf1 s)
  | [], _, _, _, h=>h
  | f :: fs, _, _, hp, h=>fold_lt fs (fun g hg=>hp g (List.mem_cons_of_mem _ hg)) (nf1_l (hp f List.mem_cons_self) h)
theorem fold_pos:∀ (fs:List (Int × Int)) {r:Int × Int}, (∀ f ∈ fs, 0 < f.2) → 0 < r.2 → 0 < (fs.foldl nf1 r).2
  | [], _, _, h=>h
  | f :: fs, _, hp, h=>fold_pos fs (fun g hg=>hp g (List.mem_cons_of_mem _ hg)) (Int.mul_pos h (hp f List.mem_cons_self))
theorem fold_set_lt:∀ (fs:List (Int × Int)) (j:Nat) {f g r:Int × Int}, (∀ f ∈ fs, 0 < f.2) → 0 < r.2 → fs[j]? = some f → Flt f g → Flt (fs.foldl nf1 r) ((fs.set j g).foldl nf1 r)
  | [], _, _, _, _, _, _, e, _=>by simp at e
  | f' :: fs, 0, f, g, r, hp, hr, e, h=>by
    cases e
    exact fold_lt fs (fun g hg=>hp g (List.mem_cons_of_mem _ hg)) (nf1_r hr h)
  | f' :: fs, j + 1, f, g, r, hp, hr, e, h=>fold_set_lt fs j (fun g hg=>hp g (List.mem_cons_of_mem _ hg)) (Int.mul_pos hr (hp f' List.mem_cons_self)) (by simpa using e) h
theorem fold_set_gt:∀ (fs:List (Int × Int)) (j:Nat) {f g r:Int × Int}, (∀ f ∈ fs, 0 < f.2) → 0 < r.2 → fs[j]? = some f → Flt g f → Flt ((fs.set j g).foldl nf1 r) (fs.foldl nf1 r)
  | [], _, _, _, _, _, _, e, _=>by simp at e
  | f' :: fs, 0, f, g, r, hp, hr, e, h=>by
    cases e
    exact fold_lt fs (fun g hg=>hp g (List.mem_cons_of_mem _ hg)) (nf1_r hr h)
  | f' :: fs, j + 1, f, g, r, hp, hr, e, h=>fold_set_gt fs j (fun g hg=>hp g (List.mem_cons_of_mem _ hg)) (Int.mul_pos hr (hp f' List.mem_cons_self)) (by simpa using e) h
theorem mix_sum {fs:List (Int × Int)} {n:Int} (h:mix fs n = true):(fs.length:Int) = n ∧ (∀ f ∈ fs, 0 ≤ f.1) ∧ (nf fs).1 = (nf fs).2:=by
  unfold mix at h
  rw [Bool.and_eq_true, Bool.and_eq_true] at h
  exact ⟨of_decide_eq_true h.1, fun f hf=>of_decide_eq_true (List.all_eq_true.mp h.2.1 f hf), of_decide_eq_true h.2.2⟩
theorem mix_no_len {fs:List (Int × Int)} {n:Int} (h:(fs.length:Int) ≠ n):mix fs n = false:=by unfold mix; rw [decide_eq_false h]; rfl
theorem mix_no_neg {fs:List (Int × Int)} {n:Int} {f:Int × Int} (hf:f ∈ fs) (h:f.1 < 0):mix fs n = false:=by
  cases e:mix fs n with
  | false=>rfl
  | true=>have:=(mix_sum e).2.1 f hf; omega
theorem mix_no_sum {fs:List (Int × Int)} {n:Int} (h:(nf fs).1 ≠ (nf fs).2):mix fs n = false:=by
  cases e:mix fs n with
  | false=>rfl
  | true=>exact absurd (mix_sum e).2.2 h
theorem mix_set_up {fs:List (Int × Int)} {n m:Int} {j:Nat} {f g:Int × Int} (h:mix fs n = true) (hp:∀ f ∈ fs, 0 < f.2) (e:fs[j]? = some f) (l:Flt f g):mix (fs.set j g) m = false:=by
  have q:(nf fs).1 * (nf (fs.set j g)).2 < (nf (fs.set j g)).1 * (nf fs).2:=fold_set_lt fs j (r:=(0, 1)) hp (by decide) e l
  have hd:0 < (nf fs).2:=fold_pos fs hp (by decide)
  refine mix_no_sum fun z=>?_
  rw [(mix_sum h).2.2, z, Int.mul_comm] at q
  omega
theorem mix_set_down {fs:List (Int × Int)} {n m:Int} {j:Nat} {f g:Int × Int} (h:mix fs n = true) (hp:∀ f ∈ fs, 0 < f.2) (e:fs[j]? = some f) (l:Flt g f):mix (fs.set j g) m = false:=by
  have q:(nf (fs.set j g)).1 * (nf fs).2 < (nf fs).1 * (nf (fs.set j g)).2:=fold_set_gt fs j (r:=(0, 1)) hp (by decide) e l
  refine mix_no_sum fun z=>?_
  rw [(mix_sum h).2.2, z, Int.mul_comm] at q
  omega
theorem more_up {x y b x' y':Int} (hy:0 < y) (hb:0 < b) (lo:Lo (x * b + 1 * y) (y * b) x' y'):Flt (x, y) (x', y'):=by
  show x * y' < x' * y
  have e:=lo.eq
  have e1:x' * (y * b) = (x' * y) * b:=by ac_rfl
  have e2:(x * b + 1 * y) * y' = (x * y') * b + y * y':=by rw [Int.one_mul, Int.add_mul]; congr 1; ac_rfl
  have p:=Int.mul_pos hy lo.pos
  rw [e1, e2] at e
  have:(x * y') * b < (x' * y) * b:=by omega
  exact Int.lt_of_mul_lt_mul_right this (Int.le_of_lt hb)
theorem less_down {x y n x' y':Int} (hx:0 < x) (hn:0 ≤ n) (lo:Lo (x * n) (y * (n + 1)) x' y'):Flt (x', y') (x, y):=by
  show x' * y < x * y'
  have e:=lo.eq
  have e1:x' * (y * (n + 1)) = (x' * y) * (n + 1):=by ac_rfl
  have e2:(x * y') * (n + 1) = x * n * y' + x * y':=by rw [Int.mul_add, Int.mul_one]; congr 1; ac_rfl
  have p:=Int.mul_pos hx lo.pos
  rw [e1] at e
  have:(x' * y) * (n + 1) < (x * y') * (n + 1):=by omega
  exact Int.lt_of_mul_lt_mul_right this (by omega)
theorem less_two {x y x' y':Int} (hy:0 < y) (hxy:x ≤ y) (lo:Lo (x * 1 + -2 * y) (y * 1) x' y'):x' < 0:=by
  have e:=lo.eq
  rw [Int.mul_one, Int.mul_one] at e
  have p:=Int.mul_neg_of_neg_of_pos (show x + -2 * y < 0 by omega) lo.pos
  rcases Int.lt_or_le x' 0 with h | h
  · exact h
  · have:=Int.mul_nonneg h (Int.le_of_lt hy); omega
theorem part_le_sum:∀ {row:List Int} {p:Int}, (∀ p ∈ row, 0 ≤ p) → p ∈ row → p ≤ row.sum
  | [], _, _, h=>nomatch h
  | a :: r, p, hp, h=>by
    have hr:0 ≤ r.sum:=by
      have:∀ (l:List Int), (∀ p ∈ l, 0 ≤ p) → 0 ≤ l.sum:=fun l=>by
        induction l with
        | nil=>intro _; simp
        | cons a l ih=>intro h; rw [List.sum_cons]; have:=h a List.mem_cons_self; have:=ih fun p hp=>h p (List.mem_cons_of_mem _ hp); omega
      exact this r fun p h=>hp p (List.mem_cons_of_mem _ h)
    rw [List.sum_cons]
    rcases List.mem_cons.mp h with rfl | h
    · omega
    · have:=part_le_sum (fun p h=>hp p (List.mem_cons_of_mem _ h)) h
      have:=hp a List.mem_cons_self
      omega
theorem lo_le_one {p S x y:Int} (h:Lo p S x y) (hp:p ≤ S) (hS:0 < S):x ≤ y:=by
  have:x * S ≤ y * S:=by rw [h.eq, Int.mul_comm y]; exact Int.mul_le_mul_of_nonneg_right hp (Int.le_of_lt h.pos)
  exact Int.le_of_mul_le_mul_right this hS
theorem nf_zero:∀ (fs:List (Int × Int)) {r:Int × Int}, (∀ f ∈ fs, f.1 = 0) → r.1 = 0 → (fs.foldl nf1 r).1 = 0
  | [], _, _, h=>h
  | f :: fs, r, hf, h=>nf_zero fs (fun g hg=>hf g (List.mem_cons_of_mem _ hg)) (by show r.1 * f.2 + f.1 * r.2 = 0; rw [h, hf f List.mem_cons_self]; simp)
theorem mix_some {fs:List (Int × Int)} {n:Int} (h:mix fs n = true) (hp:∀ f ∈ fs, 0 < f.2):∃ (j:Nat) (f:Int × Int), fs[j]? = some f ∧ 0 < f.1:=by
  refine Classical.byContradiction fun c=>?_
  have z:∀ f ∈ fs, f.1 = 0:=fun f hf=>by
    have h0:=(mix_sum h).2.1 f hf
    obtain ⟨j, hj⟩:=List.getElem?_of_mem hf
    rcases Int.lt_or_le 0 f.1 with a | a
    · exact absurd ⟨j, f, hj, a⟩ c
    · omega
  have a:=nf_zero fs (r:=(0, 1)) z rfl
  have b:=fold_pos fs (r:=(0, 1)) hp (by decide)
  have e:=(mix_sum h).2.2
  unfold nf at e
  omega
noncomputable def HrsAt (H:Hp):List Addr → List (Int × Int) → Prop
  | [], []=>True
  | p :: ps, f :: fs=>H p = some (.tup [.int f.1, .int f.2]) ∧ HrsAt H ps fs
  | _, _=>False
theorem HrsAt.same {H H':Hp} (s:Same H H'):∀ {ps:List Addr} {fs:List (Int × Int)}, HrsAt H ps fs → HrsAt H' ps fs
  | [], [], _=>trivial
  | _ :: _, _ :: _, h=>⟨s _ _ h.1, HrsAt.same s h.2⟩
  | [], _ :: _, h=>h.elim
  | _ :: _, [], h=>h.elim
theorem HrsAt.frs {K:PySem.W.Frag} {H:Hp}:∀ {ps:List Addr} {fs:List (Int × Int)}, HrsAt H ps fs → FrsAt K H ps fs
  | [], [], _=>trivial
  | _ :: _, _ :: _, h=>⟨SqT.of h.1, HrsAt.frs h.2⟩
  | [], _ :: _, h=>h.elim
  | _ :: _, [], h=>h.elim
theorem HrsAt.length {H:Hp}:∀ {ps:List Addr} {fs:List (Int × Int)}, HrsAt H ps fs → ps.length = fs.length
  | [], [], _=>rfl
  | _ :: _, _ :: _, h=>by rw [List.length_cons, List.length_cons, HrsAt.length h.2]
  | [], _ :: _, h=>h.elim
  | _ :: _, [], h=>h.elim
theorem HrsAt.get {H:Hp}:∀ {ps:List Addr} {fs:List (Int × Int)} {i:Nat} {p:Addr}, HrsAt H ps fs → ps[i]? = some p → ∃ f, fs[i]? = some f ∧ H p = some (.tup [.int f.1, .int f.2])
  | [], _, _, _, _, e=>by simp at e
  | q :: ps, f :: fs, 0, p, h, e=>by cases e; exact ⟨f, rfl, h.1⟩
  | q :: ps, f :: fs, i + 1, p, h, e=>by simpa using HrsAt.get h.2 (i:=i) (by simpa using e)
  | _ :: _, [], _, _, h, _=>h.elim
theorem HrsAt.set {H:Hp} {q:Addr} {g:Int × Int} (hq:H q = some (.tup [.int g.1, .int g.2])):∀ {ps:List Addr} {fs:List (Int × Int)} (i:Nat), HrsAt H ps fs → HrsAt H (ps.set i q) (fs.set i g)
  | [], [], _, _=>trivial
  | _ :: _, _ :: _, 0, h=>⟨hq, h.2⟩
  | _ :: _, _ :: _, i + 1, h=>⟨h.1, HrsAt.set hq i h.2⟩
  | [], _ :: _, _, h=>h.elim
  | _ :: _, [], _, h=>h.elim
theorem HrsAt.append {H:Hp} {qs:List Addr} {gs:List (Int × Int)} (hq:HrsAt H qs gs):∀ {ps:List Addr} {fs:List (Int × Int)}, HrsAt H ps fs → HrsAt H (ps ++ qs) (fs ++ gs)
  | [], [], _=>hq
  | _ :: _, _ :: _, h=>⟨h.1, HrsAt.append hq h.2⟩
  | [], _ :: _, h=>h.elim
  | _ :: _, [], h=>h.elim
theorem HrsAt.take {H:Hp}:∀ {ps:List Addr} {fs:List (Int × Int)} (i:Nat), HrsAt H ps fs → HrsAt H (ps.take i) (fs.take i)
  | _, _, 0, _=>trivial
  | [], [], _ + 1, _=>trivial
  | _ :: _, _ :: _, i + 1, h=>⟨h.1, HrsAt.take i h.2⟩
  | [], _ :: _, _, h=>h.elim
  | _ :: _, [], _, h=>h.elim
theorem HrsAt.drop {H:Hp}:∀ {ps:List Addr} {fs:List (Int × Int)} (i:Nat), HrsAt H ps fs → HrsAt H (ps.drop i) (fs.drop i)
  | _, _, 0, h=>h
  | [], [], _ + 1, _=>trivial
  | _ :: _, _ :: _, i + 1, h=>HrsAt.drop i h.2
  | [], _ :: _, _, h=>h.elim
  | _ :: _, [], _, h=>h.elim
theorem HrsAt.erase {H:Hp}:∀ {ps:List Addr} {fs:List (Int × Int)} (i:Nat), HrsAt H ps fs → HrsAt H (ps.eraseIdx i) (fs.eraseIdx i)
  | [], [], _, _=>trivial
  | _ :: _, _ :: _, 0, h=>h.2
  | _ :: _, _ :: _, i + 1, h=>⟨h.1, HrsAt.erase i h.2⟩
  | [], _ :: _, _, h=>h.elim
  | _ :: _, [], _, h=>h.elim
theorem HrsAt.off {H:Hp} {r:Addr} {ys zs:List V} (hr:H r = some (.lst ys)):∀ {ps:List Addr} {fs:List (Int × Int)}, HrsAt H ps fs → HrsAt (upd H r (.lst zs)) ps fs
  | [], [], _=>trivial
  | p :: _, _ :: _, h=>⟨by rw [upd_ne (fun e=>by have h1:=h.1; rw [e, hr] at h1; cases h1)]; exact h.1, HrsAt.off hr h.2⟩
  | [], _ :: _, h=>h.elim
  | _ :: _, [], h=>h.elim
noncomputable def RhAt (H:Hp):List Addr → List (List (Int × Int)) → Prop
  | [], []=>True
  | p :: ps, r :: rs=>(∃ qs, H p = some (.lst (List.map V.ref qs)) ∧ HrsAt H qs r) ∧ RhAt H ps rs
  | _, _=>False
theorem RhAt.same {H H':Hp} (s:Same H H'):∀ {ps:List Addr} {rs:List (List (Int × Int))}, RhAt H ps rs → RhAt H' ps rs
  | [], [], _=>trivial
  | _ :: _, _ :: _, h=>⟨let ⟨qs, a, b⟩:=h.1; ⟨qs, s _ _ a, b.same s⟩, RhAt.same s h.2⟩
  | [], _ :: _, h=>h.elim
  | _ :: _, [], h=>h.elim
theorem RhAt.rf {K:PySem.W.Frag} {H:Hp}:∀ {ps:List Addr} {rs:List (List (Int × Int))}, RhAt H ps rs → RfAt K H ps rs
  | [], [], _=>trivial
  | _ :: _, _ :: _, h=>⟨let ⟨qs, a, b⟩:=h.1; ⟨qs, a, b.frs⟩, RhAt.rf h.2⟩
  | [], _ :: _, h=>h.elim
  | _ :: _, [], h=>h.elim
theorem RhAt.length {H:Hp}:∀ {ps:List Addr} {rs:List (List (Int × Int))}, RhAt H ps rs → ps.length = rs.length
  | [], [], _=>rfl
  | _ :: _, _ :: _, h=>by rw [List.length_cons, List.length_cons, RhAt.length h.2]
  | [], _ :: _, h=>h.elim
  | _ :: _, [], h=>h.elim
theorem RhAt.get {H:Hp}:∀ {ps:List Addr} {rs:List (List (Int × Int))} {i:Nat} {p:Addr}, RhAt H ps rs → ps[i]? = some p → ∃ r qs, rs[i]? = some r ∧ H p = some (.lst (List.map V.ref qs)) ∧ HrsAt H qs r
  | [], _, _, _, _, e=>by simp at e
  | q :: ps, r :: rs, 0, p, h, e=>by cases e; obtain ⟨qs, a, b⟩:=h.1; exact ⟨r, qs, rfl, a, b⟩
  | q :: ps, r :: rs, i + 1, p, h, e=>by simpa using RhAt.get h.2 (i:=i) (by simpa using e)
  | _ :: _, [], _, _, h, _=>h.elim
theorem RhAt.append {H:Hp} {qs:List Addr} {gs:List (List (Int × Int))} (hq:RhAt H qs gs):∀ {ps:List Addr} {rs:List (List (Int × Int))}, RhAt H ps rs → RhAt H (ps ++ qs) (rs ++ gs)
  | [], [], _=>hq
  | _ :: _, _ :: _, h=>⟨h.1, RhAt.append hq h.2⟩
  | [], _ :: _, h=>h.elim
  | _ :: _, [], h=>h.elim
theorem RhAt.snoc {H:Hp} {p:Addr} {qs ps:List Addr} {r:List (Int × Int)} {rs:List (List (Int × Int))} (h:RhAt H ps rs) (hp:H p = some (.lst (List.map V.ref qs))) (hq:HrsAt H qs r):RhAt H (ps ++ [p]) (rs ++ [r]):=RhAt.append (show RhAt H [p] [r] from ⟨⟨qs, hp, hq⟩, trivial⟩) h
theorem frac_eqB {K:PySem.W.Frag} {H:Hp} {p q:Addr} {f g:Int × Int} (hf:H p = some (.tup [.int f.1, .int f.2])) (hg:H q = some (.tup [.int g.1, .int g.2])):DEq K H 1 (.ref p) (.ref q) (decide (f = g)):=by
  by_cases e:p = q
  · subst e
    rw [hf] at hg
    have:f = g:=by
      have h:=Option.some.inj hg
      injection h with h
      injection h with h1 h2
      injection h2 with h2
      injection h1 with h1
      injection h2 with h2
      exact Prod.ext h1 h2
    exact .inl (.inl ⟨rfl, ⟨p, rfl⟩, decide_eq_true this⟩)
  · refine .inr ⟨fun z=>e (by injection z), p, q, _, _, rfl, rfl, .inr ⟨SqT.of hf, SqT.of hg, fun j=>if j = 0 then f.1 == g.1 else f.2 == g.2, fun j x y h1 h2=>?_, ?_⟩⟩
    · match j, h1, h2 with
      | 0, h1, h2=>simp at h1 h2; subst h1 h2; exact .inr ⟨_, _, rfl, rfl, rfl⟩
      | 1, h1, h2=>simp at h1 h2; subst h1 h2; exact .inr ⟨_, _, rfl, rfl, rfl⟩
      | n + 2, h1, _=>simp at h1
    · show decide (f = g) = (((f.1 == g.1) && ((f.2 == g.2) && true)) && true)
      rw [Bool.and_true, Bool.and_true]
      obtain ⟨f1, f2⟩:=f
      obtain ⟨g1, g2⟩:=g
      by_cases h1:f1 = g1
      · by_cases h2:f2 = g2
        · subst h1 h2; simp
        · simp [h2]
      · simp [h1]
theorem all_same {α:Type} [DecidableEq α] {d:α}:∀ {fs gs:List α}, fs.length = gs.length → decide (fs = gs) = (List.range fs.length).all fun j=>decide (fs.getD j d = gs.getD j d):=by
  intro fs gs hl
  by_cases h:fs = gs
  · subst h; simp
  · rw [decide_eq_false h]
    refine (Bool.eq_false_iff.mpr fun z=>h ?_).symm
    refine List.ext_getElem hl fun j h1 h2=>?_
    have:=of_decide_eq_true (List.all_eq_true.mp z j (List.mem_range.mpr h1))
    rwa [List.getD_eq_getElem?_getD, List.getD_eq_getElem?_getD, List.getElem?_eq_getElem h1, List.getElem?_eq_getElem h2] at this
theorem req_fracsB {K:PySem.W.Frag} {H:Hp} {a b:Addr} {ps qs:List Addr} {fs gs:List (Int × Int)} (ha:SqL K H a (List.map V.ref ps)) (hb:SqL K H b (List.map V.ref qs)) (hp:HrsAt H ps fs) (hq:HrsAt H qs gs):REq K H (DEq K H 1) (.ref a) (.ref b) (decide (fs = gs)):=by
  refine ⟨a, b, _, _, rfl, rfl, .inl ⟨ha, hb, ?_⟩⟩
  rw [List.length_map, List.length_map, hp.length, hq.length]
  by_cases hl:fs.length = gs.length
  · refine .inr ⟨hl, fun j=>decide (fs.getD j (0, 0) = gs.getD j (0, 0)), fun j x y hx hy=>?_, all_same hl⟩
    obtain ⟨p, rfl, h1⟩:=get_refs hx
    obtain ⟨q, rfl, h2⟩:=get_refs hy
    obtain ⟨f, e, hf⟩:=hp.get h1
    obtain ⟨g, e2, hg⟩:=hq.get h2
    show DEq K H 1 _ _ (decide (fs.getD j (0, 0) = gs.getD j (0, 0)))
    rw [List.getD_eq_getElem?_getD, List.getD_eq_getElem?_getD, e, e2]
    exact frac_eqB hf hg
  · exact .inl ⟨hl, decide_eq_false fun z=>hl (by rw [z])⟩
theorem Gd.up {m n:Nat} {f:Int × Int} (h:Gd m f) (hm:m ≤ n):Gd n f:=⟨h.1, h.2.1.mono hm, h.2.2.mono hm⟩
theorem atR {ps:List Addr} {k:Nat} {p:Addr} (h:ps[k]? = some p):atI (List.map V.ref ps) (k:Int) = some (.ref p):=atI_nat (by rw [List.getElem?_map, h]; rfl)
theorem lo_whole (v:Int):Lo (12 * v) 12 v 1:=⟨by decide, by simp, by omega, by omega, by decide⟩
theorem put_entry {H H4:Hp} {r p':Addr} {ps:List Addr} {fs:List (Int × Int)} {g:Int × Int} (s:Same H H4) (h0:H r = none) (hr:H4 r = some (.lst (List.map V.ref ps))) (hf:HrsAt H4 ps fs) (hp:H4 p' = some (.tup [.int g.1, .int g.2])) (j:Nat) :
    Same H (upd H4 r (.lst ((List.map V.ref ps).set j (.ref p')))) ∧ (upd H4 r (.lst ((List.map V.ref ps).set j (.ref p')))) r = some (.lst (List.map V.ref (ps.set j p'))) ∧ HrsAt (upd H4 r (.lst ((List.map V.ref ps).set j (.ref p')))) (ps.set j p') (fs.set j g):=by
  have ne:p' ≠ r:=fun e=>by rw [e, hr] at hp; cases hp
  refine ⟨s.put h0, by rw [upd_same, List.map_set], HrsAt.set (by rw [upd_ne ne]; exact hp) j (hf.off hr)⟩

noncomputable def N_l_cell_at:List PySem.Str:=["_law_script", "_law_k"]
noncomputable def sp_l_cell_at (K:PySem.W.Frag):Sp:=fun vs H Q _=>∃ a ns k, vs = [.ref a, .int k] ∧ SqL K H a (List.map V.int ns) ∧ 0 ≤ k ∧ Q (.int (ns.getD k.toNat 0)) H
noncomputable def t_l_cell_at (K:PySem.W.Frag):TS:=(tSeq (tIfS (tTest (tOp rLtI (tVar 1) (tCB (cLen K) (tCons (tVar 0) tNil)))) (tRet (tOp (rIxL K) (tVar 0) (tVar 1))) tNext) (tRet (tC (.int 0))))
theorem len_l_cell_at {K vs H Q E} (h:sp_l_cell_at K vs H Q E):vs.length = 2:=by obtain ⟨a, ns, b, rfl, _⟩:=h; rfl
theorem rd_l_cell_at {K vs H Q E} (h:sp_l_cell_at K vs H Q E):t_l_cell_at K { nx:=fun _ H'=>Q .non H', rt:=Q } (start N_l_cell_at vs) H:=by
  obtain ⟨a, ns, k, rfl, hS, hk, q⟩:=h
  rw [show start N_l_cell_at [V.ref a, V.int k] = [some (.ref a), some (.int k)] from rfl]
  (try dsimp? [t_l_cell_at]; try simp_arith [t_l_cell_at])
  refine ⟨_, .inl hS, ite2 (fun hl=>?_) (fun hl=>?_)⟩
  · rw [List.length_map] at hl
    exact ⟨_, hS, _, atI_map hk hl, q⟩
  · rw [List.length_map] at hl
    rw [List.getD_eq_getElem?_getD, List.getElem?_eq_none (by omega)] at q
    exact q
noncomputable def N_l_sizes:List PySem.Str:=["_law_script", "_law_hands"]
noncomputable def sp_l_sizes (K:PySem.W.Frag):Sp:=fun vs H Q _=>∃ a ns, vs = [.ref a] ∧ SqL K H a (List.map V.int ns) ∧ ∀ l ss H', Same H H' → H l = none → H' l = some (.lst (tv ss)) → Sz ss → 2 ≤ ss.length → Q (.ref l) H'
noncomputable def t_l_sizes_c1 (K:PySem.W.Frag):TE:=(tOp rAddI (tC (.int 1)) (tOp rModI (tCall (sp_l_cell_at K) [] E0 (tCons (tVar 1) (tCons (tOp rAddI (tC (.int 1)) (tVar 0)) tNil))) (tOp rSubI (tC (.int 6)) (tVar 2))))
noncomputable def t_l_sizes (K:PySem.W.Frag):TS:=(tSeq (tAsg (tOp rAddI (tC (.int 2)) (tOp rModI (tCall (sp_l_cell_at K) [] E0 (tCons (tVar 0) (tCons (tC (.int 0)) tNil))) (tC (.int 2)))) (gName 1)) (tRet (tComp (iRng1 (tCons (tVar 1) tNil)) [0, 1] (t_l_sizes_c1 K))))
theorem len_l_sizes {K vs H Q E} (h:sp_l_sizes K vs H Q E):vs.length = 1:=by obtain ⟨l, ns, rfl, _⟩:=h; rfl
theorem rd_l_sizes {K vs H Q E} (h:sp_l_sizes K vs H Q E):t_l_sizes K { nx:=fun _ H'=>Q .non H', rt:=Q } (start N_l_sizes vs) H:=by
  obtain ⟨a, ns, rfl, hS, q⟩:=h
  rw [show start N_l_sizes [V.ref a] = [some (.ref a), none] from rfl]
  (try dsimp? [t_l_sizes, tComp, iRng1]; try simp_arith [t_l_sizes, tComp, iRng1])
  refine ⟨a, ns, 0, rfl, hS, by decide, _, rfl, by decide, ?_⟩
  have e1:=Int.emod_nonneg (ns.getD (Int.toNat 0) 0) (show (2:Int) ≠ 0 by decide)
  have e2:=Int.emod_lt_of_pos (ns.getD (Int.toNat 0) 0) (show (0:Int) < 2 by decide)
  obtain ⟨m, em, m2, m3⟩:∃ m:Nat, 2 + ns.getD (Int.toNat 0) 0 % 2 = (m:Int) ∧ 2 ≤ m ∧ m ≤ 3:=⟨(2 + ns.getD (Int.toNat 0) 0 % 2).toNat, by omega, by omega, by omega⟩
  rw [em, Int.toNat_natCast]
  refine ⟨by omega, by omega, comp_range (lo:=0) (W:=fun j zs H'=>H' = H ∧ ∃ ss, zs = tv ss ∧ ss.length = j ∧ ∀ n ∈ ss, 1 ≤ n ∧ n ≤ 6) (small (by omega)) ⟨rfl, [], rfl, rfl, fun n h=>nomatch h⟩ ?_ ?_⟩
  · rintro j zs H' hj _ ⟨rfl, ss, rfl, hl, hb⟩
    (try dsimp? [t_l_sizes_c1, caught, List.map_cons, List.map_nil, Lq1, Lq0, Option.join_some]; try simp_arith [t_l_sizes_c1, caught, List.map_cons, List.map_nil, Lq1, Lq0, Option.join_some, Int.zero_add])
    refine ⟨a, ns, 1 + (j:Int), rfl, hS, by omega, _, rfl, by omega, rfl, ?_⟩
    generalize ns.getD (1 + (j:Int)).toNat 0 = z
    have z1:=Int.emod_nonneg z (show (6 - (m:Int)) ≠ 0 by omega)
    have z2:=Int.emod_lt_of_pos z (show (0:Int) < 6 - (m:Int) by omega)
    refine ⟨ss ++ [(1 + z % (6 - (m:Int))).toNat], ?_, by rw [List.length_append, hl]; rfl, fun n hn=>?_⟩
    · rw [tv_app]
      show tv ss ++ [V.int (1 + z % (6 - (m:Int)))] = tv ss ++ [V.int ((1 + z % (6 - (m:Int))).toNat:Int)]
      rw [Int.toNat_of_nonneg (by omega)]
    · rcases List.mem_append.mp hn with h | h
      · exact hb n h
      · rw [List.mem_singleton.mp h]; omega
  · rintro zs H' _ ⟨rfl, ss, rfl, hl, hb⟩ l hl0
    exact q l ss _ (Same.upd hl0) hl0 upd_same ⟨by omega, fun n hn=>(hb n hn).1, fun n hn=>(hb n hn).2⟩ (by omega)
noncomputable def N_check_sizes:List PySem.Str:=["sizes", "size"]
noncomputable def sp_check_sizes (K:PySem.W.Frag):Sp:=fun vs H Q _=>∃ l ns, vs = [.ref l] ∧ SqL K H l (tv ns) ∧ 2 ≤ ns.length ∧ Sz ns ∧ Q .non H
noncomputable def iv_check_sizes (l:Addr) (H:Hp):Nat → St → Hp → Prop:=fun _ σ H3=>H3 = H ∧ ∃ o, σ = [some (.ref l), o]
noncomputable def t_check_sizes_b1 (K:PySem.W.Frag):TS:=(tIfS (tOr (tTest (tOp rLtI (tVar 1) (tC (.int 1)))) (tTest (tOp rGtI (tVar 1) (tC (.int 6))))) tNever tNext)
noncomputable def t_check_sizes (K:PySem.W.Frag):TS:=(tSeq (tIfS (tOr (tTest (tOp rLtI (tCB (cLen K) (tCons (tVar 0) tNil)) (tC (.int 2)))) (tTest (tOp rGtI (tCB (cLen K) (tCons (tVar 0) tNil)) (tC (.int 3))))) tNever tNext) (tFor (iList K (tVar 0)) (gName 1) (t_check_sizes_b1 K)))
theorem len_check_sizes {K vs H Q E} (h:sp_check_sizes K vs H Q E):vs.length = 1:=by obtain ⟨l, ns, rfl, _⟩:=h; rfl
theorem rd_check_sizes {K vs H Q E} (h:sp_check_sizes K vs H Q E):t_check_sizes K { nx:=fun _ H'=>Q .non H', rt:=Q } (start N_check_sizes vs) H:=by
  obtain ⟨l, ns, rfl, hS, h2, sz, q⟩:=h
  have h3:=sz.len
  rw [show start N_check_sizes [V.ref l] = [some (.ref l), none] from rfl]
  (try dsimp? [t_check_sizes, tFor, iList]; try simp_arith [t_check_sizes, tFor, iList])
  refine ⟨_, .inl hS, ?_⟩
  rw [tv_len, if_neg (by omega)]
  refine ⟨_, .inl hS, ?_⟩
  rw [tv_len, if_neg (by omega)]
  refine ⟨⟨_, hS⟩, for_list (K:=K) (a:=l) (xs:=tv ns) (g:=gName 1) (D:={ nx:=fun _ H'=>Q .non H', rt:=Q }) (iv_check_sizes l H) ?_ ?_ ?_ ?_⟩
  · exact ⟨rfl, none, rfl⟩
  · rintro i σ H3 _ ⟨rfl, _⟩
    exact hS
  · rintro i x σ H3 hi ⟨rfl, o, rfl⟩
    obtain ⟨n, hn, rfl⟩:=tv_get hi
    have g1:=sz.ge n (List.mem_of_getElem? hn)
    have g2:=sz.le n (List.mem_of_getElem? hn)
    (try dsimp? [t_check_sizes_b1]; try simp_arith [t_check_sizes_b1])
    rw [if_neg (by omega), if_neg (by omega)]
    exact ⟨rfl, _, rfl⟩
  · rintro σ H3 ⟨rfl, o, rfl⟩
    exact q
noncomputable def N_one_of_each:List PySem.Str:=["lists", "told", "choices", "longer", "begun"]
noncomputable def Rg (H:Hp) (xs:List V) (ns:List Nat):Prop:=xs.length = ns.length ∧ ∀ (i n:Nat), ns[i]? = some n → ∃ c, xs[i]? = some (.ref c) ∧ H c = some (.lst (tv (List.range n)))
noncomputable def sp_one_of_each (_:PySem.W.Frag):Sp:=fun vs H Q _=>∃ l ls ns, vs = [.ref l] ∧ H l = some (.lst ls) ∧ Rg H ls ns ∧ Sz ns ∧ ∀ p xs H', Same H H' → H p = none → H' p = some (.lst xs) → Ps H' xs (ordR ns.reverse) → Q (.ref p) H'
noncomputable def more (s:Nat) (b:List Nat):List (List Nat):=(List.range s).map fun c=>b ++ [c]
noncomputable def iv_one_of_each (l:Addr) (H:Hp) (ns:List Nat):Nat → St → Hp → Prop:=fun i σ H3=>∃ t xs o1 o2 o3, σ = [some (.ref l), some (.ref t), o1, o2, o3] ∧ Same H H3 ∧ H t = none ∧ H3 t = some (.lst xs) ∧ Ps H3 xs (ordR (ns.take i).reverse)
noncomputable def iv_one_of_each2 (l t c:Addr) (n:Nat) (H:Hp) (qs:List (List Nat)):Nat → St → Hp → Prop:=fun j σ H3=>∃ g ys o3, σ = [some (.ref l), some (.ref t), some (.ref c), some (.ref g), o3] ∧ Same H H3 ∧ H g = none ∧ H3 g = some (.lst ys) ∧ Ps H3 ys ((qs.take j).flatMap (more n))
noncomputable def t_one_of_each_r1 (K:PySem.W.Frag):TS:=(tAsg (tVar 3) (gName 1))
noncomputable def t_one_of_each_c1 (K:PySem.W.Frag):TE:=(tOp rCatA (tVar 1) (tTup (tCons (tVar 0) tNil)))
noncomputable def t_one_of_each_b1 (K:PySem.W.Frag):TS:=(tDrop (tBM K "list" rExtend (tVar 3) (tCons (tComp (iList K (tVar 2)) [4] (t_one_of_each_c1 K)) tNil)))
noncomputable def t_one_of_each_b2 (K:PySem.W.Frag):TS:=(tSeq (tAsg (tLst tNil) (gName 3)) (tSeq (tFor (iList K (tVar 1)) (gName 4) (t_one_of_each_b1 K)) (t_one_of_each_r1 K)))
noncomputable def t_one_of_each (K:PySem.W.Frag):TS:=(tSeq (tAsg (tLst (tCons (tTup tNil) tNil)) (gName 1)) (tSeq (tFor (iList K (tVar 0)) (gName 2) (t_one_of_each_b2 K)) (tRet (tVar 1))))
theorem len_one_of_each {K vs H Q E} (h:sp_one_of_each K vs H Q E):vs.length = 1:=by obtain ⟨l, ls, ns, rfl, _⟩:=h; rfl
theorem more_len (s:Nat) (b:List Nat):(more s b).length = s:=by simp [more]
theorem more_flat (s:Nat):∀ qs:List (List Nat), (qs.flatMap (more s)).length = qs.length * s
  | []=>by simp
  | b :: qs=>by rw [List.flatMap_cons, List.length_append, more_len, more_flat s qs, List.length_cons, Nat.succ_mul]; omega
theorem Rg.same {H H':Hp} {xs:List V} {ns:List Nat} (h:Rg H xs ns) (s:Same H H'):Rg H' xs ns:=⟨h.1, fun i n e=>let ⟨c, e1, e2⟩:=h.2 i n e; ⟨c, e1, s _ _ e2⟩⟩
theorem Rg.snoc {H:Hp} {xs:List V} {ns:List Nat} {c:Addr} {n:Nat} (h:Rg H xs ns) (hc:H c = some (.lst (tv (List.range n)))):Rg H (xs ++ [.ref c]) (ns ++ [n]):=by
  refine ⟨by rw [List.length_append, List.length_append, h.1]; rfl, fun i m e=>?_⟩
  by_cases hi:i < ns.length
  · rw [List.getElem?_append_left hi] at e
    rw [List.getElem?_append_left (by rw [h.1]; exact hi)]
    exact h.2 i m e
  · rw [List.getElem?_append_right (by omega)] at e
    rw [List.getElem?_append_right (by rw [h.1]; omega), h.1]
    cases z:i - ns.length with
    | zero=>rw [z] at e; simp at e; subst e; exact ⟨c, rfl, hc⟩
    | succ k=>rw [z] at e; simp at e
theorem Rg.get {H:Hp} {xs:List V} {ns:List Nat} {i:Nat} {x:V} (h:Rg H xs ns) (e:xs[i]? = some x):∃ n c, ns[i]? = some n ∧ x = .ref c ∧ H c = some (.lst (tv (List.range n))):=by
  have hl:i < ns.length:=by rw [← h.1]; exact (List.getElem?_eq_some_iff.mp e).1
  obtain ⟨c, e1, e2⟩:=h.2 i ns[i] (List.getElem?_eq_getElem hl)
  rw [e] at e1
  exact ⟨ns[i], c, List.getElem?_eq_getElem hl, Option.some.inj e1, e2⟩
theorem range_get {n k m:Nat} (h:(List.range n)[k]? = some m):m = k:=by
  have hl:=(List.getElem?_eq_some_iff.mp h).1
  rw [List.length_range] at hl
  rw [List.getElem?_range hl] at h
  exact (Option.some.inj h).symm
theorem rd_one_of_each {K vs H Q E} (h:sp_one_of_each K vs H Q E):t_one_of_each K { nx:=fun _ H'=>Q .non H', rt:=Q } (start N_one_of_each vs) H:=by
  obtain ⟨l, ls, ns, rfl, hS, rg, sz, q⟩:=h
  rw [show start N_one_of_each [V.ref l] = [some (.ref l), none, none, none, none] from rfl]
  (try dsimp? [t_one_of_each, tFor, iList]; try simp_arith [t_one_of_each, tFor, iList])
  refine ⟨sz0, fun a ha=>⟨sz1, fun t ht=>?_⟩⟩
  have s1:Same H (upd H a (.tup [])):=Same.upd ha
  have s2:Same (upd H a (.tup [])) (upd (upd H a (.tup [])) t (.lst [.ref a])):=Same.upd ht
  have s3:=s1.trans s2
  refine ⟨⟨_, SqL.of (s3 _ _ hS)⟩, for_list (K:=K) (a:=l) (xs:=ls) (g:=gName 2) (D:={ nx:=tRet (tVar 1) { nx:=fun _ H'=>Q .non H', rt:=Q }, rt:=Q }) (iv_one_of_each l H ns) ?_ ?_ ?_ ?_⟩
  · exact ⟨t, _, none, none, none, rfl, s3, s1.free ht, upd_same, Ps.one (s2 _ _ upd_same)⟩
  · rintro i σ H3 _ ⟨_, _, _, _, _, _, s4, _⟩
    exact SqL.of (s4 _ _ hS)
  · rintro i x σ H3 hi ⟨t, xs, o1, o2, o3, rfl, s4, ht, hT, ps⟩
    obtain ⟨n, c, hn, rfl, hc⟩:=(rg.same s4).get hi
    have hin:i < ns.length:=(List.getElem?_eq_some_iff.mp hn).1
    have n6:=sz.le n (List.mem_of_getElem? hn)
    have hlen:=sz.len
    have hmax:(ordR (ns.take i).reverse).length ≤ 36:=by
      rw [ordR_length _ (sz.take i).rev.ge]
      have h2:(ns.take i).reverse.length ≤ 2:=?_
      · exact Nat.le_trans (prodR_le _ (sz.take i).rev.le) (Nat.le_trans (Nat.pow_le_pow_right (by decide) h2) (by decide))
      rw [List.length_reverse, List.length_take]; omega
    have el:xs.length = (ordR (ns.take i).reverse).length:=ps.1
    (try dsimp? [t_one_of_each_b2, tFor, iList]; try simp_arith [t_one_of_each_b2, tFor, iList])
    refine ⟨sz0, fun g hg=>?_⟩
    have s5:Same H3 (upd H3 g (.lst [])):=Same.upd hg
    refine ⟨⟨_, SqL.of (s5 _ _ hT)⟩, for_list (K:=K) (a:=t) (xs:=xs) (g:=gName 4) (D:={ nx:=t_one_of_each_r1 K _, rt:=Q }) (iv_one_of_each2 l t c n H3 (ordR (ns.take i).reverse)) ?_ ?_ ?_ ?_⟩
    · exact ⟨g, [], _, rfl, s5, hg, upd_same, Ps.nil⟩
    · rintro j σ H4 _ ⟨_, _, _, _, s6, _⟩
      exact SqL.of (s6 _ _ hT)
    · rintro j x σ H4 hj ⟨g, ys, o4, rfl, s6, hg, hG, py⟩
      obtain ⟨b, a, hb, rfl, ha⟩:=(ps.same s6).get hj
      have hjl:j < (ordR (ns.take i).reverse).length:=(List.getElem?_eq_some_iff.mp hb).1
      have hy:ys.length = j * n:=by rw [py.1, more_flat, List.length_take]; congr 1; omega
      have hc4:=s6 _ _ hc
      (try dsimp? [t_one_of_each_b1, tDrop, tBM, tComp, iList]; try simp_arith [t_one_of_each_b1, tDrop, tBM, tComp, iList])
      refine ⟨.inl ⟨rfl, _, SqL.of hG⟩, ⟨_, SqL.of hc4⟩, comp_list (K:=K) (a:=c) (xs:=tv (List.range n)) (fun k zs H5=>Same H4 H5 ∧ Ps H5 zs ((List.range k).map fun c=>b ++ [c])) ?_ ⟨Same.refl _, Ps.nil⟩ ?_ ?_ ?_⟩
      · rw [tv_len, List.length_range]; exact small (by omega)
      · rintro k zs H5 _ ⟨s7, _⟩
        exact SqL.of (s7 _ _ hc4)
      · rintro k x zs H5 hk _ ⟨s7, pz⟩
        obtain ⟨m, hm, rfl⟩:=tv_get hk
        obtain rfl:=range_get hm
        show t_one_of_each_c1 K [some (.int m), some (.ref a)] H5 _
        (try dsimp? [t_one_of_each_c1, rCatA]; try simp_arith [t_one_of_each_c1, rCatA])
        refine ⟨sz1, fun z hz=>?_⟩
        have s8:Same H5 (upd H5 z (.tup [.int m])):=Same.upd hz
        refine ⟨_, s8 _ _ (s7 _ _ ha), _, upd_same, ?_, fun p H6 s9 hp=>⟨s7.trans (s8.trans s9), ?_⟩⟩
        · rw [tv_len]
          have:=ordR_len_each _ b (List.mem_of_getElem? hb)
          rw [List.length_reverse, List.length_take] at this
          exact small (by show _ + 1 ≤ 216; omega)
        · rw [List.range_succ, List.map_append]
          exact (pz.same (s8.trans s9)).app (Ps.one (by rw [hp, tv_app]; rfl))
      · rintro zs H5 hz ⟨s7, pz⟩ p hp
        rw [tv_len, List.length_range] at hz pz
        have s8:Same H5 (upd H5 p (.lst zs)):=Same.upd hp
        refine ⟨g, p, ys, zs, rfl, rfl, s8 _ _ (s7 _ _ hG), upd_same, ?_, ?_⟩
        · rw [hy, hz]
          have:j * n + n ≤ 216:=by
            have h1:(j + 1) * n ≤ 36 * 6:=Nat.mul_le_mul (by omega) n6
            rw [Nat.succ_mul] at h1
            exact h1
          exact small this
        · have hgp:H3 g = none:=hg
          refine ⟨g, _, _, rfl, ((s6.trans s7).trans s8).put hg, hg, upd_same, ?_⟩
          rw [take_snoc hb, List.flatMap_append]
          refine Ps.keep (Ps.app ((py.same s7).same s8) ?_) (keepT_lst (s8 _ _ (s7 _ _ hG)))
          rw [List.flatMap_cons, List.flatMap_nil, List.append_nil]
          exact pz.same s8
    · rintro σ H4 ⟨g, ys, o4, rfl, s6, hg, hG, py⟩
      (try dsimp? [t_one_of_each_r1]; try simp_arith [t_one_of_each_r1])
      refine ⟨g, ys, _, _, _, rfl, s4.trans s6, s4.free hg, hG, ?_⟩
      rw [el, List.take_length] at py
      rw [take_snoc hn, List.reverse_append]
      exact py
  · rintro σ H3 ⟨t, xs, o1, o2, o3, rfl, s4, ht, hT, ps⟩
    (try dsimp only [tVar, tC, tOp, rI0, rNe, scal_ii, tRet, tTest, Lq0, Lq1, exI_lit, exB_lit, exR_lit]; try simp only [tVar, tC, tOp, rI0, rNe, scal_ii, tRet, tTest, Lq0, Lq1, Option.some.injEq, exists_eq_left', V.int.injEq, V.ref.injEq, V.bl.injEq, exists_and_left, exists_eq_left, List.cons.injEq, and_true, true_and, and_assoc, exI_lit, exB_lit, exR_lit, exI_ex, exB_ex, exR_ex])
    rw [rg.1, List.take_length] at ps
    exact q t xs H3 s4 ht hT ps
noncomputable def N_in_order:List PySem.Str:=["sizes"]
noncomputable def sp_in_order (K:PySem.W.Frag):Sp:=fun vs H Q _=>∃ l ns, vs = [.ref l] ∧ SqL K H l (tv ns) ∧ Sz ns ∧ ∀ p xs H', Same H H' → H p = none → H' p = some (.lst xs) → Ps H' xs (ordR ns.reverse) → Q (.ref p) H'
noncomputable def t_in_order_c1 (K:PySem.W.Frag):TE:=(tLRng (tVar 0))
noncomputable def t_in_order (K:PySem.W.Frag):TS:=(tRet (tCall (sp_one_of_each K) [] E0 (tCons (tComp (iList K (tVar 0)) [] (t_in_order_c1 K)) tNil)))
theorem len_in_order {K vs H Q E} (h:sp_in_order K vs H Q E):vs.length = 1:=by obtain ⟨l, ns, rfl, _⟩:=h; rfl
theorem rng_tv (n:Nat):List.map V.int (rngL n) = tv (List.range n):=by unfold rngL tv; rw [List.map_map]; rfl
theorem rd_in_order {K vs H Q E} (h:sp_in_order K vs H Q E):t_in_order K { nx:=fun _ H'=>Q .non H', rt:=Q } (start N_in_order vs) H:=by
  obtain ⟨l, ns, rfl, hS, sz, q⟩:=h
  rw [show start N_in_order [V.ref l] = [some (.ref l)] from rfl]
  have n3:=sz.len
  (try dsimp? [t_in_order, tComp, iList]; try simp_arith [t_in_order, tComp, iList])
  refine ⟨⟨_, hS⟩, comp_list (K:=K) (a:=l) (xs:=tv ns) (fun i zs H3=>Same H H3 ∧ Rg H3 zs (ns.take i)) ?_ ⟨Same.refl _, rfl, fun i n e=>by simp at e⟩ ?_ ?_ ?_⟩
  · rw [tv_len]; exact small (by omega)
  · rintro i ys H3 _ ⟨s3, _⟩
    exact s3.seq hS
  · rintro i x ys H3 hi _ ⟨s3, rg⟩
    obtain ⟨n, hn, rfl⟩:=tv_get hi
    have n6:=sz.le n (List.mem_of_getElem? hn)
    (try dsimp? [t_in_order_c1, caught, List.map_nil, tLRng]; try simp_arith [t_in_order_c1, caught, List.map_nil, tLRng])
    refine ⟨n, rfl, by omega, fun p hp=>⟨s3.trans (Same.upd hp), ?_⟩⟩
    rw [take_snoc hn]
    exact (rg.same (Same.upd hp)).snoc (by rw [upd_same, rng_tv])
  · rintro ys H3 _ ⟨s3, rg⟩ p hp
    rw [tv_len, List.take_length] at rg
    have s4:Same H3 (upd H3 p (.lst ys)):=Same.upd hp
    exact ⟨p, ys, ns, rfl, upd_same, rg.same s4, sz, fun p' xs H' s5 hp' hP ps=>q p' xs H' ((s3.trans s4).trans s5) ((s3.trans s4).free hp') hP ps⟩
noncomputable def N_check_cells:List PySem.Str:=["cells", "plays", "hands", "play"]
noncomputable def sp_check_cells (K:PySem.W.Frag):Sp:=fun vs H Q _=>∃ c p kvs xs qs hands cont, vs = [.ref c, .ref p, .int (hands:Nat)] ∧ H c = some (.dT kvs) ∧ H p = some (.lst xs) ∧ Ps H xs qs ∧ (∀ q ∈ qs, Cells H kvs cont q) ∧ (∀ q ∈ qs, (cont q).length = hands) ∧ kvs.length = qs.length ∧ Q .non H
noncomputable def iv_check_cells (c p:Addr) (hands:Nat) (H:Hp):Nat → St → Hp → Prop:=fun _ σ H3=>H3 = H ∧ ∃ o, σ = [some (.ref c), some (.ref p), some (.int hands), o]
noncomputable def t_check_cells_r1 (K:PySem.W.Frag):TS:=(tIfS (tTest (tOp rNe (tCB cLenT (tCons (tVar 0) tNil)) (tCB (cLen K) (tCons (tVar 1) tNil)))) tNever tNext)
noncomputable def t_check_cells_b1 (K:PySem.W.Frag):TS:=(tSeq (tIfS (tB (tDNotIn (tVar 3) (tVar 0))) tNever tNext) (tIfS (tTest (tOp rNe (tCB (cLen K) (tCons (tDGet (tVar 0) (tVar 3)) tNil)) (tVar 2))) tNever tNext))
noncomputable def t_check_cells (K:PySem.W.Frag):TS:=(tSeq (tFor (iList K (tVar 1)) (gName 3) (t_check_cells_b1 K)) (t_check_cells_r1 K))
theorem len_check_cells {K vs H Q E} (h:sp_check_cells K vs H Q E):vs.length = 3:=by obtain ⟨c, p, kvs, xs, qs, hands, cont, rfl, _⟩:=h; rfl
theorem rd_check_cells {K vs H Q E} (h:sp_check_cells K vs H Q E):t_check_cells K { nx:=fun _ H'=>Q .non H', rt:=Q } (start N_check_cells vs) H:=by
  obtain ⟨c, p, kvs, xs, qs, hands, cont, rfl, hc, hp, ps, ok, oh, hl, q⟩:=h
  rw [show start N_check_cells [V.ref c, V.ref p, V.int hands] = [some (.ref c), some (.ref p), some (.int hands), none] from rfl]
  (try dsimp? [t_check_cells, tFor, iList]; try simp_arith [t_check_cells, tFor, iList])
  refine ⟨⟨_, SqL.of hp⟩, for_list (K:=K) (a:=p) (xs:=xs) (g:=gName 3) (D:={ nx:=t_check_cells_r1 K _, rt:=Q }) (iv_check_cells c p hands H) ?_ ?_ ?_ ?_⟩
  · exact ⟨rfl, none, rfl⟩
  · rintro i σ H3 _ ⟨rfl, _⟩
    exact SqL.of hp
  · rintro i x σ H3 hi ⟨rfl, o, rfl⟩
    obtain ⟨b, a, hb, rfl, ha⟩:=ps.get hi
    obtain ⟨l, hv, hL⟩:=ok b (List.mem_of_getElem? hb)
    have hvl:=oh b (List.mem_of_getElem? hb)
    have ht:H3 a = some (.tup ((tk b).map kV)):=by rw [tv_tk]; exact ha
    (try dsimp? [t_check_cells_b1, tDNotIn, tDGet]; try simp_arith [t_check_cells_b1, tDNotIn, tDGet])
    refine ⟨_, DGet.t hc ht, ?_⟩
    rw [hv]
    refine iteF ?_
    refine ⟨_, by rw [← hv]; exact DGet.t hc ht, ?_⟩
    exact ⟨l, rfl, _, .inl (SqL.of hL), iteNS (by rw [hvl]) ⟨rfl, _, rfl⟩⟩
  · rintro σ H3 ⟨rfl, o, rfl⟩
    (try dsimp? [t_check_cells_r1, cLenT]; try simp_arith [t_check_cells_r1, cLenT])
    refine ⟨_, hc, _, .inl (SqL.of hp), ?_⟩
    rw [hl, ps.1]
    refine iteNS rfl q
noncomputable def N_Table_init:List PySem.Str:=["self", "sizes", "cells", "plays", "play"]
noncomputable def flds (m d:Addr):List (Str × V):=putF "cells" (.ref d) (putF "many" (.ref m) [])
structure TabAt (K:PySem.W.Frag) (H:Hp) (t:Addr) (ns:List Nat) (cont:List Nat → List V):Prop where
  ob:∃ dx m d kv, H t = some (.ins (gadr K "Table") dx (flds m d)) ∧ H m = some (.lst (tv ns)) ∧ H d = some (.dT kv) ∧ ∀ q ∈ ordR ns.reverse, Cells H kv cont q
noncomputable def Sb (t:Addr) (H H':Hp):Prop:=∀ b o, H b = some o → b ≠ t → H' b = some o
noncomputable def sp_Table_init (K:PySem.W.Frag):Sp:=fun vs H Q _=>∃ t dx s c ns kvs cont, vs = [.ref t, .ref s, .ref c] ∧ H t = some (.ins (gadr K "Table") dx []) ∧ SqL K H s (tv ns) ∧ 2 ≤ ns.length ∧ Sz ns ∧ H c = some (.dT kvs) ∧ (∀ q ∈ ordR ns.reverse, Cells H kvs cont q) ∧ (∀ q ∈ ordR ns.reverse, (cont q).length = ns.length) ∧ kvs.length = (ordR ns.reverse).length ∧
  ∀ H', Sb t H H' → TabAt K H' t ns cont → Q .non H'
noncomputable def iv_Table_init (K:PySem.W.Frag) (t dx s c p m d:Addr) (ns:List Nat) (cont:List Nat → List V) (H:Hp) (xs:List V):Nat → St → Hp → Prop:=fun i σ H3=>∃ kvs o, σ = [some (.ref t), some (.ref s), some (.ref c), some (.ref p), o] ∧ Sb t H H3 ∧ H3 t = some (.ins (gadr K "Table") dx (flds m d)) ∧ H3 m = some (.lst (tv ns)) ∧ H3 p = some (.lst xs) ∧ Ps H3 xs (ordR ns.reverse) ∧
  H d = none ∧ H3 d = some (.dT kvs) ∧ kvs.length ≤ i ∧ ∀ q ∈ (ordR ns.reverse).take i, Cells H3 kvs cont q
noncomputable def t_Table_init_b1 (K:PySem.W.Frag):TS:=(sDPut (tFld K (tVar 0) "cells") (tVar 4) (tCB (cList K) (tCons (tDGet (tVar 2) (tVar 4)) tNil)))
noncomputable def t_Table_init (K:PySem.W.Frag):TS:=(tSeq (tDrop (tCall (sp_check_sizes K) [] E0 (tCons (tVar 1) tNil))) (tSeq (tAsg (tCall (sp_in_order K) [] E0 (tCons (tVar 1) tNil)) (gName 3)) (tSeq (tDrop (tCall (sp_check_cells K) [] E0 (tCons (tVar 2) (tCons (tVar 3) (tCons (tCB (cLen K) (tCons (tVar 1) tNil)) tNil))))) (tSeq (sFld K (tVar 0) (tCB (cList K) (tCons (tVar 1) tNil)) "many") (tSeq (sFld K (tVar 0) tDNewT "cells") (tFor (iList K (tVar 3)) (gName 4) (t_Table_init_b1 K)))))))
theorem len_Table_init {K vs H Q E} (h:sp_Table_init K vs H Q E):vs.length = 3:=by obtain ⟨t, dx, s, c, ns, kvs, cont, rfl, _⟩:=h; rfl
theorem cm:¬ ("many" : Str) = "cells":=by decide +kernel
theorem flds_many (m d:Addr):(flds m d).lookup ("many" : Str) = some (.ref m):=by
  unfold flds
  rw [lookup_putF, if_neg cm, lookup_putF, if_pos rfl]
theorem flds_cells (m d:Addr):(flds m d).lookup ("cells" : Str) = some (.ref d):=by
  unfold flds
  rw [lookup_putF, if_pos rfl]
theorem flds_no (m d:Addr) {x:Str} (h1:¬ x = "cells") (h2:¬ x = "many"):(flds m d).lookup x = none:=by
  unfold flds
  rw [lookup_putF, if_neg h1, lookup_putF, if_neg h2]
  all_goals rfl
theorem Sb.free {t d:Addr} {H H':Hp} (s:Sb t H H') (h:H' d = none) (n:d ≠ t):H d = none:=by
  cases e:H d with
  | none=>rfl
  | some o=>have:=s d o e n; rw [h] at this; cases this
theorem Sb.keepT {t C dx:Addr} {H H':Hp} {fs:List (Str × V)} (s:Sb t H H') (h:H t = some (.ins C dx fs)):KeepT H H':=fun a xs e=>s a _ e (ne_of e h (by intro z; cases z))
theorem Sb.put {t d:Addr} {H G:Hp} {o:HO} (s:Sb t H G) (h:H d = none):Sb t H (upd G d o):=fun b u e hb=>by rw [upd_ne (ne_of_none e h)]; exact s b u e hb
theorem Sb.of {t:Addr} {H H':Hp} (s:Same H H'):Sb t H H':=fun b o e _=>s b o e
theorem Sb.trans {t:Addr} {H H' H'':Hp} (a:Sb t H H') (b:Sb t H' H''):Sb t H H'':=fun c o e hc=>b c o (a c o e hc) hc
theorem Sb.at {t:Addr} {H:Hp} {o:HO}:Sb t H (upd H t o):=fun b u e hb=>by rw [upd_ne hb]; exact e
theorem rd_Table_init {K vs H Q E} (T:TabK K) (h:sp_Table_init K vs H Q E):t_Table_init K { nx:=fun _ H'=>Q .non H', rt:=Q } (start N_Table_init vs) H:=by
  obtain ⟨t, dx, s, c, ns, kvs, cont, rfl, ht, hS, h2, sz, hc, ok, oh, hl, q⟩:=h
  rw [show start N_Table_init [V.ref t, V.ref s, V.ref c] = [some (.ref t), some (.ref s), some (.ref c), none, none] from rfl]
  (try dsimp? [t_Table_init, tDrop, sFld, tDNewT, cList, tFor, iList]; try simp_arith [t_Table_init, tDrop, sFld, tDNewT, cList, tFor, iList])
  refine ⟨s, ns, rfl, hS, h2, sz, s, ns, rfl, hS, sz, fun p xs H1 s1 hp hP ps=>?_⟩
  refine ⟨_, .inl (s1.seq hS), ?_⟩
  rw [tv_len]
  refine ⟨c, p, kvs, xs, ordR ns.reverse, ns.length, cont, rfl, s1 _ _ hc, hP, ps, fun q hq=>(ok q hq).same s1, oh, hl, ?_⟩
  refine ⟨_, .inl (s1.seq hS), fun m hm=>?_⟩
  have s2:Same H1 (upd H1 m (.lst (tv ns))):=Same.upd hm
  generalize e2:upd H1 m (.lst (tv ns)) = H2 at s2
  have m2:H2 m = some (.lst (tv ns)):=by rw [← e2]; exact upd_same
  have t2:H2 t = some (.ins (gadr K "Table") dx []):=s2 _ _ (s1 _ _ ht)
  refine ⟨_, dx, [], t2, T.cl, T.nM, by show 0 < 1000; decide, fun d hd=>?_⟩
  have t3:(upd H2 t (.ins (gadr K "Table") dx (putF "many" (.ref m) []))) t = some (.ins (gadr K "Table") dx (putF "many" (.ref m) [])):=upd_same
  have ntd:t ≠ d:=ne_of_none t3 hd
  refine ⟨_, dx, _, (by rw [upd_ne ntd]; exact t3), T.cl, T.nC, by show 1 < 1000; decide, ?_⟩
  have b1:Sb t H2 (upd (upd (upd H2 t (.ins (gadr K "Table") dx (putF "many" (.ref m) []))) d (.dT [])) t (.ins (gadr K "Table") dx (flds m d))):=(Sb.at.trans (Sb.of (Same.upd hd))).trans Sb.at
  have d5:(upd (upd (upd H2 t (.ins (gadr K "Table") dx (putF "many" (.ref m) []))) d (.dT [])) t (.ins (gadr K "Table") dx (flds m d))) d = some (.dT []):=by rw [upd_ne ntd.symm]; exact upd_same
  have t5:(upd (upd (upd H2 t (.ins (gadr K "Table") dx (putF "many" (.ref m) []))) d (.dT [])) t (.ins (gadr K "Table") dx (flds m d))) t = some (.ins (gadr K "Table") dx (flds m d)):=upd_same
  have hd0:H d = none:=Sb.free ((Sb.of (s1.trans s2)).trans Sb.at) hd ntd.symm
  rw [show putF "cells" (V.ref d) (putF "many" (V.ref m) []) = flds m d from rfl]
  generalize (upd (upd (upd H2 t (.ins (gadr K "Table") dx (putF "many" (.ref m) []))) d (.dT [])) t (.ins (gadr K "Table") dx (flds m d))) = H5 at b1 d5 t5
  have b0:Sb t H H5:=(Sb.of (s1.trans s2)).trans b1
  have mt:m ≠ t:=ne_of m2 t2 (by intro z; cases z)
  have pt:p ≠ t:=ne_of (s2 _ _ hP) t2 (by intro z; cases z)
  have p5:H5 p = some (.lst xs):=b1 _ _ (s2 _ _ hP) pt
  have ps5:Ps H5 xs (ordR ns.reverse):=(ps.same s2).keep (b1.keepT t2)
  have hnp:(ordR ns.reverse).length ≤ 216:=sz.rev.ord
  refine ⟨p, rfl, ⟨_, SqL.of p5⟩, for_list (K:=K) (a:=p) (xs:=xs) (g:=gName 4) (D:={ nx:=fun _ H'=>Q .non H', rt:=Q }) (iv_Table_init K t dx s c p m d ns cont H xs) ?_ ?_ ?_ ?_⟩
  · exact ⟨[], none, rfl, b0, t5, b1 _ _ m2 mt, p5, ps5, hd0, d5, Nat.le_refl _, fun q hq=>(by simp at hq)⟩
  · rintro i σ G _ ⟨_, _, _, _, _, _, hp, _⟩
    exact SqL.of hp
  · rintro i x σ G hi ⟨kv, o, rfl, b3, tG, mG, pG, psG, hd, dG, hk, okG⟩
    obtain ⟨b, a, hb, rfl, ha⟩:=psG.get hi
    have hil:i < (ordR ns.reverse).length:=(List.getElem?_eq_some_iff.mp hb).1
    obtain ⟨l, hv, hL⟩:=ok b (List.mem_of_getElem? hb)
    have cG:G c = some (.dT kvs):=b3 _ _ hc (ne_of hc ht (by intro z; cases z))
    have lG:G l = some (.lst (cont b)):=b3 _ _ hL (ne_of hL ht (by intro z; cases z))
    have aG:G a = some (.tup ((tk b).map kV)):=by rw [tv_tk]; exact ha
    (try dsimp? [t_Table_init_b1, sDPut, tDGet, tFld, cList]; try simp_arith [t_Table_init_b1, sDPut, tDGet, tFld, cList])
    refine ⟨_, by rw [← hv]; exact DGet.t cG aG, ?_⟩
    refine ⟨l, rfl, _, .inl (SqL.of lG), fun l' hl'=>?_⟩
    have s6:Same G (upd G l' (.lst (cont b))):=Same.upd hl'
    have d6:(upd G l' (.lst (cont b))) d = some (.dT kv):=s6 _ _ dG
    refine ⟨_, _, _, s6 _ _ tG, T.cl, T.nC, _, flds_cells _ _, d, rfl, _, DPut.t d6 (s6 _ _ aG) (small' (by omega)), ?_⟩
    refine ⟨_, _, rfl, (b3.trans (Sb.of s6)).put hd, ?_, ?_, ?_, ?_, hd, upd_same, ?_, ?_⟩
    · rw [upd_ne (ne_of (s6 _ _ tG) d6 (by intro z; cases z))]; exact s6 _ _ tG
    · rw [upd_ne (ne_of (s6 _ _ mG) d6 (by intro z; cases z))]; exact s6 _ _ mG
    · rw [upd_ne (ne_of (s6 _ _ pG) d6 (by intro z; cases z))]; exact s6 _ _ pG
    · exact (psG.same s6).keep fun b xs e=>by rw [upd_ne (ne_of e d6 (by intro z; cases z))]; exact e
    · have:=length_putK kv (tk b) (V.ref l')
      omega
    · intro q hq
      rw [take_snoc hb] at hq
      have ne1:l' ≠ d:=ne_of upd_same d6 (by intro z; cases z)
      by_cases e:q = b
      · subst e
        exact ⟨l', by rw [valV_put, if_pos rfl], by rw [upd_ne ne1]; exact upd_same⟩
      · have hq':q ∈ (ordR ns.reverse).take i:=by
          rcases List.mem_append.mp hq with h | h
          · exact h
          · exact absurd (List.mem_singleton.mp h) e
        obtain ⟨l2, hv2, hL2⟩:=okG q hq'
        exact ⟨l2, by rw [valV_put, if_neg (fun z=>e (tk_inj z))]; exact hv2, by rw [upd_ne (ne_of (s6 _ _ hL2) d6 (by intro z; cases z))]; exact s6 _ _ hL2⟩
  · rintro σ G ⟨kv, o, rfl, b3, tG, mG, _, _, _, dG, _, okG⟩
    rw [show xs.length = (ordR ns.reverse).length from ps.1, List.take_length] at okG
    exact q G b3 ⟨dx, m, d, kv, tG, mG, dG, okG⟩
theorem TabAt.same {K:PySem.W.Frag} {H H':Hp} {t:Addr} {ns:List Nat} {cont:List Nat → List V} (h:TabAt K H t ns cont) (s:Same H H'):TabAt K H' t ns cont:=let ⟨dx, m, d, kv, h1, h2, h3, h4⟩:=h.ob; ⟨dx, m, d, kv, s _ _ h1, s _ _ h2, s _ _ h3, fun q hq=>(h4 q hq).same s⟩
theorem TabAt.ins {K:PySem.W.Frag} {H:Hp} {t:Addr} {ns:List Nat} {cont:List Nat → List V} (h:TabAt K H t ns cont):∃ dx m d, H t = some (.ins (gadr K "Table") dx (flds m d)):=let ⟨dx, m, d, _, h1, _⟩:=h.ob; ⟨dx, m, d, h1⟩
noncomputable def N_l_cells:List PySem.Str:=["_law_script", "_law_order_here", "_law_hands", "_law_found", "_law_k", "_law_cell"]
noncomputable def ClAt (K:PySem.W.Frag) (H:Hp) (kv:List (List Key × V)) (cont:List Nat → List V) (qs:List (List Nat)) (un:List Nat → List Int) (n i:Nat):Prop:=kv.length = i ∧ (∀ q ∈ qs.take i, Cells H kv cont q ∧ EnOk K H (cont q) (un q) n) ∧ ∀ q, (valV kv (tk q)).isSome = true → q ∈ qs.take i
noncomputable def sp_l_cells (K:PySem.W.Frag):Sp:=fun vs H Q _=>∃ sc ns o xs qs n, vs = [.ref sc, .ref o, .int (n:Nat)] ∧ SqL K H sc (List.map V.int ns) ∧ H o = some (.lst xs) ∧ Ps H xs qs ∧ qs.Nodup ∧ qs.length ≤ 216 ∧ n ≤ 3 ∧
  ∀ c kv cont un H', Same H H' → H c = none → H' c = some (.dT kv) → ClAt K H' kv cont qs un n qs.length → Q (.ref c) H'
noncomputable def iv_l_cells (K:PySem.W.Frag) (sc o:Addr) (n:Nat) (H:Hp) (qs:List (List Nat)):Nat → St → Hp → Prop:=fun i σ H3=>∃ c kv cont un o1 o2, σ = [some (.ref sc), some (.ref o), some (.int n), some (.ref c), o1, o2] ∧ Same H H3 ∧ H c = none ∧ H3 c = some (.dT kv) ∧ ClAt K H3 kv cont qs un n i
noncomputable def t_l_cells_c1 (K:PySem.W.Frag):TE:=(tTup (tCons (tOp rAddI (tOp rSubI (tOp rModI (tOp rAddI (tVar 1) (tOp rMulI (tVar 2) (tVar 2))) (tC (.int 2001))) (tC (.int 1000))) (tVar 0)) (tCons (tC (.int 1)) tNil)))
noncomputable def t_l_cells_b1 (K:PySem.W.Frag):TS:=(tSeq (tAsg (tCall (sp_l_cell_at K) [] E0 (tCons (tVar 0) (tCons (tOp rModI (tVar 4) (tC (.int 63))) tNil))) (gName 5)) (sDPut (tVar 3) (tOp (rIxL K) (tVar 1) (tVar 4)) (tComp (iRng1 (tCons (tVar 2) tNil)) [5, 4] (t_l_cells_c1 K))))
noncomputable def t_l_cells (K:PySem.W.Frag):TS:=(tSeq (tAsg tDNewT (gName 3)) (tSeq (tFor (iRng1 (tCons (tCB (cLen K) (tCons (tVar 1) tNil)) tNil)) (gName 4) (t_l_cells_b1 K)) (tRet (tVar 3))))
theorem len_l_cells {K vs H Q E} (h:sp_l_cells K vs H Q E):vs.length = 3:=by obtain ⟨_, _, _, _, _, _, rfl, _⟩:=h; rfl
theorem sqT_off2 {K:PySem.W.Frag} {H:Hp} {p r:Addr} {xs:List V} {w v:HO} (h:SqT K H p xs) (hr:H r = some w) (h1:∀ xs, w ≠ .tup xs) (h2:∀ o xs, w ≠ .frz o (.tup xs)):SqT K (upd H r v) p xs:=by
  rcases h with (h | ⟨o, h⟩) | h
  · exact .inl (.inl (by rw [upd_ne (fun e=>h1 xs (by rw [e, hr] at h; exact Option.some.inj h))]; exact h))
  · exact .inl (.inr ⟨o, by rw [upd_ne (fun e=>h2 o xs (by rw [e, hr] at h; exact Option.some.inj h))]; exact h⟩)
  · exact .inr h
theorem FrsAt.off2 {K:PySem.W.Frag} {H:Hp} {r:Addr} {w v:HO} (hr:H r = some w) (h1:∀ xs, w ≠ .tup xs) (h2:∀ o xs, w ≠ .frz o (.tup xs)):∀ {ps:List Addr} {fs:List (Int × Int)}, FrsAt K H ps fs → FrsAt K (upd H r v) ps fs
  | [], [], _=>trivial
  | _ :: _, _ :: _, h=>⟨sqT_off2 h.1 hr h1 h2, FrsAt.off2 hr h1 h2 h.2⟩
  | [], _ :: _, h=>h.elim
  | _ :: _, [], h=>h.elim
theorem EnOk.off2 {K:PySem.W.Frag} {H:Hp} {r:Addr} {w v:HO} {xs:List V} {us:List Int} {n:Nat} (h:EnOk K H xs us n) (hr:H r = some w) (h1:∀ xs, w ≠ .tup xs) (h2:∀ o xs, w ≠ .frz o (.tup xs)):EnOk K (upd H r v) xs us n:=let ⟨rps, fs, a, b, c⟩:=h; ⟨rps, fs, a, b.off2 hr h1 h2, c⟩
theorem rd_l_cells {K vs H Q E} (h:sp_l_cells K vs H Q E):t_l_cells K { nx:=fun _ H'=>Q .non H', rt:=Q } (start N_l_cells vs) H:=by
  obtain ⟨sc, ns, o, xs, qs, n, rfl, hS, hO, ps, nd, hq, hn, k⟩:=h
  rw [show start N_l_cells [V.ref sc, V.ref o, V.int n] = [some (.ref sc), some (.ref o), some (.int n), none, none, none] from rfl]
  (try dsimp? [t_l_cells, tFor, iRng1, tDNewT]; try simp_arith [t_l_cells, tFor, iRng1, tDNewT])
  intro c hc
  have s1:Same H (upd H c (.dT [])):=Same.upd hc
  have el:=ps.1
  refine ⟨_, .inl (SqL.of (s1 _ _ hO)), ?_⟩
  rw [el]
  refine ⟨by omega, by omega, for_range (lo:=0) (g:=gName 4) (D:={ nx:=tRet (tVar 3) { nx:=fun _ H'=>Q .non H', rt:=Q }, rt:=Q }) (iv_l_cells K sc o n H qs) ?_ ?_ ?_⟩
  · exact ⟨c, [], fun _=>[], fun _=>[], none, none, rfl, s1, hc, upd_same, ⟨rfl, fun q h=>(by simp at h), fun q h=>(by simp [valV] at h)⟩⟩
  · rintro i σ H3 hi ⟨c, kv, cont, un, o1, o2, rfl, s3, hc, hC, cl⟩
    have hi':i < qs.length:=by omega
    obtain ⟨b, a, hb, hx, ha⟩:=(ps.same s3).at hi'
    (try dsimp? [t_l_cells_b1, sDPut, tComp, iRng1]; try simp_arith [t_l_cells_b1, sDPut, tComp, iRng1, Int.zero_add])
    refine ⟨by decide, sc, ns, (i:Int) % 63, rfl, s3.seq hS, Int.emod_nonneg _ (by decide), ?_⟩
    generalize ns.getD ((i:Int) % 63).toNat 0 = z
    rw [Int.toNat_natCast]
    refine ⟨by omega, by omega, comp_range (W:=fun j zs H5=>Same H3 H5 ∧ ∃ rps fs us, zs = List.map V.ref rps ∧ FrsAt K H5 rps fs ∧ fs.length = j ∧ us.length = j ∧ ∀ (h:Nat) (f:Int × Int) (u:Int), fs[h]? = some f → us[h]? = some u → Lo u 12 f.1 f.2 ∧ BB 400 u) (small (by omega)) ⟨Same.refl _, [], [], [], rfl, trivial, rfl, rfl, fun h f u e=>by simp at e⟩ ?_ ?_⟩
    · rintro j zs H5 hj _ ⟨s5, rps, fs, us, rfl, hf, fl, ul, lo⟩
      show t_l_cells_c1 K [some (.int (0 + j)), some (.int z), some (.int i)] H5 _
      (try dsimp? [t_l_cells_c1]; try simp_arith [t_l_cells_c1, Int.zero_add])
      refine ⟨.l (by unfold BB; omega), by decide, sz2, fun p hp=>?_⟩
      have v1:=Int.emod_nonneg (z + (i:Int) * i) (show (2001:Int) ≠ 0 by decide)
      have v2:=Int.emod_lt_of_pos (z + (i:Int) * i) (show (0:Int) < 2001 by decide)
      have bv:BB 400 (12 * ((z + (i:Int) * i) % 2001 - 1000 + j)):=by
        refine BB.mono (m:=20) ?_ (by decide)
        generalize (z + (i:Int) * i) % 2001 = v at v1 v2
        show Int.natAbs _ < 2 ^ 20
        omega
      generalize (z + (i:Int) * i) % 2001 - 1000 + (j:Int) = v at bv ⊢
      have s6:=Same.upd (o:=HO.tup [.int v, .int 1]) hp
      refine ⟨s5.trans s6, rps ++ [p], by rw [List.map_append]; rfl, fs ++ [(v, 1)], FrsAt.append (show FrsAt K _ [p] [(v, 1)] from ⟨SqT.of upd_same, trivial⟩) (hf.same s6), by rw [List.length_append, fl]; rfl, us ++ [12 * v], by rw [List.length_append, ul]; rfl, fun h f u e1 e2=>?_⟩
      by_cases hlt:h < fs.length
      · rw [List.getElem?_append_left hlt] at e1
        rw [List.getElem?_append_left (by omega)] at e2
        exact lo h f u e1 e2
      · have hh:h = fs.length:=by have:=(List.getElem?_eq_some_iff.mp e1).1; rw [List.length_append] at this; simp at this; omega
        rw [List.getElem?_append_right (by omega), hh, Nat.sub_self] at e1
        rw [List.getElem?_append_right (by omega), hh, fl, ul, Nat.sub_self] at e2
        cases e1
        cases e2
        exact ⟨lo_whole v, bv⟩
    · rintro zs H5 _ ⟨s5, rps, fs, us, rfl, hf, fl, ul, lo⟩ l' hl'
      have s6:=s5.trans (Same.upd (o:=HO.lst (List.map V.ref rps)) hl')
      have hf6:=hf.same (Same.upd (o:=HO.lst (List.map V.ref rps)) hl')
      have l6:(upd H5 l' (.lst (List.map V.ref rps))) l' = some (.lst (List.map V.ref rps)):=upd_same
      generalize upd H5 l' (.lst (List.map V.ref rps)) = H6 at s6 hf6 l6
      have C6:=s6 _ _ hC
      have ha6:H6 a = some (.tup (List.map kV (tk b))):=by rw [tv_tk]; exact s6 _ _ ha
      refine ⟨_, SqL.of (s6 _ _ (s3 _ _ hO)), _, atI_nat hx, _, DPut.t (k:=tk b) C6 ha6 (small' (by rw [cl.1]; omega)), ?_⟩
      have new:valV kv (tk b) = none:=by
        cases e:valV kv (tk b) with
        | none=>rfl
        | some v=>exact absurd (cl.2.2 b (by rw [e]; rfl)) (nodup_take nd hb)
      obtain ⟨cont', c1, c2⟩:∃ cont':List Nat → List V, cont' b = List.map V.ref rps ∧ ∀ q', q' ≠ b → cont' q' = cont q':=⟨fun q'=>if q' = b then List.map V.ref rps else cont q', if_pos rfl, fun q' e=>if_neg e⟩
      obtain ⟨un', d1, d2⟩:∃ un':List Nat → List Int, un' b = us ∧ ∀ q', q' ≠ b → un' q' = un q':=⟨fun q'=>if q' = b then us else un q', if_pos rfl, fun q' e=>if_neg e⟩
      refine ⟨c, _, cont', un', _, _, rfl, (s3.trans s6).put hc, hc, upd_same, ⟨?_, fun q' hq'=>?_, fun q' hq'=>?_⟩⟩
      · rw [putK_new _ new, List.length_append, cl.1]; rfl
      · by_cases e:q' = b
        · subst e
          refine ⟨⟨l', by rw [valV_put, if_pos rfl], ?_⟩, ?_⟩
          · rw [upd_ne (ne_of l6 C6 (by intro z; cases z)), c1]; exact l6
          · rw [c1, d1]
            exact ⟨rps, fs, rfl, hf6.off2 C6 (by intro xs z; cases z) (by intro o xs z; cases z), fl, ul, lo⟩
        · rw [take_snoc hb] at hq'
          have hq2:q' ∈ qs.take i:=by
            rcases List.mem_append.mp hq' with h | h
            · exact h
            · exact absurd (List.mem_singleton.mp h) e
          obtain ⟨⟨l2, e2, hL⟩, en⟩:=cl.2.1 q' hq2
          refine ⟨⟨l2, by rw [valV_put, if_neg (fun z=>e (tk_inj z))]; exact e2, ?_⟩, ?_⟩
          · rw [upd_ne (ne_of (s6 _ _ hL) C6 (by intro z; cases z)), c2 q' e]; exact s6 _ _ hL
          · rw [c2 q' e, d2 q' e]; exact (en.same s6).off2 C6 (by intro xs z; cases z) (by intro o xs z; cases z)
      · rw [valV_put] at hq'
        rw [take_snoc hb]
        by_cases e:tk q' = tk b
        · rw [tk_inj e]; exact List.mem_append_right _ (List.mem_singleton.mpr rfl)
        · rw [if_neg e] at hq'
          exact List.mem_append_left _ (cl.2.2 q' hq')
  · rintro σ H3 ⟨c, kv, cont, un, o1, o2, rfl, s3, hc, hC, cl⟩
    (try dsimp only [tVar, tC, tOp, rI0, rNe, scal_ii, tRet, tTest, Lq0, Lq1, exI_lit, exB_lit, exR_lit]; try simp only [tVar, tC, tOp, rI0, rNe, scal_ii, tRet, tTest, Lq0, Lq1, Option.some.injEq, exists_eq_left', V.int.injEq, V.ref.injEq, V.bl.injEq, exists_and_left, exists_eq_left, List.cons.injEq, and_true, true_and, and_assoc, exI_lit, exB_lit, exR_lit, exI_ex, exB_ex, exR_ex])
    rw [Int.toNat_natCast] at cl
    exact k c kv cont un H3 s3 hc hC cl
noncomputable def N_l_play:List PySem.Str:=["_law_sizes_here", "_law_number", "_law_found", "_law_size"]
noncomputable def sp_l_play (K:PySem.W.Frag):Sp:=fun vs H Q _=>∃ l ns k, vs = [.ref l, .int (k:Nat)] ∧ SqL K H l (tv ns) ∧ Sz ns ∧ ∀ p H', Same H H' → H' p = some (.tup (tv (digs ns.reverse k))) → Q (.ref p) H'
noncomputable def iv_l_play (l:Addr) (H:Hp) (ns:List Nat) (k:Nat):Nat → St → Hp → Prop:=fun i σ H3=>∃ n a x o, σ = [some (.ref l), some (.int (n:Nat)), some (.ref a), o] ∧ Same H H3 ∧ H3 a = some (.tup (tv x)) ∧ x.length = i ∧ digs (ns.reverse.drop i) n ++ x = digs ns.reverse k
noncomputable def t_l_play_b1 (K:PySem.W.Frag):TS:=(tSeq (tAsg (tOp rCatA (tTup (tCons (tOp rModI (tVar 1) (tVar 3)) tNil)) (tVar 2)) (gName 2)) (tAsg (tOp rDivI (tVar 1) (tVar 3)) (gName 1)))
noncomputable def t_l_play (K:PySem.W.Frag):TS:=(tSeq (tAsg (tTup tNil) (gName 2)) (tSeq (tFor (iRev K (tVar 0)) (gName 3) (t_l_play_b1 K)) (tRet (tVar 2))))
theorem len_l_play {K vs H Q E} (h:sp_l_play K vs H Q E):vs.length = 2:=by obtain ⟨l, ns, k, rfl, _⟩:=h; rfl
theorem rd_l_play {K vs H Q E} (h:sp_l_play K vs H Q E):t_l_play K { nx:=fun _ H'=>Q .non H', rt:=Q } (start N_l_play vs) H:=by
  obtain ⟨l, ns, k, rfl, hS, sz, q⟩:=h
  rw [show start N_l_play [V.ref l, V.int k] = [some (.ref l), some (.int k), none, none] from rfl]
  (try dsimp? [t_l_play, tFor, iRev]; try simp_arith [t_l_play, tFor, iRev])
  refine ⟨sz0, fun a ha=>?_⟩
  have s1:Same H (upd H a (.tup [])):=Same.upd ha
  refine ⟨_, s1.seq hS, for_rev (K:=K) (a:=l) (xs:=tv ns) (g:=gName 3) (D:={ nx:=tRet (tVar 2) { nx:=fun _ H'=>Q .non H', rt:=Q }, rt:=Q }) (iv_l_play l H ns k) ?_ ?_ ?_ ?_⟩
  · exact ⟨k, a, [], none, rfl, s1, upd_same, rfl, by simp⟩
  · rintro i σ H3 _ ⟨_, _, _, _, _, s3, _⟩
    exact s3.seq hS
  · rintro i x σ H3 hil hi ⟨n, a, x, o, rfl, s3, hA, hx, e⟩
    obtain ⟨m, hm, rfl⟩:=tv_get hi
    rw [tv_len] at hm hil
    have m1:=sz.ge m (List.mem_of_getElem? hm)
    have m6:=sz.le m (List.mem_of_getElem? hm)
    have h3:=sz.len
    (try dsimp? [t_l_play_b1, rCatA]; try simp_arith [t_l_play_b1, rCatA])
    refine ⟨by omega, sz1, fun p hp=>⟨_, upd_same, _, (Same.upd hp) _ _ hA, ?_, fun p1 H4 s4 h4=>⟨⟨by omega, (bb6 m6).mono (by decide)⟩, ?_⟩⟩⟩
    · rw [tv_len]
      exact small (by show 1 + _ ≤ _; omega)
    · refine ⟨n / m, p1, (n % m) :: x, some (.int m), ?_, s3.trans ((Same.upd hp).trans s4), ?_, by rw [List.length_cons, hx], ?_⟩
      · rw [Int.fdiv_eq_ediv_of_nonneg _ (by omega)]
        rfl
      · rw [h4]
        rfl
      · rw [drop_cons_of (l:=ns.reverse) (i:=i) (x:=m) (by rw [List.getElem?_reverse hil]; exact hm)] at e
        rw [← e]
        show _ = (digs (ns.reverse.drop (i + 1)) (n / m) ++ [n % m]) ++ x
        rw [List.append_assoc]
        rfl
  · rintro σ H3 ⟨n, a, x, o, rfl, s3, hA, hx, e⟩
    (try dsimp only [tVar, tC, tOp, rI0, rNe, scal_ii, tRet, tTest, Lq0, Lq1, exI_lit, exB_lit, exR_lit]; try simp only [tVar, tC, tOp, rI0, rNe, scal_ii, tRet, tTest, Lq0, Lq1, Option.some.injEq, exists_eq_left', V.int.injEq, V.ref.injEq, V.bl.injEq, exists_and_left, exists_eq_left, List.cons.injEq, and_true, true_and, and_assoc, exI_lit, exB_lit, exR_lit, exI_ex, exB_ex, exR_ex])
    rw [tv_len, List.drop_eq_nil_of_le (by rw [List.length_reverse]; exact Nat.le_refl _)] at e
    exact q a H3 s3 (by rw [hA, ← e]; rfl)
noncomputable def N_l_order:List PySem.Str:=["_law_sizes_here", "_law_many", "_law_size"]
noncomputable def sp_l_order (K:PySem.W.Frag):Sp:=fun vs H Q _=>∃ l ns, vs = [.ref l] ∧ SqL K H l (tv ns) ∧ Sz ns ∧ ∀ p xs H', Same H H' → H p = none → H' p = some (.lst xs) → Ps H' xs (ordR ns.reverse) → Q (.ref p) H'
noncomputable def iv_l_order (l:Addr) (H:Hp) (ns:List Nat):Nat → St → Hp → Prop:=fun i σ H3=>H3 = H ∧ ∃ o, σ = [some (.ref l), some (.int (prodR (ns.take i).reverse:Nat)), o]
noncomputable def t_l_order_c1 (K:PySem.W.Frag):TE:=(tCall (sp_l_play K) [] E0 (tCons (tVar 1) (tCons (tVar 0) tNil)))
noncomputable def t_l_order_r1 (K:PySem.W.Frag):TS:=(tRet (tComp (iRng1 (tCons (tVar 1) tNil)) [0] (t_l_order_c1 K)))
noncomputable def t_l_order_b1 (K:PySem.W.Frag):TS:=(tAsg (tOp rMulI (tVar 1) (tVar 2)) (gName 1))
noncomputable def t_l_order (K:PySem.W.Frag):TS:=(tSeq (tAsg (tC (.int 1)) (gName 1)) (tSeq (tFor (iList K (tVar 0)) (gName 2) (t_l_order_b1 K)) (t_l_order_r1 K)))
theorem len_l_order {K vs H Q E} (h:sp_l_order K vs H Q E):vs.length = 1:=by obtain ⟨l, ns, rfl, _⟩:=h; rfl
theorem rd_l_order {K vs H Q E} (h:sp_l_order K vs H Q E):t_l_order K { nx:=fun _ H'=>Q .non H', rt:=Q } (start N_l_order vs) H:=by
  obtain ⟨l, ns, rfl, hS, sz, q⟩:=h
  rw [show start N_l_order [V.ref l] = [some (.ref l), none, none] from rfl]
  (try dsimp? [t_l_order, tFor, iList]; try simp_arith [t_l_order, tFor, iList])
  refine ⟨⟨_, hS⟩, for_list (K:=K) (a:=l) (xs:=tv ns) (g:=gName 2) (D:={ nx:=t_l_order_r1 K _, rt:=Q }) (iv_l_order l H ns) ?_ ?_ ?_ ?_⟩
  · exact ⟨rfl, none, rfl⟩
  · rintro i σ H3 _ ⟨rfl, _⟩
    exact hS
  · rintro i x σ H3 hi ⟨rfl, o, rfl⟩
    obtain ⟨n, hn, rfl⟩:=tv_get hi
    have n6:=sz.le n (List.mem_of_getElem? hn)
    (try dsimp? [t_l_order_b1]; try simp_arith [t_l_order_b1])
    refine ⟨.r ((bb6 n6).mono (by decide)), rfl, some (.int n), ?_⟩
    rw [take_snoc hn, List.reverse_append]
    show _ = [some (V.ref l), some (V.int ((prodR (ns.take i).reverse * n:Nat):Int)), _]
    rw [Int.natCast_mul]
  · rintro σ H3 ⟨rfl, o, rfl⟩
    rw [tv_len, List.take_length]
    (try dsimp? [t_l_order_r1, tComp, iRng1]; try simp_arith [t_l_order_r1, tComp, iRng1])
    have hm:=sz.rev.many
    rw [Int.toNat_natCast]
    refine ⟨by omega, by omega, comp_range (W:=fun k zs H5=>Same H3 H5 ∧ Ps H5 zs ((List.range k).map (digs ns.reverse))) (small hm) ⟨Same.refl _, Ps.nil⟩ ?_ ?_⟩
    · rintro k zs H5 hk _ ⟨s7, pz⟩
      show t_l_order_c1 K [some (.int (0 + k)), some (.ref l)] H5 _
      (try dsimp? [t_l_order_c1]; try simp_arith [t_l_order_c1, Int.zero_add])
      refine ⟨l, ns, k, rfl, s7.seq hS, sz, fun p H6 s8 hp=>⟨s7.trans s8, ?_⟩⟩
      rw [List.range_succ, List.map_append]
      exact (pz.same s8).app (Ps.one hp)
    · rintro zs H5 hz ⟨s7, pz⟩ p hp
      refine q p zs _ (s7.trans (Same.upd hp)) (s7.free hp) upd_same ?_
      rw [ordR_eq _ sz.rev.ge]
      exact pz.same (Same.upd hp)
noncomputable def N_l_divisor:List PySem.Str:=["_law_one", "_law_other"]
noncomputable def sp_l_divisor (_:PySem.W.Frag):Sp:=fun vs H Q _=>∃ a b, vs = [.int a, .int b] ∧ Q (.int (Int.gcd a b:Nat)) H
noncomputable def t_l_divisor_b1 (K:PySem.W.Frag):TS:=(tPar 0 1 (tCons (tVar 1) (tCons (tOp rModI (tVar 0) (tVar 1)) tNil)))
noncomputable def t_l_divisor (K:PySem.W.Frag):TS:=(tSeq (tAsg (tCB cAbs (tCons (tVar 0) tNil)) (gName 0)) (tSeq (tAsg (tCB cAbs (tCons (tVar 1) tNil)) (gName 1)) (tSeq (tWhile (tTest (tOp rGtI (tVar 1) (tC (.int 0)))) (t_l_divisor_b1 K)) (tRet (tVar 0)))))
theorem len_l_divisor {K vs H Q E} (h:sp_l_divisor K vs H Q E):vs.length = 2:=by obtain ⟨a, b, rfl, _⟩:=h; rfl
theorem rd_l_divisor {K vs H Q E} (h:sp_l_divisor K vs H Q E):t_l_divisor K { nx:=fun _ H'=>Q .non H', rt:=Q } (start N_l_divisor vs) H:=by
  obtain ⟨a, b, rfl, k⟩:=h
  rw [show start N_l_divisor [V.int a, V.int b] = [some (.int a), some (.int b)] from rfl]
  (try dsimp only [t_l_divisor, tSeq, tAsg, gName, tVar, rGtI, tCons, tNil, tCB, cAbs, Lq0, Lq1, Ls0, Ls1, exI_lit, exB_lit, exR_lit]; try simp only [t_l_divisor, tSeq, tAsg, gName, tVar, rGtI, tCons, tNil, tCB, cAbs, Lq0, Lq1, Ls0, Ls1, Option.some.injEq, exists_eq_left', V.int.injEq, List.cons.injEq, and_true, abs_eq, exists_eq_left, V.ref.injEq, V.bl.injEq, true_and, exists_and_left, and_assoc, exI_lit, exB_lit, exR_lit, exI_ex, exB_ex, exR_ex])
  refine while_by (fun σ H'=>H' = H ∧ ∃ g s, σ = [some (.int g), some (.int s)] ∧ 0 ≤ g ∧ 0 ≤ s ∧ Int.gcd g s = Int.gcd a b) (fun σ _=>(intO (σ.getD 1 none)).toNat) ?_ ?_ ?_
  · exact ⟨rfl, _, _, rfl, by omega, by omega, by simp [Int.gcd]⟩
  · rintro σ H' ⟨rfl, g, s, rfl, hg, hs, e⟩
    (try dsimp only [t_l_divisor_b1, tVar, tC, tOp, rI0, rI, rModI, tRet, tTest, tCons, tNil, tPar, Lq0, Lq1, Ls0, Ls1, exI_lit, exB_lit, exR_lit]; try simp only [t_l_divisor_b1, tVar, tC, tOp, rI0, rI, rModI, tRet, tTest, tCons, tNil, tPar, Lq0, Lq1, Ls0, Ls1, Option.some.injEq, exists_eq_left', V.int.injEq, V.bl.injEq, List.cons.injEq, and_true, true_and, exists_and_left, decide_eq_true_eq, and_assoc, exists_eq_left, V.ref.injEq, exI_lit, exB_lit, exR_lit, exI_ex, exB_ex, exR_ex])
    refine ite2 (fun hp=>?_) (fun hp=>?_)
    · have h1:=Int.emod_nonneg g (b:=s) (by omega)
      have h2:=Int.emod_lt_of_pos g hp
      simp [hp, h1, hs]
      refine ⟨?_, ?_⟩
      · rw [← e, Int.gcd_comm g s, Int.emod_def, Int.gcd_sub_mul_left_right]
      · show max (g % s) 0 < s
        omega
    · have h0:s = 0:=by omega
      subst h0
      rw [← e, Int.gcd_zero_right] at k
      have:((g.natAbs:Nat):Int) = g:=by omega
      rw [this] at k
      exact k
  · intro σ H' Q1 Q2 im h
    dsimp only [tTest, tOp, tC, rI0] at h ⊢
    first
    | (obtain ⟨v, hv, q⟩:=tVar_el h
       exact tVar_in hv (exI_mono q fun i q=>im _ _ q))
    | (obtain ⟨v, hv, i, j, hi, hj, b, hb, q⟩:=tVar_el h
       exact tVar_in hv ⟨i, j, hi, hj, b, hb, im _ _ q⟩)
noncomputable def N_l_lowest:List PySem.Str:=["_law_top", "_law_bottom", "_law_by"]
noncomputable def sp_l_lowest (_:PySem.W.Frag):Sp:=fun vs H Q _=>∃ t b, vs = [.int t, .int b] ∧ 0 < b ∧ BB 9000 b ∧ ∀ x y p H', Same H H' → H' p = some (.tup [.int x, .int y]) → Lo t b x y → Q (.ref p) H'
noncomputable def t_l_lowest (K:PySem.W.Frag):TS:=(tSeq (tAsg (tCall (sp_l_divisor K) [] E0 (tCons (tVar 0) (tCons (tVar 1) tNil))) (gName 2)) (tRet (tTup (tCons (tOp rDivI (tVar 0) (tVar 2)) (tCons (tOp rDivI (tVar 1) (tVar 2)) tNil)))))
theorem len_l_lowest {K vs H Q E} (h:sp_l_lowest K vs H Q E):vs.length = 2:=by obtain ⟨a, b, rfl, _⟩:=h; rfl
theorem rd_l_lowest {K vs H Q E} (h:sp_l_lowest K vs H Q E):t_l_lowest K { nx:=fun _ H'=>Q .non H', rt:=Q } (start N_l_lowest vs) H:=by
  obtain ⟨t, b, rfl, hb, bb, q⟩:=h
  rw [show start N_l_lowest [V.int t, V.int b] = [some (.int t), some (.int b), none] from rfl]
  (try dsimp? [t_l_lowest]; try simp only [t_l_lowest, tSeq, tAsg, gName, tVar, tC, tOp, tUn, rI0, rI, rU, rAddI, rSubI, rMulI, rDivI, rDivC, rModI, rPowI, rNegI, rLtI, rLeI, rGtI, rGeI, rEq, rNe, scal_ii, tRet, tIfS, tTest, tB, tNot, tNext, tCall, tCons, tNil, tTup, tLst, tCB, cAbs, cLen, cIsB, tSl, tPart, tNoPart, rSlL, rIxL, rIxT, tAndV, tOrV, tAnd, tOr, tNotV, tPar, tNever, gTup, gCons, gNil, Lq0, Lq1, Ls0, Ls1, Option.some.injEq, exists_eq_left', exists_eq_left, V.int.injEq, V.ref.injEq, V.bl.injEq, V.ty.injEq, List.cons.injEq, and_true, true_and, List.append_nil, exists_and_left, decide_eq_true_eq, Lca, Lna, and_assoc, sp_l_divisor, exI_lit, exB_lit, exR_lit, exI_ex, exB_ex, exR_ex])
  have bg:=bb.gcd (i:=t) (by omega)
  have g0:0 < Int.gcd t b:=Int.gcd_pos_of_ne_zero_right _ (by omega)
  exact ⟨⟨by omega, bg⟩, ⟨by omega, bg⟩, sz2, fun p hp=>q _ _ p _ (Same.upd hp) upd_same (lo_pos hb)⟩
noncomputable def N_l_mixings:List PySem.Str:=["_law_parts_here"]
noncomputable def sp_l_mixings (K:PySem.W.Frag):Sp:=fun vs H Q _=>∃ m mps pss, vs = [.ref m] ∧ H m = some (.lst (List.map V.ref mps)) ∧ RwsAt H mps pss ∧ pss.length ≤ 3 ∧ (∀ row ∈ pss, row.length ≤ 6 ∧ 0 < row.sum ∧ BB 400 row.sum) ∧ ∀ l rps ms H', Same H H' → H l = none → H' l = some (.lst (List.map V.ref rps)) → RhAt H' rps ms → MsOf ms pss → (∀ q ∈ rps, H q = none) → Q (.ref l) H'
noncomputable def t_l_mixings_c1 (K:PySem.W.Frag):TE:=(tCall (sp_l_lowest K) [] E0 (tCons (tVar 0) (tCons (tCB (cSum K) (tCons (tVar 1) tNil)) tNil)))
noncomputable def t_l_mixings_c2 (K:PySem.W.Frag):TE:=(tComp (iList K (tVar 0)) [0] (t_l_mixings_c1 K))
noncomputable def t_l_mixings (K:PySem.W.Frag):TS:=(tRet (tComp (iList K (tVar 0)) [] (t_l_mixings_c2 K)))
theorem len_l_mixings {K vs H Q E} (h:sp_l_mixings K vs H Q E):vs.length = 1:=by obtain ⟨_, _, _, rfl, _⟩:=h; rfl
theorem get_snoc {α:Type} {l:List α} {x y:α} {h:Nat} (e:(l ++ [x])[h]? = some y):(l[h]? = some y ∧ h < l.length) ∨ (h = l.length ∧ y = x):=by
  by_cases hlt:h < l.length
  · rw [List.getElem?_append_left hlt] at e
    exact .inl ⟨e, hlt⟩
  · have hh:h = l.length:=by have:=(List.getElem?_eq_some_iff.mp e).1; rw [List.length_append] at this; simp at this; omega
    rw [List.getElem?_append_right (by omega), hh, Nat.sub_self] at e
    cases e
    exact .inr ⟨hh, rfl⟩
theorem rd_l_mixings {K vs H Q E} (h:sp_l_mixings K vs H Q E):t_l_mixings K { nx:=fun _ H'=>Q .non H', rt:=Q } (start N_l_mixings vs) H:=by
  obtain ⟨m, mps, pss, rfl, hm, hr, p3, ok, k⟩:=h
  have pl:=hr.length
  rw [show start N_l_mixings [V.ref m] = [some (.ref m)] from rfl]
  (try dsimp? [t_l_mixings, tComp, iList]; try simp_arith [t_l_mixings, tComp, iList])
  refine ⟨⟨_, SqL.of hm⟩, comp_list (K:=K) (a:=m) (xs:=List.map V.ref mps) (fun i zs H3=>Same H H3 ∧ ∃ rps ms, zs = List.map V.ref rps ∧ RhAt H3 rps ms ∧ MsOf ms (pss.take i) ∧ ∀ q ∈ rps, H q = none) ?_ ⟨Same.refl _, [], [], rfl, trivial, ⟨rfl, fun k row fr e=>by simp at e⟩, (fun _ h=>nomatch h)⟩ ?_ ?_ ?_⟩
  · rw [List.length_map, sizeLine_eq]; omega
  · rintro i zs H3 _ ⟨s3, _⟩
    exact SqL.of (s3 _ _ hm)
  · rintro i x zs H3 hi _ ⟨s3, rps, ms, rfl, hf, mo, nw⟩
    obtain ⟨p, rfl, hp⟩:=get_refs hi
    obtain ⟨row, er, hrow⟩:=hr.get hp
    obtain ⟨r6, sp, bs⟩:=ok row (List.mem_of_getElem? er)
    (try dsimp? [t_l_mixings_c2, tComp, iList]; try simp_arith [t_l_mixings_c2, tComp, iList])
    refine ⟨⟨_, SqL.of (s3 _ _ hrow)⟩, comp_list (K:=K) (a:=p) (xs:=List.map V.int row) (fun j zs H4=>Same H3 H4 ∧ ∃ qs fs, zs = List.map V.ref qs ∧ HrsAt H4 qs fs ∧ fs.length = j ∧ ∀ (h:Nat) (v:Int) (f:Int × Int), row[h]? = some v → fs[h]? = some f → Lo v row.sum f.1 f.2) ?_ ⟨Same.refl _, [], [], rfl, trivial, rfl, (fun h v f _ e=>by simp at e)⟩ ?_ ?_ ?_⟩
    · rw [List.length_map, sizeLine_eq]; omega
    · rintro j ws H4 _ ⟨s4, _⟩
      exact SqL.of (s4 _ _ (s3 _ _ hrow))
    · rintro j y ws H4 hj _ ⟨s4, qs, fs, rfl, hfs, fl, lo⟩
      obtain ⟨v, rfl, hv⟩:=get_ints hj
      (try dsimp? [t_l_mixings_c1, cSum, caught, List.map_cons, List.map_nil, Option.join_some]; try simp_arith [t_l_mixings_c1, cSum, caught, List.map_cons, List.map_nil, Option.join_some])
      refine ⟨row, SqL.of (s4 _ _ (s3 _ _ hrow)), v, row.sum, rfl, sp, bs.mono (by decide), fun x y p5 H5 s5 hp5 lo5=>⟨s4.trans s5, qs ++ [p5], by rw [List.map_append]; rfl, fs ++ [(x, y)], HrsAt.append (show HrsAt _ [p5] [(x, y)] from ⟨hp5, trivial⟩) (hfs.same s5), by rw [List.length_append, fl]; rfl, fun h v' f e1 e2=>?_⟩⟩
      rcases get_snoc e2 with ⟨e2, _⟩ | ⟨hh, rfl⟩
      · exact lo h v' f e1 e2
      · rw [hh, fl, hv] at e1
        cases e1
        exact lo5
    · rintro ws H4 _ ⟨s4, qs, fs, rfl, hfs, fl, lo⟩ l' hl'
      rw [List.length_map] at fl
      have s5:=Same.upd (o:=HO.lst (List.map V.ref qs)) hl'
      refine ⟨(s3.trans s4).trans s5, rps ++ [l'], by rw [List.map_append]; rfl, ms ++ [fs], ((hf.same s4).same s5).snoc upd_same (hfs.same s5), ⟨?_, fun k2 row2 fr e1 e2=>?_⟩, fun q hq=>?_⟩
      · rw [take_snoc er, List.length_append, List.length_append, mo.1]; rfl
      · rw [take_snoc er] at e1
        rcases get_snoc e1 with ⟨e1, h1⟩ | ⟨h1, rfl⟩
        · rcases get_snoc e2 with ⟨e2, _⟩ | ⟨h2, _⟩
          · exact mo.2 k2 row2 fr e1 e2
          · rw [mo.1] at h2; omega
        · rcases get_snoc e2 with ⟨_, h2⟩ | ⟨_, rfl⟩
          · rw [mo.1] at h2; omega
          · exact ⟨fl, fun j v f e3 e4=>lo j v f e3 e4⟩
      · rcases List.mem_append.mp hq with hq | hq
        · exact nw q hq
        · rw [List.mem_singleton.mp hq]; exact (s3.trans s4).free hl'
  · rintro zs H3 _ ⟨s3, rps, ms, rfl, hf, mo, nw⟩ l hl
    rw [List.length_map, pl, List.take_length] at mo
    exact k l rps ms _ (s3.trans (Same.upd hl)) (s3.free hl) upd_same (hf.same (Same.upd hl)) mo nw
noncomputable def N_l_parts:List PySem.Str:=["_law_script", "_law_sizes_here", "_law_fold", "_law_found", "_law_k", "_law_cell", "_law_number", "_law_row", "_law_at", "_law_hand"]
noncomputable def PtB (pss:List (List Int)) (ss:List Nat) (B:Int):Prop:=pss.length = ss.length ∧ ∀ (k:Nat) (row:List Int) (n:Nat), pss[k]? = some row → ss[k]? = some n → row.length = n ∧ ∀ p ∈ row, 0 ≤ p ∧ p ≤ B
structure PtAt (H0 H:Hp) (l:Addr) (rps:List Addr) (pss:List (List Int)) (ss:List Nat) (B:Int):Prop where
  sm:Same H0 H
  hl:H l = some (.lst (List.map V.ref rps))
  hr:RwsAt H rps pss
  nd:rps.Nodup
  nw:∀ p ∈ rps, H0 p = none
  nl:l ∉ rps
  l0:H0 l = none
  pb:PtB pss ss B
noncomputable def sp_l_parts (K:PySem.W.Frag):Sp:=fun vs H Q _=>∃ a ns s ss, vs = [.ref a, .ref s] ∧ SqL K H a (List.map V.int ns) ∧ H s = some (.lst (tv ss)) ∧ Sz ss ∧ 2 ≤ ss.length ∧ ∀ l rps pss H', Same H H' → H l = none → H' l = some (.lst (List.map V.ref rps)) → RwsAt H' rps pss → PtOk pss ss → Q (.ref l) H'
noncomputable def iv_parts (a s l w:Addr) (rps:List Addr) (ss:List Nat) (ys:List Int) (H0:Hp):Nat → St → Hp → Prop:=fun i σ H3=>∃ fold o4 o5 o6 o7 o8 pss, σ = [some (.ref a), some (.ref s), some (.int fold), some (.ref l), o4, o5, o6, o7, o8, none] ∧ 0 ≤ fold ∧ PtAt H0 H3 l rps pss ss (1000000 * i) ∧ H3 w = some (.lst (List.map V.int ys)) ∧ w ∉ rps
noncomputable def t_l_parts_r1 (K:PySem.W.Frag):TS:=(tIfS (tTest (tOp rEq (tCB (cSum K) (tCons (tVar 7) tNil)) (tC (.int 0)))) (tAsg (tC (.int 1)) (gSub (tVar 7) (tOp rModI (tVar 2) (tCB (cLen K) (tCons (tVar 7) tNil))) rSetL)) tNext)
noncomputable def t_l_parts_b1 (K:PySem.W.Frag):TS:=(tIfS (tTest (tOp rEq (tOp rModI (tOp rModI (tOp rMulI (tVar 2) (tOp rAddI (tOp rAddI (tVar 8) (tOp rMulI (tC (.int 3)) (tVar 9))) (tC (.int 2)))) (tC (.int 1009))) (tC (.int 3))) (tC (.int 0)))) (tAsg (tC (.int 0)) (gSub (tVar 7) (tVar 8) rSetL)) tNext)
noncomputable def t_l_parts_b2 (K:PySem.W.Frag):TS:=(tSeq (tAsg (tOp (rIxL K) (tVar 3) (tVar 9)) (gName 7)) (tSeq (tFor (iRng1 (tCons (tCB (cLen K) (tCons (tVar 7) tNil)) tNil)) (gName 8) (t_l_parts_b1 K)) (t_l_parts_r1 K)))
noncomputable def t_l_parts_r2 (K:PySem.W.Frag):TS:=(tSeq (tFor (iRng1 (tCons (tCB (cLen K) (tCons (tVar 1) tNil)) tNil)) (gName 9) (t_l_parts_b2 K)) (tRet (tVar 3)))
noncomputable def t_l_parts_b3 (K:PySem.W.Frag):TS:=(tSeq (tAsg (tOp rAddI (tOp rModI (tVar 5) (tOp rPowI (tC (.int 10)) (tC (.int 18)))) (tOp rMulI (tC (.int 69621)) (tOp rAddI (tVar 4) (tC (.int 1))))) (gName 6)) (tSeq (tAsg (tOp rModI (tOp rMulI (tVar 6) (tVar 6)) (tC (.int 2147483629))) (gName 6)) (tSeq (tAsg (tOp rModI (tOp rAddI (tOp rMulI (tVar 2) (tC (.int 31))) (tVar 6)) (tC (.int 1000003))) (gName 2)) (tSeq (tAsg (tOp (rIxL K) (tVar 3) (tOp rModI (tVar 4) (tCB (cLen K) (tCons (tVar 1) tNil)))) (gName 7)) (tSeq (tAsg (tOp rModI (tOp rDivI (tVar 4) (tCB (cLen K) (tCons (tVar 1) tNil))) (tCB (cLen K) (tCons (tVar 7) tNil))) (gName 8)) (tAsg (tOp rAddI (tOp (rIxL K) (tVar 7) (tVar 8)) (tOp (rIxL K) (tLst (tCons (tC (.int 0)) (tCons (tC (.int 1)) (tCons (tOp rModI (tOp rDivC (tVar 6) (tC (.int 3))) (tC (.int 7))) (tCons (tOp rModI (tOp rDivC (tVar 6) (tC (.int 3))) (tOp rPowI (tC (.int 10)) (tC (.int 6)))) tNil))))) (tOp rModI (tVar 6) (tC (.int 4))))) (gSub (tVar 7) (tVar 8) rSetL)))))))
noncomputable def t_l_parts_g1 (K:PySem.W.Frag):TG:=(gTup K 2 (gCons (gName 4) (gCons (gName 5) gNil)))
noncomputable def t_l_parts_c1 (K:PySem.W.Frag):TE:=(tOp rRep (tLst (tCons (tC (.int 0)) tNil)) (tVar 0))
noncomputable def t_l_parts (K:PySem.W.Frag):TS:=(tSeq (tAsg (tC (.int 0)) (gName 2)) (tSeq (tAsg (tComp (iList K (tVar 1)) [] (t_l_parts_c1 K)) (gName 3)) (tSeq (tFor (iEnum K (tSl (rSlL K) (tVar 0) tNoPart (tPart (tC (.int 63))))) (t_l_parts_g1 K) (t_l_parts_b3 K)) (t_l_parts_r2 K))))
theorem len_l_parts {K vs H Q E} (h:sp_l_parts K vs H Q E):vs.length = 2:=by obtain ⟨_, _, _, _, rfl, _⟩:=h; rfl
theorem rep_flat:∀ n:Nat, (List.replicate n [V.int 0]).flatten = List.map V.int (List.replicate n 0)
  | 0=>rfl
  | n + 1=>by rw [List.replicate_succ, List.flatten_cons, rep_flat n, List.replicate_succ]; rfl
theorem ixN_nat {n k:Nat} (h:k < n):ixN n (k:Int) = some k:=by
  unfold ixN
  rw [if_pos (by omega), if_pos (by omega), Int.toNat_natCast]
theorem sum_set {v:Int}:∀ {row:List Int} {i:Nat} {x:Int}, row[i]? = some x → (row.set i v).sum = row.sum - x + v
  | [], _, _, e=>by simp at e
  | y :: row, 0, x, e=>by
    have:y = x:=by simpa using e
    subst this
    rw [Ls0, List.sum_cons, List.sum_cons]; omega
  | y :: row, i + 1, x, e=>by
    have:=sum_set (v:=v) (row:=row) (i:=i) (x:=x) (by simpa using e)
    rw [Ls1, List.sum_cons, List.sum_cons, this]; omega
theorem sum_ge:∀ {row:List Int}, (∀ p ∈ row, 0 ≤ p) → 0 ≤ row.sum ∧ ∀ p ∈ row, p ≤ row.sum
  | [], _=>⟨Int.le_refl _, fun _ h=>nomatch h⟩
  | y :: row, h=>by
    obtain ⟨a, b⟩:=sum_ge (row:=row) fun p hp=>h p (List.mem_cons_of_mem _ hp)
    have hy:=h y List.mem_cons_self
    rw [List.sum_cons]
    refine ⟨by omega, fun p hp=>?_⟩
    rcases List.mem_cons.mp hp with rfl | hp
    · omega
    · have:=b p hp; omega
theorem PtAt.set {H0 H:Hp} {l:Addr} {rps:List Addr} {pss:List (List Int)} {ss:List Nat} {B:Int} (P:PtAt H0 H l rps pss ss B) {kk i:Nat} {rq:Addr} {row:List Int} (hq:rps[kk]? = some rq) (er:pss[kk]? = some row) {v:Int} (v0:0 ≤ v) (vB:v ≤ B) :
    PtAt H0 (upd H rq (.lst (List.map V.int (row.set i v)))) l rps (pss.set kk (row.set i v)) ss B:=by
  have hin:rq ∈ rps:=List.mem_of_getElem? hq
  refine ⟨P.sm.put (P.nw _ hin), ?_, RwsAt.setv P.nd hq P.hr, P.nd, P.nw, P.nl, P.l0, ⟨by rw [List.length_set]; exact P.pb.1, fun k2 row2 n' e1 e2=>?_⟩⟩
  · rw [upd_ne (fun z:l = rq=>P.nl (by rw [z]; exact hin))]; exact P.hl
  · rw [List.getElem?_set] at e1
    by_cases hkk:kk = k2
    · rw [if_pos hkk, if_pos (List.getElem?_eq_some_iff.mp er).1] at e1
      cases e1
      rw [← hkk] at e2
      obtain ⟨rl, rb⟩:=P.pb.2 kk row n' er e2
      refine ⟨by rw [List.length_set]; exact rl, fun x hx=>?_⟩
      rcases List.mem_or_eq_of_mem_set hx with hx | rfl
      · exact rb x hx
      · exact ⟨v0, vB⟩
    · rw [if_neg hkk] at e1
      exact P.pb.2 k2 row2 n' e1 e2
noncomputable def iv_parts2 (a s l:Addr) (fold:Int) (rps:List Addr) (ss:List Nat) (H0:Hp):Nat → St → Hp → Prop:=fun h σ H3=>∃ o4 o5 o6 o7 o8 o9 pss, σ = [some (.ref a), some (.ref s), some (.int fold), some (.ref l), o4, o5, o6, o7, o8, o9] ∧ PtAt H0 H3 l rps pss ss 63000001 ∧ ∀ (k:Nat) (row:List Int), k < h → pss[k]? = some row → 0 < row.sum
noncomputable def iv_parts3 (a s l rq:Addr) (fold:Int) (h:Nat) (o4 o5 o6:Option V) (rps:List Addr) (ss:List Nat) (H0:Hp):Nat → St → Hp → Prop:=fun _ σ H3=>∃ o8 pss, σ = [some (.ref a), some (.ref s), some (.int fold), some (.ref l), o4, o5, o6, some (.ref rq), o8, some (.int (h:Int))] ∧ PtAt H0 H3 l rps pss ss 63000001 ∧ ∀ (k:Nat) (row:List Int), k < h → pss[k]? = some row → 0 < row.sum
theorem rd_l_parts {K vs H Q E} (h:sp_l_parts K vs H Q E):t_l_parts K { nx:=fun _ H'=>Q .non H', rt:=Q } (start N_l_parts vs) H:=by
  obtain ⟨a, ns, s, ss, rfl, hS, hs, sz, s2, q⟩:=h
  have sl:=sz.len
  rw [show start N_l_parts [V.ref a, V.ref s] = [some (.ref a), some (.ref s), none, none, none, none, none, none, none, none] from rfl]
  (try dsimp? [t_l_parts, tComp, iList]; try simp_arith [t_l_parts, tComp, iList])
  refine ⟨⟨_, SqL.of hs⟩, comp_list (K:=K) (a:=s) (xs:=tv ss) (fun i zs H3=>Same H H3 ∧ ∃ rps, zs = List.map V.ref rps ∧ RwsAt H3 rps ((ss.take i).map fun n=>List.replicate n (0:Int)) ∧ rps.Nodup ∧ ∀ p ∈ rps, H p = none) ?_ ⟨Same.refl _, [], rfl, trivial, List.nodup_nil, (fun _ h=>nomatch h)⟩ ?_ ?_ ?_⟩
  · rw [tv_len, sizeLine_eq]; omega
  · rintro i zs H3 _ ⟨s3, _⟩
    exact SqL.of (s3 _ _ hs)
  · rintro i x zs H3 hi _ ⟨s3, rps, rfl, hr, nd, nw⟩
    obtain ⟨n, hn, rfl⟩:=tv_get hi
    (try dsimp? [t_l_parts_c1, rRep]; try simp_arith [t_l_parts_c1, rRep])
    have n6:n ≤ 6:=sz.le n (List.mem_of_getElem? hn)
    refine ⟨sz1, fun p1 h1=>⟨_, upd_same, by omega, by omega, by rw [Int.toNat_natCast, sizeLine_eq]; show 1 * n ≤ _; omega, fun p2 h2=>?_⟩⟩
    rw [Int.toNat_natCast, rep_flat]
    have t1:=Same.upd (o:=HO.lst [V.int 0]) h1
    have t2:=Same.upd (o:=HO.lst (List.map V.int (List.replicate n 0))) h2
    have h2n:H3 p2 = none:=t1.free h2
    refine ⟨(s3.trans t1).trans t2, rps ++ [p2], by rw [List.map_append]; rfl, by rw [take_snoc hn, List.map_append]; exact RwsAt.snoc ((hr.same t1).same t2) upd_same, ?_, fun p hp=>?_⟩
    · have hn2:p2 ∉ rps:=fun hm=>by obtain ⟨_, _, e⟩:=hr.has hm; rw [h2n] at e; cases e
      exact List.nodup_append.mpr ⟨nd, by simp, fun x hx y hy e=>hn2 (by rw [← List.mem_singleton.mp hy, ← e]; exact hx)⟩
    · rcases List.mem_append.mp hp with hp | hp
      · exact nw p hp
      · rw [List.mem_singleton.mp hp]; exact s3.free h2n
  · rintro zs H3 _ ⟨s3, rps, rfl, hr, nd, nw⟩ l hl
    rw [tv_len, List.take_length] at hr
    (try dsimp? [tFor, iEnum]; try simp_arith [tFor, iEnum])
    have s4:=s3.trans (Same.upd (o:=HO.lst (List.map V.ref rps)) hl)
    have hr4:=hr.same (Same.upd (o:=HO.lst (List.map V.ref rps)) hl)
    have hl4:(upd H3 l (.lst (List.map V.ref rps))) l = some (.lst (List.map V.ref rps)):=upd_same
    have lr:l ∉ rps:=fun hm=>by obtain ⟨_, _, e⟩:=hr.has hm; rw [hl] at e; cases e
    have l0:H l = none:=s3.free hl
    generalize upd H3 l (.lst (List.map V.ref rps)) = H4 at s4 hr4 hl4
    refine ⟨_, s4.seq hS, fun w hw=>?_⟩
    rw [show cutV (List.map V.int ns) none (some 63) = List.map V.int (ns.take 63) from by rw [List.map_take]; exact cut_to (h:=63)]
    have s5:=s4.trans (Same.upd (o:=HO.lst (List.map V.int (ns.take 63))) hw)
    have hr5:=hr4.same (Same.upd (o:=HO.lst (List.map V.int (ns.take 63))) hw)
    have hl5:=Same.upd (o:=HO.lst (List.map V.int (ns.take 63))) hw _ _ hl4
    have hw5:(upd H4 w (.lst (List.map V.int (ns.take 63)))) w = some (.lst (List.map V.int (ns.take 63))):=upd_same
    have wr:w ∉ rps:=fun hm=>by obtain ⟨_, _, e⟩:=hr4.has hm; rw [hw] at e; cases e
    generalize upd H4 w (.lst (List.map V.int (ns.take 63))) = H5 at s5 hr5 hl5 hw5
    have t63:(ns.take 63).length ≤ 63:=by rw [List.length_take]; omega
    refine ⟨⟨_, SqL.of hw5⟩, for_enum (K:=K) (a:=w) (xs:=List.map V.int (ns.take 63)) (g:=t_l_parts_g1 K) (D:={ nx:=t_l_parts_r2 K { nx:=fun _ H'=>Q .non H', rt:=Q }, rt:=Q }) (iv_parts a s l w rps ss (ns.take 63) H) ?_ ?_ ?_ ?_⟩
    · refine ⟨0, none, none, none, none, none, _, rfl, Int.le_refl _, ⟨s5, hl5, hr5, nd, nw, lr, l0, ⟨by rw [List.length_map], fun k row n e1 e2=>?_⟩⟩, hw5, wr⟩
      rw [List.getElem?_map, e2] at e1
      cases e1
      exact ⟨List.length_replicate, fun p hp=>by rw [List.eq_of_mem_replicate hp]; decide⟩
    · rintro i σ H6 _ ⟨_, _, _, _, _, _, _, _, _, _, hw6, _⟩
      exact SqL.of hw6
    · rintro i x p σ H6 hi ⟨fold, o4, o5, o6, o7, o8, pss, rfl, f0, P, hw6, wr⟩ hp
      obtain ⟨v, rfl, hv⟩:=get_ints hi
      have i63:i < 63:=by have:=(List.getElem?_eq_some_iff.mp hv).1; omega
      (try dsimp? [t_l_parts_g1, t_l_parts_b3, gSub, rSetL]; try simp_arith [t_l_parts_g1, t_l_parts_b3, gSub, rSetL])
      have s7:=Same.upd (o:=HO.tup [.int i, .int v]) hp
      have hs7:=s7 _ _ (P.sm _ _ hs)
      have hl7:=s7 _ _ P.hl
      have hr7:=P.hr.same s7
      have hw7:=s7 _ _ hw6
      have sm7:=P.sm.trans s7
      have B1:BB 64 (v % 10 ^ Int.toNat 18 + 69621 * ((i:Int) + 1)):=by
        have w1:=Int.emod_nonneg v (show (10 ^ Int.toNat 18:Int) ≠ 0 by decide)
        have w2:=Int.emod_lt_of_pos v (show (0:Int) < 10 ^ Int.toNat 18 by decide)
        have e18:(10 ^ Int.toNat 18:Int) = 1000000000000000000:=by decide
        rw [e18] at w1 w2 ⊢
        show Int.natAbs _ < 2 ^ 64
        omega
      refine ⟨_, SqT.of upd_same, rfl, _, _, rfl, _, _, rfl, rfl, ⟨by decide, by decide, by decide⟩, _, rfl, by decide, _, rfl, .l (by show (69621:Int).natAbs < 2 ^ 64; decide), .l B1, by decide, .r (by show (31:Int).natAbs < 2 ^ 64; decide), by decide, ?_⟩
      generalize upd H6 p (.tup [.int i, .int v]) = H7 at s7 hs7 hl7 hr7 hw7 sm7 ⊢
      clear B1
      have n20:=Int.emod_nonneg ((v % 10 ^ Int.toNat 18 + 69621 * ((i:Int) + 1)) * (v % 10 ^ Int.toNat 18 + 69621 * ((i:Int) + 1))) (show (2147483629:Int) ≠ 0 by decide)
      generalize (v % 10 ^ Int.toNat 18 + 69621 * ((i:Int) + 1)) * (v % 10 ^ Int.toNat 18 + 69621 * ((i:Int) + 1)) % 2147483629 = n2 at n20 ⊢
      have f1:=Int.emod_nonneg (fold * 31 + n2) (show (1000003:Int) ≠ 0 by decide)
      generalize (fold * 31 + n2) % 1000003 = fold' at f1 ⊢
      have pl:=hr7.length
      have pb:=P.pb
      obtain ⟨kk, ek, hk⟩:∃ kk:Nat, (i:Int) % ((ss.length:Nat):Int) = (kk:Int) ∧ kk < ss.length:=⟨i % ss.length, by omega, Nat.mod_lt _ (by omega)⟩
      have kr:kk < rps.length:=by rw [pl, pb.1]; exact hk
      have hqk:rps[kk]? = some rps[kk]:=List.getElem?_eq_getElem kr
      obtain ⟨row, er, hrow⟩:=hr7.get hqk
      obtain ⟨nn, hnn⟩:∃ nn, ss[kk]? = some nn:=⟨_, List.getElem?_eq_getElem hk⟩
      obtain ⟨rl, rb⟩:=pb.2 kk row nn er hnn
      have n1:1 ≤ nn:=sz.ge nn (List.mem_of_getElem? hnn)
      have n6:nn ≤ 6:=sz.le nn (List.mem_of_getElem? hnn)
      refine ⟨_, .inl (SqL.of hs7), _, rfl, by rw [tv_len]; omega, _, SqL.of hl7, V.ref rps[kk], by rw [tv_len, ek]; exact atI_nat (by rw [List.getElem?_map, hqk]; rfl), _, .inl (SqL.of hs7), _, rfl, ⟨by rw [tv_len]; omega, by rw [tv_len]; show Int.natAbs _ < 2 ^ 9000; exact Nat.lt_of_lt_of_le (show _ < 2 ^ 4 by omega) (Nat.pow_le_pow_right (by decide) (by decide))⟩, ?_⟩
      obtain ⟨at0, ea, ha⟩:∃ at0:Nat, (i:Int).fdiv ((tv ss).length:Int) % ((List.map V.int row).length:Int) = (at0:Int) ∧ at0 < row.length:=by
        rw [List.length_map]
        have h1:=Int.emod_nonneg ((i:Int).fdiv ((tv ss).length:Int)) (show ((row.length:Nat):Int) ≠ 0 by omega)
        have h2:=Int.emod_lt_of_pos ((i:Int).fdiv ((tv ss).length:Int)) (show (0:Int) < ((row.length:Nat):Int) by omega)
        exact ⟨((i:Int).fdiv ((tv ss).length:Int) % ((row.length:Nat):Int)).toNat, by omega, by omega⟩
      obtain ⟨u, eu, u0, u1⟩:∃ u:Int, atI [V.int 0, V.int 1, V.int (n2 / 3 % 7), V.int (n2 / 3 % 10 ^ Int.toNat 6)] (n2 % 4) = some (.int u) ∧ 0 ≤ u ∧ u ≤ 1000000:=by
        have e6:(10 ^ Int.toNat 6:Int) = 1000000:=by decide
        rw [e6]
        rcases (show n2 % 4 = 0 ∨ n2 % 4 = 1 ∨ n2 % 4 = 2 ∨ n2 % 4 = 3 by omega) with e | e | e | e <;> rw [e]
        · exact ⟨0, atI0, by omega, by omega⟩
        · exact ⟨1, atI1, by omega, by omega⟩
        · exact ⟨_, atI2, by omega, by omega⟩
        · exact ⟨_, atI3, by omega, by omega⟩
      have hat:row[at0]? = some row[at0]:=List.getElem?_eq_getElem ha
      have rb0:=rb row[at0] (List.getElem_mem ha)
      refine ⟨_, rfl, _, .inl (SqL.of hrow), by rw [List.length_map]; omega, _, rfl, _, SqL.of hrow, V.int row[at0], by rw [ea]; exact atI_nat (by rw [List.getElem?_map, hat]; rfl), ⟨by decide, by decide⟩, by decide, ⟨by decide, by decide⟩, ⟨by decide, by decide, by decide⟩, by decide, by show 4 ≤ sizeLine; decide, fun e he=>⟨by decide, _, SqL.of upd_same, V.int u, eu, _, rfl, _, rfl, _, rfl, List.map V.int row, Same.upd he _ _ hrow, at0, by rw [ea, List.length_map]; exact ixN_nat ha, ?_⟩⟩
      have s8:=Same.upd (o:=HO.lst [V.int 0, V.int 1, V.int (n2 / 3 % 7), V.int (n2 / 3 % 10 ^ Int.toNat 6)]) he
      have hr8:=hr7.same s8
      have hl8:=s8 _ _ hl7
      have hw8:=s8 _ _ hw7
      have sm8:=sm7.trans s8
      generalize upd H7 e (.lst [V.int 0, V.int 1, V.int (n2 / 3 % 7), V.int (n2 / 3 % 10 ^ Int.toNat 6)]) = H8 at s8 hr8 hl8 hw8 sm8 ⊢
      rw [← List.map_set]
      have hin:rps[kk] ∈ rps:=List.getElem_mem kr
      refine ⟨fold', _, _, _, _, _, _, rfl, f1, ⟨sm8.put (P.nw _ hin), ?_, RwsAt.setv P.nd hqk hr8, P.nd, P.nw, P.nl, P.l0, ⟨by rw [List.length_set]; exact pb.1, fun k2 row2 n' e1 e2=>?_⟩⟩, ?_, wr⟩
      · rw [upd_ne (fun z:l = rps[kk]=>P.nl (by rw [z]; exact hin))]; exact hl8
      · rw [List.getElem?_set] at e1
        by_cases hkk:kk = k2
        · rw [if_pos hkk, if_pos (by rw [pb.1]; exact hk)] at e1
          cases e1
          rw [← hkk, hnn] at e2
          cases e2
          refine ⟨by rw [List.length_set]; exact rl, fun x hx=>?_⟩
          rcases List.mem_or_eq_of_mem_set hx with hx | rfl
          · have:=rb x hx; omega
          · omega
        · rw [if_neg hkk] at e1
          obtain ⟨a1, a2⟩:=pb.2 k2 row2 n' e1 e2
          exact ⟨a1, fun x hx=>by have:=a2 x hx; omega⟩
      · rw [upd_ne (fun z:w = rps[kk]=>wr (by rw [z]; exact hin))]; exact hw8
    · rintro σ H6 ⟨fold, o4, o5, o6, o7, o8, pss, rfl, f0, P, hw6, wr⟩
      show t_l_parts_r2 K { nx:=fun _ H'=>Q .non H', rt:=Q } [some (.ref a), some (.ref s), some (.int fold), some (.ref l), o4, o5, o6, o7, o8, none] H6
      have P':PtAt H H6 l rps pss ss 63000001:=⟨P.sm, P.hl, P.hr, P.nd, P.nw, P.nl, P.l0, P.pb.1, fun k row n e1 e2=>let ⟨a1, a2⟩:=P.pb.2 k row n e1 e2; ⟨a1, fun p hp=>⟨(a2 p hp).1, by have:=(a2 p hp).2; rw [List.length_map] at this; omega⟩⟩⟩
      clear P
      (try dsimp? [t_l_parts_r2, tFor, iRng1]; try simp_arith [t_l_parts_r2, tFor, iRng1])
      refine ⟨_, .inl (SqL.of (P'.sm _ _ hs)), ?_⟩
      rw [tv_len]
      refine ⟨by omega, by omega, ?_⟩
      rw [Int.toNat_natCast]
      refine for_range (lo:=0) (n:=ss.length) (g:=gName 9) (D:={ nx:=tRet (tVar 3) { nx:=fun _ H'=>Q .non H', rt:=Q }, rt:=Q }) (iv_parts2 a s l fold rps ss H) ?_ ?_ ?_
      · exact ⟨_, _, _, _, _, _, pss, rfl, P', fun k row h=>absurd h (Nat.not_lt_zero _)⟩
      · rintro h σ H7 hh ⟨o4, o5, o6, o7, o8, o9, pss, rfl, P7, sp⟩
        have kr:h < rps.length:=by rw [P7.hr.length, P7.pb.1]; exact hh
        have hqk:rps[h]? = some rps[h]:=List.getElem?_eq_getElem kr
        obtain ⟨row, er, hrow⟩:=P7.hr.get hqk
        obtain ⟨nn, hnn⟩:∃ nn, ss[h]? = some nn:=⟨_, List.getElem?_eq_getElem hh⟩
        obtain ⟨rl, rb⟩:=P7.pb.2 h row nn er hnn
        have n1:1 ≤ nn:=sz.ge nn (List.mem_of_getElem? hnn)
        have n6:nn ≤ 6:=sz.le nn (List.mem_of_getElem? hnn)
        (try dsimp? [t_l_parts_b2, tFor, iRng1]; try simp_arith [t_l_parts_b2, tFor, iRng1, Int.zero_add])
        refine ⟨_, SqL.of P7.hl, V.ref rps[h], atI_nat (by rw [List.getElem?_map, hqk]; rfl), ?_⟩
        refine ⟨_, rfl, _, .inl (SqL.of hrow), by rw [List.length_map]; omega, by rw [List.length_map]; omega, ?_⟩
        rw [List.length_map, Int.toNat_natCast]
        refine for_range (lo:=0) (n:=row.length) (g:=gName 8) (D:={ nx:=t_l_parts_r1 K { nx:=iv_parts2 a s l fold rps ss H (h + 1), ct:=iv_parts2 a s l fold rps ss H (h + 1), bk:=tRet (tVar 3) { nx:=fun _ H'=>Q .non H', rt:=Q }, rt:=Q }, ct:=iv_parts2 a s l fold rps ss H (h + 1), bk:=tRet (tVar 3) { nx:=fun _ H'=>Q .non H', rt:=Q }, rt:=Q }) (iv_parts3 a s l rps[h] fold h o4 o5 o6 rps ss H) ?_ ?_ ?_
        · exact ⟨o8, pss, rfl, P7, sp⟩
        · rintro j σ H8 hj ⟨o8, pss8, rfl, P8, sp8⟩
          obtain ⟨row8, er8, hrow8⟩:=P8.hr.get hqk
          obtain ⟨rl8, rb8⟩:=P8.pb.2 h row8 nn er8 hnn
          (try dsimp? [t_l_parts_b1, gSub, rSetL]; try simp_arith [t_l_parts_b1, gSub, rSetL, Int.zero_add])
          refine ⟨.l (by show (3:Int).natAbs < 2 ^ 64; decide), .r (by show Int.natAbs _ < 2 ^ 64; omega), by decide, by decide, ite2 (fun _=>?_) (fun _=>⟨_, pss8, rfl, P8, sp8⟩)⟩
          refine ⟨List.map V.int row8, hrow8, j, by rw [List.length_map]; exact ixN_nat (by omega), ?_⟩
          rw [← List.map_set]
          refine ⟨_, _, rfl, P8.set hqk er8 (by decide) (by decide), fun k row9 hk e9=>?_⟩
          rw [List.getElem?_set, if_neg (by omega)] at e9
          exact sp8 k row9 hk e9
        · rintro σ H8 ⟨o8, pss8, rfl, P8, sp8⟩
          obtain ⟨row8, er8, hrow8⟩:=P8.hr.get hqk
          obtain ⟨rl8, rb8⟩:=P8.pb.2 h row8 nn er8 hnn
          have sg:=sum_ge fun p hp=>(rb8 p hp).1
          (try dsimp? [t_l_parts_r1, cSum, gSub, rSetL]; try simp_arith [t_l_parts_r1, cSum, gSub, rSetL])
          refine ⟨row8, SqL.of hrow8, ite2 (fun hz=>?_) (fun hz=>⟨_, _, _, _, _, _, pss8, rfl, P8, fun k row9 hk e9=>?_⟩)⟩
          · obtain ⟨at0, ea, ha⟩:∃ at0:Nat, fold % ((List.map V.int row8).length:Int) = (at0:Int) ∧ at0 < row8.length:=by
              rw [List.length_map]
              have h1:=Int.emod_nonneg fold (show ((row8.length:Nat):Int) ≠ 0 by omega)
              have h2:=Int.emod_lt_of_pos fold (show (0:Int) < ((row8.length:Nat):Int) by omega)
              exact ⟨(fold % ((row8.length:Nat):Int)).toNat, by omega, by omega⟩
            have hat:row8[at0]? = some row8[at0]:=List.getElem?_eq_getElem ha
            have z0:=(rb8 row8[at0] (List.getElem_mem ha)).1
            have z1:=sg.2 row8[at0] (List.getElem_mem ha)
            refine ⟨_, .inl (SqL.of hrow8), by rw [List.length_map]; omega, List.map V.int row8, hrow8, at0, by rw [ea, List.length_map]; exact ixN_nat ha, ?_⟩
            rw [← List.map_set]
            refine ⟨_, _, _, _, _, _, _, rfl, P8.set hqk er8 (by decide) (by decide), fun k row9 hk e9=>?_⟩
            rw [List.getElem?_set] at e9
            by_cases e:h = k
            · rw [if_pos e, if_pos (List.getElem?_eq_some_iff.mp er8).1] at e9
              cases e9
              rw [sum_set hat]; omega
            · rw [if_neg e] at e9
              exact sp8 k row9 (by omega) e9
          · by_cases e:k = h
            · subst e
              rw [er8] at e9
              cases e9
              omega
            · exact sp8 k row9 (by omega) e9
      · rintro σ H7 ⟨o4, o5, o6, o7, o8, o9, pss, rfl, P7, sp⟩
        (try dsimp only [tSeq, tAsg, gName, tVar, tC, tOp, tUn, rI0, rI, rU, rAddI, rSubI, rMulI, rDivI, rDivC, rModI, rPowI, rNegI, rLtI, rLeI, rGtI, rGeI, rEq, rNe, scal_ii, tRet, tIfS, tTest, tB, tNot, tNext, tCall, tCons, tNil, tTup, tLst, tCB, cAbs, cLen, cIsB, tSl, tPart, tNoPart, rSlL, rIxL, rIxT, tAndV, tOrV, tAnd, tOr, tNotV, tPar, tNever, gTup, gCons, gNil, Lq0, Lq1, Ls0, Ls1, Lca, Lna, exI_lit, exB_lit, exR_lit]; try simp only [tSeq, tAsg, gName, tVar, tC, tOp, tUn, rI0, rI, rU, rAddI, rSubI, rMulI, rDivI, rDivC, rModI, rPowI, rNegI, rLtI, rLeI, rGtI, rGeI, rEq, rNe, scal_ii, tRet, tIfS, tTest, tB, tNot, tNext, tCall, tCons, tNil, tTup, tLst, tCB, cAbs, cLen, cIsB, tSl, tPart, tNoPart, rSlL, rIxL, rIxT, tAndV, tOrV, tAnd, tOr, tNotV, tPar, tNever, gTup, gCons, gNil, Lq0, Lq1, Ls0, Ls1, Option.some.injEq, exists_eq_left', exists_eq_left, V.int.injEq, V.ref.injEq, V.bl.injEq, V.ty.injEq, List.cons.injEq, and_true, true_and, List.append_nil, exists_and_left, decide_eq_true_eq, Lca, Lna, and_assoc, exI_lit, exB_lit, exR_lit, exI_ex, exB_ex, exR_ex])
        refine q l rps pss H7 P7.sm P7.l0 P7.hl P7.hr ⟨P7.pb.1, fun k row n e1 e2=>?_⟩
        obtain ⟨a1, a2⟩:=P7.pb.2 k row n e1 e2
        exact ⟨a1, a2, sp k row (List.getElem?_eq_some_iff.mp e2).1 e1⟩
noncomputable def N_l_more:List PySem.Str:=["_law_one", "_law_top", "_law_bottom"]
noncomputable def sp_l_more (K:PySem.W.Frag):Sp:=fun vs H Q _=>∃ p t b x y m, vs = [.ref p, .int t, .int b] ∧ SqT K H p [.int x, .int y] ∧ Gd m (x, y) ∧ m ≤ 400 ∧ BB 2 t ∧ 0 < b ∧ BB 110 b ∧ ∀ x' y' p H', Same H H' → H' p = some (.tup [.int x', .int y']) → Gd (m + 111) (x', y') → Lo (x * b + t * y) (y * b) x' y' → Q (.ref p) H'
noncomputable def t_l_more (K:PySem.W.Frag):TS:=(tRet (tCall (sp_l_lowest K) [] E0 (tCons (tOp rAddI (tOp rMulI (tOp (rIxT K) (tVar 0) (tC (.int 0))) (tVar 2)) (tOp rMulI (tVar 1) (tOp (rIxT K) (tVar 0) (tC (.int 1))))) (tCons (tOp rMulI (tOp (rIxT K) (tVar 0) (tC (.int 1))) (tVar 2)) tNil))))
theorem len_l_more {K vs H Q E} (h:sp_l_more K vs H Q E):vs.length = 3:=by obtain ⟨p, t, b, x, y, m, rfl, _⟩:=h; rfl
theorem rd_l_more {K vs H Q E} (h:sp_l_more K vs H Q E):t_l_more K { nx:=fun _ H'=>Q .non H', rt:=Q } (start N_l_more vs) H:=by
  obtain ⟨p, t, b, x, y, m, rfl, hp, ⟨y0, bx, by_⟩, hm, bt, b0, bb, q⟩:=h
  rw [show start N_l_more [V.ref p, V.int t, V.int b] = [some (.ref p), some (.int t), some (.int b)] from rfl]
  (try dsimp? [t_l_more]; try simp_arith [t_l_more])
  have y0:0 < y:=y0
  have bx:BB m x:=bx
  have by_:BB m y:=by_
  have b1:BB (m + 111) (x * b + t * y):=BB.mono ((bx.mul bb).add ((bt.mul by_).mono (by omega))) (by omega)
  have b2:BB (m + 110) (y * b):=by_.mul bb
  exact ⟨_, hp, _, atI0, _, rfl, .b bx bb (by omega), _, hp, _, atI1, _, rfl, .b bt by_ (by omega), _, hp, _, atI1, _, rfl, .b by_ bb (by omega), _, _, rfl, Int.mul_pos y0 b0, b2.mono (by omega), fun x' y' r H' s hr lo=>q x' y' r H' s hr ⟨lo.pos, b1.of_le lo.bx, (b2.of_le lo.by_).mono (by omega)⟩ lo⟩
noncomputable def N_l_spoiled:List PySem.Str:=["_law_weights", "_law_cell", "_law_way", "_law_at", "_law_found", "_law_number"]
noncomputable def sp_l_spoiled (K:PySem.W.Frag):Sp:=fun vs H Q _=>∃ l ps fs c, vs = [.ref l, .int c] ∧ SqL K H l (List.map V.ref ps) ∧ HrsAt H ps fs ∧ (∀ f ∈ fs, Gd 110 f ∧ f.1 ≤ f.2) ∧ 1 ≤ fs.length ∧ fs.length ≤ 6 ∧ mix fs fs.length = true ∧
  ∀ l' ps' fs' H', Same H H' → H' l' = some (.lst (List.map V.ref ps')) → HrsAt H' ps' fs' → (∀ f ∈ fs', Gd 500 f) → fs'.length ≤ 7 → (fs' = fs ∨ mix fs' fs.length = false) → Q (.ref l') H'
noncomputable def t_l_spoiled_r1 (K:PySem.W.Frag):TS:=(tSeq (tIfS (tAnd (tTest (tOp rEq (tVar 2) (tC (.int 7)))) (tTest (tOp rGtI (tCB (cLen K) (tCons (tVar 0) tNil)) (tC (.int 1))))) (tSeq (tAsg (tCall (sp_l_more K) [] E0 (tCons (tOp (rIxL K) (tVar 4) (tVar 3)) (tCons (tC (.int 2)) (tCons (tC (.int 1)) tNil)))) (gSub (tVar 4) (tVar 3) rSetL)) (tAsg (tCall (sp_l_more K) [] E0 (tCons (tOp (rIxL K) (tVar 4) (tOp rSubI (tVar 3) (tC (.int 1)))) (tCons (tUn rNegI (tC (.int 2))) (tCons (tC (.int 1)) tNil)))) (gSub (tVar 4) (tOp rSubI (tVar 3) (tC (.int 1))) rSetL))) (tIfS (tTest (tOp rEq (tVar 2) (tC (.int 7)))) (tAsg (tTup (tCons (tC (.int 0)) (tCons (tC (.int 1)) tNil))) (gSub (tVar 4) (tC (.int 0)) rSetL)) tNext)) (tRet (tVar 4)))
noncomputable def t_l_spoiled_r2 (K:PySem.W.Frag):TS:=(tAsg (tCall (sp_l_lowest K) [] E0 (tCons (tOp rMulI (tOp (rIxT K) (tOp (rIxL K) (tVar 4) (tVar 3)) (tC (.int 0))) (tVar 5)) (tCons (tOp rMulI (tOp (rIxT K) (tOp (rIxL K) (tVar 4) (tVar 3)) (tC (.int 1))) (tOp rAddI (tVar 5) (tC (.int 1)))) tNil))) (gSub (tVar 4) (tVar 3) rSetL))
noncomputable def t_l_spoiled_r3 (K:PySem.W.Frag):TS:=(tSeq (tAsg (tOp rModI (tOp rDivC (tVar 1) (tC (.int 198))) (tOp rPowI (tC (.int 10)) (tC (.int 30)))) (gName 5)) (t_l_spoiled_r2 K))
noncomputable def t_l_spoiled_c1 (K:PySem.W.Frag):TE:=(tVar 0)
noncomputable def t_l_spoiled_r4 (K:PySem.W.Frag):TS:=(tSeq (tIfS (tAnd (tTest (tOp rEq (tVar 2) (tC (.int 5)))) (tTest (tOp rEq (tOp rModI (tOp rDivC (tVar 1) (tC (.int 99))) (tC (.int 2))) (tC (.int 0))))) (tAsg (tCall (sp_l_more K) [] E0 (tCons (tOp (rIxL K) (tVar 4) (tVar 3)) (tCons (tC (.int 1)) (tCons (tOp rAddI (tC (.int 1)) (tOp rModI (tOp rDivC (tVar 1) (tC (.int 198))) (tOp rPowI (tC (.int 10)) (tC (.int 30))))) tNil)))) (gSub (tVar 4) (tVar 3) rSetL)) (tIfS (tTest (tOp rEq (tVar 2) (tC (.int 5)))) (tSeq (tAsg (tOp (rIxL K) (tCompI (iRng1 (tCons (tCB (cLen K) (tCons (tVar 0) tNil)) tNil)) [0] (tTest (tOp rGtI (tOp (rIxT K) (tOp (rIxL K) (tVar 1) (tVar 0)) (tC (.int 0))) (tC (.int 0)))) (t_l_spoiled_c1 K)) (tC (.int 0))) (gName 3)) (t_l_spoiled_r3 K)) tNext)) (t_l_spoiled_r1 K))
noncomputable def t_l_spoiled_r5 (K:PySem.W.Frag):TS:=(tSeq (tIfS (tTest (tOp rEq (tVar 2) (tC (.int 3)))) (tDrop (tBM K "list" rInsert (tVar 4) (tCons (tVar 3) (tCons (tTup (tCons (tC (.int 0)) (tCons (tC (.int 1)) tNil))) tNil)))) tNext) (t_l_spoiled_r4 K))
noncomputable def t_l_spoiled_r6 (K:PySem.W.Frag):TS:=(tSeq (tIfS (tTest (tOp rEq (tVar 2) (tC (.int 1)))) (tDrop (tBM K "list" rPopAt (tVar 4) (tCons (tVar 3) tNil))) tNext) (t_l_spoiled_r5 K))
noncomputable def t_l_spoiled_r7 (K:PySem.W.Frag):TS:=(tSeq (tAsg (tCB (cList K) (tCons (tVar 0) tNil)) (gName 4)) (t_l_spoiled_r6 K))
noncomputable def t_l_spoiled (K:PySem.W.Frag):TS:=(tSeq (tAsg (tOp rModI (tVar 1) (tC (.int 9))) (gName 2)) (tSeq (tAsg (tOp rModI (tOp rDivC (tVar 1) (tC (.int 9))) (tCB (cLen K) (tCons (tVar 0) tNil))) (gName 3)) (t_l_spoiled_r7 K)))
theorem len_l_spoiled {K vs H Q E} (h:sp_l_spoiled K vs H Q E):vs.length = 2:=by obtain ⟨l, ps, fs, c, rfl, _⟩:=h; rfl
theorem seqIx {k:Int} {n:Nat} (h0:0 ≤ k) (h:k < (n:Int)):seqIndex? k n = some k.toNat:=(ixN_seq (by unfold ixN; rw [if_pos h0, if_pos h]:ixN n k = some k.toNat)).1
theorem erase_map {α β:Type} (f:α → β):∀ (l:List α) (i:Nat), (l.eraseIdx i).map f = (l.map f).eraseIdx i
  | [], i=>by simp
  | a :: r, 0=>rfl
  | a :: r, i + 1=>by show f a :: (r.eraseIdx i).map f = f a :: (r.map f).eraseIdx i; rw [erase_map f r i]
theorem ixN_prev {n a:Nat} (h:a < n):ixN n ((a:Int) - 1) = some (if a = 0 then n - 1 else a - 1):=by
  unfold ixN
  by_cases e:a = 0
  · rw [if_neg (by omega), if_pos (by omega), if_pos e]
    congr 1; omega
  · rw [if_pos (by omega), if_pos (by omega), if_neg e]
    congr 1; omega
theorem atI_prev {α:Type} {xs:List α} {a:Nat} (h:a < xs.length):atI xs ((a:Int) - 1) = xs[if a = 0 then xs.length - 1 else a - 1]?:=by unfold atI; rw [ixN_prev h]; rfl
structure SpIn (K:PySem.W.Frag) (H G:Hp) (l r:Addr) (ps:List Addr) (fs:List (Int × Int)):Prop where
  hl:SqL K H l (List.map V.ref ps)
  s:Same H G
  r0:H r = none
  hr:G r = some (.lst (List.map V.ref ps))
  hf:HrsAt G ps fs
  hg:∀ f ∈ fs, Gd 110 f ∧ f.1 ≤ f.2
  h1:1 ≤ fs.length
  h6:fs.length ≤ 6
  mx:mix fs fs.length = true
noncomputable def SpK (Q:VK) (H:Hp) (fs:List (Int × Int)):Prop:=∀ l' ps' fs' H', Same H H' → H' l' = some (.lst (List.map V.ref ps')) → HrsAt H' ps' fs' → (∀ f ∈ fs', Gd 500 f) → fs'.length ≤ 7 → (fs' = fs ∨ mix fs' fs.length = false) → Q (.ref l') H'
theorem SpIn.pos {K:PySem.W.Frag} {H G:Hp} {l r:Addr} {ps:List Addr} {fs:List (Int × Int)} (I:SpIn K H G l r ps fs):∀ f ∈ fs, 0 < f.2:=fun f hf=>(I.hg f hf).1.1
theorem SpIn.get {K:PySem.W.Frag} {H G:Hp} {l r:Addr} {ps:List Addr} {fs:List (Int × Int)} (I:SpIn K H G l r ps fs) {a:Nat} (h:a < fs.length):∃ p f, ps[a]? = some p ∧ fs[a]? = some f ∧ G p = some (.tup [.int f.1, .int f.2]) ∧ Gd 110 f ∧ f.1 ≤ f.2:=by
  have ha:a < ps.length:=by rw [I.hf.length]; exact h
  have hp:ps[a]? = some ps[a]:=List.getElem?_eq_getElem ha
  obtain ⟨f, ef, hF⟩:=I.hf.get hp
  exact ⟨_, f, hp, ef, hF, I.hg f (List.mem_of_getElem? ef)⟩
theorem bb_one {n:Nat} (h:1 ≤ n):BB n 1:=BB.mono (m:=1) (by unfold BB; decide) h
theorem gd_set {fs:List (Int × Int)} {j:Nat} {g:Int × Int} {m n:Nat} (h:∀ f ∈ fs, Gd m f) (hm:m ≤ n) (hg:Gd n g):∀ f ∈ fs.set j g, Gd n f:=fun f hf=>by
  rcases List.mem_or_eq_of_mem_set hf with h' | rfl
  · exact (h f h').up hm
  · exact hg
theorem rd_spoil1 {K:PySem.W.Frag} {Q:VK} {l r:Addr} {c w at_:Int} {o5:Option V} {G:Hp} (h7:w ≠ 7) (k:Q (.ref r) G) :
    t_l_spoiled_r1 K { nx:=fun _ H'=>Q .non H', rt:=Q } [some (.ref l), some (.int c), some (.int w), some (.int at_), some (.ref r), o5] G:=by
  (try dsimp? [t_l_spoiled_r1]; try simp_arith [t_l_spoiled_r1])
  rw [if_neg h7, if_neg Bool.false_ne_true, if_neg h7]
  exact k
theorem rd_spoil7 {K:PySem.W.Frag} {Q:VK} {l r:Addr} {c:Int} {a:Nat} {o5:Option V} {H G:Hp} {ps:List Addr} {fs:List (Int × Int)} (I:SpIn K H G l r ps fs) (ha:a < fs.length) (q:SpK Q H fs) :
    t_l_spoiled_r1 K { nx:=fun _ H'=>Q .non H', rt:=Q } [some (.ref l), some (.int c), some (.int 7), some (.int a), some (.ref r), o5] G:=by
  have pl:=I.hf.length
  have g110:∀ f ∈ fs, Gd 110 f:=fun f hf=>(I.hg f hf).1
  (try dsimp? [t_l_spoiled_r1]; try simp_arith [t_l_spoiled_r1])
  rw [if_pos trivial]
  refine ⟨_, .inl (I.s.seq I.hl), ?_⟩
  rw [List.length_map, pl]
  by_cases n1:1 < fs.length
  · rw [if_pos (by omega)]
    obtain ⟨p, f, ep, ef, hp, gf, _⟩:=I.get ha
    refine ⟨_, SqL.of I.hr, _, atR ep, p, 2, 1, f.1, f.2, 110, rfl, SqT.of hp, gf, by decide, by unfold BB; decide, by decide, bb_one (by decide), fun x y p1 H1 s1 hp1 gd1 lo1=>?_⟩
    (try dsimp? [gSub, rSetL]; try simp_arith [gSub, rSetL])
    refine ⟨_, s1 _ _ I.hr, _, (by rw [List.length_map, pl]; exact ixN_nat ha), ?_⟩
    obtain ⟨s2, r2, f2⟩:=put_entry (I.s.trans s1) I.r0 (s1 _ _ I.hr) (I.hf.same s1) (g:=(x, y)) hp1 a
    generalize upd H1 r (HO.lst ((List.map V.ref ps).set a (V.ref p1))) = H2 at s2 r2 f2
    have hb:(if a = 0 then fs.length - 1 else a - 1) < fs.length ∧ (if a = 0 then fs.length - 1 else a - 1) ≠ a:=by split <;> omega
    have la:a < (List.map V.ref (ps.set a p1)).length:=by rw [List.length_map, List.length_set, pl]; exact ha
    have lb:(List.map V.ref (ps.set a p1)).length = fs.length:=by rw [List.length_map, List.length_set, pl]
    have e1:=atI_prev la
    have e2:=ixN_prev la
    rw [lb] at e1 e2
    generalize (if a = 0 then fs.length - 1 else a - 1) = b at hb e1 e2
    obtain ⟨pb, fb, epb, efb, hpb, gfb, lfb⟩:=I.get hb.1
    have epb2:(ps.set a p1)[b]? = some pb:=by rw [List.getElem?_set_ne (Ne.symm hb.2)]; exact epb
    obtain ⟨fb', efb', hpb2⟩:=f2.get epb2
    have efb2:(fs.set a (x, y))[b]? = some fb:=by rw [List.getElem?_set_ne (Ne.symm hb.2)]; exact efb
    rw [efb2] at efb'
    obtain rfl:=Option.some.inj efb'
    refine ⟨_, SqL.of r2, V.ref pb, by rw [e1, List.getElem?_map, epb2]; rfl, pb, -2, 1, fb.1, fb.2, 110, rfl, SqT.of hpb2, gfb, by decide, by unfold BB; decide, by decide, bb_one (by decide), fun x3 y3 p3 H3 s3 hp3 gd3 lo3=>?_⟩
    refine ⟨_, s3 _ _ r2, _, (by rw [lb]; exact e2), ?_⟩
    obtain ⟨s4, r4, f4⟩:=put_entry (s2.trans s3) I.r0 (s3 _ _ r2) (f2.same s3) (g:=(x3, y3)) hp3 b
    refine q r _ _ _ s4 r4 f4 (gd_set (m:=221) (gd_set g110 (by decide) gd1) (by decide) (gd3.up (by decide))) (by rw [List.length_set, List.length_set]; have:=I.h6; omega) (.inr (mix_no_neg (f:=(x3, y3)) (List.mem_of_getElem? (i:=b) ?_) (less_two gfb.1 lfb lo3)))
    rw [List.getElem?_set_self (by rw [List.length_set]; exact hb.1)]
  · rw [if_neg (by omega), if_pos trivial]
    refine ⟨sz2, fun p hp=>?_⟩
    (try dsimp? [gSub, rSetL]; try simp_arith [gSub, rSetL])
    have s1:=Same.upd (o:=HO.tup [.int 0, .int 1]) hp
    have hp1:(upd G p (HO.tup [.int 0, .int 1])) p = some (HO.tup [.int 0, .int 1]):=upd_same
    generalize upd G p (HO.tup [.int 0, .int 1]) = H1 at s1 hp1
    have h1:=I.h1
    refine ⟨_, s1 _ _ I.hr, 0, (by rw [List.length_map, pl]; exact ixN_nat (k:=0) (by omega)), ?_⟩
    obtain ⟨s2, r2, f2⟩:=put_entry (I.s.trans s1) I.r0 (s1 _ _ I.hr) (I.hf.same s1) (g:=(0, 1)) hp1 0
    refine q r _ _ _ s2 r2 f2 (gd_set g110 (by decide) ⟨by decide, by show (0:Int).natAbs < _; exact Nat.two_pow_pos _, bb_one (by decide)⟩) (by rw [List.length_set]; have:=I.h6; omega) (.inr ?_)
    match fs, h1, n1 with
    | [f], _, _=>exact mix_no_sum (by show ¬ ((0:Int) * 1 + 0 * 1 = 1 * 1); decide)
    | _ :: _ :: _, _, n1=>exact absurd (by simp) n1
theorem rd_spoil4 {K:PySem.W.Frag} {Q:VK} {l r:Addr} {c w at_:Int} {o5:Option V} {G:Hp} (h5:w ≠ 5) (k:t_l_spoiled_r1 K { nx:=fun _ H'=>Q .non H', rt:=Q } [some (.ref l), some (.int c), some (.int w), some (.int at_), some (.ref r), o5] G) :
    t_l_spoiled_r4 K { nx:=fun _ H'=>Q .non H', rt:=Q } [some (.ref l), some (.int c), some (.int w), some (.int at_), some (.ref r), o5] G:=by
  (try dsimp? [t_l_spoiled_r4]; try simp_arith [t_l_spoiled_r4])
  rw [if_neg h5, if_neg Bool.false_ne_true, if_neg h5]
  exact k
theorem rd_spoil5 {K:PySem.W.Frag} {Q:VK} {l r:Addr} {c:Int} {a:Nat} {o5:Option V} {H G:Hp} {ps:List Addr} {fs:List (Int × Int)} (I:SpIn K H G l r ps fs) (ha:a < fs.length) (q:SpK Q H fs) :
    t_l_spoiled_r4 K { nx:=fun _ H'=>Q .non H', rt:=Q } [some (.ref l), some (.int c), some (.int 5), some (.int a), some (.ref r), o5] G:=by
  have pl:=I.hf.length
  have h6:=I.h6
  have g110:∀ f ∈ fs, Gd 110 f:=fun f hf=>(I.hg f hf).1
  have hk30:(10:Int) ^ Int.toNat 30 = 1000000000000000000000000000000:=by decide
  have u0:=Int.emod_nonneg (c / 198) (b:=10 ^ Int.toNat 30) (by decide)
  have u1:=Int.emod_lt_of_pos (c / 198) (b:=10 ^ Int.toNat 30) (by decide)
  (try dsimp? [t_l_spoiled_r4]; try simp_arith [t_l_spoiled_r4])
  rw [if_pos trivial]
  refine ⟨⟨by decide, by decide⟩, by decide, ite2 (fun _=>?_) (fun _=>?_)⟩
  · obtain ⟨p, f, ep, ef, hp, gf, _⟩:=I.get ha
    refine ⟨_, SqL.of I.hr, _, atR ep, ⟨by decide, by decide⟩, ⟨by decide, by decide, by decide⟩, by decide, ?_⟩
    have b0:0 < 1 + c / 198 % 10 ^ Int.toNat 30:=by omega
    have bb:BB 110 (1 + c / 198 % 10 ^ Int.toNat 30):=by unfold BB; rw [hk30] at u0 u1 ⊢; omega
    generalize 1 + c / 198 % 10 ^ Int.toNat 30 = b at b0 bb
    refine ⟨p, 1, b, f.1, f.2, 110, rfl, SqT.of hp, gf, by decide, by unfold BB; decide, b0, bb, fun x y p1 H1 s1 hp1 gd1 lo1=>?_⟩
    (try dsimp? [gSub, rSetL]; try simp_arith [gSub, rSetL])
    refine ⟨_, s1 _ _ I.hr, _, (by rw [List.length_map, pl]; exact ixN_nat ha), ?_⟩
    obtain ⟨s2, r2, f2⟩:=put_entry (I.s.trans s1) I.r0 (s1 _ _ I.hr) (I.hf.same s1) (g:=(x, y)) hp1 a
    exact rd_spoil1 (by decide) (q r _ _ _ s2 r2 f2 (gd_set g110 (by decide) (gd1.up (by decide))) (by rw [List.length_set]; omega) (.inr (mix_set_up I.mx I.pos ef (more_up gf.1 b0 lo1))))
  · rw [if_pos trivial]
    (try dsimp? [tCompI, iRng1]; try simp_arith [tCompI, iRng1])
    refine ⟨_, .inl (I.s.seq I.hl), ?_⟩
    rw [List.length_map, pl, Int.toNat_natCast]
    refine ⟨by omega, by omega, comp_rangeI (lo:=0) (W:=fun j zs H'=>H' = G ∧ ∃ js:List Nat, zs = List.map (fun k:Nat=>V.int k) js ∧ (∀ k ∈ js, ∃ f, fs[k]? = some f ∧ 0 < f.1) ∧ ∀ k f, k < j → fs[k]? = some f → 0 < f.1 → js ≠ []) (small (by omega)) ⟨rfl, [], rfl, (fun _ h=>nomatch h), fun k f h=>absurd h (Nat.not_lt_zero _)⟩ ?_ ?_⟩
    · rintro j zs H' hj _ ⟨rfl, js, rfl, j1, j2⟩
      obtain ⟨p, f, ep, ef, hp, gf, _⟩:=I.get hj
      (try dsimp? [t_l_spoiled_c1, caught, List.map_cons, List.map_nil, Option.join_some]; try simp_arith [t_l_spoiled_c1, caught, List.map_cons, List.map_nil, Option.join_some, Int.zero_add])
      refine ⟨_, I.s.seq I.hl, _, atR ep, p, rfl, _, SqT.of hp, _, atI0, _, rfl, ?_⟩
      by_cases hf0:0 < f.1
      · rw [if_pos hf0]
        refine ⟨js ++ [j], by rw [List.map_append]; rfl, fun k hk=>?_, fun _ _ _ _ _=>by simp⟩
        rcases List.mem_append.mp hk with h | h
        · exact j1 k h
        · rw [List.mem_singleton.mp h]; exact ⟨f, ef, hf0⟩
      · rw [if_neg hf0]
        refine ⟨js, rfl, j1, fun k f' hk ef' h0=>?_⟩
        by_cases e:k = j
        · subst e
          rw [ef] at ef'
          obtain rfl:=Option.some.inj ef'
          exact absurd h0 hf0
        · exact j2 k f' (by omega) ef' h0
    · rintro zs H' ⟨rfl, js, rfl, j1, j2⟩ z hz
      obtain ⟨k0, f0, ek0, hf0⟩:=mix_some I.mx I.pos
      have hk0:=(List.getElem?_eq_some_iff.mp ek0).1
      have jn:=j2 k0 f0 hk0 ek0 hf0
      obtain ⟨k, js', rfl⟩:∃ k js', js = k :: js':=by
        cases js with
        | nil=>exact absurd rfl jn
        | cons k r=>exact ⟨k, r, rfl⟩
      obtain ⟨f, ef, hf1⟩:=j1 k List.mem_cons_self
      have hk:=(List.getElem?_eq_some_iff.mp ef).1
      have s1:=Same.upd (o:=HO.lst (List.map (fun k:Nat=>V.int k) (k :: js'))) hz
      have z1:(upd H' z (HO.lst (List.map (fun k:Nat=>V.int k) (k :: js')))) z = some (HO.lst (List.map (fun k:Nat=>V.int k) (k :: js'))):=upd_same
      generalize upd H' z (HO.lst (List.map (fun k:Nat=>V.int k) (k :: js'))) = G1 at s1 z1
      obtain ⟨p, f', ep, ef', hp, gf, _⟩:=I.get hk
      rw [ef] at ef'
      obtain rfl:=Option.some.inj ef'
      refine ⟨_, SqL.of z1, V.int k, atI0, ?_⟩
      (try dsimp? [t_l_spoiled_r3, t_l_spoiled_r2, gSub, rSetL]; try simp_arith [t_l_spoiled_r3, t_l_spoiled_r2, gSub, rSetL])
      have bn:BB 110 (c / 198 % 10 ^ Int.toNat 30):=by unfold BB; rw [hk30] at u0 u1 ⊢; omega
      have bn1:BB 110 (c / 198 % 10 ^ Int.toNat 30 + 1):=by unfold BB; rw [hk30] at u0 u1 ⊢; omega
      refine ⟨⟨by decide, by decide⟩, ⟨by decide, by decide, by decide⟩, by decide, ?_⟩
      generalize c / 198 % 10 ^ Int.toNat 30 = n at u0 bn bn1
      have r1:=s1 _ _ I.hr
      have hp1:=s1 _ _ hp
      refine ⟨_, SqL.of r1, _, atR ep, p, rfl, _, SqT.of hp1, _, atI0, _, rfl, .b gf.2.1 bn (by decide), _, SqL.of r1, _, atR ep, p, rfl, _, SqT.of hp1, _, atI1, _, rfl, .b gf.2.2 bn1 (by decide), _, _, rfl, Int.mul_pos gf.1 (by omega), (gf.2.2.mul bn1).mono (by decide), fun x y p2 H2 s2 hp2 lo2=>?_⟩
      refine ⟨_, s2 _ _ r1, _, (by rw [List.length_map, pl]; exact ixN_nat hk), ?_⟩
      have s12:=s1.trans s2
      obtain ⟨s3, r3, f3⟩:=put_entry (I.s.trans s12) I.r0 (s2 _ _ r1) (I.hf.same s12) (g:=(x, y)) hp2 k
      exact rd_spoil1 (by decide) (q r _ _ _ s3 r3 f3 (gd_set g110 (by decide) ⟨lo2.pos, ((gf.2.1.mul bn).of_le lo2.bx).mono (by decide), ((gf.2.2.mul bn1).of_le lo2.by_).mono (by decide)⟩) (by rw [List.length_set]; omega) (.inr (mix_set_down I.mx I.pos ef (less_down hf1 u0 lo2))))
theorem rd_l_spoiled {K vs H Q E} (h:sp_l_spoiled K vs H Q E):t_l_spoiled K { nx:=fun _ H'=>Q .non H', rt:=Q } (start N_l_spoiled vs) H:=by
  obtain ⟨l, ps, fs, c, rfl, hl, hf, hg, h1, h6, mx, q⟩:=h
  have pl:=hf.length
  rw [show start N_l_spoiled [V.ref l, V.int c] = [some (.ref l), some (.int c), none, none, none, none] from rfl]
  (try dsimp? [t_l_spoiled]; try simp_arith [t_l_spoiled])
  refine ⟨by decide, ⟨by decide, by decide⟩, _, .inl hl, ?_⟩
  rw [List.length_map, pl]
  obtain ⟨a, ea, ha⟩:∃ a:Nat, c / 9 % (fs.length:Int) = (a:Int) ∧ a < fs.length:=by
    have m0:=Int.emod_nonneg (c / 9) (b:=(fs.length:Int)) (by omega)
    have m1:=Int.emod_lt_of_pos (c / 9) (b:=(fs.length:Int)) (by omega)
    exact ⟨(c / 9 % (fs.length:Int)).toNat, by omega, by omega⟩
  rw [ea]
  refine ⟨by omega, ?_⟩
  generalize c % 9 = w
  (try dsimp? [t_l_spoiled_r7, cList]; try simp_arith [t_l_spoiled_r7, cList])
  refine ⟨_, .inl hl, fun r hr=>?_⟩
  have s1:=Same.upd (o:=HO.lst (List.map V.ref ps)) hr
  have r1:(upd H r (HO.lst (List.map V.ref ps))) r = some (HO.lst (List.map V.ref ps)):=upd_same
  generalize upd H r (HO.lst (List.map V.ref ps)) = G at s1 r1
  have I:SpIn K H G l r ps fs:=⟨hl, s1, hr, r1, hf.same s1, hg, h1, h6, mx⟩
  have g500:∀ f ∈ fs, Gd 500 f:=fun f hf=>(hg f hf).1.up (by decide)
  (try dsimp? [t_l_spoiled_r6, tDrop, tBM, rPopAt]; try simp_arith [t_l_spoiled_r6, tDrop, tBM, rPopAt])
  by_cases w1:w = 1
  · subst w1
    rw [if_pos rfl]
    obtain ⟨p, f, ep, ef, hp, gf, _⟩:=I.get ha
    refine ⟨.inl ⟨rfl, _, SqL.of r1⟩, _, r1, by omega, by omega, a, ?_, _, (by rw [List.getElem?_map, ep]; rfl), ?_⟩
    · rw [List.length_map, pl]
      have:=seqIx (k:=(a:Int)) (n:=fs.length) (by omega) (by omega)
      rwa [Int.toNat_natCast] at this
    · (try dsimp? [t_l_spoiled_r5]; try simp_arith [t_l_spoiled_r5])
      rw [if_neg (by decide)]
      refine rd_spoil4 (by decide) (rd_spoil1 (by decide) (q r (ps.eraseIdx a) (fs.eraseIdx a) _ (s1.put hr) (by rw [upd_same, erase_map]) ((I.hf.off r1).erase a) (fun f hf'=>g500 f (List.mem_of_mem_eraseIdx hf')) (by have:=List.length_eraseIdx_le fs a; omega) (.inr (mix_no_len ?_))))
      rw [List.length_eraseIdx_of_lt ha]; omega
  · rw [if_neg w1]
    (try dsimp? [t_l_spoiled_r5, tDrop, tBM, rInsert]; try simp_arith [t_l_spoiled_r5, tDrop, tBM, rInsert])
    by_cases w3:w = 3
    · subst w3
      rw [if_pos rfl]
      refine ⟨.inl ⟨rfl, _, SqL.of r1⟩, sz2, fun p hp=>?_⟩
      have s2:=Same.upd (o:=HO.tup [.int 0, .int 1]) hp
      have hp2:(upd G p (HO.tup [.int 0, .int 1])) p = some (HO.tup [.int 0, .int 1]):=upd_same
      have r2:=s2 _ _ r1
      have f2:=I.hf.same s2
      generalize upd G p (HO.tup [.int 0, .int 1]) = G2 at s2 hp2 r2 f2
      refine ⟨List.map V.ref ps, a, by omega, r2, by rw [List.length_map, pl]; omega, by rw [List.length_map, sizeLine_eq]; omega, ?_⟩
      have ne:p ≠ r:=fun e=>by rw [e, r2] at hp2; cases hp2
      have f3:=f2.off (zs:=(List.map V.ref ps).take a ++ V.ref p :: (List.map V.ref ps).drop a) r2
      have hp3:(upd G2 r (HO.lst ((List.map V.ref ps).take a ++ V.ref p :: (List.map V.ref ps).drop a))) p = some (HO.tup [.int 0, .int 1]):=by rw [upd_ne ne]; exact hp2
      refine rd_spoil4 (by decide) (rd_spoil1 (by decide) (q r (ps.take a ++ p :: ps.drop a) (fs.take a ++ (0, 1) :: fs.drop a) _ ((s1.trans s2).put hr) (by rw [upd_same, List.map_append, List.map_cons, List.map_take, List.map_drop]) (HrsAt.append (show HrsAt _ (p :: ps.drop a) ((0, 1) :: fs.drop a) from ⟨hp3, f3.drop a⟩) (f3.take a)) (fun f hf'=>?_) ?_ (.inr (mix_no_len ?_))))
      · rcases List.mem_append.mp hf' with h | h
        · exact g500 f (List.mem_of_mem_take h)
        · rcases List.mem_cons.mp h with rfl | h
          · exact ⟨by decide, by show (0:Int).natAbs < _; exact Nat.two_pow_pos _, bb_one (by decide)⟩
          · exact g500 f (List.mem_of_mem_drop h)
      · rw [List.length_append, List.length_cons, List.length_take, List.length_drop]; omega
      · rw [List.length_append, List.length_cons, List.length_take, List.length_drop]; omega
    · rw [if_neg w3]
      by_cases w5:w = 5
      · subst w5
        exact rd_spoil5 I ha q
      · refine rd_spoil4 w5 ?_
        by_cases w7:w = 7
        · subst w7
          exact rd_spoil7 I ha q
        · exact rd_spoil1 w7 (q r ps fs G s1 r1 I.hf g500 (by omega) (.inl rfl))
noncomputable def N_NoMixing_init:List PySem.Str:=["self", "hand"]
noncomputable def noM (dx:Addr) (h:Int):HO:=dctX dx [("hand", .int h)]
noncomputable def sp_NoMixing_init (K:PySem.W.Frag):Sp:=fun vs H Q _=>∃ e h ws, vs = [.ref e, .int h] ∧ H e = some (excF e (.ref (gadr K "NoMixing")) none ws) ∧
  ∀ dx H', Sb e H H' → H' e = some (excF e (.ref (gadr K "NoMixing")) (some dx) ws) → H dx = none → dx ≠ e → H' dx = some (noM dx h) → Q .non H'
noncomputable def t_NoMixing_init (K:PySem.W.Frag):TS:=(sFldX K (tVar 0) (tVar 1) "hand")
theorem len_NoMixing_init {K vs H Q E} (h:sp_NoMixing_init K vs H Q E):vs.length = 2:=by obtain ⟨l, ns, _, rfl, _⟩:=h; rfl
theorem rd_NoMixing_init {K vs H Q E} (x:ExK K "NoMixing" ["hand"]) (h:sp_NoMixing_init K vs H Q E):t_NoMixing_init K { nx:=fun _ H'=>Q .non H', rt:=Q } (start N_NoMixing_init vs) H:=by
  obtain ⟨e, h, ws, rfl, he, q⟩:=h
  rw [show start N_NoMixing_init [V.ref e, V.int h] = [some (.ref e), some (.int h)] from rfl]
  (try dsimp? [t_NoMixing_init, sFldX]; try simp_arith [t_NoMixing_init, sFldX])
  refine ⟨gadr K "NoMixing", x.put _ (.head _), ws, .inl ⟨he, fun dx hdx ne=>?_⟩⟩
  refine q dx _ (fun b o hb nb=>?_) ?_ hdx ne upd_same
  · have nd:b ≠ dx:=fun z=>by rw [z, hdx] at hb; cases hb
    rw [upd_ne nd, upd_ne nb]; exact hb
  · rw [upd_ne ne.symm]; exact upd_same
noncomputable def N_Table_sizes:List PySem.Str:=["self"]
noncomputable def sp_Table_sizes (K:PySem.W.Frag):Sp:=fun vs H Q _=>∃ t ns cont, vs = [.ref t] ∧ TabAt K H t ns cont ∧ ∀ l, H l = none → Q (.ref l) (upd H l (.lst (tv ns)))
noncomputable def t_Table_sizes (K:PySem.W.Frag):TS:=(tRet (tCB (cList K) (tCons (tFld K (tVar 0) "many") tNil)))
theorem len_Table_sizes {K vs H Q E} (h:sp_Table_sizes K vs H Q E):vs.length = 1:=by obtain ⟨t, ns, cont, rfl, _⟩:=h; rfl
theorem rd_Table_sizes {K vs H Q E} (T:TabK K) (h:sp_Table_sizes K vs H Q E):t_Table_sizes K { nx:=fun _ H'=>Q .non H', rt:=Q } (start N_Table_sizes vs) H:=by
  obtain ⟨t, ns, cont, rfl, ⟨dx, m, d, kv, ht, hm, _⟩, q⟩:=h
  rw [show start N_Table_sizes [V.ref t] = [some (.ref t)] from rfl]
  (try dsimp? [t_Table_sizes, tFld, cList]; try simp_arith [t_Table_sizes, tFld, cList])
  exact ⟨_, _, _, ht, T.cl, T.nM, _, flds_many _ _, m, rfl, _, .inl (SqL.of hm), q⟩
noncomputable def N_below:List PySem.Str:=["one", "other"]
noncomputable def sp_below (K:PySem.W.Frag):Sp:=fun vs H Q _=>∃ p q a b c d, vs = [.ref p, .ref q] ∧ Two K H p q a b c d ∧ Q (.bl (decide (a * d < c * b))) H
noncomputable def t_below (K:PySem.W.Frag):TS:=(tRet (tOp rLtI (tOp rMulI (tOp (rIxT K) (tVar 0) (tC (.int 0))) (tOp (rIxT K) (tVar 1) (tC (.int 1)))) (tOp rMulI (tOp (rIxT K) (tVar 1) (tC (.int 0))) (tOp (rIxT K) (tVar 0) (tC (.int 1))))))
theorem len_below {K vs H Q E} (h:sp_below K vs H Q E):vs.length = 2:=by obtain ⟨p, q, a, b, c, d, rfl, _⟩:=h; rfl
theorem rd_below {K vs H Q E} (h:sp_below K vs H Q E):t_below K { nx:=fun _ H'=>Q .non H', rt:=Q } (start N_below vs) H:=by
  obtain ⟨p, q, a, b, c, d, rfl, ⟨hp, hq, ba, bb, bc, bd, b0, d0⟩, k⟩:=h
  rw [show start N_below [V.ref p, V.ref q] = [some (.ref p), some (.ref q)] from rfl]
  (try dsimp only [t_below, tVar, tC, tOp, rI0, rI, rMulI, rLtI, tRet, rIxT, Lq0, Lq1, exI_lit, exB_lit, exR_lit]; try simp only [t_below, tVar, tC, tOp, rI0, rI, rMulI, rLtI, tRet, rIxT, Lq0, Lq1, Option.some.injEq, exists_eq_left', V.int.injEq, V.ref.injEq, exists_and_left, exists_eq_left, V.bl.injEq, List.cons.injEq, and_true, true_and, and_assoc, exI_lit, exB_lit, exR_lit, exI_ex, exB_ex, exR_ex])
  exact ⟨_, hp, _, atI0, _, hq, _, atI1, _, rfl, _, rfl, .b ba bd, _, hq, _, atI0, _, hp, _, atI1, _, rfl, _, rfl, .b bc bb, k⟩
noncomputable def N_divisor:List PySem.Str:=["one", "other", "great", "small", "left"]
noncomputable def sp_divisor (_:PySem.W.Frag):Sp:=fun vs H Q _=>∃ a b, vs = [.int a, .int b] ∧ Q (.int (Int.gcd a b:Nat)) H
noncomputable def t_divisor_b1 (K:PySem.W.Frag):TS:=(tSeq (tAsg (tOp rModI (tVar 2) (tVar 3)) (gName 4)) (tSeq (tAsg (tVar 3) (gName 2)) (tAsg (tVar 4) (gName 3))))
noncomputable def t_divisor (K:PySem.W.Frag):TS:=(tSeq (tAsg (tCB cAbs (tCons (tVar 0) tNil)) (gName 2)) (tSeq (tAsg (tCB cAbs (tCons (tVar 1) tNil)) (gName 3)) (tSeq (tWhile (tTest (tOp rNe (tVar 3) (tC (.int 0)))) (t_divisor_b1 K)) (tRet (tVar 2)))))
theorem len_divisor {K vs H Q E} (h:sp_divisor K vs H Q E):vs.length = 2:=by obtain ⟨a, b, rfl, _⟩:=h; rfl
theorem rd_divisor {K vs H Q E} (h:sp_divisor K vs H Q E):t_divisor K { nx:=fun _ H'=>Q .non H', rt:=Q } (start N_divisor vs) H:=by
  obtain ⟨a, b, rfl, k⟩:=h
  rw [show start N_divisor [V.int a, V.int b] = [some (.int a), some (.int b), none, none, none] from rfl]
  (try dsimp only [t_divisor, tSeq, tAsg, gName, tVar, tCons, tNil, tCB, cAbs, Lq0, Lq1, Ls0, Ls1, exI_lit, exB_lit, exR_lit]; try simp only [t_divisor, tSeq, tAsg, gName, tVar, tCons, tNil, tCB, cAbs, Lq0, Lq1, Ls0, Ls1, Option.some.injEq, exists_eq_left', V.int.injEq, List.cons.injEq, and_true, abs_eq, exists_eq_left, V.ref.injEq, V.bl.injEq, true_and, exists_and_left, and_assoc, exI_lit, exB_lit, exR_lit, exI_ex, exB_ex, exR_ex])
  refine while_by (fun σ H'=>H' = H ∧ ∃ g s l, σ = [some (.int a), some (.int b), some (.int g), some (.int s), l] ∧ 0 ≤ g ∧ 0 ≤ s ∧ Int.gcd g s = Int.gcd a b) (fun σ _=>(intO (σ.getD 3 none)).toNat) ?_ ?_ ?_
  · exact ⟨rfl, _, _, _, rfl, by omega, by omega, by simp [Int.gcd]⟩
  · rintro σ H' ⟨rfl, g, s, l, rfl, hg, hs, e⟩
    (try dsimp only [t_divisor_b1, tSeq, tAsg, gName, tVar, tC, tOp, rI, rModI, rNe, scal_ii, tRet, tTest, Lq0, Lq1, Ls0, Ls1, exI_lit, exB_lit, exR_lit]; try simp only [t_divisor_b1, tSeq, tAsg, gName, tVar, tC, tOp, rI, rModI, rNe, scal_ii, tRet, tTest, Lq0, Lq1, Ls0, Ls1, Option.some.injEq, exists_eq_left', V.int.injEq, V.bl.injEq, List.cons.injEq, and_true, true_and, exists_and_left, and_assoc, exists_eq_left, V.ref.injEq, exI_lit, exB_lit, exR_lit, exI_ex, exB_ex, exR_ex])
    by_cases h0:s = 0
    · subst h0
      simp only [decide_true, Bool.not_true, Option.some.injEq, exists_eq_left', exists_eq_left, V.int.injEq, V.ref.injEq, V.bl.injEq, List.cons.injEq, and_true, true_and, exists_and_left, and_assoc, exI_lit, exB_lit, exR_lit, exI_ex, exB_ex, exR_ex]
      rw [← e, Int.gcd_zero_right] at k
      have:((g.natAbs:Nat):Int) = g:=by omega
      rw [this] at k
      simpa using k
    · have hp:0 < s:=by omega
      have h1:=Int.emod_nonneg g h0
      have h2:=Int.emod_lt_of_pos g hp
      simp [h0, hp, h1, hs]
      refine ⟨?_, ?_⟩
      · rw [← e, Int.gcd_comm g s, Int.emod_def, Int.gcd_sub_mul_left_right]
      · show max (g % s) 0 < s
        omega
  · intro σ H' Q1 Q2 im h
    dsimp only [tTest, tOp, tC, rNe] at h ⊢
    first
    | (obtain ⟨v, hv, hs, q⟩:=tVar_el h
       exact tVar_in hv ⟨hs, im _ _ q⟩)
    | (obtain ⟨v, hv, hs, b, hb, q⟩:=tVar_el h
       exact tVar_in hv ⟨hs, b, hb, im _ _ q⟩)
noncomputable def N_ratio:List PySem.Str:=["top", "bottom", "shared"]
noncomputable def sp_ratio (_:PySem.W.Frag):Sp:=fun vs H Q _=>∃ t b, vs = [.int t, .int b] ∧ b ≠ 0 ∧ BB 9000 b ∧ ∀ x y p H', Same H H' → H' p = some (.tup [.int x, .int y]) → Lo t b x y → Q (.ref p) H'
noncomputable def t_ratio (K:PySem.W.Frag):TS:=(tSeq (tIfS (tTest (tOp rEq (tVar 1) (tC (.int 0)))) tNever tNext) (tSeq (tAsg (tCall (sp_divisor K) [] E0 (tCons (tVar 0) (tCons (tVar 1) tNil))) (gName 2)) (tSeq (tIfS (tTest (tOp rLtI (tVar 1) (tC (.int 0)))) (tAsg (tUn rNegI (tVar 2)) (gName 2)) tNext) (tRet (tTup (tCons (tOp rDivI (tVar 0) (tVar 2)) (tCons (tOp rDivI (tVar 1) (tVar 2)) tNil)))))))
theorem len_ratio {K vs H Q E} (h:sp_ratio K vs H Q E):vs.length = 2:=by obtain ⟨a, b, rfl, _⟩:=h; rfl
theorem rd_ratio {K vs H Q E} (h:sp_ratio K vs H Q E):t_ratio K { nx:=fun _ H'=>Q .non H', rt:=Q } (start N_ratio vs) H:=by
  obtain ⟨t, b, rfl, hb, bb, q⟩:=h
  rw [show start N_ratio [V.int t, V.int b] = [some (.int t), some (.int b), none] from rfl]
  (try dsimp only [t_ratio, tSeq, tAsg, gName, tVar, tC, tOp, tUn, rI0, rI, rU, rDivI, rNegI, rLtI, rEq, scal_ii, tRet, tIfS, tTest, tNext, tCall, tCons, tNil, tTup, tNever, Lq0, Lq1, Ls0, Ls1, exI_lit, exB_lit, exR_lit]; try simp only [t_ratio, tSeq, tAsg, gName, tVar, tC, tOp, tUn, rI0, rI, rU, rDivI, rNegI, rLtI, rEq, scal_ii, tRet, tIfS, tTest, tNext, tCall, tCons, tNil, tTup, tNever, Lq0, Lq1, Ls0, Ls1, Option.some.injEq, exists_eq_left', V.int.injEq, V.bl.injEq, List.cons.injEq, and_true, true_and, List.append_nil, exists_and_left, decide_eq_true_eq, and_assoc, sp_divisor, exists_eq_left, V.ref.injEq, exI_lit, exB_lit, exR_lit, exI_ex, exB_ex, exR_ex])
  rw [if_neg hb]
  have bg:=bb.gcd (i:=t) hb
  have g0:0 < Int.gcd t b:=Int.gcd_pos_of_ne_zero_right _ hb
  refine ite2 (fun hn=>?_) (fun hn=>?_)
  · refine ⟨⟨by omega, bg.neg⟩, ⟨by omega, bg.neg⟩, sz2, fun p hp=>q _ _ p _ (Same.upd hp) upd_same (lo_neg hn)⟩
  · refine ⟨⟨by omega, bg⟩, ⟨by omega, bg⟩, sz2, fun p hp=>q _ _ p _ (Same.upd hp) upd_same (lo_pos (by omega))⟩
noncomputable def N_plus:List PySem.Str:=["one", "other"]
noncomputable def sp_plus (K:PySem.W.Frag):Sp:=fun vs H Q _=>∃ p q a b c d, vs = [.ref p, .ref q] ∧ Two K H p q a b c d ∧ ∀ x y r H', Same H H' → H' r = some (.tup [.int x, .int y]) → Lo (a * d + c * b) (b * d) x y → Q (.ref r) H'
noncomputable def t_plus (K:PySem.W.Frag):TS:=(tRet (tCall (sp_ratio K) [] E0 (tCons (tOp rAddI (tOp rMulI (tOp (rIxT K) (tVar 0) (tC (.int 0))) (tOp (rIxT K) (tVar 1) (tC (.int 1)))) (tOp rMulI (tOp (rIxT K) (tVar 1) (tC (.int 0))) (tOp (rIxT K) (tVar 0) (tC (.int 1))))) (tCons (tOp rMulI (tOp (rIxT K) (tVar 0) (tC (.int 1))) (tOp (rIxT K) (tVar 1) (tC (.int 1)))) tNil))))
theorem len_plus {K vs H Q E} (h:sp_plus K vs H Q E):vs.length = 2:=by obtain ⟨p, q, a, b, c, d, rfl, _⟩:=h; rfl
theorem rd_plus {K vs H Q E} (h:sp_plus K vs H Q E):t_plus K { nx:=fun _ H'=>Q .non H', rt:=Q } (start N_plus vs) H:=by
  obtain ⟨p, q, a, b, c, d, rfl, ⟨hp, hq, ba, bb, bc, bd, b0, d0⟩, k⟩:=h
  rw [show start N_plus [V.ref p, V.ref q] = [some (.ref p), some (.ref q)] from rfl]
  (try dsimp? [t_plus]; try simp_arith [t_plus])
  refine ⟨_, hp, _, atI0, _, hq, _, atI1, _, rfl, _, rfl, .b ba bd, _, hq, _, atI0, _, hp, _, atI1, _, rfl, _, rfl, .b bc bb, _, hp, _, atI1, _, hq, _, atI1, _, rfl, _, rfl, .b bb bd, ?_⟩
  have z:0 < b * d:=Int.mul_pos b0 d0
  exact ⟨_, _, rfl, by omega, (bb.mul bd).mono (by decide), k⟩
noncomputable def N_summed:List PySem.Str:=["fractions", "total", "fraction"]
noncomputable def sp_summed (K:PySem.W.Frag):Sp:=fun vs H Q _=>∃ l ps fs, vs = [.ref l] ∧ SqL K H l (List.map V.ref ps) ∧ FrsAt K H ps fs ∧ (∀ f ∈ fs, Gd 500 f) ∧ fs.length ≤ 7 ∧ ∀ x y p H', Same H H' → H' p = some (.tup [.int x, .int y]) → Sm x y (nf fs) fs.length → Q (.ref p) H'
noncomputable def iv_summed (K:PySem.W.Frag) (l:Addr) (H0:Hp) (fs:List (Int × Int)):Nat → St → Hp → Prop:=fun i σ H3=>∃ t X Y o, σ = [some (.ref l), some (.ref t), o] ∧ Same H0 H3 ∧ H3 t = some (.tup [.int X, .int Y]) ∧ Sm X Y (nf (fs.take i)) i
noncomputable def t_summed_b1 (K:PySem.W.Frag):TS:=(tAsg (tCall (sp_plus K) [] E0 (tCons (tVar 1) (tCons (tVar 2) tNil))) (gName 1))
noncomputable def t_summed (K:PySem.W.Frag):TS:=(tSeq (tAsg (tTup (tCons (tC (.int 0)) (tCons (tC (.int 1)) tNil))) (gName 1)) (tSeq (tFor (iList K (tVar 0)) (gName 2) (t_summed_b1 K)) (tRet (tVar 1))))
theorem len_summed {K vs H Q E} (h:sp_summed K vs H Q E):vs.length = 1:=by obtain ⟨l, ps, fs, rfl, _⟩:=h; rfl
theorem rd_summed {K vs H Q E} (h:sp_summed K vs H Q E):t_summed K { nx:=fun _ H'=>Q .non H', rt:=Q } (start N_summed vs) H:=by
  obtain ⟨l, ps, fs, rfl, hl, hf, hg, hn, q⟩:=h
  have hpl:=hf.length
  rw [show start N_summed [V.ref l] = [some (.ref l), none, none] from rfl]
  (try dsimp? [t_summed, tFor, iList]; try simp_arith [t_summed, tFor, iList])
  refine ⟨sz2, fun t ht=>⟨⟨_, (Same.upd ht).seq hl⟩, for_list (K:=K) (a:=l) (xs:=List.map V.ref ps) (g:=gName 2) (D:={ nx:=tRet (tVar 1) { nx:=fun _ H'=>Q .non H', rt:=Q }, rt:=Q }) (iv_summed K l H fs) ?_ ?_ ?_ ?_⟩⟩
  · exact ⟨t, 0, 1, none, rfl, Same.upd ht, upd_same, sm_zero⟩
  · rintro i σ H3 _ ⟨_, _, _, _, _, s3, _⟩
    exact s3.seq hl
  · rintro i x σ H3 hi ⟨t, X, Y, o, rfl, s3, hT, sm⟩
    obtain ⟨p, rfl, hp⟩:=get_refs hi
    obtain ⟨f, ef, hF⟩:=(hf.same s3).get hp
    have gf:=hg f (List.mem_of_getElem? ef)
    have hlt:i < fs.length:=(List.getElem?_eq_some_iff.mp ef).1
    (try dsimp? [t_summed_b1]; try simp_arith [t_summed_b1])
    refine ⟨_, _, _, _, _, _, rfl, ⟨SqT.of hT, hF, sm.bX.mono (by omega), sm.bY.mono (by omega), gf.2.1.mono (by decide), gf.2.2.mono (by decide), sm.y0, gf.1⟩, fun X' Y' r H4 s4 hr lo=>?_⟩
    refine ⟨r, X', Y', _, rfl, s3.trans s4, hr, ?_⟩
    rw [nf_snoc ef]
    exact sm_step sm gf lo
  · rintro σ H3 ⟨t, X, Y, o, rfl, s3, hT, sm⟩
    (try dsimp only [tVar, tC, tOp, rI0, rNe, scal_ii, tRet, tTest, Lq0, Lq1, exI_lit, exB_lit, exR_lit]; try simp only [tVar, tC, tOp, rI0, rNe, scal_ii, tRet, tTest, Lq0, Lq1, Option.some.injEq, exists_eq_left', V.int.injEq, V.ref.injEq, V.bl.injEq, exists_and_left, exists_eq_left, List.cons.injEq, and_true, true_and, and_assoc, exI_lit, exB_lit, exR_lit, exI_ex, exB_ex, exR_ex])
    rw [List.length_map, hpl, List.take_length] at sm
    exact q X Y t H3 s3 hT sm
noncomputable def N_is_mixing:List PySem.Str:=["weights", "many", "weight"]
noncomputable def sp_is_mixing (K:PySem.W.Frag):Sp:=fun vs H Q _=>∃ l ps fs many, vs = [.ref l, .int many] ∧ SqL K H l (List.map V.ref ps) ∧ FrsAt K H ps fs ∧ (∀ f ∈ fs, Gd 500 f) ∧ fs.length ≤ 7 ∧ ∀ H', Same H H' → Q (.bl (mix fs many)) H'
noncomputable def iv_mixing (K:PySem.W.Frag) (l:Addr) (many:Int) (H0:Hp) (fs:List (Int × Int)):Nat → St → Hp → Prop:=fun i σ H3=>∃ o, σ = [some (.ref l), some (.int many), o] ∧ Same H0 H3 ∧ ∀ f ∈ fs.take i, 0 ≤ f.1
noncomputable def t_is_mixing_r1 (K:PySem.W.Frag):TS:=(tRet (tOp (rEqT K) (tCall (sp_summed K) [] E0 (tCons (tVar 0) tNil)) (tTup (tCons (tC (.int 1)) (tCons (tC (.int 1)) tNil)))))
noncomputable def t_is_mixing_b1 (K:PySem.W.Frag):TS:=(tIfS (tB (tCall (sp_below K) [] E0 (tCons (tVar 2) (tCons (tTup (tCons (tC (.int 0)) (tCons (tC (.int 1)) tNil))) tNil)))) (tRet (tC (.bl false))) tNext)
noncomputable def t_is_mixing (K:PySem.W.Frag):TS:=(tSeq (tIfS (tTest (tOp rNe (tCB (cLen K) (tCons (tVar 0) tNil)) (tVar 1))) (tRet (tC (.bl false))) tNext) (tSeq (tFor (iList K (tVar 0)) (gName 2) (t_is_mixing_b1 K)) (t_is_mixing_r1 K)))
theorem len_is_mixing {K vs H Q E} (h:sp_is_mixing K vs H Q E):vs.length = 2:=by obtain ⟨l, ps, fs, m, rfl, _⟩:=h; rfl
theorem mix_neg {fs:List (Int × Int)} {i:Nat} {f:Int × Int} {many:Int} (h:fs[i]? = some f) (hn:f.1 < 0):mix fs many = false:=by
  have:fs.all (fun f=>decide (0 ≤ f.1)) = false:=by
    rw [List.all_eq_false]
    exact ⟨f, List.mem_of_getElem? h, by simp; omega⟩
  unfold mix; rw [this]; simp
theorem mix_all {fs:List (Int × Int)} {many:Int} (h:∀ f ∈ fs, 0 ≤ f.1) (e:(fs.length:Int) = many):mix fs many = decide ((nf fs).1 = (nf fs).2):=by
  have:fs.all (fun f=>decide (0 ≤ f.1)) = true:=by
    rw [List.all_eq_true]
    intro f hf
    exact decide_eq_true (h f hf)
  unfold mix; rw [this, decide_eq_true e]; simp
theorem mix_len {fs:List (Int × Int)} {many:Int} (e:¬ (fs.length:Int) = many):mix fs many = false:=by
  unfold mix; rw [decide_eq_false e]; simp
theorem all_snoc {fs:List (Int × Int)} {i:Nat} {f:Int × Int} (h:fs[i]? = some f) (ha:∀ g ∈ fs.take i, 0 ≤ g.1) (hf:0 ≤ f.1):∀ g ∈ fs.take (i + 1), 0 ≤ g.1:=by
  intro g hg
  rw [take_snoc h] at hg
  rcases List.mem_append.mp hg with hg | hg
  · exact ha g hg
  · rw [List.mem_singleton.mp hg]; exact hf
theorem rd_is_mixing {K vs H Q E} (h:sp_is_mixing K vs H Q E):t_is_mixing K { nx:=fun _ H'=>Q .non H', rt:=Q } (start N_is_mixing vs) H:=by
  obtain ⟨l, ps, fs, many, rfl, hl, hf, hg, hn, q⟩:=h
  have hpl:=hf.length
  rw [show start N_is_mixing [V.ref l, V.int many] = [some (.ref l), some (.int many), none] from rfl]
  (try dsimp? [t_is_mixing, tFor, iList]; try simp_arith [t_is_mixing, tFor, iList])
  refine ⟨_, .inl hl, ?_⟩
  rw [List.length_map, hpl]
  by_cases hm:(fs.length:Int) = many
  · simp only [hm, decide_true, Bool.not_true, Bool.false_eq_true, if_false]
    refine ⟨⟨_, hl⟩, for_list (K:=K) (a:=l) (xs:=List.map V.ref ps) (g:=gName 2) (D:={ nx:=t_is_mixing_r1 K { nx:=fun _ H'=>Q .non H', rt:=Q }, rt:=Q }) (iv_mixing K l many H fs) ?_ ?_ ?_ ?_⟩
    · exact ⟨none, rfl, Same.refl _, by simp⟩
    · rintro i σ H3 _ ⟨_, _, s3, _⟩
      exact s3.seq hl
    · rintro i x σ H3 hi ⟨o, rfl, s3, ha⟩
      obtain ⟨p, rfl, hp⟩:=get_refs hi
      obtain ⟨f, ef, hF⟩:=(hf.same s3).get hp
      have gf:=hg f (List.mem_of_getElem? ef)
      (try dsimp? [t_is_mixing_b1]; try simp_arith [t_is_mixing_b1])
      refine ⟨sz2, fun z hz=>?_⟩
      have s4:Same H3 (upd H3 z (.tup [.int 0, .int 1])):=Same.upd hz
      refine ⟨_, _, _, _, _, _, rfl, ⟨s4.tup hF, SqT.of upd_same, gf.2.1.mono (by decide), gf.2.2.mono (by decide), by unfold BB; exact Nat.two_pow_pos _, BB.mono (m:=1) (by unfold BB; decide) (by decide), gf.1, by decide⟩, _, rfl, ?_⟩
      by_cases hneg:f.1 < 0
      · rw [if_pos (by simp; omega)]
        rw [← mix_neg (many:=many) ef hneg]
        exact q _ (s3.trans s4)
      · rw [if_neg (by simp; omega)]
        exact ⟨_, rfl, s3.trans s4, all_snoc ef ha (by omega)⟩
    · rintro σ H3 ⟨o, rfl, s3, ha⟩
      rw [List.length_map, hpl, List.take_length] at ha
      (try dsimp? [t_is_mixing_r1]; try simp_arith [t_is_mixing_r1])
      refine ⟨_, _, _, rfl, s3.seq hl, hf.same s3, hg, hn, fun x y p H4 s4 hp sm=>⟨sz2, fun z hz=>?_⟩⟩
      have s5:Same H4 (upd H4 z (.tup [.int 1, .int 1])):=Same.upd hz
      refine ⟨_, _, [x, y], [1, 1], rfl, rfl, SqT.of (s5 _ _ hp), SqT.of upd_same, ?_⟩
      have e:decide ([x, y] = [1, 1]) = mix fs many:=by
        rw [mix_all ha hm]
        exact decide_eq_decide.mpr (sm_one sm)
      rw [e]
      exact q _ ((s3.trans s4).trans s5)
  · simp only [hm, decide_false, Bool.not_false, if_true]
    rw [← mix_len hm]
    exact q H (Same.refl _)
noncomputable def N_check_mixings:List PySem.Str:=["table", "mixings", "hand", "size"]
structure MxIn (K:PySem.W.Frag) (H:Hp) (m:Addr) (mps:List Addr) (ms:List (List (Int × Int))) (ns:List Nat):Prop where
  hm:H m = some (.lst (List.map V.ref mps))
  hr:RfAt K H mps ms
  l1:ms.length = ns.length
  l3:ns.length ≤ 3
  ok:∀ (i n:Nat) (row:List (Int × Int)), ns[i]? = some n → ms[i]? = some row → (∀ f ∈ row, Gd 500 f) ∧ row.length ≤ 7
theorem MxIn.same {K:PySem.W.Frag} {H H':Hp} {m:Addr} {mps:List Addr} {ms:List (List (Int × Int))} {ns:List Nat} (h:MxIn K H m mps ms ns) (s:Same H H'):MxIn K H' m mps ms ns:=⟨s _ _ h.hm, h.hr.same s, h.l1, h.l3, h.ok⟩
noncomputable def AllM (ms:List (List (Int × Int))) (ns:List Nat):Prop:=∀ (j n:Nat) (row:List (Int × Int)), ns[j]? = some n → ms[j]? = some row → mix row n = true
noncomputable def BadM (ms:List (List (Int × Int))) (ns:List Nat) (i:Nat):Prop:=(∃ (n:Nat) (row:List (Int × Int)), ns[i]? = some n ∧ ms[i]? = some row ∧ mix row n = false) ∧ ∀ (j n:Nat) (row:List (Int × Int)), j < i → ns[j]? = some n → ms[j]? = some row → mix row n = true
theorem BadM.no {ms:List (List (Int × Int))} {ns:List Nat} {i:Nat} (b:BadM ms ns i) (a:AllM ms ns):False:=by
  obtain ⟨⟨n, row, e1, e2, e3⟩, _⟩:=b
  rw [a i n row e1 e2] at e3; cases e3
theorem MxOk.inn {K:PySem.W.Frag} {H:Hp} {m:Addr} {mps:List Addr} {ms:List (List (Int × Int))} {ns:List Nat} (h:MxOk K H m mps ms ns):MxIn K H m mps ms ns ∧ AllM ms ns:=⟨⟨h.hm, h.hr, h.l1, h.l3, fun i n row e1 e2=>(h.ok i n row e1 e2).2⟩, fun i n row e1 e2=>(h.ok i n row e1 e2).1⟩
noncomputable def XM (K:PySem.W.Frag) (H:Hp) (E:XK) (ms:List (List (Int × Int))) (ns:List Nat):Prop:=∀ i, BadM ms ns i → ∀ dx H', Same H H' → H dx = none → H' dx = some (noM dx i) → E (.ref (gadr K "NoMixing")) (some dx) H'
theorem XM.same {K:PySem.W.Frag} {H H':Hp} {E:XK} {ms:List (List (Int × Int))} {ns:List Nat} (x:XM K H E ms ns) (s:Same H H'):XM K H' E ms ns:=fun i b dx G t hd e=>x i b dx G (s.trans t) (s.free hd) e
theorem AllM.xm {K:PySem.W.Frag} {H:Hp} {E:XK} {ms:List (List (Int × Int))} {ns:List Nat} (a:AllM ms ns):XM K H E ms ns:=fun _ b=>(b.no a).elim
noncomputable def sp_check_mixings (K:PySem.W.Frag):Sp:=fun vs H Q E=>∃ t m ns cont mps ms, vs = [.ref t, .ref m] ∧ TabAt K H t ns cont ∧ MxIn K H m mps ms ns ∧ (AllM ms ns → ∀ H', Same H H' → Q .non H') ∧ XM K H E ms ns
noncomputable def iv_check_mixings (t m:Addr) (ms:List (List (Int × Int))) (ns:List Nat) (H0:Hp):Nat → St → Hp → Prop:=fun i σ H3=>∃ o1 o2, σ = [some (.ref t), some (.ref m), o1, o2] ∧ Same H0 H3 ∧ ∀ (j n:Nat) (row:List (Int × Int)), j < i → ns[j]? = some n → ms[j]? = some row → mix row n = true
noncomputable def t_check_mixings_b1 (K:PySem.W.Frag) (E:XK):TS:=(tIfS (tNot (tB (tCall (sp_is_mixing K) [] E0 (tCons (tOp (rIxL K) (tVar 1) (tVar 2)) (tCons (tVar 3) tNil))))) (tRaiseE E (gadr K "NoMixing") (sp_NoMixing_init K) (tCons (tVar 2) tNil)) tNext)
noncomputable def t_check_mixings_g1 (K:PySem.W.Frag) (E:XK):TG:=(gTup K 2 (gCons (gName 2) (gCons (gName 3) gNil)))
noncomputable def t_check_mixings (K:PySem.W.Frag) (E:XK):TS:=(tFor (iEnum K (tMeth (gadr K "Table") "sizes" (sp_Table_sizes K) [] E0 (tVar 0) tNil)) (t_check_mixings_g1 K E) (t_check_mixings_b1 K E))
theorem len_check_mixings {K vs H Q E} (h:sp_check_mixings K vs H Q E):vs.length = 2:=by obtain ⟨_, _, _, _, _, _, rfl, _⟩:=h; rfl
theorem raise_NM {K:PySem.W.Frag} {E:XK} {H0 H1:Hp} {i:Int} (s:Same H0 H1) (k:∀ dx H', Same H0 H' → H0 dx = none → H' dx = some (noM dx i) → E (.ref (gadr K "NoMixing")) (some dx) H') :
    ∀ e (ws:Array Value) a0, H1 e = none → ws[0]? = some a0 → ws[1]? = some Value.none → sp_NoMixing_init K [.ref e, .int i] (upd H1 e (excF e (.ref (gadr K "NoMixing")) none ws)) (fun v H2=>v = .non ∧ ∃ od, H2 e = some (excF e (.ref (gadr K "NoMixing")) od ws) ∧ E (.ref (gadr K "NoMixing")) od (delH H2 e)) E0:=by
  intro e ws a0 fr w0 w1
  refine ⟨e, i, ws, rfl, upd_same, fun dx H' sb he hdx ne hd=>⟨rfl, some dx, he, k dx (delH H' e) (fun b o hb=>?_) ?_ ?_⟩⟩
  · have hb1:=s b o hb
    have nb:b ≠ e:=ne_of_none hb1 fr
    rw [delH_ne nb]
    exact sb b o (by rw [upd_ne nb]; exact hb1) nb
  · rw [upd_ne ne] at hdx
    exact s.free hdx
  · rw [delH_ne ne]; exact hd
theorem rd_check_mixings {K vs H Q E} (T:TabK K) (h:sp_check_mixings K vs H Q E):t_check_mixings K E { nx:=fun _ H'=>Q .non H', rt:=Q } (start N_check_mixings vs) H:=by
  obtain ⟨t, m, ns, cont, mps, ms, rfl, hT, M, k, kb⟩:=h
  obtain ⟨dx, mm, d, ht⟩:=hT.ins
  have pl:=M.hr.length
  rw [show start N_check_mixings [V.ref t, V.ref m] = [some (.ref t), some (.ref m), none, none] from rfl]
  (try dsimp? [t_check_mixings, tFor, iEnum, tMeth]; try simp_arith [t_check_mixings, tFor, iEnum, tMeth, if_true])
  refine ⟨dx, _, ht, flds_no _ _ (by decide +kernel) (by decide +kernel), t, ns, cont, rfl, hT, fun l hl=>?_⟩
  have s1:=Same.upd (o:=HO.lst (tv ns)) hl
  have hl1:(upd H l (.lst (tv ns))) l = some (.lst (tv ns)):=upd_same
  generalize upd H l (.lst (tv ns)) = H1 at s1 hl1
  refine ⟨_, rfl, ⟨_, SqL.of hl1⟩, for_enum (K:=K) (a:=l) (xs:=tv ns) (g:=t_check_mixings_g1 K E) (D:={ nx:=fun _ H'=>Q .non H', rt:=Q }) (iv_check_mixings t m ms ns H1) ?_ ?_ ?_ ?_⟩
  · exact ⟨none, none, rfl, Same.refl _, fun j n row hj=>absurd hj (Nat.not_lt_zero _)⟩
  · rintro i σ H3 _ ⟨_, _, _, s3, _⟩
    exact SqL.of (s3 _ _ hl1)
  · rintro i x p σ H3 hi ⟨o1, o2, rfl, s3, gd3⟩ hp
    obtain ⟨n, hn, rfl⟩:=tv_get hi
    have il:=(List.getElem?_eq_some_iff.mp hn).1
    have il2:i < mps.length:=by rw [pl, M.l1]; exact il
    have hmi:mps[i]? = some mps[i]:=List.getElem?_eq_getElem il2
    obtain ⟨row, rs, er, hrow, hfr⟩:=M.hr.get hmi
    obtain ⟨gd, l7⟩:=M.ok i n row hn er
    have s4:=(s1.trans s3).trans (Same.upd (o:=HO.tup [.int i, .int n]) hp)
    have s34:=s3.trans (Same.upd (o:=HO.tup [.int i, .int n]) hp)
    (try dsimp? [t_check_mixings_g1, t_check_mixings_b1, tRaiseE]; try simp_arith [t_check_mixings_g1, t_check_mixings_b1, tRaiseE])
    refine ⟨_, SqT.of upd_same, rfl, _, _, rfl, _, _, rfl, rfl, ?_⟩
    generalize upd H3 p (.tup [.int i, .int n]) = H4 at s4 s34
    refine ⟨_, rfl, _, SqL.of (s4 _ _ M.hm), _, atI_nat (by rw [List.getElem?_map, hmi]; rfl), _, rs, row, n, rfl, SqL.of (s4 _ _ hrow), hfr.same s4, gd, l7, fun H5 s5=>?_⟩
    cases mx:mix row n with
    | true =>
      refine ⟨_, rfl, iteF ⟨_, _, rfl, s34.trans s5, fun j n' row' hj e1 e2=>?_⟩⟩
      by_cases ji:j = i
      · subst ji
        rw [hn] at e1; rw [er] at e2
        obtain rfl:=Option.some.inj e1
        obtain rfl:=Option.some.inj e2
        exact mx
      · exact gd3 j n' row' (by omega) e1 e2
    | false =>
      refine ⟨_, rfl, iteT ?_⟩
      exact ⟨sz1, raise_NM (s4.trans s5) (kb i ⟨⟨n, row, hn, er, mx⟩, gd3⟩)⟩
  · rintro σ H3 ⟨o1, o2, rfl, s3, gd3⟩
    exact k (fun j n row e1 e2=>gd3 j n row (by rw [tv_len]; exact (List.getElem?_eq_some_iff.mp e1).1) e1 e2) H3 (s1.trans s3)
noncomputable def N_Table_plays:List PySem.Str:=["self"]
noncomputable def sp_Table_plays (K:PySem.W.Frag):Sp:=fun vs H Q _=>∃ t ns cont, vs = [.ref t] ∧ TabAt K H t ns cont ∧ Sz ns ∧ ∀ p xs H', Same H H' → H p = none → H' p = some (.lst xs) → Ps H' xs (ordR ns.reverse) → Q (.ref p) H'
noncomputable def t_Table_plays (K:PySem.W.Frag):TS:=(tRet (tCall (sp_in_order K) [] E0 (tCons (tFld K (tVar 0) "many") tNil)))
theorem len_Table_plays {K vs H Q E} (h:sp_Table_plays K vs H Q E):vs.length = 1:=by obtain ⟨t, ns, cont, rfl, _⟩:=h; rfl
theorem rd_Table_plays {K vs H Q E} (T:TabK K) (h:sp_Table_plays K vs H Q E):t_Table_plays K { nx:=fun _ H'=>Q .non H', rt:=Q } (start N_Table_plays vs) H:=by
  obtain ⟨t, ns, cont, rfl, ⟨dx, m, d, kv, ht, hm, _⟩, sz, q⟩:=h
  rw [show start N_Table_plays [V.ref t] = [some (.ref t)] from rfl]
  (try dsimp? [t_Table_plays, tFld]; try simp_arith [t_Table_plays, tFld])
  exact ⟨_, _, _, ht, T.cl, T.nM, _, flds_many _ _, m, ns, rfl, SqL.of hm, sz, q⟩
noncomputable def N_times:List PySem.Str:=["one", "other"]
noncomputable def sp_times (K:PySem.W.Frag):Sp:=fun vs H Q _=>∃ p q a b c d, vs = [.ref p, .ref q] ∧ Two K H p q a b c d ∧ ∀ x y r H', Same H H' → H' r = some (.tup [.int x, .int y]) → Lo (a * c) (b * d) x y → Q (.ref r) H'
noncomputable def t_times (K:PySem.W.Frag):TS:=(tRet (tCall (sp_ratio K) [] E0 (tCons (tOp rMulI (tOp (rIxT K) (tVar 0) (tC (.int 0))) (tOp (rIxT K) (tVar 1) (tC (.int 0)))) (tCons (tOp rMulI (tOp (rIxT K) (tVar 0) (tC (.int 1))) (tOp (rIxT K) (tVar 1) (tC (.int 1)))) tNil))))
theorem len_times {K vs H Q E} (h:sp_times K vs H Q E):vs.length = 2:=by obtain ⟨p, q, a, b, c, d, rfl, _⟩:=h; rfl
theorem rd_times {K vs H Q E} (h:sp_times K vs H Q E):t_times K { nx:=fun _ H'=>Q .non H', rt:=Q } (start N_times vs) H:=by
  obtain ⟨p, q, a, b, c, d, rfl, ⟨hp, hq, ba, bb, bc, bd, b0, d0⟩, k⟩:=h
  rw [show start N_times [V.ref p, V.ref q] = [some (.ref p), some (.ref q)] from rfl]
  (try dsimp only [t_times, tVar, tC, tOp, rI, rMulI, tRet, tCall, tCons, tNil, rIxT, Lq0, Lq1, exI_lit, exB_lit, exR_lit]; try simp only [t_times, tVar, tC, tOp, rI, rMulI, tRet, tCall, tCons, tNil, rIxT, Lq0, Lq1, Option.some.injEq, exists_eq_left', V.int.injEq, V.ref.injEq, List.append_nil, exists_and_left, exists_eq_left, V.bl.injEq, List.cons.injEq, and_true, true_and, and_assoc, exI_lit, exB_lit, exR_lit, exI_ex, exB_ex, exR_ex])
  refine ⟨_, hp, _, atI0, _, hq, _, atI0, _, rfl, _, rfl, .b ba bc, _, hp, _, atI1, _, hq, _, atI1, _, rfl, _, rfl, .b bb bd, ?_⟩
  have z:0 < b * d:=Int.mul_pos b0 d0
  exact ⟨_, _, rfl, by omega, (bb.mul bd).mono (by decide), k⟩
noncomputable def N_chance:List PySem.Str:=["choices", "mixings", "product", "choice", "mixing"]
noncomputable def sp_chance (K:PySem.W.Frag):Sp:=fun vs H Q _=>∃ c m q mps ms ps, vs = [.ref c, .ref m] ∧ H c = some (.tup (tv q)) ∧ H m = some (.lst (List.map V.ref mps)) ∧ RfAt K H mps ms ∧ Chs q ms ps ∧ ∀ x y r H', Same H H' → H' r = some (.tup [.int x, .int y]) → Lo (pT ps) (pB ps) x y → Q (.ref r) H'
noncomputable def iv_chance (c m:Addr) (ps:List (Int × Int)) (H0:Hp):Nat → St → Hp → Prop:=fun i σ H3=>∃ r x y o1 o2, σ = [some (.ref c), some (.ref m), some (.ref r), o1, o2] ∧ Same H0 H3 ∧ H3 r = some (.tup [.int x, .int y]) ∧ Lo (pT (ps.take i)) (pB (ps.take i)) x y ∧ 0 < pB (ps.take i) ∧ BB (400 * i + 1) (pT (ps.take i)) ∧ BB (400 * i + 1) (pB (ps.take i))
noncomputable def t_chance_b1 (K:PySem.W.Frag):TS:=(tAsg (tCall (sp_times K) [] E0 (tCons (tVar 2) (tCons (tOp (rIxL K) (tVar 4) (tVar 3)) tNil))) (gName 2))
noncomputable def t_chance_g1 (K:PySem.W.Frag):TG:=(gTup K 2 (gCons (gName 3) (gCons (gName 4) gNil)))
noncomputable def t_chance (K:PySem.W.Frag):TS:=(tSeq (tAsg (tTup (tCons (tC (.int 1)) (tCons (tC (.int 1)) tNil))) (gName 2)) (tSeq (tFor (iZipT K (tCons (tVar 0) (tCons (tVar 1) tNil))) (t_chance_g1 K) (t_chance_b1 K)) (tRet (tVar 2))))
theorem len_chance {K vs H Q E} (h:sp_chance K vs H Q E):vs.length = 2:=by obtain ⟨_, _, _, _, _, _, rfl, _⟩:=h; rfl
theorem rd_chance {K vs H Q E} (h:sp_chance K vs H Q E):t_chance K { nx:=fun _ H'=>Q .non H', rt:=Q } (start N_chance vs) H:=by
  obtain ⟨c, m, q, mps, ms, ps, rfl, hc, hm, hr, C, k⟩:=h
  have pl:=hr.length
  have c1:=C.l1
  have c2:=C.l2
  have c3:=C.l3
  rw [show start N_chance [V.ref c, V.ref m] = [some (.ref c), some (.ref m), none, none, none] from rfl]
  (try dsimp? [t_chance, tFor, iZipT]; try simp_arith [t_chance, tFor, iZipT])
  refine ⟨sz2, fun p hp=>?_⟩
  have s1:=Same.upd (o:=HO.tup [.int 1, .int 1]) hp
  have hp1:(upd H p (.tup [.int 1, .int 1])) p = some (.tup [.int 1, .int 1]):=upd_same
  generalize upd H p (.tup [.int 1, .int 1]) = H1 at s1 hp1
  refine ⟨⟨_, SqT.of (s1 _ _ hc)⟩, ⟨_, SqL.of (s1 _ _ hm)⟩, for_zipT (K:=K) (a:=c) (b:=m) (xs:=tv q) (ys:=List.map V.ref mps) (g:=t_chance_g1 K) (D:={ nx:=tRet (tVar 2) { nx:=fun _ H'=>Q .non H', rt:=Q }, rt:=Q }) (iv_chance c m ps H1) ?_ ?_ ?_ ?_ ?_⟩
  · exact ⟨p, 1, 1, none, none, rfl, Same.refl _, hp1, ⟨by decide, by decide, rfl, Nat.le_refl _, Nat.le_refl _⟩, by show (0:Int) < 1; decide, by show (1:Int).natAbs < 2 ^ 1; decide, by show (1:Int).natAbs < 2 ^ 1; decide⟩
  · rintro i σ H3 _ ⟨_, _, _, _, _, _, s3, _⟩
    exact ⟨SqT.of (s3 _ _ (s1 _ _ hc)), SqL.of (s3 _ _ (s1 _ _ hm))⟩
  · rw [show (tv q).length = q.length from by unfold tv; rw [List.length_map], List.length_map]; omega
  · rintro i vx vy pp σ H3 hx hy ⟨r, x, y, o1, o2, rfl, s3, hr3, lo, b0, bt, bb⟩ hpp
    obtain ⟨n, hn, rfl⟩:=tv_get hx
    obtain ⟨mp, rfl, hmp⟩:=get_refs hy
    obtain ⟨row, rs, er, hrow, hfr⟩:=hr.get hmp
    have il:i < ps.length:=by have:=(List.getElem?_eq_some_iff.mp hn).1; omega
    have hpi:ps[i]? = some ps[i]:=List.getElem?_eq_getElem il
    obtain ⟨f, ef, lof, fb, ft, fbb⟩:=C.at_ i n row _ hn er hpi
    obtain ⟨rp, erp, hrp⟩:=hfr.at_ ef
    have s4:=Same.upd (o:=HO.tup [.int n, .ref mp]) hpp
    have s14:=(s1.trans s3).trans s4
    (try dsimp? [t_chance_g1, t_chance_b1]; try simp_arith [t_chance_g1, t_chance_b1])
    refine ⟨_, SqT.of upd_same, rfl, _, _, rfl, _, _, rfl, rfl, ?_⟩
    generalize upd H3 pp (.tup [.int n, .ref mp]) = H4 at s4 s14
    have bx:=lo.bb2 bt bb
    have bf:=lof.bb2 ft fbb
    have il3:400 * i + 1 ≤ 4000:=by omega
    refine ⟨_, rfl, _, rfl, _, SqL.of (s14 _ _ hrow), _, atI_nat (by rw [List.getElem?_map, erp]; rfl), _, _, x, y, f.1, f.2, rfl, ⟨SqT.of (s4 _ _ hr3), s14.tup hrp, bx.1.mono il3, bx.2.mono il3, bf.1.mono (by decide), bf.2.mono (by decide), lo.pos, lof.pos⟩, fun x' y' r' H5 s5 hr5 lo5=>?_⟩
    refine ⟨_, x', y', _, _, rfl, (s3.trans s4).trans s5, hr5, ?_, ?_, ?_, ?_⟩
    all_goals rw [take_snoc hpi]
    · rw [pT_snoc, pB_snoc]; exact lo_mul lo lof lo5 b0 fb
    · rw [pB_snoc]; exact Int.mul_pos b0 fb
    · rw [pT_snoc]; exact (bt.mul ft).mono (by omega)
    · rw [pB_snoc]; exact (bb.mul fbb).mono (by omega)
  · rintro σ H3 ⟨r, x, y, o1, o2, rfl, s3, hr3, lo, b0, bt, bb⟩
    (try dsimp only [tVar, tC, tOp, rI0, rNe, scal_ii, tRet, tTest, Lq0, Lq1, exI_lit, exB_lit, exR_lit]; try simp only [tVar, tC, tOp, rI0, rNe, scal_ii, tRet, tTest, Lq0, Lq1, Option.some.injEq, exists_eq_left', V.int.injEq, V.ref.injEq, V.bl.injEq, exists_and_left, exists_eq_left, List.cons.injEq, and_true, true_and, and_assoc, exI_lit, exB_lit, exR_lit, exI_ex, exB_ex, exR_ex])
    rw [show (tv q).length = ps.length from by unfold tv; rw [List.length_map]; omega, List.take_length] at lo
    exact k x y r H3 (s1.trans s3) hr3 lo
noncomputable def N_Table_earned:List PySem.Str:=["self", "play", "hand", "size"]
noncomputable def sp_Table_earned (K:PySem.W.Frag):Sp:=fun vs H Q _=>∃ t a ns cont q, vs = [.ref t, .ref a] ∧ TabAt K H t ns cont ∧ H a = some (.tup (tv q)) ∧ q ∈ ordR ns.reverse ∧ ∀ l H', Same H H' → H l = none → H' l = some (.lst (cont q)) → Q (.ref l) H'
noncomputable def iv_Table_earned (t a:Addr) (H:Hp):Nat → St → Hp → Prop:=fun _ σ H3=>∃ o1 o2, σ = [some (.ref t), some (.ref a), o1, o2] ∧ Same H H3
noncomputable def t_Table_earned_r1 (K:PySem.W.Frag):TS:=(tRet (tCB (cList K) (tCons (tDGet (tFld K (tVar 0) "cells") (tVar 1)) tNil)))
noncomputable def t_Table_earned_b1 (K:PySem.W.Frag):TS:=(tIfS (tOr (tTest (tOp rLtI (tOp (rIxT K) (tVar 1) (tVar 2)) (tC (.int 0)))) (tTest (tOp rGeI (tOp (rIxT K) (tVar 1) (tVar 2)) (tVar 3)))) tNever tNext)
noncomputable def t_Table_earned_g1 (K:PySem.W.Frag):TG:=(gTup K 2 (gCons (gName 2) (gCons (gName 3) gNil)))
noncomputable def t_Table_earned (K:PySem.W.Frag):TS:=(tSeq (tFor (iEnum K (tFld K (tVar 0) "many")) (t_Table_earned_g1 K) (t_Table_earned_b1 K)) (t_Table_earned_r1 K))
theorem len_Table_earned {K vs H Q E} (h:sp_Table_earned K vs H Q E):vs.length = 2:=by obtain ⟨t, a, ns, cont, q, rfl, _⟩:=h; rfl
theorem rd_Table_earned {K vs H Q E} (T:TabK K) (h:sp_Table_earned K vs H Q E):t_Table_earned K { nx:=fun _ H'=>Q .non H', rt:=Q } (start N_Table_earned vs) H:=by
  obtain ⟨t, a, ns, cont, q, rfl, ⟨dx, m, d, kv, ht, hm, hd, ok⟩, ha, hq, k⟩:=h
  have hql:q.length = ns.length:=by rw [ordR_len_each _ q hq, List.length_reverse]
  rw [show start N_Table_earned [V.ref t, V.ref a] = [some (.ref t), some (.ref a), none, none] from rfl]
  (try dsimp? [t_Table_earned, tFor, iEnum, tFld]; try simp_arith [t_Table_earned, tFor, iEnum, tFld])
  refine ⟨_, _, _, ht, T.cl, T.nM, _, flds_many _ _, m, rfl, ⟨_, SqL.of hm⟩, for_enum (K:=K) (a:=m) (xs:=tv ns) (g:=t_Table_earned_g1 K) (D:={ nx:=t_Table_earned_r1 K { nx:=fun _ H'=>Q .non H', rt:=Q }, rt:=Q }) (iv_Table_earned t a H) ?_ ?_ ?_ ?_⟩
  · exact ⟨_, _, rfl, Same.refl _⟩
  · rintro i σ H3 _ ⟨_, _, _, s3⟩
    exact SqL.of (s3 _ _ hm)
  · rintro i x p σ H3 hi ⟨o1, o2, rfl, s3⟩ hp
    obtain ⟨n, hn, rfl⟩:=tv_get hi
    have hil:i < q.length:=by rw [hql]; exact (List.getElem?_eq_some_iff.mp hn).1
    have hqi:q[i]? = some q[i]:=List.getElem?_eq_getElem hil
    have lt:=ordR_lt _ q hq i n q[i] (by rw [List.reverse_reverse]; exact hn) hqi
    have s4:Same H3 (upd H3 p (.tup [.int i, .int n])):=Same.upd hp
    (try dsimp? [t_Table_earned_g1, t_Table_earned_b1]; try simp_arith [t_Table_earned_g1, t_Table_earned_b1])
    refine ⟨_, SqT.of upd_same, rfl, _, _, rfl, _, _, rfl, rfl, _, rfl, _, SqT.of (s4 _ _ (s3 _ _ ha)), _, atI_nat (tv_at hqi), _, rfl, ?_⟩
    rw [if_neg (by omega)]
    refine ⟨_, rfl, _, SqT.of (s4 _ _ (s3 _ _ ha)), _, atI_nat (tv_at hqi), _, rfl, _, rfl, ?_⟩
    rw [if_neg (by omega)]
    exact ⟨_, _, rfl, s3.trans s4⟩
  · rintro σ H3 ⟨o1, o2, rfl, s3⟩
    (try dsimp? [t_Table_earned_r1, tDGet, tFld, cList]; try simp_arith [t_Table_earned_r1, tDGet, tFld, cList])
    obtain ⟨l, hv, hL⟩:=ok q hq
    exact ⟨_, _, _, s3 _ _ ht, T.cl, T.nC, _, flds_cells _ _, d, rfl, _, (by rw [← hv]; exact DGet.t (s3 _ _ hd) (by rw [tv_tk]; exact s3 _ _ ha)), l, rfl, _, .inl (SqL.of (s3 _ _ hL)), fun l' hl'=>k l' _ (s3.trans (Same.upd hl')) (s3.free hl') upd_same⟩
noncomputable def N_earned_by:List PySem.Str:=["table", "mixings", "totals", "play", "share"]
structure EbIn (K:PySem.W.Frag) (H:Hp) (t m:Addr) (ns:List Nat) (cont:List Nat → List V) (mps:List Addr) (ms:List (List (Int × Int))) (un:List Nat → List Int) (pq:List Nat → List (Int × Int)) (Bm:Int):Prop where
  tab:TabAt K H t ns cont
  sz:Sz ns
  mx:MxOk K H m mps ms ns
  en:∀ q ∈ ordR ns.reverse, EnOk K H (cont q) (un q) ns.length
  ch:∀ q ∈ ordR ns.reverse, Chs q ms (pq q)
  bm:∀ q ∈ ordR ns.reverse, pB (pq q) = Bm
  b0:0 < Bm
  bb:BB 1300 Bm
  bt:∀ q ∈ ordR ns.reverse, BB 1300 (pT (pq q))
theorem EbIn.same {K:PySem.W.Frag} {H H':Hp} {t m:Addr} {ns:List Nat} {cont:List Nat → List V} {mps:List Addr} {ms:List (List (Int × Int))} {un:List Nat → List Int} {pq:List Nat → List (Int × Int)} {Bm:Int} (h:EbIn K H t m ns cont mps ms un pq Bm) (s:Same H H'):EbIn K H' t m ns cont mps ms un pq Bm :=
  ⟨h.tab.same s, h.sz, h.mx.same s, fun q hq=>(h.en q hq).same s, h.ch, h.bm, h.b0, h.bb, h.bt⟩
structure TlAt (K:PySem.W.Frag) (H:Hp) (l:Addr) (un:List Nat → List Int) (pq:List Nat → List (Int × Int)) (Bm:Int) (n:Nat) (qs:List (List Nat)):Prop where
  ex:∃ rps fs, H l = some (.lst (List.map V.ref rps)) ∧ FrsAt K H rps fs ∧ HpAt H rps fs ∧ fs.length = n ∧ ∀ (h:Nat) (f:Int × Int), fs[h]? = some f → Lo (sE un pq qs h) (Bm * 12) f.1 f.2
noncomputable def sp_earned_by (K:PySem.W.Frag):Sp:=fun vs H Q E=>∃ t m ns cont mps ms, vs = [.ref t, .ref m] ∧ TabAt K H t ns cont ∧ MxIn K H m mps ms ns ∧ (AllM ms ns → ∃ un pq Bm, EbIn K H t m ns cont mps ms un pq Bm ∧ ∀ l H', Same H H' → H l = none → TlAt K H' l un pq Bm ns.length (ordR ns.reverse) → (∀ h, BB 2100 (sE un pq (ordR ns.reverse) h)) → Q (.ref l) H') ∧ XM K H E ms ns
noncomputable def iv_earned_by (K:PySem.W.Frag) (t m:Addr) (un:List Nat → List Int) (pq:List Nat → List (Int × Int)) (Bm:Int) (n:Nat) (qs:List (List Nat)) (H0 H1:Hp):Nat → St → Hp → Prop:=fun i σ H3=>∃ l o1 o2, σ = [some (.ref t), some (.ref m), some (.ref l), o1, o2] ∧ Same H1 H3 ∧ H0 l = none ∧ TlAt K H3 l un pq Bm n (qs.take i) ∧ ∀ h, BB (1801 + i) (sE un pq (qs.take i) h)
noncomputable def t_earned_by_c1 (K:PySem.W.Frag) (E:XK):TE:=(tCall (sp_plus K) [] E0 (tCons (tVar 0) (tCons (tCall (sp_times K) [] E0 (tCons (tVar 2) (tCons (tVar 1) tNil))) tNil)))
noncomputable def t_earned_by_g1 (K:PySem.W.Frag) (E:XK):TG:=(gTup K 2 (gCons (gName 0) (gCons (gName 1) gNil)))
noncomputable def t_earned_by_b1 (K:PySem.W.Frag) (E:XK):TS:=(tSeq (tAsg (tCall (sp_chance K) [] E0 (tCons (tVar 3) (tCons (tVar 1) tNil))) (gName 4)) (tAsg (tCompG (iZip K (tCons (tVar 2) (tCons (tMeth (gadr K "Table") "earned" (sp_Table_earned K) [] E0 (tVar 0) (tCons (tVar 3) tNil)) tNil))) 2 [4] (t_earned_by_g1 K E) (t_earned_by_c1 K E)) (gName 2)))
noncomputable def t_earned_by_c2 (K:PySem.W.Frag) (E:XK):TE:=(tTup (tCons (tC (.int 0)) (tCons (tC (.int 1)) tNil)))
noncomputable def t_earned_by (K:PySem.W.Frag) (E:XK):TS:=(tSeq (tDrop (tCall (sp_check_mixings K) [] E (tCons (tVar 0) (tCons (tVar 1) tNil)))) (tSeq (tAsg (tComp (iList K (tMeth (gadr K "Table") "sizes" (sp_Table_sizes K) [] E0 (tVar 0) tNil)) [] (t_earned_by_c2 K E)) (gName 2)) (tSeq (tFor (iList K (tMeth (gadr K "Table") "plays" (sp_Table_plays K) [] E0 (tVar 0) tNil)) (gName 3) (t_earned_by_b1 K E)) (tRet (tVar 2)))))
theorem len_earned_by {K vs H Q E} (h:sp_earned_by K vs H Q E):vs.length = 2:=by obtain ⟨_, _, _, _, _, _, rfl, _⟩:=h; rfl
theorem rd_earned_by {K vs H Q E} (T:TabK K) (h:sp_earned_by K vs H Q E):t_earned_by K E { nx:=fun _ H'=>Q .non H', rt:=Q } (start N_earned_by vs) H:=by
  obtain ⟨t, m, ns, cont, mps, ms, rfl, tab0, mx0, kg, kb⟩:=h
  rw [show start N_earned_by [V.ref t, V.ref m] = [some (.ref t), some (.ref m), none, none, none] from rfl]
  (try dsimp? [t_earned_by, tDrop, tComp, iList, tMeth]; try simp_arith [t_earned_by, tDrop, tComp, iList, tMeth, if_true])
  refine ⟨t, m, ns, cont, mps, ms, rfl, tab0, mx0, fun all H1 s1=>?_, kb⟩
  obtain ⟨un, pq, Bm, I, k⟩:=kg all
  have n3:=I.mx.l3
  have I1:=I.same s1
  obtain ⟨dx, mm, d, ht⟩:=I1.tab.ins
  have tvl:(tv ns).length = ns.length:=by unfold tv; rw [List.length_map]
  refine ⟨dx, _, ht, flds_no _ _ (by decide +kernel) (by decide +kernel), t, ns, cont, rfl, I1.tab, fun z hz=>?_⟩
  have s2:=Same.upd (o:=HO.lst (tv ns)) hz
  have hz2:(upd H1 z (.lst (tv ns))) z = some (.lst (tv ns)):=upd_same
  generalize upd H1 z (.lst (tv ns)) = H2 at s2 hz2
  refine ⟨_, rfl, ⟨_, SqL.of hz2⟩, comp_list (K:=K) (a:=z) (xs:=tv ns) (fun i zs H3=>Same H2 H3 ∧ ∃ ps, zs = List.map V.ref ps ∧ FrsAt K H3 ps (List.replicate i ((0, 1):Int × Int)) ∧ HpAt H3 ps (List.replicate i ((0, 1):Int × Int))) ?_ ⟨Same.refl _, [], rfl, trivial, fun h f e=>by simp at e⟩ ?_ ?_ ?_⟩
  · rw [tvl, sizeLine_eq]; omega
  · rintro i ys H3 _ ⟨s3, _⟩
    exact SqL.of (s3 _ _ hz2)
  · rintro i x zs H3 hi _ ⟨s3, ps, rfl, hps, hph⟩
    (try dsimp? [t_earned_by_c2]; try simp_arith [t_earned_by_c2])
    refine ⟨sz2, fun p hp=>⟨s3.trans (Same.upd hp), ps ++ [p], by rw [List.map_append]; rfl, ?_⟩⟩
    rw [List.replicate_succ']
    exact ⟨FrsAt.append (show FrsAt K _ [p] [((0, 1):Int × Int)] from ⟨SqT.of upd_same, trivial⟩) (hps.same (Same.upd hp)), (hph.same (Same.upd hp)).snoc hps.length upd_same⟩
  · rintro zs H3 _ ⟨s3, ps, rfl, hps, hph⟩ tl htl
    rw [tvl] at hps hph
    have htl0:H tl = none:=((s1.trans s2).trans s3).free htl
    have s4:=((s1.trans s2).trans s3).trans (Same.upd (o:=HO.lst (List.map V.ref ps)) htl)
    have hps4:=hps.same (Same.upd (o:=HO.lst (List.map V.ref ps)) htl)
    have hph4:=hph.same (Same.upd (o:=HO.lst (List.map V.ref ps)) htl)
    have htl4:(upd H3 tl (.lst (List.map V.ref ps))) tl = some (.lst (List.map V.ref ps)):=upd_same
    generalize upd H3 tl (.lst (List.map V.ref ps)) = H4 at s4 hps4 htl4 hph4
    clear s3 hps hph htl s2 hz2 s1 I1 ht
    have I4:=I.same s4
    obtain ⟨dx4, mm4, d4, ht4⟩:=I4.tab.ins
    (try dsimp? [tFor, iList, tMeth]; try simp_arith [tFor, iList, tMeth, if_true])
    refine ⟨dx4, _, ht4, flds_no _ _ (by decide +kernel) (by decide +kernel), t, ns, cont, rfl, I4.tab, I.sz, fun p xs H5 s5 hp0 hp5 px=>?_⟩
    refine ⟨_, rfl, ⟨_, SqL.of hp5⟩, for_list (K:=K) (a:=p) (xs:=xs) (g:=gName 3) (D:={ nx:=tRet (tVar 2) { nx:=fun _ H'=>Q .non H', rt:=Q }, rt:=Q }) (iv_earned_by K t m un pq Bm ns.length (ordR ns.reverse) H H5) ?_ ?_ ?_ ?_⟩
    · refine ⟨tl, none, none, rfl, Same.refl _, htl0, ⟨ps, _, s5 _ _ htl4, hps4.same s5, hph4.same s5, List.length_replicate, fun h f e=>?_⟩, fun h=>?_⟩
      · have ef:f = (0, 1):=List.eq_of_mem_replicate (List.mem_of_getElem? e)
        rw [ef]
        exact lo_mk (Int.mul_pos I.b0 (by decide)) (by decide) (by decide) (by show (0:Int) * _ = 0 * 1; rw [Int.zero_mul, Int.zero_mul])
      · show (0:Int).natAbs < 2 ^ (1801 + 0); exact Nat.two_pow_pos _
    · rintro i σ H6 _ ⟨_, _, _, _, s6, _⟩
      exact SqL.of (s6 _ _ hp5)
    · rintro i x σ H6 hi ⟨l, o1, o2, rfl, s6, hl0, tl6, bbS⟩
      have il:i < (ordR ns.reverse).length:=by rw [← px.1]; exact (List.getElem?_eq_some_iff.mp hi).1
      obtain ⟨q, hq⟩:∃ q, (ordR ns.reverse)[i]? = some q:=⟨_, List.getElem?_eq_getElem il⟩
      obtain ⟨a, ea, ha⟩:=px.2 i q hq
      rw [ea] at hi
      cases hi
      have hqm:=List.mem_of_getElem? hq
      have s06:=s4.trans (s5.trans s6)
      have I6:=I.same s06
      have ha6:=s6 _ _ ha
      have Cq:=I.ch q hqm
      (try dsimp? [t_earned_by_b1, tMeth, tCompG, iZip]; try simp_arith [t_earned_by_b1, tMeth, if_true, tCompG, iZip])
      refine ⟨a, m, q, mps, ms, pq q, rfl, ha6, I6.mx.hm, I6.mx.hr, Cq, fun sx sy sr H7 s7 hsr los=>?_⟩
      have I7:=I6.same s7
      obtain ⟨dx7, mm7, d7, ht7⟩:=I7.tab.ins
      refine ⟨dx7, _, ht7, flds_no _ _ (by decide +kernel) (by decide +kernel), t, a, ns, cont, q, rfl, I7.tab, s7 _ _ ha6, hqm, fun el H8 s8 hel0 hel8=>?_⟩
      obtain ⟨ers, efs, ec, hefs, efl, eul, elo⟩:=(I7.en q hqm).same s8
      rw [ec] at hel8
      obtain ⟨rps, fs, hl6, hfs6, _, fl, lo6⟩:=tl6.ex
      have s68:=s7.trans s8
      have hl8:=s68 _ _ hl6
      have hfs8:=hfs6.same s68
      have rl:=hfs8.length
      have erl:=hefs.length
      have hsr8:=s8 _ _ hsr
      have i216:i < 217:=Nat.lt_of_lt_of_le il (by have:=I.sz.rev.ord; omega)
      refine ⟨_, rfl, ⟨_, SqL.of hl8⟩, ⟨_, SqL.of hel8⟩, compG_zip (K:=K) (a:=l) (b:=el) (xs:=List.map V.ref rps) (ys:=List.map V.ref ers) (fun j zs H9=>Same H8 H9 ∧ ∃ nps nfs, zs = List.map V.ref nps ∧ FrsAt K H9 nps nfs ∧ HpAt H9 nps nfs ∧ nfs.length = j ∧ ∀ (h:Nat) (f:Int × Int), nfs[h]? = some f → Lo (sE un pq ((ordR ns.reverse).take (i + 1)) h) (Bm * 12) f.1 f.2) ?_ ?_ ⟨Same.refl _, [], [], rfl, trivial, (fun h f e=>by simp at e), rfl, (fun h f e=>by simp at e)⟩ ?_ ?_ ?_⟩
      · rw [List.length_map, sizeLine_eq]; omega
      · rw [List.length_map, List.length_map]; omega
      · rintro j zs H9 _ ⟨s9, _⟩
        exact ⟨SqL.of (s9 _ _ hl8), SqL.of (s9 _ _ hel8)⟩
      · rintro j vx vy p9 zs H9 hx hy _ ⟨s9, nps, nfs, rfl, hnf, hnh, nl, nlo⟩ hp9 os ho
        obtain ⟨px', rfl, hpx⟩:=get_refs hx
        obtain ⟨py', rfl, hpy⟩:=get_refs hy
        obtain ⟨f, ef, hF⟩:=hfs8.get hpx
        obtain ⟨e, ee, hE⟩:=hefs.get hpy
        obtain ⟨u, eu⟩:∃ u, (un q)[j]? = some u:=⟨_, List.getElem?_eq_getElem (by have:=(List.getElem?_eq_some_iff.mp ee).1; omega)⟩
        obtain ⟨loe, bu⟩:=elo j e u ee eu
        have lof:=lo6 j f ef
        obtain ⟨o3, o4, rfl⟩:∃ o1 o2, os = [o1, o2]:=by
          match os, ho with
          | [o1, o2], _=>exact ⟨o1, o2, rfl⟩
        have s10:=s9.trans (Same.upd (o:=HO.tup [.ref px', .ref py']) hp9)
        have hnf':=hnf.same (Same.upd (o:=HO.tup [.ref px', .ref py']) hp9)
        have hnh':=hnh.same (Same.upd (o:=HO.tup [.ref px', .ref py']) hp9)
        rw [I.bm q hqm] at los
        have bs:=los.bb2 (I.bt q hqm) I.bb
        have be:=loe.bb2 bu (show BB 400 (12:Int) by show (12:Int).natAbs < 2 ^ 400; exact Nat.lt_of_lt_of_le (by decide:12 < 2 ^ 4) (Nat.pow_le_pow_right (by decide) (by decide)))
        have bf:=lof.bb2 (bbS j) (I.bb.mul bb12d)
        (try dsimp? [t_earned_by_g1, t_earned_by_c1, caught, List.map_cons, List.map_nil, Option.join_some]; try simp_arith [t_earned_by_g1, t_earned_by_c1, caught, List.map_cons, List.map_nil, Option.join_some])
        refine ⟨_, SqT.of upd_same, rfl, _, _, rfl, _, _, rfl, rfl, ⟨[some (.ref px'), some (.ref py')], rfl, rfl⟩, ?_⟩
        generalize upd H9 p9 (.tup [.ref px', .ref py']) = H10 at s10 hnf' hnh'
        refine ⟨_, _, sx, sy, e.1, e.2, rfl, ⟨SqT.of (s10 _ _ hsr8), s10.tup hE, bs.1.mono (by decide), bs.2.mono (by decide), be.1.mono (by decide), be.2.mono (by decide), los.pos, loe.pos⟩, fun x1 y1 r1 H11 s11 hr1 lo1=>?_⟩
        have lom:=lo_mul los loe lo1 I.b0 (by decide)
        have bm1:=lom.bb2 ((I.bt q hqm).mul bu) (I.bb.mul bb12d)
        have s811:=s10.trans s11
        refine ⟨_, _, f.1, f.2, x1, y1, rfl, ⟨s811.tup hF, SqT.of hr1, bf.1.mono (by omega), bf.2.mono (by decide), bm1.1.mono (by decide), bm1.2.mono (by decide), lof.pos, lom.pos⟩, fun x2 y2 r2 H12 s12 hr2 lo2=>?_⟩
        refine ⟨s811.trans s12, nps ++ [r2], by rw [List.map_append]; rfl, nfs ++ [(x2, y2)], FrsAt.append (show FrsAt K _ [r2] [(x2, y2)] from ⟨SqT.of hr2, trivial⟩) ((hnf'.same s11).same s12), ((hnh'.same s11).same s12).snoc hnf.length hr2, by rw [List.length_append, nl]; rfl, fun h g eg=>?_⟩
        by_cases hlt:h < nfs.length
        · rw [List.getElem?_append_left hlt] at eg
          exact nlo h g eg
        · have hh:h = nfs.length:=by have:=(List.getElem?_eq_some_iff.mp eg).1; rw [List.length_append] at this; simp at this; omega
          rw [List.getElem?_append_right (by omega), hh, Nat.sub_self] at eg
          cases eg
          rw [hh, nl, take_snoc hq, sE_snoc, List.getD_eq_getElem?_getD, eu]
          exact lo_add lof lom lo2 (Int.mul_pos I.b0 (by decide))
      · rintro zs H9 _ ⟨s9, nps, nfs, rfl, hnf, hnh, nl, nlo⟩ nl2 hnl2
        rw [List.length_map] at nl
        have s10:=s9.trans (Same.upd (o:=HO.lst (List.map V.ref nps)) hnl2)
        refine ⟨nl2, _, _, rfl, ((s6.trans s68).trans s10), (s06.trans (s68.trans s9)).free hnl2, ⟨nps, nfs, upd_same, hnf.same (Same.upd hnl2), hnh.same (Same.upd hnl2), by omega, nlo⟩, fun h=>?_⟩
        rw [take_snoc hq, sE_snoc]
        refine BB.add1 (n:=1801 + i) (bbS h) (((I.bt q hqm).mul (show BB 401 ((un q).getD h 0) from ?_)).mono (by omega))
        rw [List.getD_eq_getElem?_getD]
        cases eu:(un q)[h]? with
        | none=>show (0:Int).natAbs < 2 ^ 401; exact Nat.two_pow_pos _
        | some u =>
          have hh:h < efs.length:=by have:=(List.getElem?_eq_some_iff.mp eu).1; omega
          exact (elo h efs[h] u (List.getElem?_eq_getElem hh) eu).2.mono (by decide)
    · rintro σ H6 ⟨l, o1, o2, rfl, s6, hl0, tl6, bbS⟩
      (try dsimp only [tVar, tRet, Lq0, Lq1, exI_lit, exB_lit, exR_lit]; try simp only [tVar, tRet, Lq0, Lq1, Option.some.injEq, exists_eq_left', exists_eq_left, V.int.injEq, V.ref.injEq, V.bl.injEq, List.cons.injEq, and_true, true_and, exists_and_left, and_assoc, exI_lit, exB_lit, exR_lit, exI_ex, exB_ex, exR_ex])
      rw [px.1, List.take_length] at tl6
      rw [px.1, List.take_length] at bbS
      have:=I.sz.rev.ord
      exact k l H6 (s4.trans (s5.trans s6)) hl0 tl6 fun h=>(bbS h).mono (by omega)
noncomputable def N_minus:List PySem.Str:=["one", "other"]
noncomputable def sp_minus (K:PySem.W.Frag):Sp:=fun vs H Q _=>∃ p q a b c d, vs = [.ref p, .ref q] ∧ Two K H p q a b c d ∧ ∀ x y r H', Same H H' → H' r = some (.tup [.int x, .int y]) → Lo (a * d - c * b) (b * d) x y → Q (.ref r) H'
noncomputable def t_minus (K:PySem.W.Frag):TS:=(tRet (tCall (sp_ratio K) [] E0 (tCons (tOp rSubI (tOp rMulI (tOp (rIxT K) (tVar 0) (tC (.int 0))) (tOp (rIxT K) (tVar 1) (tC (.int 1)))) (tOp rMulI (tOp (rIxT K) (tVar 1) (tC (.int 0))) (tOp (rIxT K) (tVar 0) (tC (.int 1))))) (tCons (tOp rMulI (tOp (rIxT K) (tVar 0) (tC (.int 1))) (tOp (rIxT K) (tVar 1) (tC (.int 1)))) tNil))))
theorem len_minus {K vs H Q E} (h:sp_minus K vs H Q E):vs.length = 2:=by obtain ⟨p, q, a, b, c, d, rfl, _⟩:=h; rfl
theorem rd_minus {K vs H Q E} (h:sp_minus K vs H Q E):t_minus K { nx:=fun _ H'=>Q .non H', rt:=Q } (start N_minus vs) H:=by
  obtain ⟨p, q, a, b, c, d, rfl, ⟨hp, hq, ba, bb, bc, bd, b0, d0⟩, k⟩:=h
  rw [show start N_minus [V.ref p, V.ref q] = [some (.ref p), some (.ref q)] from rfl]
  (try dsimp? [t_minus]; try simp_arith [t_minus])
  refine ⟨_, hp, _, atI0, _, hq, _, atI1, _, rfl, _, rfl, .b ba bd, _, hq, _, atI0, _, hp, _, atI1, _, rfl, _, rfl, .b bc bb, _, hp, _, atI1, _, hq, _, atI1, _, rfl, _, rfl, .b bb bd, ?_⟩
  have z:0 < b * d:=Int.mul_pos b0 d0
  exact ⟨_, _, rfl, by omega, (bb.mul bd).mono (by decide), k⟩
noncomputable def N_greatest:List PySem.Str:=["fractions", "most", "fraction"]
noncomputable def sp_greatest (K:PySem.W.Frag):Sp:=fun vs H Q _=>∃ l rps fs, ∃ us:List Int, ∃ B, vs = [.ref l] ∧ H l = some (.lst (List.map V.ref rps)) ∧ FrsAt K H rps fs ∧ us.length = fs.length ∧ (∀ (c:Nat) f u, fs[c]? = some f → us[c]? = some u → Lo u B f.1 f.2 ∧ BB 2100 u) ∧ 0 < B ∧ BB 2100 B ∧ fs ≠ [] ∧
  ∀ p f m (j:Nat), rps[j]? = some p → fs[j]? = some f → us[j]? = some m → (∀ (k:Nat) v, us[k]? = some v → v ≤ m) → SqT K H p [.int f.1, .int f.2] → Q (.ref p) H
noncomputable def iv_greatest (l:Addr) (H:Hp) (rps:List Addr) (us:List Int):Nat → St → Hp → Prop:=fun i σ H3=>H3 = H ∧ ∃ p m, ∃ j:Nat, ∃ o, σ = [some (.ref l), some (.ref p), o] ∧ rps[j]? = some p ∧ us[j]? = some m ∧ ∀ (k:Nat) v, k < i → us[k]? = some v → v ≤ m
noncomputable def t_greatest_b1 (K:PySem.W.Frag):TS:=(tIfS (tB (tCall (sp_below K) [] E0 (tCons (tVar 1) (tCons (tVar 2) tNil)))) (tAsg (tVar 2) (gName 1)) tNext)
noncomputable def t_greatest (K:PySem.W.Frag):TS:=(tSeq (tAsg (tOp (rIxL K) (tVar 0) (tC (.int 0))) (gName 1)) (tSeq (tFor (iList K (tVar 0)) (gName 2) (t_greatest_b1 K)) (tRet (tVar 1))))
theorem len_greatest {K vs H Q E} (h:sp_greatest K vs H Q E):vs.length = 1:=by obtain ⟨_, _, _, _, _, rfl, _⟩:=h; rfl
theorem rd_greatest {K vs H Q E} (h:sp_greatest K vs H Q E):t_greatest K { nx:=fun _ H'=>Q .non H', rt:=Q } (start N_greatest vs) H:=by
  obtain ⟨l, rps, fs, us, B, rfl, hl, hf, ul, lo, b0, bb, hne, q⟩:=h
  have h0:0 < fs.length:=List.length_pos_iff.mpr hne
  have rl:=hf.length
  have e0:rps[0]? = some rps[0]:=List.getElem?_eq_getElem (by omega)
  rw [show start N_greatest [V.ref l] = [some (.ref l), none, none] from rfl]
  (try dsimp? [t_greatest, tFor, iList]; try simp_arith [t_greatest, tFor, iList])
  refine ⟨_, SqL.of hl, V.ref rps[0], atI_nat (j:=0) (by rw [List.getElem?_map, e0]; rfl), ⟨_, SqL.of hl⟩, for_list (K:=K) (a:=l) (xs:=List.map V.ref rps) (g:=gName 2) (D:={ nx:=tRet (tVar 1) { nx:=fun _ H'=>Q .non H', rt:=Q }, rt:=Q }) (iv_greatest l H rps us) ?_ ?_ ?_ ?_⟩
  · exact ⟨rfl, rps[0], us[0], 0, none, rfl, e0, List.getElem?_eq_getElem (by omega), fun k v hk=>absurd hk (Nat.not_lt_zero _)⟩
  · rintro i σ H3 _ ⟨rfl, _⟩
    exact SqL.of hl
  · rintro i x σ H3 hi ⟨rfl, a, m, j, o, rfl, hj, hm, h1⟩
    obtain ⟨b, rfl, hb⟩:=get_refs hi
    obtain ⟨f, ef, sf⟩:=hf.get hb
    obtain ⟨g, eg, sg⟩:=hf.get hj
    have il:=(List.getElem?_eq_some_iff.mp ef).1
    have eu:us[i]? = some us[i]:=List.getElem?_eq_getElem (by omega)
    generalize us[i] = u at eu
    obtain ⟨lof, bf⟩:=lo i f u ef eu
    obtain ⟨log, bg⟩:=lo j g m eg hm
    have c1:=lof.bb2 bf bb
    have c2:=log.bb2 bg bb
    (try dsimp? [t_greatest_b1]; try simp_arith [t_greatest_b1])
    refine ⟨_, _, _, _, _, _, rfl, ⟨sg, sf, c2.1.mono (by decide), c2.2.mono (by decide), c1.1.mono (by decide), c1.2.mono (by decide), log.pos, lof.pos⟩, _, rfl, ite2 (fun hlt=>?_) (fun hge=>?_)⟩
    · have hlt:=(lo_lt log lof b0).mp (of_decide_eq_true hlt)
      refine ⟨rfl, b, u, i, _, rfl, hb, eu, fun k v hk e=>?_⟩
      by_cases z:k < i
      · have:=h1 k v z e; omega
      · have:k = i:=by omega
        subst this
        rw [eu] at e
        have:=Option.some.inj e
        omega
    · have hge:¬ m < u:=fun z=>hge (decide_eq_true ((lo_lt log lof b0).mpr z))
      refine ⟨rfl, a, m, j, _, rfl, hj, hm, fun k v hk e=>?_⟩
      by_cases z:k < i
      · exact h1 k v z e
      · have:k = i:=by omega
        subst this
        rw [eu] at e
        have:=Option.some.inj e
        omega
  · rintro σ H3 ⟨rfl, a, m, j, o, rfl, hj, hm, h1⟩
    (try dsimp only [tVar, tC, tOp, rI0, rNe, scal_ii, tRet, tTest, Lq0, Lq1, exI_lit, exB_lit, exR_lit]; try simp only [tVar, tC, tOp, rI0, rNe, scal_ii, tRet, tTest, Lq0, Lq1, Option.some.injEq, exists_eq_left', V.int.injEq, V.ref.injEq, V.bl.injEq, exists_and_left, exists_eq_left, List.cons.injEq, and_true, true_and, and_assoc, exI_lit, exB_lit, exR_lit, exI_ex, exB_ex, exR_ex])
    obtain ⟨g, eg, sg⟩:=hf.get hj
    exact q a g m j hj eg hm (fun k v e=>h1 k v (by rw [List.length_map, rl, ← ul]; exact (List.getElem?_eq_some_iff.mp e).1) e) sg
noncomputable def N_rests:List PySem.Str:=["table", "hand", "sizes"]
noncomputable def sp_rests (K:PySem.W.Frag):Sp:=fun vs H Q _=>∃ t ns cont h, vs = [.ref t, .int (h:Nat)] ∧ TabAt K H t ns cont ∧ Sz ns ∧ ∀ p xs H', Same H H' → H p = none → H' p = some (.lst xs) → Ps H' xs (ordR (wo h ns).reverse) → Q (.ref p) H'
noncomputable def t_rests (K:PySem.W.Frag):TS:=(tSeq (tAsg (tMeth (gadr K "Table") "sizes" (sp_Table_sizes K) [] E0 (tVar 0) tNil) (gName 2)) (tRet (tCall (sp_in_order K) [] E0 (tCons (tOp rCat (tSl (rSlL K) (tVar 2) tNoPart (tPart (tVar 1))) (tSl (rSlL K) (tVar 2) (tPart (tOp rAddI (tVar 1) (tC (.int 1)))) tNoPart)) tNil))))
theorem len_rests {K vs H Q E} (h:sp_rests K vs H Q E):vs.length = 2:=by obtain ⟨t, ns, cont, h, rfl, _⟩:=h; rfl
theorem rd_rests {K vs H Q E} (h:sp_rests K vs H Q E):t_rests K { nx:=fun _ H'=>Q .non H', rt:=Q } (start N_rests vs) H:=by
  obtain ⟨t, ns, cont, h, rfl, tb, sz, k⟩:=h
  rw [show start N_rests [V.ref t, V.int h] = [some (.ref t), some (.int h), none] from rfl]
  obtain ⟨dx, m, d, ht⟩:=tb.ins
  (try dsimp? [t_rests, tMeth, rCat]; try simp_arith [t_rests, tMeth, if_true, rCat])
  refine ⟨dx, _, ht, flds_no _ _ (by decide +kernel) (by decide +kernel), t, ns, cont, rfl, tb, fun l hl=>?_⟩
  have s1:Same H (upd H l (.lst (tv ns))):=Same.upd hl
  have l1:(upd H l (.lst (tv ns))) l = some (.lst (tv ns)):=upd_same
  generalize upd H l (.lst (tv ns)) = H1 at s1 l1
  refine ⟨l, rfl, _, SqL.of l1, fun p1 hp1=>⟨l, rfl, tv ns, SqL.of ((Same.upd hp1) _ _ l1), fun p2 hp2=>?_⟩⟩
  have s2:=Same.upd (o:=.lst (cutV (tv ns) none (some (h:Int)))) hp1
  have s3:=Same.upd (o:=.lst (cutV (tv ns) (some ((h:Int) + 1)) none)) hp2
  have e1:=cut_len (tv ns) none (some (h:Int))
  have e2:=cut_len (tv ns) (some ((h:Int) + 1)) none
  have e3:=sz.len
  rw [tv_len] at e1 e2
  refine ⟨_, s3 _ _ upd_same, _, upd_same, small (by omega), fun p3 hp3=>?_⟩
  have s4:=Same.upd (o:=.lst (cutV (tv ns) none (some (h:Int)) ++ cutV (tv ns) (some ((h:Int) + 1)) none)) hp3
  have s5:=((s1.trans s2).trans s3).trans s4
  refine ⟨p3, wo h ns, rfl, SqL.of ?_, sz.wo h, fun p xs H' s6 hp hP ps=>k p xs H' (s5.trans s6) (s5.free hp) hP ps⟩
  rw [upd_same, cut_to, show ((h:Int) + 1) = ((h + 1:Nat):Int) by omega, cut_from, ← wo_tv]
  rfl
noncomputable def N_joined:List PySem.Str:=["rest", "hand", "choice"]
noncomputable def sp_joined (_:PySem.W.Frag):Sp:=fun vs H Q _=>∃ a q h c, vs = [.ref a, .int (h:Nat), .int (c:Nat)] ∧ H a = some (.tup (tv q)) ∧ q.length ≤ 100 ∧ ∀ p H', Same H H' → H' p = some (.tup (tv (q.take h ++ c :: q.drop h))) → Q (.ref p) H'
noncomputable def t_joined (K:PySem.W.Frag):TS:=(tRet (tOp rCatA (tOp rCatA (tSl rSlA (tVar 0) tNoPart (tPart (tVar 1))) (tTup (tCons (tVar 2) tNil))) (tSl rSlA (tVar 0) (tPart (tVar 1)) tNoPart)))
theorem len_joined {K vs H Q E} (h:sp_joined K vs H Q E):vs.length = 3:=by obtain ⟨a, q, h, c, rfl, _⟩:=h; rfl
theorem rd_joined {K vs H Q E} (h:sp_joined K vs H Q E):t_joined K { nx:=fun _ H'=>Q .non H', rt:=Q } (start N_joined vs) H:=by
  obtain ⟨a, q, h, c, rfl, ha, hl, k⟩:=h
  rw [show start N_joined [V.ref a, V.int h, V.int c] = [some (.ref a), some (.int h), some (.int c)] from rfl]
  (try dsimp? [t_joined, rCatA, rSlA]; try simp_arith [t_joined, rCatA, rSlA])
  have e1:=cut_len (tv q) none (some (h:Int))
  have e2:=cut_len (tv q) (some (h:Int)) none
  rw [tv_len] at e1 e2
  refine ⟨_, ha, fun p1 H1 s1 h1=>⟨sz1, fun z hz=>?_⟩⟩
  have s2:Same H1 (upd H1 z (.tup [.int c])):=Same.upd hz
  refine ⟨_, s2 _ _ h1, _, upd_same, small (by show _ + 1 ≤ 216; omega), fun p3 H3 s3 h3=>⟨_, s3 _ _ (s2 _ _ (s1 _ _ ha)), fun p4 H4 s4 h4=>⟨_, s4 _ _ h3, _, h4, ?_, fun p5 H5 s5 h5=>?_⟩⟩⟩
  · rw [List.length_append]
    exact small (by show _ + 1 + _ ≤ 216; omega)
  · refine k p5 H5 ((((s1.trans s2).trans s3).trans s4).trans s5) ?_
    rw [h5, cut_to, cut_from]
    simp only [tv, List.map_append, List.map_cons, List.map_take, List.map_drop, List.append_assoc, Lca, Lna]
noncomputable def N_earned_with:List PySem.Str:=["table", "rest", "hand", "choice"]
noncomputable def sp_earned_with (K:PySem.W.Frag):Sp:=fun vs H Q _=>∃ t r ns cont b i c v, vs = [.ref t, .ref r, .int (i:Nat), .int (c:Nat)] ∧ TabAt K H t ns cont ∧ H r = some (.tup (tv b)) ∧ b.length ≤ 100 ∧ b.take i ++ c :: b.drop i ∈ ordR ns.reverse ∧ (cont (b.take i ++ c :: b.drop i))[i]? = some v ∧ ∀ H', Same H H' → Q v H'
noncomputable def t_earned_with (K:PySem.W.Frag):TS:=(tRet (tOp (rIxL K) (tMeth (gadr K "Table") "earned" (sp_Table_earned K) [] E0 (tVar 0) (tCons (tCall (sp_joined K) [] E0 (tCons (tVar 1) (tCons (tVar 2) (tCons (tVar 3) tNil)))) tNil)) (tVar 2)))
theorem len_earned_with {K vs H Q E} (h:sp_earned_with K vs H Q E):vs.length = 4:=by obtain ⟨_, _, _, _, _, _, _, _, rfl, _⟩:=h; rfl
theorem rd_earned_with {K vs H Q E} (h:sp_earned_with K vs H Q E):t_earned_with K { nx:=fun _ H'=>Q .non H', rt:=Q } (start N_earned_with vs) H:=by
  obtain ⟨t, r, ns, cont, b, i, c, v, rfl, T, hr, hb, hq, hv, k⟩:=h
  rw [show start N_earned_with [V.ref t, V.ref r, V.int i, V.int c] = [some (.ref t), some (.ref r), some (.int i), some (.int c)] from rfl]
  obtain ⟨dx, m0, d0, ht⟩:=T.ins
  (try dsimp? [t_earned_with, tMeth]; try simp_arith [t_earned_with, tMeth, if_true])
  refine ⟨dx, _, ht, flds_no _ _ (by decide +kernel) (by decide +kernel), r, b, i, c, rfl, hr, hb, fun p2 H1 s1 hp2=>⟨t, p2, ns, cont, _, rfl, T.same s1, hp2, hq, fun l H2 s2 _ hl2=>?_⟩⟩
  exact ⟨_, rfl, _, SqL.of hl2, _, atI_nat hv, k _ (s1.trans s2)⟩
noncomputable def N_answer:List PySem.Str:=["table", "others", "hand", "choice", "total", "rest"]
structure AnIn (K:PySem.W.Frag) (H:Hp) (t o:Addr) (h:Nat) (ns:List Nat) (cont:List Nat → List V) (ops:List Addr) (oms:List (List (Int × Int))) (un:List Nat → List Int) (po:List Nat → List (Int × Int)) (Bo:Int):Prop where
  tab:TabAt K H t ns cont
  sz:Sz ns
  ho:H o = some (.lst (List.map V.ref ops))
  hr:RfAt K H ops oms
  en:∀ q ∈ ordR ns.reverse, EnOk K H (cont q) (un q) ns.length
  ch:∀ b ∈ ordR (wo h ns).reverse, Chs b oms (po b)
  bm:∀ b ∈ ordR (wo h ns).reverse, pB (po b) = Bo
  b0:0 < Bo
  bb:BB 1300 Bo
  bt:∀ b ∈ ordR (wo h ns).reverse, BB 1300 (pT (po b))
theorem AnIn.same {K:PySem.W.Frag} {H H':Hp} {t o:Addr} {h:Nat} {ns:List Nat} {cont:List Nat → List V} {ops:List Addr} {oms:List (List (Int × Int))} {un:List Nat → List Int} {po:List Nat → List (Int × Int)} {Bo:Int} (I:AnIn K H t o h ns cont ops oms un po Bo) (s:Same H H'):AnIn K H' t o h ns cont ops oms un po Bo :=
  ⟨I.tab.same s, I.sz, s _ _ I.ho, I.hr.same s, fun q hq=>(I.en q hq).same s, I.ch, I.bm, I.b0, I.bb, I.bt⟩
noncomputable def sp_answer (K:PySem.W.Frag):Sp:=fun vs H Q _=>∃ t o h c n ns cont ops oms un po Bo, vs = [.ref t, .ref o, .int (h:Nat), .int (c:Nat)] ∧ AnIn K H t o h ns cont ops oms un po Bo ∧ ns[h]? = some n ∧ c < n ∧ ∀ x y r H', Same H H' → H' r = some (.tup [.int x, .int y]) → Lo (sA un po (ordR (wo h ns).reverse) h c) (Bo * 12) x y → BB 2100 (sA un po (ordR (wo h ns).reverse) h c) → Q (.ref r) H'
noncomputable def iv_answer (t o:Addr) (h c:Nat) (un:List Nat → List Int) (po:List Nat → List (Int × Int)) (Bo:Int) (bs:List (List Nat)) (H0:Hp):Nat → St → Hp → Prop:=fun i σ H3=>∃ r x y o1, σ = [some (.ref t), some (.ref o), some (.int h), some (.int c), some (.ref r), o1] ∧ Same H0 H3 ∧ H3 r = some (.tup [.int x, .int y]) ∧ Lo (sA un po (bs.take i) h c) (Bo * 12) x y ∧ BB (1801 + i) (sA un po (bs.take i) h c)
noncomputable def t_answer_b1 (K:PySem.W.Frag):TS:=(tAsg (tCall (sp_plus K) [] E0 (tCons (tVar 4) (tCons (tCall (sp_times K) [] E0 (tCons (tCall (sp_chance K) [] E0 (tCons (tVar 5) (tCons (tVar 1) tNil))) (tCons (tCall (sp_earned_with K) [] E0 (tCons (tVar 0) (tCons (tVar 5) (tCons (tVar 2) (tCons (tVar 3) tNil))))) tNil))) tNil))) (gName 4))
noncomputable def t_answer (K:PySem.W.Frag):TS:=(tSeq (tAsg (tTup (tCons (tC (.int 0)) (tCons (tC (.int 1)) tNil))) (gName 4)) (tSeq (tFor (iList K (tCall (sp_rests K) [] E0 (tCons (tVar 0) (tCons (tVar 2) tNil)))) (gName 5) (t_answer_b1 K)) (tRet (tVar 4))))
theorem len_answer {K vs H Q E} (h:sp_answer K vs H Q E):vs.length = 4:=by obtain ⟨_, _, _, _, _, _, _, _, _, _, _, _, rfl, _⟩:=h; rfl
theorem rd_answer {K vs H Q E} (h:sp_answer K vs H Q E):t_answer K { nx:=fun _ H'=>Q .non H', rt:=Q } (start N_answer vs) H:=by
  obtain ⟨t, o, h, c, n, ns, cont, ops, oms, un, po, Bo, rfl, I, hn, hc, k⟩:=h
  have hl:h < ns.length:=(List.getElem?_eq_some_iff.mp hn).1
  have wl:=wo_len (h:=h) (l:=ns) hl
  have n3:=I.sz.len
  rw [show start N_answer [V.ref t, V.ref o, V.int h, V.int c] = [some (.ref t), some (.ref o), some (.int h), some (.int c), none, none] from rfl]
  (try dsimp? [t_answer, tFor, iList]; try simp_arith [t_answer, tFor, iList])
  refine ⟨sz2, fun p hp=>?_⟩
  have s1:=Same.upd (o:=HO.tup [.int 0, .int 1]) hp
  have hp1:(upd H p (.tup [.int 0, .int 1])) p = some (.tup [.int 0, .int 1]):=upd_same
  generalize upd H p (.tup [.int 0, .int 1]) = H1 at s1 hp1
  have I1:=I.same s1
  refine ⟨t, ns, cont, h, rfl, I1.tab, I.sz, fun l xs H2 s2 hl0 hl2 px=>?_⟩
  have I2:=I1.same s2
  refine ⟨_, rfl, ⟨_, SqL.of hl2⟩, for_list (K:=K) (a:=l) (xs:=xs) (g:=gName 5) (D:={ nx:=tRet (tVar 4) { nx:=fun _ H'=>Q .non H', rt:=Q }, rt:=Q }) (iv_answer t o h c un po Bo (ordR (wo h ns).reverse) H2) ?_ ?_ ?_ ?_⟩
  · refine ⟨p, 0, 1, none, rfl, Same.refl _, s2 _ _ hp1, ?_, ?_⟩
    · exact lo_mk (Int.mul_pos I.b0 (by decide)) (by decide) (by decide) (by show (0:Int) * _ = 0 * 1; rw [Int.zero_mul, Int.zero_mul])
    · show (0:Int).natAbs < 2 ^ (1801 + 0); exact Nat.two_pow_pos _
  · rintro i σ H3 _ ⟨_, _, _, _, _, s3, _⟩
    exact SqL.of (s3 _ _ hl2)
  · rintro i x σ H3 hi ⟨r, x0, y0, o1, rfl, s3, hr3, lo, bb⟩
    obtain ⟨b, a, hb, rfl, ha⟩:=(px.same s3).get hi
    have hbm:=List.mem_of_getElem? hb
    have i216:i < 217:=Nat.lt_of_lt_of_le (List.getElem?_eq_some_iff.mp hb).1 (by have:=(I.sz.wo h).rev.ord; omega)
    have bl:b.length = (wo h ns).length:=by rw [ordR_len_each _ b hbm, List.length_reverse]
    have hq:ins h c b ∈ ordR ns.reverse:=ordR_ins hn hc hbm
    have I3:=I2.same s3
    (try dsimp? [t_answer_b1]; try simp_arith [t_answer_b1])
    refine ⟨a, o, b, ops, oms, po b, rfl, ha, I3.ho, I3.hr, I.ch b hbm, fun sx sy sr H4 s4 hsr los=>?_⟩
    have I4:=I3.same s4
    obtain ⟨ers, efs, ec, hefs, efl, eul, elo⟩:=I4.en _ hq
    obtain ⟨e, ee⟩:∃ e, efs[h]? = some e:=⟨_, List.getElem?_eq_getElem (by omega)⟩
    obtain ⟨u, eu⟩:∃ u, (un (ins h c b))[h]? = some u:=⟨_, List.getElem?_eq_getElem (by omega)⟩
    obtain ⟨loe, bu⟩:=elo h e u ee eu
    obtain ⟨ep, eep, hep⟩:=hefs.at_ ee
    refine ⟨t, a, ns, cont, b, h, c, .ref ep, rfl, I4.tab, s4 _ _ ha, by omega, hq, by show (cont (ins h c b))[h]? = _; rw [ec, List.getElem?_map, eep]; rfl, fun H5 s5=>?_⟩
    rw [I.bm b hbm] at los
    have bs:=los.bb2 (I.bt b hbm) I.bb
    have be:=loe.bb2 bu (show BB 400 (12:Int) from BB.mono (m:=4) (by show (12:Int).natAbs < 2 ^ 4; decide) (by decide))
    have b12:BB 1304 (Bo * 12):=I.bb.mul bb12d
    have bf:=lo.bb2 bb b12
    have s45:=s4.trans s5
    refine ⟨_, _, sx, sy, e.1, e.2, rfl, ⟨SqT.of (s5 _ _ hsr), s5.tup hep, bs.1.mono (by decide), bs.2.mono (by decide), be.1.mono (by decide), be.2.mono (by decide), los.pos, loe.pos⟩, fun x1 y1 r1 H6 s6 hr1 lo1=>?_⟩
    have lom:=lo_mul los loe lo1 I.b0 (by decide)
    have bm1:=lom.bb2 ((I.bt b hbm).mul bu) b12
    refine ⟨_, _, x0, y0, x1, y1, rfl, ⟨SqT.of ((s45.trans s6) _ _ hr3), SqT.of hr1, bf.1.mono (by omega), bf.2.mono (by decide), bm1.1.mono (by decide), bm1.2.mono (by decide), lo.pos, lom.pos⟩, fun x2 y2 r2 H7 s7 hr2 lo2=>?_⟩
    have ed:(un (ins h c b)).getD h 0 = u:=by rw [List.getD_eq_getElem?_getD, eu]; rfl
    refine ⟨_, x2, y2, _, rfl, ((s3.trans s45).trans s6).trans s7, hr2, ?_, ?_⟩
    · rw [take_snoc hb, sA_snoc, ed]
      exact lo_add lo lom lo2 (Int.mul_pos I.b0 (by decide))
    · rw [take_snoc hb, sA_snoc, ed]
      exact BB.add1 (n:=1801 + i) bb (((I.bt b hbm).mul bu).mono (by omega))
  · rintro σ H3 ⟨r, x0, y0, o1, rfl, s3, hr3, lo, bb⟩
    (try dsimp only [tVar, tC, tOp, rI0, rNe, scal_ii, tRet, tTest, Lq0, Lq1, exI_lit, exB_lit, exR_lit]; try simp only [tVar, tC, tOp, rI0, rNe, scal_ii, tRet, tTest, Lq0, Lq1, Option.some.injEq, exists_eq_left', V.int.injEq, V.ref.injEq, V.bl.injEq, exists_and_left, exists_eq_left, List.cons.injEq, and_true, true_and, and_assoc, exI_lit, exB_lit, exR_lit, exI_ex, exB_ex, exR_ex])
    rw [px.1, List.take_length] at lo bb
    have:=(I.sz.wo h).rev.ord
    exact k x0 y0 r H3 ((s1.trans s2).trans s3) hr3 lo (bb.mono (by omega))
noncomputable def N_answers:List PySem.Str:=["table", "mixings", "hand", "others"]
structure AsIn (K:PySem.W.Frag) (H:Hp) (t m:Addr) (h:Nat) (ns:List Nat) (cont:List Nat → List V) (mps:List Addr) (ms:List (List (Int × Int))) (un:List Nat → List Int) (po:List Nat → List (Int × Int)) (Bo:Int):Prop where
  tab:TabAt K H t ns cont
  sz:Sz ns
  mx:MxOk K H m mps ms ns
  en:∀ q ∈ ordR ns.reverse, EnOk K H (cont q) (un q) ns.length
  ch:∀ b ∈ ordR (wo h ns).reverse, Chs b (wo h ms) (po b)
  bm:∀ b ∈ ordR (wo h ns).reverse, pB (po b) = Bo
  b0:0 < Bo
  bb:BB 1300 Bo
  bt:∀ b ∈ ordR (wo h ns).reverse, BB 1300 (pT (po b))
theorem AsIn.same {K:PySem.W.Frag} {H H':Hp} {t m:Addr} {h:Nat} {ns:List Nat} {cont:List Nat → List V} {mps:List Addr} {ms:List (List (Int × Int))} {un:List Nat → List Int} {po:List Nat → List (Int × Int)} {Bo:Int} (I:AsIn K H t m h ns cont mps ms un po Bo) (s:Same H H'):AsIn K H' t m h ns cont mps ms un po Bo :=
  ⟨I.tab.same s, I.sz, I.mx.same s, fun q hq=>(I.en q hq).same s, I.ch, I.bm, I.b0, I.bb, I.bt⟩
structure AnOk (un:List Nat → List Int) (po:List Nat → List (Int × Int)) (bs:List (List Nat)) (h:Nat) (Bo:Int) (n:Nat) (fs:List (Int × Int)):Prop where
  len:fs.length = n
  at_:∀ (c:Nat) (f:Int × Int), fs[c]? = some f → Lo (sA un po bs h c) (Bo * 12) f.1 f.2 ∧ BB 2100 (sA un po bs h c)
noncomputable def sp_answers (K:PySem.W.Frag):Sp:=fun vs H Q E=>∃ t m h ns cont mps ms, vs = [.ref t, .ref m, .int (h:Nat)] ∧ TabAt K H t ns cont ∧ MxIn K H m mps ms ns ∧ (AllM ms ns → ∃ n un po Bo, AsIn K H t m h ns cont mps ms un po Bo ∧ ns[h]? = some n ∧ ∀ l rps fs H', Same H H' → H l = none → H' l = some (.lst (List.map V.ref rps)) → FrsAt K H' rps fs → HpAt H' rps fs → AnOk un po (ordR (wo h ns).reverse) h Bo n fs → Q (.ref l) H') ∧ XM K H E ms ns
noncomputable def t_answers_c1 (K:PySem.W.Frag) (E:XK):TE:=(tCall (sp_answer K) [] E0 (tCons (tVar 1) (tCons (tVar 2) (tCons (tVar 3) (tCons (tVar 0) tNil)))))
noncomputable def t_answers (K:PySem.W.Frag) (E:XK):TS:=(tSeq (tDrop (tCall (sp_check_mixings K) [] E (tCons (tVar 0) (tCons (tVar 1) tNil)))) (tSeq (tAsg (tOp rCat (tSl (rSlL K) (tVar 1) tNoPart (tPart (tVar 2))) (tSl (rSlL K) (tVar 1) (tPart (tOp rAddI (tVar 2) (tC (.int 1)))) tNoPart)) (gName 3)) (tRet (tComp (iRng1 (tCons (tOp (rIxL K) (tMeth (gadr K "Table") "sizes" (sp_Table_sizes K) [] E0 (tVar 0) tNil) (tVar 2)) tNil)) [0, 3, 2] (t_answers_c1 K E)))))
theorem len_answers {K vs H Q E} (h:sp_answers K vs H Q E):vs.length = 3:=by obtain ⟨_, _, _, _, _, _, _, rfl, _⟩:=h; rfl
theorem rd_answers {K vs H Q E} (h:sp_answers K vs H Q E):t_answers K E { nx:=fun _ H'=>Q .non H', rt:=Q } (start N_answers vs) H:=by
  obtain ⟨t, m, h, ns, cont, mps, ms, rfl, tab0, mx0, kg, kb⟩:=h
  rw [show start N_answers [V.ref t, V.ref m, V.int h] = [some (.ref t), some (.ref m), some (.int h), none] from rfl]
  (try dsimp? [t_answers, tDrop, tComp, iRng1, tMeth, rCat]; try simp_arith [t_answers, tDrop, tComp, iRng1, tMeth, if_true, rCat])
  refine ⟨t, m, ns, cont, mps, ms, rfl, tab0, mx0, fun all H1 s1=>?_, kb⟩
  obtain ⟨n, un, po, Bo, I, hn, k⟩:=kg all
  have hl:h < ns.length:=(List.getElem?_eq_some_iff.mp hn).1
  have n6:=I.sz.le n (List.mem_of_getElem? hn)
  have n3:=I.sz.len
  have pl:=I.mx.hr.length
  have ml:=I.mx.l1
  have I1:=I.same s1
  refine ⟨_, SqL.of I1.mx.hm, fun p1 hp1=>⟨_, SqL.of ((Same.upd hp1) _ _ I1.mx.hm), fun p2 hp2=>?_⟩⟩
  have s2:=Same.upd (o:=.lst (cutV (List.map V.ref mps) none (some (h:Int)))) hp1
  have s3:=Same.upd (o:=.lst (cutV (List.map V.ref mps) (some ((h:Int) + 1)) none)) hp2
  have e1:=cut_len (List.map V.ref mps) none (some (h:Int))
  have e2:=cut_len (List.map V.ref mps) (some ((h:Int) + 1)) none
  rw [List.length_map] at e1 e2
  refine ⟨_, s3 _ _ upd_same, _, upd_same, small (by omega), fun p3 hp3=>?_⟩
  have s4:=Same.upd (o:=.lst (cutV (List.map V.ref mps) none (some (h:Int)) ++ cutV (List.map V.ref mps) (some ((h:Int) + 1)) none)) hp3
  have s5:=((s1.trans s2).trans s3).trans s4
  have e5:cutV (List.map V.ref mps) none (some (h:Int)) ++ cutV (List.map V.ref mps) (some ((h:Int) + 1)) none = List.map V.ref (wo h mps):=by
    rw [cut_to, show ((h:Int) + 1) = ((h + 1:Nat):Int) by omega, cut_from]
    unfold wo; rw [List.map_append, List.map_take, List.map_drop]
  rw [e5] at s5 s4 ⊢
  have o5:(upd (upd (upd H1 p1 (HO.lst (cutV (List.map V.ref mps) none (some (h:Int))))) p2 (HO.lst (cutV (List.map V.ref mps) (some ((h:Int) + 1)) none))) p3 (HO.lst (List.map V.ref (wo h mps)))) p3 = some (HO.lst (List.map V.ref (wo h mps))):=upd_same
  generalize upd (upd (upd H1 p1 (HO.lst (cutV (List.map V.ref mps) none (some (h:Int))))) p2 (HO.lst (cutV (List.map V.ref mps) (some ((h:Int) + 1)) none))) p3 (HO.lst (List.map V.ref (wo h mps))) = H5 at s4 s5 o5 ⊢
  have I5:=I.same s5
  have A5:AnIn K H5 t p3 h ns cont (wo h mps) (wo h ms) un po Bo:=⟨I5.tab, I.sz, o5, I5.mx.hr.wo h, I5.en, I.ch, I.bm, I.b0, I.bb, I.bt⟩
  obtain ⟨dx, mm, d, ht⟩:=I5.tab.ins
  refine ⟨dx, _, ht, flds_no _ _ (by decide +kernel) (by decide +kernel), t, ns, cont, rfl, I5.tab, fun z hz=>?_⟩
  have s6:=Same.upd (o:=HO.lst (tv ns)) hz
  have z6:(upd H5 z (.lst (tv ns))) z = some (.lst (tv ns)):=upd_same
  generalize upd H5 z (.lst (tv ns)) = H6 at s6 z6
  have A6:=A5.same s6
  refine ⟨_, rfl, _, SqL.of z6, V.int n, atI_nat (tv_at hn), n, rfl, ?_⟩
  rw [Int.toNat_natCast]
  refine ⟨by omega, by omega, comp_range (lo:=0) (W:=fun j zs H7=>Same H6 H7 ∧ ∃ rps fs, zs = List.map V.ref rps ∧ FrsAt K H7 rps fs ∧ HpAt H7 rps fs ∧ AnOk un po (ordR (wo h ns).reverse) h Bo j fs) (small (by omega)) ⟨Same.refl _, [], [], rfl, trivial, (fun i f e=>by simp at e), ⟨rfl, fun i f e=>by simp at e⟩⟩ ?_ ?_⟩
  · rintro j zs H7 hj _ ⟨s7, rps, fs, rfl, hf, hh, ao⟩
    (try dsimp? [t_answers_c1, caught, List.map_cons, List.map_nil, Option.join_some]; try simp_arith [t_answers_c1, caught, List.map_cons, List.map_nil, Option.join_some, Int.zero_add])
    refine ⟨t, p3, h, j, n, ns, cont, wo h mps, wo h ms, un, po, Bo, rfl, A6.same s7, hn, hj, fun x y r H8 s8 hr8 lo bb=>⟨s7.trans s8, rps ++ [r], by rw [List.map_append]; rfl, fs ++ [(x, y)], FrsAt.append (show FrsAt K _ [r] [(x, y)] from ⟨SqT.of hr8, trivial⟩) (hf.same s8), (hh.same s8).snoc hf.length hr8, ?_⟩⟩
    refine ⟨by rw [List.length_append, ao.len]; rfl, fun c f e=>?_⟩
    by_cases hlt:c < fs.length
    · rw [List.getElem?_append_left hlt] at e
      exact ao.at_ c f e
    · have hc:c = fs.length:=by have:=(List.getElem?_eq_some_iff.mp e).1; rw [List.length_append] at this; simp at this; omega
      rw [List.getElem?_append_right (by omega), hc, Nat.sub_self] at e
      cases e
      rw [hc, ao.len]
      exact ⟨lo, bb⟩
  · rintro zs H7 _ ⟨s7, rps, fs, rfl, hf, hh, ao⟩ l hl7
    have s57:=(s5.trans s6).trans s7
    have s8:=Same.upd (o:=HO.lst (List.map V.ref rps)) hl7
    exact k l rps fs _ (s57.trans s8) (s57.free hl7) upd_same (hf.same s8) (hh.same s8) ao
noncomputable def N_gains:List PySem.Str:=["table", "mixings", "told", "hand", "earned"]
structure GnIn (K:PySem.W.Frag) (H:Hp) (t m:Addr) (ns:List Nat) (cont:List Nat → List V) (mps:List Addr) (ms:List (List (Int × Int))) (un:List Nat → List Int) (pss:List (List Int)):Prop where
  E:EbIn K H t m ns cont mps ms un (pqOf pss) (pS pss)
  A:∀ h, h < ns.length → AsIn K H t m h ns cont mps ms un (pqOf (wo h pss)) (pS (wo h pss))
  P:PtOk pss ns
theorem GnIn.same {K:PySem.W.Frag} {H H':Hp} {t m:Addr} {ns:List Nat} {cont:List Nat → List V} {mps:List Addr} {ms:List (List (Int × Int))} {un:List Nat → List Int} {pss:List (List Int)} (I:GnIn K H t m ns cont mps ms un pss) (s:Same H H'):GnIn K H' t m ns cont mps ms un pss:=⟨I.E.same s, fun h hh=>(I.A h hh).same s, I.P⟩
noncomputable def GnOk (un:List Nat → List Int) (pss:List (List Int)) (ns:List Nat) (h:Nat) (f:Int × Int):Prop:=∃ M n c row, ns[h]? = some n ∧ pss[h]? = some row ∧ c < n ∧ sA un (pqOf (wo h pss)) (ordR (wo h ns).reverse) h c = M ∧ (∀ c', c' < n → sA un (pqOf (wo h pss)) (ordR (wo h ns).reverse) h c' ≤ M) ∧
  Lo (M * row.sum - sE un (pqOf pss) (ordR ns.reverse) h) (pS pss * 12) f.1 f.2 ∧ BB 2200 (M * row.sum - sE un (pqOf pss) (ordR ns.reverse) h)
noncomputable def sp_gains (K:PySem.W.Frag):Sp:=fun vs H Q E=>∃ t m ns cont mps ms, vs = [.ref t, .ref m] ∧ TabAt K H t ns cont ∧ MxIn K H m mps ms ns ∧ (AllM ms ns → ∃ un pss, GnIn K H t m ns cont mps ms un pss ∧ ∀ l gps gs H', Same H H' → H l = none → H' l = some (.lst (List.map V.ref gps)) → gps.length = gs.length → HpAt H' gps gs → gs.length = ns.length → (∀ h f, gs[h]? = some f → GnOk un pss ns h f) → Q (.ref l) H') ∧ XM K H E ms ns
noncomputable def iv_gains (t m z l:Addr) (rps:List Addr) (fs:List (Int × Int)) (un:List Nat → List Int) (pss:List (List Int)) (ns:List Nat) (H:Hp):Nat → St → Hp → Prop:=fun i σ H3=>∃ gps gs o3 o4, σ = [some (.ref t), some (.ref m), some (.ref z), o3, o4] ∧ Same H H3 ∧ H3 l = some (.lst (List.map V.ref rps)) ∧ HpAt H3 rps fs ∧ H3 z = some (.lst (List.map V.ref gps)) ∧ gps.length = gs.length ∧ HpAt H3 gps gs ∧ gs.length = i ∧ ∀ h f, gs[h]? = some f → GnOk un pss ns h f
noncomputable def t_gains_b1 (K:PySem.W.Frag) (E:XK):TS:=(tDrop (tBM K "list" rAppend (tVar 2) (tCons (tCall (sp_minus K) [] E0 (tCons (tCall (sp_greatest K) [] E0 (tCons (tCall (sp_answers K) [] E (tCons (tVar 0) (tCons (tVar 1) (tCons (tVar 3) tNil)))) tNil)) (tCons (tVar 4) tNil))) tNil)))
noncomputable def t_gains_g1 (K:PySem.W.Frag) (E:XK):TG:=(gTup K 2 (gCons (gName 3) (gCons (gName 4) gNil)))
noncomputable def t_gains (K:PySem.W.Frag) (E:XK):TS:=(tSeq (tAsg (tLst tNil) (gName 2)) (tSeq (tFor (iEnum K (tCall (sp_earned_by K) [] E (tCons (tVar 0) (tCons (tVar 1) tNil)))) (t_gains_g1 K E) (t_gains_b1 K E)) (tRet (tVar 2))))
theorem len_gains {K vs H Q E} (h:sp_gains K vs H Q E):vs.length = 2:=by obtain ⟨_, _, _, _, _, _, rfl, _⟩:=h; rfl
theorem rd_gains {K vs H Q E} (h:sp_gains K vs H Q E):t_gains K E { nx:=fun _ H'=>Q .non H', rt:=Q } (start N_gains vs) H:=by
  obtain ⟨t, m, ns, cont, mps, ms, rfl, tab0, mx0, kg, kb⟩:=h
  rw [show start N_gains [V.ref t, V.ref m] = [some (.ref t), some (.ref m), none, none, none] from rfl]
  (try dsimp? [t_gains, tFor, iEnum]; try simp_arith [t_gains, tFor, iEnum])
  refine ⟨sz0, fun z hz=>?_⟩
  have s1:=Same.upd (o:=HO.lst []) hz
  have z1:(upd H z (HO.lst [])) z = some (HO.lst []):=upd_same
  generalize upd H z (HO.lst []) = H1 at s1 z1
  refine ⟨t, m, ns, cont, mps, ms, rfl, tab0.same s1, mx0.same s1, fun all=>?_, kb.same s1⟩
  obtain ⟨un, pss, I, k⟩:=kg all
  have n3:=I.E.sz.len
  refine ⟨un, _, _, (I.same s1).E, fun l H2 s2 hl0 T2 bE=>?_⟩
  obtain ⟨rps, fs, hl2, _, hh2, fl, lo⟩:=T2.ex
  have nlz:l ≠ z:=fun e=>by rw [e, z1] at hl0; cases hl0
  have rl:rps.length = ns.length:=by
    have:=T2.ex
    obtain ⟨rps', fs', a, b, _, c, _⟩:=this
    rw [hl2] at a
    have e:List.map V.ref rps = List.map V.ref rps':=by injection a with a; injection a
    have:=b.length
    have:=congrArg List.length e
    rw [List.length_map, List.length_map] at this
    omega
  refine ⟨l, rfl, ⟨_, SqL.of hl2⟩, for_enum (K:=K) (a:=l) (xs:=List.map V.ref rps) (g:=t_gains_g1 K E) (D:={ nx:=tRet (tVar 2) { nx:=fun _ H'=>Q .non H', rt:=Q }, rt:=Q }) (iv_gains t m z l rps fs un pss ns H) ?_ ?_ ?_ ?_⟩
  · exact ⟨[], [], none, none, rfl, s1.trans s2, hl2, hh2, s2 _ _ z1, rfl, fun i f e=>by simp at e, rfl, fun h f e=>by simp at e⟩
  · rintro i σ H3 _ ⟨_, _, _, _, _, _, hl3, _⟩
    exact SqL.of hl3
  · rintro i x p σ H3 hi ⟨gps, gs, o3, o4, rfl, s3, hl3, hh3, z3, gl, hg3, gi, ok⟩ hp
    obtain ⟨e, rfl, he⟩:=get_refs hi
    have il:i < ns.length:=by have:=(List.getElem?_eq_some_iff.mp he).1; omega
    have ef:fs[i]? = some fs[i]:=List.getElem?_eq_getElem (by omega)
    generalize fs[i] = f at ef
    obtain ⟨e', ee, he3⟩:=hh3 i f ef
    rw [he] at ee
    obtain rfl:=Option.some.inj ee
    have lof:=lo i f ef
    have hn:ns[i]? = some ns[i]:=List.getElem?_eq_getElem il
    generalize ns[i] = n at hn
    have pl:i < pss.length:=by rw [I.P.len]; exact il
    have er:pss[i]? = some pss[i]:=List.getElem?_eq_getElem pl
    generalize pss[i] = row at er
    have s4:=Same.upd (o:=HO.tup [.int i, .ref e]) hp
    have hT:SqT K (upd H3 p (.tup [.int i, .ref e])) p [.int i, .ref e]:=SqT.of upd_same
    generalize upd H3 p (.tup [.int i, .ref e]) = H4 at s4 hT
    (try dsimp? [t_gains_g1, t_gains_b1, tDrop, tBM, rAppend]; try simp_arith [t_gains_g1, t_gains_b1, tDrop, tBM, rAppend])
    refine ⟨_, hT, rfl, _, _, rfl, _, _, rfl, rfl, .inl ⟨rfl, _, SqL.of (s4 _ _ z3)⟩, ?_⟩
    have A:=I.A i il
    obtain ⟨n', en', n6, rwl, rb, rs⟩:=I.P.row I.E.sz er
    rw [hn] at en'
    obtain rfl:=Option.some.inj en'
    have b12:BB 1304 (pS (wo i pss) * 12):=A.bb.mul bb12d
    have bB:BB 1304 (pS pss * 12):=I.E.bb.mul bb12d
    have n1:=I.E.sz.ge n (List.mem_of_getElem? hn)
    refine ⟨t, m, i, ns, cont, mps, ms, rfl, (tab0.same s3).same s4, (mx0.same s3).same s4, fun _=>⟨n, un, _, _, ((I.same s3).same s4).A i il, hn, fun a aps as H5 s5 ha0 ha5 hfa _ ao=>?_⟩, all.xm⟩
    have us_at:∀ (c:Nat) u, ((List.range n).map (sA un (pqOf (wo i pss)) (ordR (wo i ns).reverse) i))[c]? = some u → c < n ∧ sA un (pqOf (wo i pss)) (ordR (wo i ns).reverse) i c = u:=fun c u e=>by
      have hc:c < n:=by have:=(List.getElem?_eq_some_iff.mp e).1; rwa [List.length_map, List.length_range] at this
      rw [List.getElem?_map, List.getElem?_range hc] at e
      exact ⟨hc, Option.some.inj e⟩
    refine ⟨a, aps, as, (List.range n).map (sA un (pqOf (wo i pss)) (ordR (wo i ns).reverse) i), pS (wo i pss) * 12, rfl, ha5, hfa, by rw [List.length_map, List.length_range, ao.len], fun c f' u e1 e2=>?_, Int.mul_pos A.b0 (by decide), b12.mono (by decide), fun e=>?_, fun p' g M j hj eg em hmax sg=>?_⟩
    · rw [← (us_at c u e2).2]
      exact ao.at_ c f' e1
    · have:=ao.len
      rw [e] at this
      simp at this; omega
    obtain ⟨hjn, eM⟩:=us_at j M em
    obtain ⟨log, bg⟩:=ao.at_ j g eg
    rw [eM] at log bg
    have S5:=s4.trans s5
    have c1:=log.bb2 bg b12
    have c2:=lof.bb2 (bE i) bB
    refine ⟨_, _, g.1, g.2, f.1, f.2, rfl, ⟨sg, SqT.of (S5 _ _ he3), c1.1.mono (by decide), c1.2.mono (by decide), c2.1.mono (by decide), c2.2.mono (by decide), log.pos, lof.pos⟩, fun x y r H6 s6 hr lor=>?_⟩
    have S6:=S5.trans s6
    have z6:=S6 _ _ z3
    refine ⟨_, z6, by rw [List.length_map, gl, gi, sizeLine_eq]; omega, gps ++ [r], gs ++ [(x, y)], _, _, rfl, (s3.trans S6).put hz, by rw [upd_ne nlz]; exact S6 _ _ hl3, (hh3.same S6).off z6, by rw [upd_same, List.map_append]; rfl, by rw [List.length_append, List.length_append, gl]; rfl, ((hg3.same S6).snoc gl hr).off z6, by rw [List.length_append, gi]; rfl, fun h f' e1=>?_⟩
    by_cases hlt:h < gs.length
    · rw [List.getElem?_append_left hlt] at e1
      exact ok h f' e1
    · have hc:h = gs.length:=by have:=(List.getElem?_eq_some_iff.mp e1).1; rw [List.length_append] at this; simp at this; omega
      rw [List.getElem?_append_right (by omega), hc, Nat.sub_self] at e1
      cases e1
      rw [hc, gi]
      have lM:Lo (M * row.sum) (pS pss * 12) g.1 g.2:=by
        have:=lo_scale log (Int.mul_pos A.b0 (by decide)) rs
        rwa [show pS (wo i pss) * 12 * row.sum = pS (wo i pss) * row.sum * 12 by ac_rfl, ← pS_row er] at this
      refine ⟨M, n, j, row, hn, er, hjn, eM, fun c' hc'=>hmax c' _ (by rw [List.getElem?_map, List.getElem?_range hc']; rfl), lo_sub lM lof lor (Int.mul_pos I.E.b0 (by decide)), ?_⟩
      rw [Int.sub_eq_add_neg]
      exact (BB.add1 (n:=2129) (bg.mul (bb_sum rb (by omega))) ((bE i).neg.mono (by decide))).mono (by decide)
  · rintro σ H3 ⟨gps, gs, o3, o4, rfl, s3, hl3, hh3, z3, gl, hg3, gi, ok⟩
    (try dsimp only [tVar, tC, tOp, rI0, rNe, scal_ii, tRet, tTest, Lq0, Lq1, exI_lit, exB_lit, exR_lit]; try simp only [tVar, tC, tOp, rI0, rNe, scal_ii, tRet, tTest, Lq0, Lq1, Option.some.injEq, exists_eq_left', V.int.injEq, V.ref.injEq, V.bl.injEq, exists_and_left, exists_eq_left, List.cons.injEq, and_true, true_and, and_assoc, exI_lit, exB_lit, exR_lit, exI_ex, exB_ex, exR_ex])
    rw [List.length_map, rl] at gi
    exact k z gps gs H3 s3 hz z3 gl hg3 gi ok
noncomputable def N_l_asked:List PySem.Str:=["_law_table", "_law_mixings_here", "_law_way"]
noncomputable def sp_l_asked (K:PySem.W.Frag):Sp:=fun vs H Q E=>∃ t m w ns cont mps ms, vs = [.ref t, .ref m, .int (w:Nat)] ∧ w < 2 + ns.length ∧ TabAt K H t ns cont ∧ MxIn K H m mps ms ns ∧ (AllM ms ns → ∃ un pss, GnIn K H t m ns cont mps ms un pss ∧ ∀ l zs H', Same H H' → H' l = some (.lst zs) → Q (.ref l) H') ∧ XM K H E ms ns
noncomputable def t_l_asked_r1 (K:PySem.W.Frag) (E:XK):TS:=(tRet (tCall (sp_answers K) [] E (tCons (tVar 0) (tCons (tVar 1) (tCons (tOp rSubI (tVar 2) (tC (.int 2))) tNil)))))
noncomputable def t_l_asked_r2 (K:PySem.W.Frag) (E:XK):TS:=(tSeq (tIfS (tTest (tOp rEq (tVar 2) (tC (.int 1)))) (tRet (tCall (sp_gains K) [] E (tCons (tVar 0) (tCons (tVar 1) tNil)))) tNext) (t_l_asked_r1 K E))
noncomputable def t_l_asked (K:PySem.W.Frag) (E:XK):TS:=(tSeq (tIfS (tTest (tOp rEq (tVar 2) (tC (.int 0)))) (tRet (tCall (sp_earned_by K) [] E (tCons (tVar 0) (tCons (tVar 1) tNil)))) tNext) (t_l_asked_r2 K E))
theorem len_l_asked {K vs H Q E} (h:sp_l_asked K vs H Q E):vs.length = 3:=by obtain ⟨_, _, _, _, _, _, _, rfl, _⟩:=h; rfl
theorem rd_l_asked {K vs H Q E} (h:sp_l_asked K vs H Q E):t_l_asked K E { nx:=fun _ H'=>Q .non H', rt:=Q } (start N_l_asked vs) H:=by
  obtain ⟨t, m, w, ns, cont, mps, ms, rfl, hw, tab, mx, kg, kb⟩:=h
  rw [show start N_l_asked [V.ref t, V.ref m, V.int w] = [some (.ref t), some (.ref m), some (.int w)] from rfl]
  (try dsimp? [t_l_asked]; try simp_arith [t_l_asked])
  refine ite2 (fun z=>?_) (fun z=>?_)
  · refine ⟨t, m, ns, cont, mps, ms, rfl, tab, mx, fun all=>?_, kb⟩
    obtain ⟨un, pss, I, k⟩:=kg all
    refine ⟨un, _, _, I.E, fun l H' s _ T _=>?_⟩
    obtain ⟨rps, fs, hl, _⟩:=T.ex
    exact k l _ H' s hl
  · (try dsimp? [t_l_asked_r2]; try simp_arith [t_l_asked_r2])
    refine ite2 (fun z1=>?_) (fun z1=>?_)
    · refine ⟨t, m, ns, cont, mps, ms, rfl, tab, mx, fun all=>?_, kb⟩
      obtain ⟨un, pss, I, k⟩:=kg all
      exact ⟨un, pss, I, fun l gps gs H' s _ hl _ _ _ _=>k l _ H' s hl⟩
    · (try dsimp? [t_l_asked_r1]; try simp_arith [t_l_asked_r1])
      have w0:w ≠ 0:=fun e=>z (by rw [e]; rfl)
      have w1:w ≠ 1:=fun e=>z1 (by rw [e]; rfl)
      rw [show (w:Int) - 2 = ((w - 2:Nat):Int) by omega]
      refine ⟨t, m, w - 2, ns, cont, mps, ms, rfl, tab, mx, fun all=>?_, kb⟩
      obtain ⟨un, pss, I, k⟩:=kg all
      exact ⟨_, un, _, _, I.A (w - 2) (by omega), List.getElem?_eq_getElem (by omega), fun l rps fs H' s _ hl _ _ _=>k l _ H' s hl⟩
noncomputable def N_l_whole:List PySem.Str:=["_law_found"]
noncomputable def sp_l_whole (_:PySem.W.Frag):Sp:=fun vs H Q _=>∃ i, vs = [.int i] ∧ Q (.bl true) H
noncomputable def t_l_whole (K:PySem.W.Frag):TS:=(tRet (tAndV (tCB cIsB (tCons (tVar 0) (tCons (tC (.ty "int")) tNil))) (tNotV (tCB cIsB (tCons (tVar 0) (tCons (tC (.ty "bool")) tNil))))))
theorem len_l_whole {K vs H Q E} (h:sp_l_whole K vs H Q E):vs.length = 1:=by obtain ⟨a, rfl, _⟩:=h; rfl
theorem rd_l_whole {K vs H Q E} (h:sp_l_whole K vs H Q E):t_l_whole K { nx:=fun _ H'=>Q .non H', rt:=Q } (start N_l_whole vs) H:=by
  obtain ⟨i, rfl, q⟩:=h
  rw [show start N_l_whole [V.int i] = [some (.int i)] from rfl]
  (try dsimp only [t_l_whole, tVar, tC, tRet, tCons, tNil, tCB, cIsB, tAndV, tNotV, Lq0, exI_lit, exB_lit, exR_lit]; try simp only [t_l_whole, tVar, tC, tRet, tCons, tNil, tCB, cIsB, tAndV, tNotV, Lq0, Option.some.injEq, exists_eq_left', V.bl.injEq, V.ty.injEq, List.cons.injEq, and_true, exists_and_left, and_assoc, exists_eq_left, V.int.injEq, V.ref.injEq, true_and, exI_lit, exB_lit, exR_lit, exI_ex, exB_ex, exR_ex])
  exact ⟨true, .inl ⟨rfl, rfl⟩, iteT ⟨false, .inr ⟨rfl, rfl⟩, q⟩⟩
noncomputable def N_l_refused:List PySem.Str:=["_law_table", "_law_mixings_here", "_law_way", "_law_hand", "_law_told", "e"]
noncomputable abbrev Oth:List Str:=["NoNumber", "NoTable", "NoStart", "NoOrder", "NotTwo", "NoPlan", "NoChoice"]
noncomputable def sp_l_refused (K:PySem.W.Frag):Sp:=fun vs H Q _=>∃ t m w h ns cont mps ms, vs = [.ref t, .ref m, .int (w:Nat), .int (h:Nat)] ∧ w < 2 + ns.length ∧ TabAt K H t ns cont ∧ MxIn K H m mps ms ns ∧ BadM ms ns h ∧ ∀ H', Same H H' → Q (.bl true) H'
noncomputable def t_l_refused_r1 (K:PySem.W.Frag):TS:=(tRet (tAndV (tCall (sp_l_whole K) [] E0 (tCons (tFldX K (tVar 4) "hand") tNil)) (tOp rEq (tFldX K (tVar 4) "hand") (tVar 3))))
noncomputable def t_l_refused_r2 (K:PySem.W.Frag):TS:=(tSeq (tIfS (tOr (tNot (tB (tCB (cIsE K) (tCons (tVar 4) (tCons (tC (.ref (gadr K "NoMixing"))) tNil))))) (tNot (tB (tCB (cIsE K) (tCons (tVar 4) (tCons (tC (.ty "ValueError")) tNil)))))) (tRet (tC (.bl false))) tNext) (t_l_refused_r1 K))
noncomputable def t_l_refused (K:PySem.W.Frag):TS:=(tSeq (tAsg (tC .non) (gName 4)) (tSeq (tTry (fun E=>tCall (sp_l_asked K) [] E (tCons (tVar 0) (tCons (tVar 1) (tCons (tVar 2) tNil)))) (.ref (gadr K "NoMixing")) 5 (tAsg (tVar 5) (gName 4))) (tSeq (tIfS (tB (tCB (cIsE K) (tCons (tVar 4) (tCons (tTup (tCons (tC (.ref (gadr K "NoNumber"))) (tCons (tC (.ref (gadr K "NoTable"))) (tCons (tC (.ref (gadr K "NoStart"))) (tCons (tC (.ref (gadr K "NoOrder"))) (tCons (tC (.ref (gadr K "NotTwo"))) (tCons (tC (.ref (gadr K "NoPlan"))) (tCons (tC (.ref (gadr K "NoChoice"))) tNil)))))))) tNil)))) (tRet (tC (.bl false))) tNext) (t_l_refused_r2 K))))
theorem len_l_refused {K vs H Q E} (h:sp_l_refused K vs H Q E):vs.length = 4:=by obtain ⟨_, _, _, _, _, _, _, _, rfl, _⟩:=h; rfl
theorem noM_hand (h:Int):([("hand", V.int h)]:List (Str × V)).lookup ("hand" : Str) = some (V.int h):=by rw [look_cons, if_pos rfl]
theorem BadM.uniq {ms:List (List (Int × Int))} {ns:List Nat} {i j:Nat} (a:BadM ms ns i) (b:BadM ms ns j):i = j:=by
  rcases Nat.lt_trichotomy i j with e | e | e
  · obtain ⟨⟨n, row, e1, e2, e3⟩, _⟩:=a
    rw [b.2 i n row e e1 e2] at e3; cases e3
  · exact e
  · obtain ⟨⟨n, row, e1, e2, e3⟩, _⟩:=b
    rw [a.2 j n row e e1 e2] at e3; cases e3
theorem rd_l_refused {K vs H Q E} (z:XT K "NoMixing" Oth) (xk:ExK K "NoMixing" ["hand"]) (h:sp_l_refused K vs H Q E):t_l_refused K { nx:=fun _ H'=>Q .non H', rt:=Q } (start N_l_refused vs) H:=by
  obtain ⟨t, m, w, h, ns, cont, mps, ms, rfl, hw, tab, mx, bad, k⟩:=h
  rw [show start N_l_refused [V.ref t, V.ref m, V.int w, V.int h] = [some (.ref t), some (.ref m), some (.int w), some (.int h), none, none] from rfl]
  (try dsimp only [t_l_refused, tTry, cIsE, tSeq, tAsg, gName, tVar, tC, tRet, tCall, tCons, tNil, tTup, tCB, tAndV, tNotV, Lq0, Lq1, Ls0, Ls1, exI_lit, exB_lit, exR_lit]; try simp only [t_l_refused, tTry, cIsE, tSeq, tAsg, gName, tVar, tC, tRet, tCall, tCons, tNil, tTup, tCB, tAndV, tNotV, Lq0, Lq1, Ls0, Ls1, Option.some.injEq, exists_eq_left', V.ref.injEq, V.bl.injEq, List.cons.injEq, and_true, List.append_nil, exists_and_left, and_assoc, exists_eq_left, V.int.injEq, true_and, exI_lit, exB_lit, exR_lit, exI_ex, exB_ex, exR_ex])
  refine ⟨t, m, w, ns, cont, mps, ms, rfl, hw, tab, mx, fun all=>(bad.no all).elim, fun i b dx H1 s hdx hd=>⟨rfl, fun x hx=>?_⟩⟩
  obtain rfl:=bad.uniq b
  have ne:dx ≠ x:=ne_of_none hd hx
  have s1:Same H (upd H1 x (excD x (.ref (gadr K "NoMixing")) (some dx))):=s.trans (Same.upd hx)
  have x1:(upd H1 x (excD x (.ref (gadr K "NoMixing")) (some dx))) x = some (excD x (.ref (gadr K "NoMixing")) (some dx)):=upd_same
  have d1:(upd H1 x (excD x (.ref (gadr K "NoMixing")) (some dx))) dx = some (noM dx h):=by rw [upd_ne ne]; exact hd
  generalize upd H1 x (excD x (.ref (gadr K "NoMixing")) (some dx)) = G at s1 x1 d1
  (try dsimp? [cIsE]; try simp_arith [cIsE])
  refine ⟨by show 7 ≤ sizeLine; decide, fun p7 hp7=>?_⟩
  refine ⟨_, _, Same.upd hp7 _ _ x1, z.kx, false, .inr (.inr ⟨p7, Oth.map (gadr K), rfl, upd_same, z.any⟩), iteF ?_⟩
  have s2:=Same.upd (o:=HO.tup (Oth.map fun y=>V.ref (gadr K y))) hp7
  have x2:=s2 _ _ x1
  have d2:=s2 _ _ d1
  have s3:=s1.trans s2
  show t_l_refused_r2 K _ _ (upd G p7 (HO.tup (Oth.map fun y=>V.ref (gadr K y))))
  generalize upd G p7 (HO.tup (Oth.map fun y=>V.ref (gadr K y))) = G2 at x2 d2 s3
  (try dsimp? [t_l_refused_r2, cIsE]; try simp_arith [t_l_refused_r2, cIsE])
  refine ⟨_, _, x2, z.kx, true, .inl ⟨_, rfl, z.own⟩, iteF ⟨_, _, x2, z.kx, true, .inr (.inl ⟨_, rfl, z.val⟩), iteF ?_⟩⟩
  (try dsimp? [t_l_refused_r1, tFldX]; try simp_arith [t_l_refused_r1, tFldX, sp_l_whole])
  refine ⟨_, xk.get _ (.head _), dx, .inr x2, _, d2, _, noM_hand _, _, rfl, ?_⟩
  rw [if_pos trivial]
  refine ⟨_, xk.get _ (.head _), dx, .inr x2, _, d2, _, noM_hand _, rfl, ?_⟩
  rw [decide_eq_true rfl]
  exact k G2 s3
noncomputable def N_law:List PySem.Str:=["_law_script", "_law_sizes_here", "_law_table", "_law_right", "_law_lists", "_law_bad", "_law_handed", "_law_way"]
theorem parts_ebIn {K:PySem.W.Frag} {H:Hp} {t m:Addr} {ns:List Nat} {cont:List Nat → List V} {mps:List Addr} {ms:List (List (Int × Int))} {un:List Nat → List Int} {pss:List (List Int)} (tab:TabAt K H t ns cont) (z:Sz ns) (h:PtOk pss ns) (mo:MsOf ms pss) (hm:H m = some (.lst (List.map V.ref mps))) (hr:RfAt K H mps ms) (en:∀ q ∈ ordR ns.reverse, EnOk K H (cont q) (un q) ns.length):EbIn K H t m ns cont mps ms un (pqOf pss) (pS pss):=by
  have p3:pss.length ≤ 3:=by rw [h.len]; exact z.len
  have ps:=pS_ok h z pss.length (Nat.le_refl _)
  rw [List.take_length] at ps
  refine ⟨tab, z, parts_mxOk h z mo hm hr, en, fun q hq=>parts_chs h z mo hq, fun q hq=>pB_pq (h.plOk hq).len, ps.1, ps.2.mono (by omega), fun q hq=>?_⟩
  have PO:=h.plOk hq
  have:=pT_ok h z hq q.length (Nat.le_refl _)
  rw [show q.length = (pqOf pss q).length by unfold pqOf; rw [List.length_zipWith, PO.len, Nat.min_self], List.take_length] at this
  refine this.mono ?_
  unfold pqOf; rw [List.length_zipWith, PO.len, Nat.min_self]; omega
theorem parts_asIn {K:PySem.W.Frag} {H:Hp} {t m:Addr} {ns:List Nat} {cont:List Nat → List V} {mps:List Addr} {ms:List (List (Int × Int))} {un:List Nat → List Int} {pss:List (List Int)} (h:Nat) (tab:TabAt K H t ns cont) (z:Sz ns) (P:PtOk pss ns) (mx:MxOk K H m mps ms ns) (mo:MsOf (wo h ms) (wo h pss)) (en:∀ q ∈ ordR ns.reverse, EnOk K H (cont q) (un q) ns.length):AsIn K H t m h ns cont mps ms un (pqOf (wo h pss)) (pS (wo h pss)):=by
  have Pw:=P.wo h
  have zw:=z.wo h
  have p3:(wo h pss).length ≤ 3:=by rw [Pw.len]; exact zw.len
  have ps:=pS_ok Pw zw (wo h pss).length (Nat.le_refl _)
  rw [List.take_length] at ps
  refine ⟨tab, z, mx, en, fun b hb=>parts_chs Pw zw mo hb, fun b hb=>pB_pq (Pw.plOk hb).len, ps.1, ps.2.mono (by omega), fun b hb=>?_⟩
  have PO:=Pw.plOk hb
  have:=pT_ok Pw zw hb b.length (Nat.le_refl _)
  rw [show b.length = (pqOf (wo h pss) b).length by unfold pqOf; rw [List.length_zipWith, PO.len, Nat.min_self], List.take_length] at this
  refine this.mono ?_
  unfold pqOf; rw [List.length_zipWith, PO.len, Nat.min_self]; omega
theorem parts_gnIn {K:PySem.W.Frag} {H:Hp} {t m:Addr} {ns:List Nat} {cont:List Nat → List V} {mps:List Addr} {ms:List (List (Int × Int))} {un:List Nat → List Int} {pss:List (List Int)} (tab:TabAt K H t ns cont) (z:Sz ns) (P:PtOk pss ns) (mo:MsOf ms pss) (hm:H m = some (.lst (List.map V.ref mps))) (hr:RfAt K H mps ms) (en:∀ q ∈ ordR ns.reverse, EnOk K H (cont q) (un q) ns.length):GnIn K H t m ns cont mps ms un pss :=
  ⟨parts_ebIn tab z P mo hm hr en, fun h _=>parts_asIn h tab z P (parts_mxOk P z mo hm hr) (mo.wo h) en, P⟩
structure LwAt (K:PySem.W.Frag) (G:Hp) (a s t m:Addr) (ns:List Int) (ms:List Nat) (cont:List Nat → List V) (un:List Nat → List Int) (fps:List Addr) (fms:List (List (Int × Int))) (pss:List (List Int)):Prop where
  sc:SqL K G a (ns.map V.int)
  ss:G s = some (.lst (tv ms))
  sz:Sz ms
  h2:2 ≤ ms.length
  tab:TabAt K G t ms cont
  en:∀ q ∈ ordR ms.reverse, EnOk K G (cont q) (un q) ms.length
  hm:G m = some (.lst (List.map V.ref fps))
  hr:RhAt G fps fms
  mo:MsOf fms pss
  P:PtOk pss ms
structure LsAt (G:Hp) (L:Addr) (ms:List Nat) (fms:List (List (Int × Int))) (lps:List Addr) (lss:List (List (Int × Int))) (k:Nat):Prop where
  hr:RhAt G lps lss
  len:lss.length = k
  ok:∀ (i n:Nat) (row fr:List (Int × Int)), lss[i]? = some row → ms[i]? = some n → fms[i]? = some fr → (∀ f ∈ row, Gd 500 f) ∧ row.length ≤ 7 ∧ (row = fr ∨ mix row n = false)
noncomputable def sp_law (K:PySem.W.Frag):Sp:=fun vs H Q _=>∃ (a:Addr) (ns:List Int), vs = [.ref a] ∧ SqL K H a (ns.map V.int) ∧ ns.length ≤ 63 ∧ ∀ H', Q (.bl true) H'
noncomputable def iv_law (a s t m L b h:Addr) (H:Hp):Nat → St → Hp → Prop:=fun _ σ H3=>∃ o7, σ = [some (.ref a), some (.ref s), some (.ref t), some (.ref m), some (.ref L), some (.ref b), some (.ref h), o7] ∧ Same H H3
noncomputable def t_law_r1 (K:PySem.W.Frag):TS:=(tRet (tC (.bl true)))
noncomputable def t_law_r2 (K:PySem.W.Frag):TS:=(tIfS (tOr (tTest (tOp (rNeD K 2) (tVar 6) (tVar 4))) (tNot (tB (tCB cIsB2 (tCons (tCall (sp_l_asked K) [] E0 (tCons (tVar 2) (tCons (tVar 3) (tCons (tVar 7) tNil)))) (tCons (tC (.ty "list")) tNil)))))) (tRet (tC (.bl false))) tNext)
noncomputable def t_law_b1 (K:PySem.W.Frag):TS:=(tSeq (tIfS (tAnd (tTest (tOp (rNeD K 0) (tVar 5) (tLst tNil))) (tNot (tB (tCall (sp_l_refused K) [] E0 (tCons (tVar 2) (tCons (tVar 6) (tCons (tVar 7) (tCons (tOp (rIxL K) (tVar 5) (tC (.int 0))) tNil)))))))) (tRet (tC (.bl false))) tNext) (t_law_r2 K))
noncomputable def t_law_r3 (K:PySem.W.Frag):TS:=(tSeq (tFor (iRng1 (tCons (tOp rAddI (tC (.int 2)) (tCB (cLen K) (tCons (tVar 1) tNil))) tNil)) (gName 7) (t_law_b1 K)) (t_law_r1 K))
noncomputable def t_law_r4 (K:PySem.W.Frag):TS:=(tSeq (tIfS (tTest (tOp rNe (tFldX K (tMakeE (gadr K "NoMixing") (sp_NoMixing_init K) (tCons (tOp rModI (tCall (sp_l_cell_at K) [] E0 (tCons (tVar 0) (tCons (tC (.int 7)) tNil))) (tC (.int 3))) tNil)) "hand") (tOp rModI (tCall (sp_l_cell_at K) [] E0 (tCons (tVar 0) (tCons (tC (.int 7)) tNil))) (tC (.int 3))))) (tRet (tC (.bl false))) tNext) (t_law_r3 K))
noncomputable def t_law_c1 (K:PySem.W.Frag):TE:=(tCB (cList K) (tCons (tVar 0) tNil))
noncomputable def t_law_r5 (K:PySem.W.Frag):TS:=(tSeq (tAsg (tComp (iList K (tVar 4)) [] (t_law_c1 K)) (gName 6)) (t_law_r4 K))
noncomputable def t_law_c2 (K:PySem.W.Frag):TE:=(tVar 0)
noncomputable def t_law_r6 (K:PySem.W.Frag):TS:=(tSeq (tAsg (tCompI (iRng1 (tCons (tCB (cLen K) (tCons (tVar 1) tNil)) tNil)) [4, 3] (tTest (tOp (rNeD K 1) (tOp (rIxL K) (tVar 1) (tVar 0)) (tOp (rIxL K) (tVar 2) (tVar 0)))) (t_law_c2 K)) (gName 5)) (t_law_r5 K))
noncomputable def t_law_c3 (K:PySem.W.Frag):TE:=(tCall (sp_l_spoiled K) [] E0 (tCons (tOp (rIxL K) (tVar 1) (tVar 0)) (tCons (tOp rModI (tCall (sp_l_cell_at K) [] E0 (tCons (tVar 2) (tCons (tOp rAddI (tC (.int 4)) (tVar 0)) tNil))) (tOp rPowI (tC (.int 10)) (tC (.int 32)))) tNil)))
noncomputable def t_law_r7 (K:PySem.W.Frag):TS:=(tSeq (tAsg (tComp (iRng1 (tCons (tCB (cLen K) (tCons (tVar 1) tNil)) tNil)) [3, 0] (t_law_c3 K)) (gName 4)) (t_law_r6 K))
noncomputable def t_law_r8 (K:PySem.W.Frag):TS:=(tSeq (tAsg (tCall (sp_l_mixings K) [] E0 (tCons (tCall (sp_l_parts K) [] E0 (tCons (tVar 0) (tCons (tVar 1) tNil))) tNil)) (gName 3)) (t_law_r7 K))
noncomputable def t_law (K:PySem.W.Frag):TS:=(tSeq (tAsg (tCall (sp_l_sizes K) [] E0 (tCons (tVar 0) tNil)) (gName 1)) (tSeq (tAsg (tMake (gadr K "Table") (sp_Table_init K) [] E0 (tCons (tCB (cList K) (tCons (tVar 1) tNil)) (tCons (tCall (sp_l_cells K) [] E0 (tCons (tVar 0) (tCons (tCall (sp_l_order K) [] E0 (tCons (tVar 1) tNil)) (tCons (tCB (cLen K) (tCons (tVar 1) tNil)) tNil)))) tNil))) (gName 2)) (t_law_r8 K)))
theorem len_law {K vs H Q E} (h:sp_law K vs H Q E):vs.length = 1:=by obtain ⟨a, ns, rfl, _⟩:=h; rfl
section
variable {K:PySem.W.Frag} {G G':Hp} {a s t m L:Addr} {ns:List Int} {ms:List Nat} {cont:List Nat → List V} {un:List Nat → List Int} {fps:List Addr} {fms:List (List (Int × Int))} {pss:List (List Int)} {lps:List Addr} {lss:List (List (Int × Int))} {k:Nat}
theorem LwAt.same (h:LwAt K G a s t m ns ms cont un fps fms pss) (z:Same G G'):LwAt K G' a s t m ns ms cont un fps fms pss :=
  ⟨z.seq h.sc, z _ _ h.ss, h.sz, h.h2, h.tab.same z, fun q hq=>(h.en q hq).same z, z _ _ h.hm, h.hr.same z, h.mo, h.P⟩
theorem LwAt.ml (h:LwAt K G a s t m ns ms cont un fps fms pss):fms.length = ms.length:=by rw [h.mo.1, h.P.len]
theorem LwAt.gn (h:LwAt K G a s t m ns ms cont un fps fms pss):GnIn K G t m ms cont fps fms un pss:=parts_gnIn h.tab h.sz h.P h.mo h.hm h.hr.rf h.en
theorem LwAt.mx (h:LwAt K G a s t m ns ms cont un fps fms pss):MxIn K G m fps fms ms ∧ AllM fms ms:=(parts_mxOk h.P h.sz h.mo h.hm h.hr.rf).inn
theorem LwAt.row (h:LwAt K G a s t m ns ms cont un fps fms pss) {i n:Nat} {fr:List (Int × Int)} (e1:ms[i]? = some n) (e2:fms[i]? = some fr):fr.length = n ∧ 1 ≤ n ∧ n ≤ 6 ∧ (∀ f ∈ fr, Gd 110 f ∧ f.1 ≤ f.2) ∧ mix fr n = true:=by
  have hi:=(List.getElem?_eq_some_iff.mp e1).1
  have hip:i < pss.length:=by rw [h.P.len]; exact hi
  have er:pss[i]? = some pss[i]:=List.getElem?_eq_getElem hip
  obtain ⟨n', en', n6, rl, rb, rs⟩:=h.P.row h.sz er
  rw [e1] at en'
  obtain rfl:=Option.some.inj en'
  obtain ⟨fl, lo⟩:=h.mo.2 i _ fr er e2
  refine ⟨by omega, h.sz.ge n (List.mem_of_getElem? e1), n6, fun f hf=>?_, parts_mix rs (fun p hp=>(rb p hp).1) rl fl lo⟩
  obtain ⟨j, hj⟩:=List.getElem?_of_mem hf
  have hjl:j < (pss[i]).length:=by rw [← fl]; exact (List.getElem?_eq_some_iff.mp hj).1
  have l:=lo j _ f (List.getElem?_eq_getElem hjl) hj
  have pm:=List.getElem_mem hjl
  exact ⟨⟨l.pos, ((bb_part (rb _ pm)).of_le l.bx).mono (by decide), ((bb_sum rb (by omega)).of_le l.by_).mono (by decide)⟩, lo_le_one l (part_le_sum (fun p hp=>(rb p hp).1) pm) rs⟩
theorem head_range {n h:Nat} {p:Nat → Bool} {r:List Nat} (e:(List.range n).filter p = h :: r):p h = true ∧ h < n ∧ ∀ j, j < h → p j = false:=by
  have e1:((List.range n).filter p).head? = some h:=by rw [e]; rfl
  rw [List.head?_filter] at e1
  obtain ⟨a1, a2, a3⟩:=List.find?_range_eq_some.mp e1
  exact ⟨a1, List.mem_range.mp a2, fun j hj=>by have:=a3 j hj; simpa using this⟩
theorem LsAt.bad (h:LwAt K G a s t m ns ms cont un fps fms pss) (z:LsAt G L ms fms lps lss ms.length) {b:Nat} {r:List Nat} (e:(List.range ms.length).filter (fun i=>decide (lss[i]? ≠ fms[i]?)) = b :: r):BadM lss ms b:=by
  obtain ⟨a1, a2, a3⟩:=head_range e
  have fml:=h.ml
  have e1:ms[b]? = some ms[b]:=List.getElem?_eq_getElem a2
  have b2:b < lss.length:=by rw [z.len]; exact a2
  have b3:b < fms.length:=by omega
  have e2:lss[b]? = some lss[b]:=List.getElem?_eq_getElem b2
  have e3:fms[b]? = some fms[b]:=List.getElem?_eq_getElem b3
  refine ⟨⟨_, _, e1, e2, ?_⟩, fun j n row hj e4 e5=>?_⟩
  · rcases (z.ok b _ _ _ e2 e1 e3).2.2 with q | q
    · exact absurd (by rw [e2, e3, q]) (of_decide_eq_true a1)
    · exact q
  · have:=of_decide_eq_false (a3 j hj)
    have e6:lss[j]? = fms[j]?:=Classical.byContradiction fun c=>this c
    rw [e6] at e5
    exact (h.row e4 e5).2.2.2.2
end
structure LvAt (K:PySem.W.Frag) (G:Hp) (a s t m L b hd:Addr) (ns:List Int) (ms:List Nat) (cont:List Nat → List V) (un:List Nat → List Int) (fps:List Addr) (fms:List (List (Int × Int))) (pss:List (List Int)) (lps hps:List Addr) (lss:List (List (Int × Int))) (bs:List Nat):Prop where
  w:LwAt K G a s t m ns ms cont un fps fms pss
  z:LsAt G L ms fms lps lss ms.length
  hL:G L = some (.lst (List.map V.ref lps))
  hb:G b = some (.lst (List.map V.int (bs.map fun i:Nat=>(i:Int))))
  eb:(List.range ms.length).filter (fun i=>decide (lss[i]? ≠ fms[i]?)) = bs
  hh:G hd = some (.lst (List.map V.ref hps))
  hr:RhAt G hps lss
section
variable {K:PySem.W.Frag} {Q:VK} {G G':Hp} {a s t m L b hd:Addr} {ns:List Int} {ms:List Nat} {cont:List Nat → List V} {un:List Nat → List Int} {fps:List Addr} {fms:List (List (Int × Int))} {pss:List (List Int)} {lps hps:List Addr} {lss:List (List (Int × Int))} {bs:List Nat}
theorem LsAt.same {k:Nat} (z:LsAt G L ms fms lps lss k) (e:Same G G'):LsAt G' L ms fms lps lss k:=⟨z.hr.same e, z.len, z.ok⟩
theorem LvAt.same (h:LvAt K G a s t m L b hd ns ms cont un fps fms pss lps hps lss bs) (e:Same G G'):LvAt K G' a s t m L b hd ns ms cont un fps fms pss lps hps lss bs:=⟨h.w.same e, h.z.same e, e _ _ h.hL, e _ _ h.hb, h.eb, e _ _ h.hh, h.hr.same e⟩
theorem rd_law_r2 {D:Ends} {w:Nat} (h:LvAt K G a s t m L b hd ns ms cont un fps fms pss lps hps lss bs) (hw:w < 2 + ms.length)
    (k:∀ H', Same G H' → D.nx [some (.ref a), some (.ref s), some (.ref t), some (.ref m), some (.ref L), some (.ref b), some (.ref hd), some (.int w)] H') :
    t_law_r2 K D [some (.ref a), some (.ref s), some (.ref t), some (.ref m), some (.ref L), some (.ref b), some (.ref hd), some (.int w)] G:=by
  (try dsimp? [t_law_r2, rNeD]; try simp_arith [t_law_r2, rNeD])
  refine ⟨true, req_rowsF (SqL.of h.hh) (SqL.of h.hL) h.hr.rf h.z.hr.rf, iteF ?_⟩
  obtain ⟨mx, all⟩:=h.w.mx
  refine ⟨t, m, w, ms, cont, fps, fms, rfl, hw, h.w.tab, mx, fun _=>⟨un, pss, h.w.gn, fun l zs H' s' hl'=>?_⟩, all.xm⟩
  exact ⟨_, _, true, rfl, .inr ⟨l, _, rfl, hl', rfl, rfl⟩, true, rfl, iteF (k H' s')⟩
theorem rd_law_r3 {o7:Option V} (k:∀ H', Q (.bl true) H') (h:LvAt K G a s t m L b hd ns ms cont un fps fms pss lps hps lss bs) :
    t_law_r3 K { nx:=fun _ H'=>Q .non H', rt:=Q } [some (.ref a), some (.ref s), some (.ref t), some (.ref m), some (.ref L), some (.ref b), some (.ref hd), o7] G:=by
  have n3:=h.w.sz.len
  (try dsimp? [t_law_r3, tFor, iRng1]; try simp_arith [t_law_r3, tFor, iRng1])
  refine ⟨_, .inl (SqL.of h.w.ss), ?_⟩
  rw [tv_len, show ((2:Int) + (ms.length:Int)).toNat = 2 + ms.length by omega]
  refine ⟨by omega, by omega, for_range (lo:=0) (n:=2 + ms.length) (g:=gName 7) (D:={ nx:=t_law_r1 K { nx:=fun _ H'=>Q .non H', rt:=Q }, rt:=Q }) (iv_law a s t m L b hd G) ⟨_, rfl, Same.refl _⟩ ?_ ?_⟩
  · rintro w σ H3 hw ⟨o7, rfl, s3⟩
    (try dsimp? [t_law_b1, rNeD]; try simp_arith [t_law_b1, Int.zero_add, rNeD])
    refine ⟨sz0, fun p hp=>?_⟩
    have s4:=Same.upd (o:=HO.lst []) hp
    have p4:(upd H3 p (HO.lst [])) p = some (HO.lst (List.map V.int [])):=upd_same
    generalize upd H3 p (HO.lst []) = H4 at s4 p4
    have s34:=s3.trans s4
    have h4:=h.same s34
    refine ⟨_, REq.ints (SqL.of h4.hb) (SqL.of p4), ?_⟩
    cases bs with
    | nil =>
      rw [decide_eq_true (show List.map (fun i:Nat=>(i:Int)) [] = [] from rfl)]
      refine iteF (iteF ?_)
      exact rd_law_r2 h4 hw fun H' s'=>⟨_, rfl, s34.trans s'⟩
    | cons b0 br =>
      rw [decide_eq_false (show ¬ List.map (fun i:Nat=>(i:Int)) (b0 :: br) = [] by simp)]
      refine iteT ⟨_, SqL.of h4.hb, V.int b0, atI0, t, hd, w, b0, ms, cont, hps, lss, rfl, hw, h4.w.tab, ⟨h4.hh, h4.hr.rf, h4.z.len, n3, fun i n row e1 e2=>?_⟩, LsAt.bad h4.w h4.z h4.eb, fun H5 s5=>⟨true, rfl, iteF ?_⟩⟩
      · have hi:i < fms.length:=by have:=(List.getElem?_eq_some_iff.mp e1).1; have:=h4.w.ml; omega
        have:=h4.z.ok i n row _ e2 e1 (List.getElem?_eq_getElem hi)
        exact ⟨this.1, this.2.1⟩
      · exact rd_law_r2 (h4.same s5) hw fun H' s'=>⟨_, rfl, (s34.trans s5).trans s'⟩
  · rintro σ H3 ⟨o7, rfl, s3⟩
    (try dsimp? [t_law_r1]; try simp_arith [t_law_r1])
    exact k _
theorem rd_law_r4 {o7:Option V} (x:ExK K "NoMixing" ["hand"]) (k:∀ H', Q (.bl true) H') (h:LvAt K G a s t m L b hd ns ms cont un fps fms pss lps hps lss bs) :
    t_law_r4 K { nx:=fun _ H'=>Q .non H', rt:=Q } [some (.ref a), some (.ref s), some (.ref t), some (.ref m), some (.ref L), some (.ref b), some (.ref hd), o7] G:=by
  (try dsimp? [t_law_r4, tMakeE, tFldX]; try simp_arith [t_law_r4, tMakeE, tFldX])
  refine ⟨a, ns, 7, rfl, h.w.sc, by decide, _, rfl, by decide, sz1, fun e ws a0 fr w0 w1=>⟨e, _, ws, rfl, upd_same, fun dx H' sb he hdx ne hd'=>⟨rfl, ?_⟩⟩⟩
  have s1:Same G H':=fun b u hb=>sb b u (by rw [upd_ne (ne_of_none hb fr)]; exact hb) (ne_of_none hb fr)
  have h1:=h.same s1
  refine ⟨_, x.get _ (.head _), dx, .inl ⟨ws, he⟩, _, hd', _, noM_hand _, a, ns, 7, rfl, h1.w.sc, by decide, _, rfl, by decide, rfl, iteNS rfl ?_⟩
  exact rd_law_r3 k h1
theorem rd_law_r5 {o6 o7:Option V} (x:ExK K "NoMixing" ["hand"]) (k:∀ H', Q (.bl true) H') (w:LwAt K G a s t m ns ms cont un fps fms pss) (z:LsAt G L ms fms lps lss ms.length) (hL:G L = some (.lst (List.map V.ref lps))) (hb:G b = some (.lst (List.map V.int (bs.map fun i:Nat=>(i:Int))))) (eb:(List.range ms.length).filter (fun i=>decide (lss[i]? ≠ fms[i]?)) = bs) :
    t_law_r5 K { nx:=fun _ H'=>Q .non H', rt:=Q } [some (.ref a), some (.ref s), some (.ref t), some (.ref m), some (.ref L), some (.ref b), o6, o7] G:=by
  have n3:=w.sz.len
  have ll:=z.hr.length
  have zl:=z.len
  (try dsimp? [t_law_r5, tComp, iList]; try simp_arith [t_law_r5, tComp, iList])
  refine ⟨⟨_, SqL.of hL⟩, comp_list (K:=K) (a:=L) (xs:=List.map V.ref lps) (fun i zs H3=>Same G H3 ∧ ∃ hps, zs = List.map V.ref hps ∧ RhAt H3 hps (lss.take i)) ?_ ⟨Same.refl _, [], rfl, trivial⟩ ?_ ?_ ?_⟩
  · rw [List.length_map, sizeLine_eq]; omega
  · rintro i zs H3 _ ⟨s3, _⟩
    exact SqL.of (s3 _ _ hL)
  · rintro i y zs H3 hi _ ⟨s3, hps, rfl, hr⟩
    obtain ⟨p, rfl, hp⟩:=get_refs hi
    obtain ⟨row, qs, er, hrow, hf⟩:=(z.hr.same s3).get hp
    (try dsimp? [t_law_c1, cList, caught, List.map_cons, List.map_nil, Option.join_some]; try simp_arith [t_law_c1, cList, caught, List.map_cons, List.map_nil, Option.join_some])
    refine ⟨_, .inl (SqL.of hrow), fun l hl=>⟨s3.trans (Same.upd hl), hps ++ [l], by rw [List.map_append]; rfl, ?_⟩⟩
    rw [take_snoc er]
    exact (hr.same (Same.upd hl)).snoc upd_same (hf.same (Same.upd hl))
  · rintro zs H3 _ ⟨s3, hps, rfl, hr⟩ hd hhd
    rw [List.length_map, ll, List.take_length] at hr
    have s4:=s3.trans (Same.upd (o:=HO.lst (List.map V.ref hps)) hhd)
    exact rd_law_r4 x k ⟨w.same s4, z.same s4, s4 _ _ hL, s4 _ _ hb, eb, upd_same, hr.same (Same.upd hhd)⟩
theorem rd_law_r6 {o5 o6 o7:Option V} (x:ExK K "NoMixing" ["hand"]) (k:∀ H', Q (.bl true) H') (w:LwAt K G a s t m ns ms cont un fps fms pss) (z:LsAt G L ms fms lps lss ms.length) (hL:G L = some (.lst (List.map V.ref lps))) :
    t_law_r6 K { nx:=fun _ H'=>Q .non H', rt:=Q } [some (.ref a), some (.ref s), some (.ref t), some (.ref m), some (.ref L), o5, o6, o7] G:=by
  have n3:=w.sz.len
  (try dsimp? [t_law_r6, tCompI, iRng1]; try simp_arith [t_law_r6, tCompI, iRng1])
  refine ⟨_, .inl (SqL.of w.ss), ?_⟩
  rw [tv_len, Int.toNat_natCast]
  refine ⟨by omega, by omega, comp_rangeI (lo:=0) (W:=fun j zs H'=>H' = G ∧ zs = List.map V.int (((List.range j).filter (fun i=>decide (lss[i]? ≠ fms[i]?))).map fun i:Nat=>(i:Int))) (small (by omega)) ⟨rfl, rfl⟩ ?_ ?_⟩
  · rintro j zs H' hj _ ⟨rfl, rfl⟩
    have j1:j < lps.length:=by rw [z.hr.length, z.len]; exact hj
    have j2:j < fps.length:=by rw [w.hr.length, w.ml]; exact hj
    have e1:lps[j]? = some lps[j]:=List.getElem?_eq_getElem j1
    have e2:fps[j]? = some fps[j]:=List.getElem?_eq_getElem j2
    obtain ⟨row, qs, er, hrow, hf⟩:=z.hr.get e1
    obtain ⟨fr, us, ef, hfr, hg⟩:=w.hr.get e2
    (try dsimp? [t_law_c2, rNeD, caught, List.map_cons, List.map_nil, Option.join_some]; try simp_arith [t_law_c2, rNeD, caught, List.map_cons, List.map_nil, Option.join_some, Int.zero_add])
    refine ⟨_, SqL.of hL, _, atR e1, _, SqL.of w.hm, _, atR e2, _, req_fracsB (SqL.of hrow) (SqL.of hfr) hf hg, ?_⟩
    have fj:List.filter (fun i=>decide (lss[i]? ≠ fms[i]?)) [j] = if row = fr then [] else [j]:=by
      simp only [List.filter_cons, List.filter_nil]
      rw [er, ef]
      by_cases e:row = fr <;> simp [e]
    rw [List.range_succ, List.filter_append, fj]
    by_cases e:row = fr
    · rw [decide_eq_true e, if_pos e, List.append_nil]
      exact iteF rfl
    · rw [decide_eq_false e, if_neg e, List.map_append, List.map_append]
      exact iteT rfl
  · rintro zs H' ⟨rfl, rfl⟩ b hb
    have s1:=Same.upd (o:=HO.lst (List.map V.int (((List.range ms.length).filter (fun i=>decide (lss[i]? ≠ fms[i]?))).map fun i:Nat=>(i:Int)))) hb
    exact rd_law_r5 x k (w.same s1) (z.same s1) (s1 _ _ hL) upd_same rfl
theorem rd_law_r7 {o4 o5 o6 o7:Option V} (x:ExK K "NoMixing" ["hand"]) (k:∀ H', Q (.bl true) H') (w:LwAt K G a s t m ns ms cont un fps fms pss) :
    t_law_r7 K { nx:=fun _ H'=>Q .non H', rt:=Q } [some (.ref a), some (.ref s), some (.ref t), some (.ref m), o4, o5, o6, o7] G:=by
  have n3:=w.sz.len
  (try dsimp? [t_law_r7, tComp, iRng1]; try simp_arith [t_law_r7, tComp, iRng1])
  refine ⟨_, .inl (SqL.of w.ss), ?_⟩
  rw [tv_len, Int.toNat_natCast]
  refine ⟨by omega, by omega, comp_range (lo:=0) (W:=fun j zs H'=>Same G H' ∧ ∃ lps lss, zs = List.map V.ref lps ∧ LsAt H' 0 ms fms lps lss j) (small (by omega)) ⟨Same.refl _, [], [], rfl, trivial, rfl, fun i n row fr e=>by simp at e⟩ ?_ ?_⟩
  · rintro j zs H' hj _ ⟨s1, lps, lss, rfl, z⟩
    have w1:=w.same s1
    have e1:ms[j]? = some ms[j]:=List.getElem?_eq_getElem hj
    have j2:j < fps.length:=by rw [w.hr.length, w.ml]; exact hj
    have e2:fps[j]? = some fps[j]:=List.getElem?_eq_getElem j2
    obtain ⟨fr, us, ef, hfr, hg⟩:=w1.hr.get e2
    obtain ⟨fl, n1, n6, gd, mx⟩:=w.row e1 ef
    (try dsimp? [t_law_c3, caught, List.map_cons, List.map_nil, Option.join_some]; try simp_arith [t_law_c3, caught, List.map_cons, List.map_nil, Option.join_some, Int.zero_add])
    refine ⟨_, SqL.of w1.hm, _, atR e2, a, ns, 4 + (j:Int), rfl, w1.sc, by omega, ⟨by decide, by decide, by decide⟩, _, rfl, by decide, fps[j], us, fr, _, rfl, SqL.of hfr, hg, gd, by omega, by omega, by rw [fl]; exact mx, fun l' ps' fs' H3 s3 hl3 hf3 g3 k7 alt=>⟨s1.trans s3, lps ++ [l'], by rw [List.map_append]; rfl, lss ++ [fs'], (z.hr.same s3).snoc hl3 hf3, by rw [List.length_append, z.len]; rfl, fun i n row fr' e4 e5 e6=>?_⟩⟩
    rcases get_snoc e4 with ⟨e4, _⟩ | ⟨ei, rfl⟩
    · exact z.ok i n row fr' e4 e5 e6
    · rw [z.len] at ei
      subst ei
      rw [ef] at e6
      obtain rfl:=Option.some.inj e6
      rw [e1] at e5
      obtain rfl:=Option.some.inj e5
      rw [fl] at alt
      exact ⟨g3, k7, alt⟩
  · rintro zs H' _ ⟨s1, lps, lss, rfl, z⟩ L hL
    have s2:=s1.trans (Same.upd (o:=HO.lst (List.map V.ref lps)) hL)
    have z2:=z.same (Same.upd (o:=HO.lst (List.map V.ref lps)) hL)
    exact rd_law_r6 x k (w.same s2) ⟨z2.hr, z2.len, z2.ok⟩ upd_same
end
theorem rd_law {K vs H Q E} (x:ExK K "NoMixing" ["hand"]) (h:sp_law K vs H Q E):t_law K { nx:=fun _ H'=>Q .non H', rt:=Q } (start N_law vs) H:=by
  obtain ⟨a, ns, rfl, hS, hl, k⟩:=h
  rw [show start N_law [V.ref a] = [some (.ref a), none, none, none, none, none, none, none] from rfl]
  (try dsimp? [t_law, tMake, cList]; try simp_arith [t_law, tMake, cList])
  refine ⟨a, ns, rfl, hS, fun s ms H1 s1 hs hS1 sz h2=>?_⟩
  refine ⟨s, rfl, _, .inl (SqL.of hS1), fun l hl1=>?_⟩
  have h3:=sz.len
  have ol:=sz.rev.ord
  have s2:=Same.upd (o:=HO.lst (tv ms)) hl1
  have l2:(upd H1 l (HO.lst (tv ms))) l = some (HO.lst (tv ms)):=upd_same
  generalize upd H1 l (HO.lst (tv ms)) = H2 at s2 l2
  refine ⟨s, ms, rfl, SqL.of (s2 _ _ hS1), sz, fun o xs H3 s3 ho hO ps=>?_⟩
  refine ⟨s, rfl, _, .inl (SqL.of (s3 _ _ (s2 _ _ hS1))), ?_⟩
  rw [tv_len]
  refine ⟨a, ns, o, xs, ordR ms.reverse, ms.length, rfl, ((s1.trans s2).trans s3).seq hS, hO, ps, ordR_nodup _, ol, h3, fun d kv cont un H5 s5 hd4 hd5 C5=>?_⟩
  have okq:∀ q ∈ ordR ms.reverse, Cells H5 kv cont q ∧ EnOk K H5 (cont q) (un q) ms.length:=fun q hq=>C5.2.1 q (by rw [List.take_length]; exact hq)
  intro t dx ht hdx ne
  have s6:Same H5 (upd (upd H5 dx (.own t)) t (.ins (gadr K "Table") dx [])):=(Same.upd hdx).put ht
  have t6:(upd (upd H5 dx (.own t)) t (.ins (gadr K "Table") dx [])) t = some (.ins (gadr K "Table") dx []):=upd_same
  generalize (upd (upd H5 dx (.own t)) t (.ins (gadr K "Table") dx [])) = H6 at s6 t6
  refine ⟨t, dx, l, d, ms, kv, cont, rfl, t6, SqL.of (s6 _ _ (s5 _ _ (s3 _ _ l2))), h2, sz, s6 _ _ hd5, fun q hq=>(okq q hq).1.same s6, fun q hq=>?_, C5.1, fun H7 b7 tab=>⟨rfl, ?_⟩⟩
  · obtain ⟨rps, fs, e1, e2, e3, _⟩:=(okq q hq).2
    rw [e1, List.length_map, e2.length, e3]
  have s7:Same H5 H7:=fun b u e=>b7 b u (s6 b u e) (ne_of_none e ht)
  have sA:=((s1.trans s2).trans s3).trans (s5.trans s7)
  have hs7:=((s2.trans s3).trans (s5.trans s7)) _ _ hS1
  have en7:∀ q ∈ ordR ms.reverse, EnOk K H7 (cont q) (un q) ms.length:=fun q hq=>(okq q hq).2.same s7
  have hS7:=sA.seq hS
  clear s1 s2 s3 s5 s6 s7 sA hs hS1 ho hO ps hS hl1 l2 hd4 hd5 C5 okq t6 b7 ht hdx
  (try dsimp? [t_law_r8]; try simp_arith [t_law_r8])
  refine ⟨a, ns, s, ms, rfl, hS7, hs7, sz, h2, fun p mps pss H8 s8 hm7 hm8 hr8 P=>?_⟩
  have p3:pss.length ≤ 3:=by rw [P.len]; exact h3
  have prow:∀ row ∈ pss, row.length ≤ 6 ∧ 0 < row.sum ∧ BB 400 row.sum:=fun row hrow=>by
    obtain ⟨i, hi⟩:=List.getElem?_of_mem hrow
    obtain ⟨n, _, n6, rl, rb, rs⟩:=P.row sz hi
    exact ⟨by omega, rs, (bb_sum rb (by omega)).mono (by decide)⟩
  refine ⟨p, mps, pss, rfl, hm8, hr8, p3, prow, fun f fps fms H9 s9 hf8 hf9 hrf mo _=>?_⟩
  have s79:=s8.trans s9
  exact rd_law_r7 x k ⟨s79.seq hS7, s79 _ _ hs7, sz, h2, tab.same s79, fun q hq=>(en7 q hq).same s79, hf9, hrf, mo, P⟩

noncomputable def top (i:Nat):Stmt:=PySem.Challenge.pw_mixplay_k15_no_mixing.main.body.getD i (.Pass ⟨0, 0, 0, 0⟩)
noncomputable abbrev s_l_cell_at:Stmt:=top 37
noncomputable abbrev s_l_sizes:Stmt:=top 41
noncomputable abbrev s_check_sizes:Stmt:=top 22
noncomputable abbrev s_one_of_each:Stmt:=top 20
noncomputable abbrev s_in_order:Stmt:=top 21
noncomputable abbrev s_check_cells:Stmt:=top 23
noncomputable abbrev s_Table_init:Stmt:=inClass (top 24) 0
noncomputable abbrev s_l_cells:Stmt:=top 44
noncomputable abbrev s_l_play:Stmt:=top 42
noncomputable abbrev s_l_order:Stmt:=top 43
noncomputable abbrev s_l_divisor:Stmt:=top 39
noncomputable abbrev s_l_lowest:Stmt:=top 40
noncomputable abbrev s_l_mixings:Stmt:=top 46
noncomputable abbrev s_l_parts:Stmt:=top 45
noncomputable abbrev s_l_more:Stmt:=top 47
noncomputable abbrev s_l_spoiled:Stmt:=top 48
noncomputable abbrev s_NoMixing_init:Stmt:=inClass (top 9) 0
noncomputable abbrev s_Table_sizes:Stmt:=inClass (top 24) 1
noncomputable abbrev s_below:Stmt:=top 16
noncomputable abbrev s_divisor:Stmt:=top 11
noncomputable abbrev s_ratio:Stmt:=top 12
noncomputable abbrev s_plus:Stmt:=top 13
noncomputable abbrev s_summed:Stmt:=top 17
noncomputable abbrev s_is_mixing:Stmt:=top 29
noncomputable abbrev s_check_mixings:Stmt:=top 30
noncomputable abbrev s_Table_plays:Stmt:=inClass (top 24) 2
noncomputable abbrev s_times:Stmt:=top 15
noncomputable abbrev s_chance:Stmt:=top 31
noncomputable abbrev s_Table_earned:Stmt:=inClass (top 24) 3
noncomputable abbrev s_earned_by:Stmt:=top 32
noncomputable abbrev s_minus:Stmt:=top 14
noncomputable abbrev s_greatest:Stmt:=top 18
noncomputable abbrev s_rests:Stmt:=top 26
noncomputable abbrev s_joined:Stmt:=top 25
noncomputable abbrev s_earned_with:Stmt:=top 27
noncomputable abbrev s_answer:Stmt:=top 33
noncomputable abbrev s_answers:Stmt:=top 34
noncomputable abbrev s_gains:Stmt:=top 35
noncomputable abbrev s_l_asked:Stmt:=top 49
noncomputable abbrev s_l_whole:Stmt:=top 38
noncomputable abbrev s_l_refused:Stmt:=top 50
noncomputable abbrev s_law:Stmt:=top 51
structure Bn (K:PySem.W.Frag) (mg:Str → Option Value) (x:Str) (st:Stmt) (f:Addr) (fd:FuncData) (ps:List Str):Prop where
  F:Fun K x x st f fd
  b:Binds K fd ps []
  m:mg x = some (.ref f)
structure BnM (K:PySem.W.Frag) (C:Addr) (m q:Str) (st:Stmt) (f:Addr) (fd:FuncData) (ps:List Str):Prop where
  F:Fun K m q st f fd
  b:Binds K fd ps []
  m:Meth K C m f
set_option genInjectivity false in
set_option genSizeOf false in
structure Ad where
  f_l_cell_at:Addr
  d_l_cell_at:FuncData
  f_l_sizes:Addr
  d_l_sizes:FuncData
  f_check_sizes:Addr
  d_check_sizes:FuncData
  f_one_of_each:Addr
  d_one_of_each:FuncData
  f_in_order:Addr
  d_in_order:FuncData
  f_check_cells:Addr
  d_check_cells:FuncData
  f_Table_init:Addr
  d_Table_init:FuncData
  f_l_cells:Addr
  d_l_cells:FuncData
  f_l_play:Addr
  d_l_play:FuncData
  f_l_order:Addr
  d_l_order:FuncData
  f_l_divisor:Addr
  d_l_divisor:FuncData
  f_l_lowest:Addr
  d_l_lowest:FuncData
  f_l_mixings:Addr
  d_l_mixings:FuncData
  f_l_parts:Addr
  d_l_parts:FuncData
  f_l_more:Addr
  d_l_more:FuncData
  f_l_spoiled:Addr
  d_l_spoiled:FuncData
  f_NoMixing_init:Addr
  d_NoMixing_init:FuncData
  f_Table_sizes:Addr
  d_Table_sizes:FuncData
  f_below:Addr
  d_below:FuncData
  f_divisor:Addr
  d_divisor:FuncData
  f_ratio:Addr
  d_ratio:FuncData
  f_plus:Addr
  d_plus:FuncData
  f_summed:Addr
  d_summed:FuncData
  f_is_mixing:Addr
  d_is_mixing:FuncData
  f_check_mixings:Addr
  d_check_mixings:FuncData
  f_Table_plays:Addr
  d_Table_plays:FuncData
  f_times:Addr
  d_times:FuncData
  f_chance:Addr
  d_chance:FuncData
  f_Table_earned:Addr
  d_Table_earned:FuncData
  f_earned_by:Addr
  d_earned_by:FuncData
  f_minus:Addr
  d_minus:FuncData
  f_greatest:Addr
  d_greatest:FuncData
  f_rests:Addr
  d_rests:FuncData
  f_joined:Addr
  d_joined:FuncData
  f_earned_with:Addr
  d_earned_with:FuncData
  f_answer:Addr
  d_answer:FuncData
  f_answers:Addr
  d_answers:FuncData
  f_gains:Addr
  d_gains:FuncData
  f_l_asked:Addr
  d_l_asked:FuncData
  f_l_whole:Addr
  d_l_whole:FuncData
  f_l_refused:Addr
  d_l_refused:FuncData
  f_law:Addr
  d_law:FuncData
structure Tx (K:PySem.W.Frag) (mg:Str → Option Value) (a:Ad):Prop where
  l_cell_at:Bn K mg "_law_cell_at" s_l_cell_at a.f_l_cell_at a.d_l_cell_at ["_law_script", "_law_k"]
  l_sizes:Bn K mg "_law_sizes" s_l_sizes a.f_l_sizes a.d_l_sizes ["_law_script"]
  check_sizes:Bn K mg "check_sizes" s_check_sizes a.f_check_sizes a.d_check_sizes ["sizes"]
  one_of_each:Bn K mg "one_of_each" s_one_of_each a.f_one_of_each a.d_one_of_each ["lists"]
  in_order:Bn K mg "in_order" s_in_order a.f_in_order a.d_in_order ["sizes"]
  check_cells:Bn K mg "check_cells" s_check_cells a.f_check_cells a.d_check_cells ["cells", "plays", "hands"]
  Table_init:BnM K (gadr K "Table") "__init__" "Table.__init__" s_Table_init a.f_Table_init a.d_Table_init ["self", "sizes", "cells"]
  l_cells:Bn K mg "_law_cells" s_l_cells a.f_l_cells a.d_l_cells ["_law_script", "_law_order_here", "_law_hands"]
  l_play:Bn K mg "_law_play" s_l_play a.f_l_play a.d_l_play ["_law_sizes_here", "_law_number"]
  l_order:Bn K mg "_law_order" s_l_order a.f_l_order a.d_l_order ["_law_sizes_here"]
  l_divisor:Bn K mg "_law_divisor" s_l_divisor a.f_l_divisor a.d_l_divisor ["_law_one", "_law_other"]
  l_lowest:Bn K mg "_law_lowest" s_l_lowest a.f_l_lowest a.d_l_lowest ["_law_top", "_law_bottom"]
  l_mixings:Bn K mg "_law_mixings" s_l_mixings a.f_l_mixings a.d_l_mixings ["_law_parts_here"]
  l_parts:Bn K mg "_law_parts" s_l_parts a.f_l_parts a.d_l_parts ["_law_script", "_law_sizes_here"]
  l_more:Bn K mg "_law_more" s_l_more a.f_l_more a.d_l_more ["_law_one", "_law_top", "_law_bottom"]
  l_spoiled:Bn K mg "_law_spoiled" s_l_spoiled a.f_l_spoiled a.d_l_spoiled ["_law_weights", "_law_cell"]
  NoMixing_init:BnM K (gadr K "NoMixing") "__init__" "NoMixing.__init__" s_NoMixing_init a.f_NoMixing_init a.d_NoMixing_init ["self", "hand"]
  Table_sizes:BnM K (gadr K "Table") "sizes" "Table.sizes" s_Table_sizes a.f_Table_sizes a.d_Table_sizes ["self"]
  below:Bn K mg "below" s_below a.f_below a.d_below ["one", "other"]
  divisor:Bn K mg "divisor" s_divisor a.f_divisor a.d_divisor ["one", "other"]
  ratio:Bn K mg "ratio" s_ratio a.f_ratio a.d_ratio ["top", "bottom"]
  plus:Bn K mg "plus" s_plus a.f_plus a.d_plus ["one", "other"]
  summed:Bn K mg "summed" s_summed a.f_summed a.d_summed ["fractions"]
  is_mixing:Bn K mg "is_mixing" s_is_mixing a.f_is_mixing a.d_is_mixing ["weights", "many"]
  check_mixings:Bn K mg "check_mixings" s_check_mixings a.f_check_mixings a.d_check_mixings ["table", "mixings"]
  Table_plays:BnM K (gadr K "Table") "plays" "Table.plays" s_Table_plays a.f_Table_plays a.d_Table_plays ["self"]
  times:Bn K mg "times" s_times a.f_times a.d_times ["one", "other"]
  chance:Bn K mg "chance" s_chance a.f_chance a.d_chance ["choices", "mixings"]
  Table_earned:BnM K (gadr K "Table") "earned" "Table.earned" s_Table_earned a.f_Table_earned a.d_Table_earned ["self", "play"]
  earned_by:Bn K mg "earned_by" s_earned_by a.f_earned_by a.d_earned_by ["table", "mixings"]
  minus:Bn K mg "minus" s_minus a.f_minus a.d_minus ["one", "other"]
  greatest:Bn K mg "greatest" s_greatest a.f_greatest a.d_greatest ["fractions"]
  rests:Bn K mg "rests" s_rests a.f_rests a.d_rests ["table", "hand"]
  joined:Bn K mg "joined" s_joined a.f_joined a.d_joined ["rest", "hand", "choice"]
  earned_with:Bn K mg "earned_with" s_earned_with a.f_earned_with a.d_earned_with ["table", "rest", "hand", "choice"]
  answer:Bn K mg "answer" s_answer a.f_answer a.d_answer ["table", "others", "hand", "choice"]
  answers:Bn K mg "answers" s_answers a.f_answers a.d_answers ["table", "mixings", "hand"]
  gains:Bn K mg "gains" s_gains a.f_gains a.d_gains ["table", "mixings"]
  l_asked:Bn K mg "_law_asked" s_l_asked a.f_l_asked a.d_l_asked ["_law_table", "_law_mixings_here", "_law_way"]
  l_whole:Bn K mg "_law_whole" s_l_whole a.f_l_whole a.d_l_whole ["_law_found"]
  l_refused:Bn K mg "_law_refused" s_l_refused a.f_l_refused a.d_l_refused ["_law_table", "_law_mixings_here", "_law_way", "_law_hand"]
  law:Bn K mg "law" s_law a.f_law a.d_law ["_law_script"]
  n_ValueError:mg "ValueError" = none
  n_abs:mg "abs" = none
  n_bool:mg "bool" = none
  n_enumerate:mg "enumerate" = none
  n_int:mg "int" = none
  n_isinstance:mg "isinstance" = none
  n_len:mg "len" = none
  n_list:mg "list" = none
  n_range:mg "range" = none
  n_reversed:mg "reversed" = none
  n_sum:mg "sum" = none
  n_zip:mg "zip" = none
  c_NoChoice:mg "NoChoice" = some (.ref (gadr K "NoChoice"))
  c_NoMixing:mg "NoMixing" = some (.ref (gadr K "NoMixing"))
  c_NoNumber:mg "NoNumber" = some (.ref (gadr K "NoNumber"))
  c_NoOrder:mg "NoOrder" = some (.ref (gadr K "NoOrder"))
  c_NoPlan:mg "NoPlan" = some (.ref (gadr K "NoPlan"))
  c_NoStart:mg "NoStart" = some (.ref (gadr K "NoStart"))
  c_NoTable:mg "NoTable" = some (.ref (gadr K "NoTable"))
  c_NotTwo:mg "NotTwo" = some (.ref (gadr K "NotTwo"))
  c_PlayError:mg "PlayError" = some (.ref (gadr K "PlayError"))
  c_Table:mg "Table" = some (.ref (gadr K "Table"))
  me_NoMixing:MkE K (gadr K "NoMixing") a.f_NoMixing_init
  xk:ExK K "NoMixing" ["hand"]
  exm:PySem.W.exmOne K (.ref (gadr K "NoMixing")) (.ref (gadr K "PlayError")) = some true
  xt:XT K "NoMixing" ["NoNumber", "NoTable", "NoStart", "NoOrder", "NotTwo", "NoPlan", "NoChoice"]
  mk_Table:Mk K (gadr K "Table") a.f_Table_init
  tt:TabK K
section
variable {P:Program} {w:World} {K:PySem.W.Frag} {mg:Str → Option Value} {base:Heap} {a:Ad}
theorem sc_l_cell_at:FnScope N_l_cell_at ["_law_script", "_law_k"] (defScope s_l_cell_at):=⟨rfl, rfl, rfl, by decide +kernel, rfl, by decide +kernel, by decide +kernel⟩
theorem ok_l_cell_at (T:Tx K mg a):FnOk P w K mg base CX0 1 a.f_l_cell_at a.d_l_cell_at ["_law_script", "_law_k"] (sp_l_cell_at K):=by
  refine T.l_cell_at.F.ok sc_l_cell_at (fun vs H Q E h=>len_l_cell_at h) (fun cdv A outer s H vs Q E hr h=>⟨t_l_cell_at K, (pss_cons (ps_if (pt_cmpR op_lt (pv 1) (pe_callB call_len_seq rfl T.n_len bt_len (pa_cons (pv 0) pa_nil)) (nomark _)) (pss_one (ps_ret (pe_ix ix_list (pv 0) (pv 1) (fun _ _=>rfl)))) pss_nil) (pss_one (ps_ret pe_int))), rd_l_cell_at h⟩)
theorem sc_l_sizes:FnScope N_l_sizes ["_law_script"] (defScope s_l_sizes):=⟨rfl, rfl, rfl, by decide +kernel, rfl, by decide +kernel, by decide +kernel⟩
theorem ok_l_sizes (T:Tx K mg a):FnOk P w K mg base CX0 2 a.f_l_sizes a.d_l_sizes ["_law_script"] (sp_l_sizes K):=by
  refine T.l_sizes.F.ok sc_l_sizes (fun vs H Q E h=>len_l_sizes h) (fun cdv A outer s H vs Q E hr h=>⟨t_l_sizes K, (pss_cons (ps_set (i:=1) sc_l_sizes.nd rfl (Or.inr rfl) (pe_op op_add pe_int (pe_op op_mod (pe_call (ok_l_cell_at T) (hr.mono (by decide)) rfl T.l_cell_at.m T.l_cell_at.F.kp T.l_cell_at.b .nil pass0 (pa_cons (pv 0) (pa_cons pe_int pa_nil))) pe_int))) (pss_one (ps_ret (pe_comp (FS:=defScope s_l_sizes) (N:=N_l_sizes) (x:="_law_k") (ys:=["_law_script", "_law_hands"]) (caps:=[0, 1]) ⟨by decide +kernel, rfl, by decide +kernel, rfl, by decide +kernel, rfl, by decide +kernel, rfl, by decide +kernel⟩ rfl rfl rfl (pi_range1 rfl T.n_range (pa_cons (pv 1) pa_nil)) (fun _ _ _ _=>(pe_op op_add pe_int (pe_op op_mod (pe_call (ok_l_cell_at T) (hr.mono (by decide)) rfl T.l_cell_at.m T.l_cell_at.F.kp T.l_cell_at.b .nil pass0 (pa_cons (pv 1) (pa_cons (pe_op op_add pe_int (pv 0)) pa_nil))) (pe_op op_sub pe_int (pv 2))))))))), rd_l_sizes h⟩)
theorem sc_check_sizes:FnScope N_check_sizes ["sizes"] (defScope s_check_sizes):=⟨rfl, rfl, rfl, by decide +kernel, rfl, by decide +kernel, by decide +kernel⟩
theorem ok_check_sizes (T:Tx K mg a):FnOk P w K mg base CX0 1 a.f_check_sizes a.d_check_sizes ["sizes"] (sp_check_sizes K):=by
  refine T.check_sizes.F.ok sc_check_sizes (fun vs H Q E h=>len_check_sizes h) (fun cdv A outer s H vs Q E hr h=>⟨t_check_sizes K, (pss_cons (ps_if (PW.pt (pw_or (pt_cmpR op_lt (pe_callB call_len_seq rfl T.n_len bt_len (pa_cons (pv 0) pa_nil)) pe_int (nomark _)) (pw_or1 (pt_cmpR op_gt (pe_callB call_len_seq rfl T.n_len bt_len (pa_cons (pv 0) pa_nil)) pe_int (nomark _))))) (pss_one ps_never) pss_nil) (pss_one (ps_for PassesOwn.never rfl (pi_list (pv 0)) (pg_name (i:=1) sc_check_sizes.nd rfl (Or.inl rfl)) (pss_one (ps_if (PW.pt (pw_or (pt_cmpR op_lt (pv 1) pe_int (nomark _)) (pw_or1 (pt_cmpR op_gt (pv 1) pe_int (nomark _))))) (pss_one ps_never) pss_nil))))), rd_check_sizes h⟩)
theorem sc_one_of_each:FnScope N_one_of_each ["lists"] (defScope s_one_of_each):=⟨rfl, rfl, rfl, by decide +kernel, rfl, by decide +kernel, by decide +kernel⟩
theorem ok_one_of_each (T:Tx K mg a):FnOk P w K mg base CX0 1 a.f_one_of_each a.d_one_of_each ["lists"] (sp_one_of_each K):=by
  refine T.one_of_each.F.ok sc_one_of_each (fun vs H Q E h=>len_one_of_each h) (fun cdv A outer s H vs Q E hr h=>⟨t_one_of_each K, (pss_cons (ps_set (i:=1) sc_one_of_each.nd rfl (Or.inl rfl) (pe_lst (pa_cons (pe_tup pa_nil) pa_nil))) (pss_cons (ps_for PassesOwn.never rfl (pi_list (pv 0)) (pg_name (i:=2) sc_one_of_each.nd rfl (Or.inl rfl)) (pss_cons (ps_set (i:=3) sc_one_of_each.nd rfl (Or.inl rfl) (pe_lst pa_nil)) (pss_cons (ps_for PassesOwn.never rfl (pi_list (pv 1)) (pg_name (i:=4) sc_one_of_each.nd rfl (Or.inr rfl)) (pss_one (ps_expr (pe_bm PySem.F.plainAttrs_list PySem.F.slot_list_extend PySem.F.type_list_extend mt_extend (pv 3) (pa_cons (pe_comp (FS:=defScope s_one_of_each) (N:=N_one_of_each) (x:="choice") (ys:=["begun"]) (caps:=[4]) ⟨by decide +kernel, rfl, by decide +kernel, rfl, by decide +kernel, rfl, by decide +kernel, rfl, by decide +kernel⟩ rfl rfl rfl (pi_list (pv 2)) (fun _ _ _ _=>(pe_op op_catA (pv 1) (pe_tup (pa_cons (pv 0) pa_nil))))) pa_nil))))) (pss_one (ps_set (i:=1) sc_one_of_each.nd rfl (Or.inl rfl) (pv 3)))))) (pss_one (ps_ret (pv 1))))), rd_one_of_each h⟩)
theorem sc_in_order:FnScope N_in_order ["sizes"] (defScope s_in_order):=⟨rfl, rfl, rfl, by decide +kernel, rfl, by decide +kernel, by decide +kernel⟩
theorem ok_in_order (T:Tx K mg a):FnOk P w K mg base CX0 2 a.f_in_order a.d_in_order ["sizes"] (sp_in_order K):=by
  refine T.in_order.F.ok sc_in_order (fun vs H Q E h=>len_in_order h) (fun cdv A outer s H vs Q E hr h=>⟨t_in_order K, (pss_one (ps_ret (pe_call (ok_one_of_each T) (hr.mono (by decide)) rfl T.one_of_each.m T.one_of_each.F.kp T.one_of_each.b .nil pass0 (pa_cons (pe_comp (FS:=defScope s_in_order) (N:=N_in_order) (x:="size") (ys:=[]) (caps:=[]) ⟨by decide +kernel, rfl, by decide +kernel, rfl, by decide +kernel, rfl, by decide +kernel, rfl, by decide +kernel⟩ rfl rfl rfl (pi_list (pv 0)) (fun _ _ _ _=>(pe_lrng rfl T.n_list rfl T.n_range rfl (pv 0)))) pa_nil)))), rd_in_order h⟩)
theorem sc_check_cells:FnScope N_check_cells ["cells", "plays", "hands"] (defScope s_check_cells):=⟨rfl, rfl, rfl, by decide +kernel, rfl, by decide +kernel, by decide +kernel⟩
theorem ok_check_cells (T:Tx K mg a):FnOk P w K mg base CX0 1 a.f_check_cells a.d_check_cells ["cells", "plays", "hands"] (sp_check_cells K):=by
  refine T.check_cells.F.ok sc_check_cells (fun vs H Q E h=>len_check_cells h) (fun cdv A outer s H vs Q E hr h=>⟨t_check_cells K, (pss_cons (ps_for PassesOwn.never rfl (pi_list (pv 1)) (pg_name (i:=3) sc_check_cells.nd rfl (Or.inl rfl)) (pss_cons (ps_if (pt_cmp (pc_dnotin (hu_of hr) (pv 3) (pv 0))) (pss_one ps_never) pss_nil) (pss_one (ps_if (pt_cmpR op_ne (pe_callB call_len_seq rfl T.n_len bt_len (pa_cons (pe_dget (hu_of hr) (pv 0) (pv 3) (fun _ _=>rfl)) pa_nil)) (pv 2) (nomark _)) (pss_one ps_never) pss_nil)))) (pss_one (ps_if (pt_cmpR op_ne (pe_callB call_lenT rfl T.n_len bt_len (pa_cons (pv 0) pa_nil)) (pe_callB call_len_seq rfl T.n_len bt_len (pa_cons (pv 1) pa_nil)) (nomark _)) (pss_one ps_never) pss_nil))), rd_check_cells h⟩)
theorem sc_Table_init:FnScope N_Table_init ["self", "sizes", "cells"] (defScope s_Table_init):=⟨rfl, rfl, rfl, by decide +kernel, rfl, by decide +kernel, by decide +kernel⟩
theorem ok_Table_init (T:Tx K mg a):FnOk P w K mg base CX0 3 a.f_Table_init a.d_Table_init ["self", "sizes", "cells"] (sp_Table_init K):=by
  refine T.Table_init.F.ok sc_Table_init (fun vs H Q E h=>len_Table_init h) (fun cdv A outer s H vs Q E hr h=>⟨t_Table_init K, (pss_cons (ps_expr (pe_call (ok_check_sizes T) (hr.mono (by decide)) rfl T.check_sizes.m T.check_sizes.F.kp T.check_sizes.b .nil pass0 (pa_cons (pv 1) pa_nil))) (pss_cons (ps_set (i:=3) sc_Table_init.nd rfl (Or.inl rfl) (pe_call (ok_in_order T) (hr.mono (by decide)) rfl T.in_order.m T.in_order.F.kp T.in_order.b .nil pass0 (pa_cons (pv 1) pa_nil))) (pss_cons (ps_expr (pe_call (ok_check_cells T) (hr.mono (by decide)) rfl T.check_cells.m T.check_cells.F.kp T.check_cells.b .nil pass0 (pa_cons (pv 2) (pa_cons (pv 3) (pa_cons (pe_callB call_len_seq rfl T.n_len bt_len (pa_cons (pv 1) pa_nil)) pa_nil))))) (pss_cons (ps_fld (pv 0) (pe_callTy call_list_of rfl T.n_list bt_list (pa_cons (pv 1) pa_nil)) rfl) (pss_cons (ps_fld (pv 0) pe_dnewT rfl) (pss_one (ps_for PassesOwn.never rfl (pi_list (pv 3)) (pg_name (i:=4) sc_Table_init.nd rfl (Or.inl rfl)) (pss_one (ps_dput (hu_of hr) (pe_fld (pv 0) rfl) (pv 4) (pe_callTy call_list_of rfl T.n_list bt_list (pa_cons (pe_dget (hu_of hr) (pv 2) (pv 4) (fun _ _=>rfl)) pa_nil)) rfl))))))))), rd_Table_init T.tt h⟩)
theorem sc_l_cells:FnScope N_l_cells ["_law_script", "_law_order_here", "_law_hands"] (defScope s_l_cells):=⟨rfl, rfl, rfl, by decide +kernel, rfl, by decide +kernel, by decide +kernel⟩
theorem ok_l_cells (T:Tx K mg a):FnOk P w K mg base CX0 2 a.f_l_cells a.d_l_cells ["_law_script", "_law_order_here", "_law_hands"] (sp_l_cells K):=by
  refine T.l_cells.F.ok sc_l_cells (fun vs H Q E h=>len_l_cells h) (fun cdv A outer s H vs Q E hr h=>⟨t_l_cells K, (pss_cons (ps_set (i:=3) sc_l_cells.nd rfl (Or.inl rfl) pe_dnewT) (pss_cons (ps_for PassesOwn.never rfl (pi_range1 rfl T.n_range (pa_cons (pe_callB call_len_seq rfl T.n_len bt_len (pa_cons (pv 1) pa_nil)) pa_nil)) (pg_name (i:=4) sc_l_cells.nd rfl (Or.inr rfl)) (pss_cons (ps_set (i:=5) sc_l_cells.nd rfl (Or.inr rfl) (pe_call (ok_l_cell_at T) (hr.mono (by decide)) rfl T.l_cell_at.m T.l_cell_at.F.kp T.l_cell_at.b .nil pass0 (pa_cons (pv 0) (pa_cons (pe_op op_mod (pv 4) pe_int) pa_nil)))) (pss_one (ps_dput (hu_of hr) (pv 3) (pe_ix ix_list (pv 1) (pv 4) (fun _ _=>rfl)) (pe_comp (FS:=defScope s_l_cells) (N:=N_l_cells) (x:="_law_hand") (ys:=["_law_cell", "_law_k"]) (caps:=[5, 4]) ⟨by decide +kernel, rfl, by decide +kernel, rfl, by decide +kernel, rfl, by decide +kernel, rfl, by decide +kernel⟩ rfl rfl rfl (pi_range1 rfl T.n_range (pa_cons (pv 2) pa_nil)) (fun _ _ _ _=>(pe_tup (pa_cons (pe_op op_add (pe_op op_sub (pe_op op_mod (pe_op op_add (pv 1) (pe_op op_mulB (pv 2) (pv 2))) pe_int) pe_int) (pv 0)) (pa_cons pe_int pa_nil))))) rfl)))) (pss_one (ps_ret (pv 3))))), rd_l_cells h⟩)
theorem sc_l_play:FnScope N_l_play ["_law_sizes_here", "_law_number"] (defScope s_l_play):=⟨rfl, rfl, rfl, by decide +kernel, rfl, by decide +kernel, by decide +kernel⟩
theorem ok_l_play (T:Tx K mg a):FnOk P w K mg base CX0 1 a.f_l_play a.d_l_play ["_law_sizes_here", "_law_number"] (sp_l_play K):=by
  refine T.l_play.F.ok sc_l_play (fun vs H Q E h=>len_l_play h) (fun cdv A outer s H vs Q E hr h=>⟨t_l_play K, (pss_cons (ps_set (i:=2) sc_l_play.nd rfl (Or.inl rfl) (pe_tup pa_nil)) (pss_cons (ps_for PassesOwn.never rfl (pi_rev rfl T.n_reversed (pv 0)) (pg_name (i:=3) sc_l_play.nd rfl (Or.inl rfl)) (pss_cons (ps_set (i:=2) sc_l_play.nd rfl (Or.inl rfl) (pe_op op_catA (pe_tup (pa_cons (pe_op op_mod (pv 1) (pv 3)) pa_nil)) (pv 2))) (pss_one (ps_set (i:=1) sc_l_play.nd rfl (Or.inl rfl) (pe_op op_fdivB (pv 1) (pv 3)))))) (pss_one (ps_ret (pv 2))))), rd_l_play h⟩)
theorem sc_l_order:FnScope N_l_order ["_law_sizes_here"] (defScope s_l_order):=⟨rfl, rfl, rfl, by decide +kernel, rfl, by decide +kernel, by decide +kernel⟩
theorem ok_l_order (T:Tx K mg a):FnOk P w K mg base CX0 2 a.f_l_order a.d_l_order ["_law_sizes_here"] (sp_l_order K):=by
  refine T.l_order.F.ok sc_l_order (fun vs H Q E h=>len_l_order h) (fun cdv A outer s H vs Q E hr h=>⟨t_l_order K, (pss_cons (ps_set (i:=1) sc_l_order.nd rfl (Or.inl rfl) pe_int) (pss_cons (ps_for PassesOwn.never rfl (pi_list (pv 0)) (pg_name (i:=2) sc_l_order.nd rfl (Or.inl rfl)) (pss_one (ps_set (i:=1) sc_l_order.nd rfl (Or.inl rfl) (pe_op op_mulB (pv 1) (pv 2))))) (pss_one (ps_ret (pe_comp (FS:=defScope s_l_order) (N:=N_l_order) (x:="_law_k") (ys:=["_law_sizes_here"]) (caps:=[0]) ⟨by decide +kernel, rfl, by decide +kernel, rfl, by decide +kernel, rfl, by decide +kernel, rfl, by decide +kernel⟩ rfl rfl rfl (pi_range1 rfl T.n_range (pa_cons (pv 1) pa_nil)) (fun _ _ _ _=>(pe_call (ok_l_play T) (hr.mono (by decide)) rfl T.l_play.m T.l_play.F.kp T.l_play.b .nil pass0 (pa_cons (pv 1) (pa_cons (pv 0) pa_nil))))))))), rd_l_order h⟩)
theorem sc_l_divisor:FnScope N_l_divisor ["_law_one", "_law_other"] (defScope s_l_divisor):=⟨rfl, rfl, rfl, by decide +kernel, rfl, by decide +kernel, by decide +kernel⟩
theorem ok_l_divisor (T:Tx K mg a):FnOk P w K mg base CX0 1 a.f_l_divisor a.d_l_divisor ["_law_one", "_law_other"] (sp_l_divisor K):=by
  refine T.l_divisor.F.ok sc_l_divisor (fun vs H Q E h=>len_l_divisor h) (fun cdv A outer s H vs Q E hr h=>⟨t_l_divisor K, (pss_cons (ps_set (i:=0) sc_l_divisor.nd rfl (Or.inl rfl) (pe_callB call_abs rfl T.n_abs bt_abs (pa_cons (pv 0) pa_nil))) (pss_cons (ps_set (i:=1) sc_l_divisor.nd rfl (Or.inl rfl) (pe_callB call_abs rfl T.n_abs bt_abs (pa_cons (pv 1) pa_nil))) (pss_cons (ps_while PassesOwn.never (pt_cmpR op_gt (pv 1) pe_int (nomark _)) (pss_one (ps_par (i:=0) (j:=1) rfl sc_l_divisor.nd rfl rfl (by decide) rfl rfl (pa_cons (pv 1) (pa_cons (pe_op op_mod (pv 0) (pv 1)) pa_nil)) rfl))) (pss_one (ps_ret (pv 0)))))), rd_l_divisor h⟩)
theorem sc_l_lowest:FnScope N_l_lowest ["_law_top", "_law_bottom"] (defScope s_l_lowest):=⟨rfl, rfl, rfl, by decide +kernel, rfl, by decide +kernel, by decide +kernel⟩
theorem ok_l_lowest (T:Tx K mg a):FnOk P w K mg base CX0 2 a.f_l_lowest a.d_l_lowest ["_law_top", "_law_bottom"] (sp_l_lowest K):=by
  refine T.l_lowest.F.ok sc_l_lowest (fun vs H Q E h=>len_l_lowest h) (fun cdv A outer s H vs Q E hr h=>⟨t_l_lowest K, (pss_cons (ps_set (i:=2) sc_l_lowest.nd rfl (Or.inl rfl) (pe_call (ok_l_divisor T) (hr.mono (by decide)) rfl T.l_divisor.m T.l_divisor.F.kp T.l_divisor.b .nil pass0 (pa_cons (pv 0) (pa_cons (pv 1) pa_nil)))) (pss_one (ps_ret (pe_tup (pa_cons (pe_op op_fdivB (pv 0) (pv 2)) (pa_cons (pe_op op_fdivB (pv 1) (pv 2)) pa_nil)))))), rd_l_lowest h⟩)
theorem sc_l_mixings:FnScope N_l_mixings ["_law_parts_here"] (defScope s_l_mixings):=⟨rfl, rfl, rfl, by decide +kernel, rfl, by decide +kernel, by decide +kernel⟩
theorem ok_l_mixings (T:Tx K mg a):FnOk P w K mg base CX0 3 a.f_l_mixings a.d_l_mixings ["_law_parts_here"] (sp_l_mixings K):=by
  refine T.l_mixings.F.ok sc_l_mixings (fun vs H Q E h=>len_l_mixings h) (fun cdv A outer s H vs Q E hr h=>⟨t_l_mixings K, (pss_one (ps_ret (pe_compC (FS:=defScope s_l_mixings) (N:=N_l_mixings) (x:="_law_row") (ys:=[]) (caps:=[]) ⟨fun _ _=>rfl, fun _=>rfl, by decide +kernel, by decide +kernel, rfl, by decide +kernel, by decide +kernel, by decide +kernel, rfl, by decide +kernel, rfl, by decide +kernel⟩ rfl rfl rfl (pi_list (pv 0)) (fun S _ _ _ _=>(pe_compInC (z:="_law_part") (zs:=["_law_row"]) (capsI:=[0]) S ⟨by decide +kernel, rfl, by decide +kernel, rfl, by decide +kernel, by decide +kernel, rfl, by decide +kernel⟩ rfl (pi_list (pv 0)) (fun _ _ _ _=>(pe_call (ok_l_lowest T) (hr.mono (by decide)) rfl T.l_lowest.m T.l_lowest.F.kp T.l_lowest.b .nil pass0 (pa_cons (pv 0) (pa_cons (pe_callB (call_sumL rfl) rfl T.n_sum bt_sum (pa_cons (pv 1) pa_nil)) pa_nil))))))))), rd_l_mixings h⟩)
theorem sc_l_parts:FnScope N_l_parts ["_law_script", "_law_sizes_here"] (defScope s_l_parts):=⟨rfl, rfl, rfl, by decide +kernel, rfl, by decide +kernel, by decide +kernel⟩
theorem ok_l_parts (T:Tx K mg a):FnOk P w K mg base CX0 1 a.f_l_parts a.d_l_parts ["_law_script", "_law_sizes_here"] (sp_l_parts K):=by
  refine T.l_parts.F.ok sc_l_parts (fun vs H Q E h=>len_l_parts h) (fun cdv A outer s H vs Q E hr h=>⟨t_l_parts K, (pss_cons (ps_set (i:=2) sc_l_parts.nd rfl (Or.inl rfl) pe_int) (pss_cons (ps_setComp (i:=3) (FS:=defScope s_l_parts) (N:=N_l_parts) (x:="_law_size") (ys:=[]) (caps:=[]) ⟨by decide +kernel, rfl, by decide +kernel, rfl, by decide +kernel, rfl, by decide +kernel, rfl, by decide +kernel⟩ rfl rfl rfl sc_l_parts.nd rfl (Or.inl rfl) (pi_list (pv 1)) (fun _ _ _ _=>(pe_op op_rep (pe_lst (pa_cons pe_int pa_nil)) (pv 0)))) (pss_cons (ps_for PassesOwn.never rfl (pi_enum rfl T.n_enumerate (pe_slice sl_list (pv 0) po_none (po_some pe_int))) (pg_tup (n:=2) rfl (pgs_cons (pg_name (i:=4) sc_l_parts.nd rfl (Or.inl rfl)) (pgs_cons (pg_name (i:=5) sc_l_parts.nd rfl (Or.inl rfl)) pgs_nil))) (pss_cons (ps_set (i:=6) sc_l_parts.nd rfl (Or.inl rfl) (pe_op op_add (pe_op op_mod (pv 5) (pe_op op_pow pe_int pe_int)) (pe_op op_mulB pe_int (pe_op op_add (pv 4) pe_int)))) (pss_cons (ps_set (i:=6) sc_l_parts.nd rfl (Or.inl rfl) (pe_op op_mod (pe_op op_mulB (pv 6) (pv 6)) pe_int)) (pss_cons (ps_set (i:=2) sc_l_parts.nd rfl (Or.inl rfl) (pe_op op_mod (pe_op op_add (pe_op op_mulB (pv 2) pe_int) (pv 6)) pe_int)) (pss_cons (ps_set (i:=7) sc_l_parts.nd rfl (Or.inl rfl) (pe_ix ix_list (pv 3) (pe_op op_mod (pv 4) (pe_callB call_len_seq rfl T.n_len bt_len (pa_cons (pv 1) pa_nil))) (fun _ _=>rfl))) (pss_cons (ps_set (i:=8) sc_l_parts.nd rfl (Or.inl rfl) (pe_op op_mod (pe_op op_fdivB (pv 4) (pe_callB call_len_seq rfl T.n_len bt_len (pa_cons (pv 1) pa_nil))) (pe_callB call_len_seq rfl T.n_len bt_len (pa_cons (pv 7) pa_nil)))) (pss_one (ps_asg (pe_op op_add (pe_ix ix_list (pv 7) (pv 8) (fun _ _=>rfl)) (pe_ix ix_list (pe_lst (pa_cons pe_int (pa_cons pe_int (pa_cons (pe_op op_mod (pe_op op_fdiv (pv 6) pe_int) pe_int) (pa_cons (pe_op op_mod (pe_op op_fdiv (pv 6) pe_int) (pe_op op_pow pe_int pe_int)) pa_nil))))) (pe_op op_mod (pv 6) pe_int) (fun _ _=>rfl))) (pg_sub (pv 7) (pv 8) set_list))))))))) (pss_cons (ps_for PassesOwn.never rfl (pi_range1 rfl T.n_range (pa_cons (pe_callB call_len_seq rfl T.n_len bt_len (pa_cons (pv 1) pa_nil)) pa_nil)) (pg_name (i:=9) sc_l_parts.nd rfl (Or.inl rfl)) (pss_cons (ps_set (i:=7) sc_l_parts.nd rfl (Or.inl rfl) (pe_ix ix_list (pv 3) (pv 9) (fun _ _=>rfl))) (pss_cons (ps_for PassesOwn.never rfl (pi_range1 rfl T.n_range (pa_cons (pe_callB call_len_seq rfl T.n_len bt_len (pa_cons (pv 7) pa_nil)) pa_nil)) (pg_name (i:=8) sc_l_parts.nd rfl (Or.inl rfl)) (pss_one (ps_if (pt_cmpR op_eq (pe_op op_mod (pe_op op_mod (pe_op op_mulB (pv 2) (pe_op op_add (pe_op op_add (pv 8) (pe_op op_mulB pe_int (pv 9))) pe_int)) pe_int) pe_int) pe_int (nomark _)) (pss_one (ps_asg pe_int (pg_sub (pv 7) (pv 8) set_list))) pss_nil))) (pss_one (ps_if (pt_cmpR op_eq (pe_callB (call_sumL rfl) rfl T.n_sum bt_sum (pa_cons (pv 7) pa_nil)) pe_int (nomark _)) (pss_one (ps_asg pe_int (pg_sub (pv 7) (pe_op op_mod (pv 2) (pe_callB call_len_seq rfl T.n_len bt_len (pa_cons (pv 7) pa_nil))) set_list))) pss_nil))))) (pss_one (ps_ret (pv 3))))))), rd_l_parts h⟩)
theorem sc_l_more:FnScope N_l_more ["_law_one", "_law_top", "_law_bottom"] (defScope s_l_more):=⟨rfl, rfl, rfl, by decide +kernel, rfl, by decide +kernel, by decide +kernel⟩
theorem ok_l_more (T:Tx K mg a):FnOk P w K mg base CX0 3 a.f_l_more a.d_l_more ["_law_one", "_law_top", "_law_bottom"] (sp_l_more K):=by
  refine T.l_more.F.ok sc_l_more (fun vs H Q E h=>len_l_more h) (fun cdv A outer s H vs Q E hr h=>⟨t_l_more K, (pss_one (ps_ret (pe_call (ok_l_lowest T) (hr.mono (by decide)) rfl T.l_lowest.m T.l_lowest.F.kp T.l_lowest.b .nil pass0 (pa_cons (pe_op op_add (pe_op op_mulB (pe_ix ix_tup (pv 0) pe_int (fun _ _=>rfl)) (pv 2)) (pe_op op_mulB (pv 1) (pe_ix ix_tup (pv 0) pe_int (fun _ _=>rfl)))) (pa_cons (pe_op op_mulB (pe_ix ix_tup (pv 0) pe_int (fun _ _=>rfl)) (pv 2)) pa_nil))))), rd_l_more h⟩)
theorem sc_l_spoiled:FnScope N_l_spoiled ["_law_weights", "_law_cell"] (defScope s_l_spoiled):=⟨rfl, rfl, rfl, by decide +kernel, rfl, by decide +kernel, by decide +kernel⟩
theorem ok_l_spoiled (T:Tx K mg a):FnOk P w K mg base CX0 4 a.f_l_spoiled a.d_l_spoiled ["_law_weights", "_law_cell"] (sp_l_spoiled K):=by
  refine T.l_spoiled.F.ok sc_l_spoiled (fun vs H Q E h=>len_l_spoiled h) (fun cdv A outer s H vs Q E hr h=>⟨t_l_spoiled K, (pss_cons (ps_set (i:=2) sc_l_spoiled.nd rfl (Or.inl rfl) (pe_op op_mod (pv 1) pe_int)) (pss_cons (ps_set (i:=3) sc_l_spoiled.nd rfl (Or.inl rfl) (pe_op op_mod (pe_op op_fdiv (pv 1) pe_int) (pe_callB call_len_seq rfl T.n_len bt_len (pa_cons (pv 0) pa_nil)))) (pss_cons (ps_set (i:=4) sc_l_spoiled.nd rfl (Or.inl rfl) (pe_callTy call_list_of rfl T.n_list bt_list (pa_cons (pv 0) pa_nil))) (pss_cons (ps_if (pt_cmpR op_eq (pv 2) pe_int (nomark _)) (pss_one (ps_expr (pe_bm PySem.F.plainAttrs_list PySem.F.slot_list_pop PySem.F.type_list_pop mt_popAt (pv 4) (pa_cons (pv 3) pa_nil)))) pss_nil) (pss_cons (ps_if (pt_cmpR op_eq (pv 2) pe_int (nomark _)) (pss_one (ps_expr (pe_bm PySem.F.plainAttrs_list PySem.F.slot_list_insert PySem.F.type_list_insert mt_insert (pv 4) (pa_cons (pv 3) (pa_cons (pe_tup (pa_cons pe_int (pa_cons pe_int pa_nil))) pa_nil))))) pss_nil) (pss_cons (ps_if (PW.pt (pw_and (pt_cmpR op_eq (pv 2) pe_int (nomark _)) (pw_and1 (pt_cmpR op_eq (pe_op op_mod (pe_op op_fdiv (pv 1) pe_int) pe_int) pe_int (nomark _))))) (pss_one (ps_asg (pe_call (ok_l_more T) (hr.mono (by decide)) rfl T.l_more.m T.l_more.F.kp T.l_more.b .nil pass0 (pa_cons (pe_ix ix_list (pv 4) (pv 3) (fun _ _=>rfl)) (pa_cons pe_int (pa_cons (pe_op op_add pe_int (pe_op op_mod (pe_op op_fdiv (pv 1) pe_int) (pe_op op_pow pe_int pe_int))) pa_nil)))) (pg_sub (pv 4) (pv 3) set_list))) (pss_one (ps_if (pt_cmpR op_eq (pv 2) pe_int (nomark _)) (pss_cons (ps_set (i:=3) sc_l_spoiled.nd rfl (Or.inl rfl) (pe_ix ix_list (pe_compI (FS:=defScope s_l_spoiled) (N:=N_l_spoiled) (x:="_law_k") (ys:=["_law_weights"]) (caps:=[0]) ⟨by decide +kernel, rfl, by decide +kernel, rfl, by decide +kernel, rfl, by decide +kernel, rfl, by decide +kernel⟩ rfl rfl rfl (pi_range1 rfl T.n_range (pa_cons (pe_callB call_len_seq rfl T.n_len bt_len (pa_cons (pv 0) pa_nil)) pa_nil)) (fun _ _ _ _=>(pt_cmpR op_gt (pe_ix ix_tup (pe_ix ix_list (pv 1) (pv 0) (fun _ _=>rfl)) pe_int (fun _ _=>rfl)) pe_int (nomark _))) (fun _ _ _ _=>(pv 0))) pe_int (fun _ _=>rfl))) (pss_cons (ps_set (i:=5) sc_l_spoiled.nd rfl (Or.inl rfl) (pe_op op_mod (pe_op op_fdiv (pv 1) pe_int) (pe_op op_pow pe_int pe_int))) (pss_one (ps_asg (pe_call (ok_l_lowest T) (hr.mono (by decide)) rfl T.l_lowest.m T.l_lowest.F.kp T.l_lowest.b .nil pass0 (pa_cons (pe_op op_mulB (pe_ix ix_tup (pe_ix ix_list (pv 4) (pv 3) (fun _ _=>rfl)) pe_int (fun _ _=>rfl)) (pv 5)) (pa_cons (pe_op op_mulB (pe_ix ix_tup (pe_ix ix_list (pv 4) (pv 3) (fun _ _=>rfl)) pe_int (fun _ _=>rfl)) (pe_op op_add (pv 5) pe_int)) pa_nil))) (pg_sub (pv 4) (pv 3) set_list))))) pss_nil))) (pss_cons (ps_if (PW.pt (pw_and (pt_cmpR op_eq (pv 2) pe_int (nomark _)) (pw_and1 (pt_cmpR op_gt (pe_callB call_len_seq rfl T.n_len bt_len (pa_cons (pv 0) pa_nil)) pe_int (nomark _))))) (pss_cons (ps_asg (pe_call (ok_l_more T) (hr.mono (by decide)) rfl T.l_more.m T.l_more.F.kp T.l_more.b .nil pass0 (pa_cons (pe_ix ix_list (pv 4) (pv 3) (fun _ _=>rfl)) (pa_cons pe_int (pa_cons pe_int pa_nil)))) (pg_sub (pv 4) (pv 3) set_list)) (pss_one (ps_asg (pe_call (ok_l_more T) (hr.mono (by decide)) rfl T.l_more.m T.l_more.F.kp T.l_more.b .nil pass0 (pa_cons (pe_ix ix_list (pv 4) (pe_op op_sub (pv 3) pe_int) (fun _ _=>rfl)) (pa_cons (pe_un un_neg pe_int) (pa_cons pe_int pa_nil)))) (pg_sub (pv 4) (pe_op op_sub (pv 3) pe_int) set_list)))) (pss_one (ps_if (pt_cmpR op_eq (pv 2) pe_int (nomark _)) (pss_one (ps_asg (pe_tup (pa_cons pe_int (pa_cons pe_int pa_nil))) (pg_sub (pv 4) pe_int set_list))) pss_nil))) (pss_one (ps_ret (pv 4)))))))))), rd_l_spoiled h⟩)
theorem sc_NoMixing_init:FnScope N_NoMixing_init ["self", "hand"] (defScope s_NoMixing_init):=⟨rfl, rfl, rfl, by decide +kernel, rfl, by decide +kernel, by decide +kernel⟩
theorem ok_NoMixing_init (T:Tx K mg a):FnOk P w K mg base CX0 1 a.f_NoMixing_init a.d_NoMixing_init ["self", "hand"] (sp_NoMixing_init K):=by
  refine T.NoMixing_init.F.ok sc_NoMixing_init (fun vs H Q E h=>len_NoMixing_init h) (fun cdv A outer s H vs Q E hr h=>⟨t_NoMixing_init K, (pss_one (ps_fldX (pv 0) (pv 1) rfl)), rd_NoMixing_init T.xk h⟩)
theorem sc_Table_sizes:FnScope N_Table_sizes ["self"] (defScope s_Table_sizes):=⟨rfl, rfl, rfl, by decide +kernel, rfl, by decide +kernel, by decide +kernel⟩
theorem ok_Table_sizes (T:Tx K mg a):FnOk P w K mg base CX0 1 a.f_Table_sizes a.d_Table_sizes ["self"] (sp_Table_sizes K):=by
  refine T.Table_sizes.F.ok sc_Table_sizes (fun vs H Q E h=>len_Table_sizes h) (fun cdv A outer s H vs Q E hr h=>⟨t_Table_sizes K, (pss_one (ps_ret (pe_callTy call_list_of rfl T.n_list bt_list (pa_cons (pe_fld (pv 0) rfl) pa_nil)))), rd_Table_sizes T.tt h⟩)
theorem sc_below:FnScope N_below ["one", "other"] (defScope s_below):=⟨rfl, rfl, rfl, by decide +kernel, rfl, by decide +kernel, by decide +kernel⟩
theorem ok_below (T:Tx K mg a):FnOk P w K mg base CX0 1 a.f_below a.d_below ["one", "other"] (sp_below K):=by
  refine T.below.F.ok sc_below (fun vs H Q E h=>len_below h) (fun cdv A outer s H vs Q E hr h=>⟨t_below K, (pss_one (ps_ret (pe_cmpR op_lt (pe_op op_mulB (pe_ix ix_tup (pv 0) pe_int (fun _ _=>rfl)) (pe_ix ix_tup (pv 1) pe_int (fun _ _=>rfl))) (pe_op op_mulB (pe_ix ix_tup (pv 1) pe_int (fun _ _=>rfl)) (pe_ix ix_tup (pv 0) pe_int (fun _ _=>rfl))) (nomark _)))), rd_below h⟩)
theorem sc_divisor:FnScope N_divisor ["one", "other"] (defScope s_divisor):=⟨rfl, rfl, rfl, by decide +kernel, rfl, by decide +kernel, by decide +kernel⟩
theorem ok_divisor (T:Tx K mg a):FnOk P w K mg base CX0 1 a.f_divisor a.d_divisor ["one", "other"] (sp_divisor K):=by
  refine T.divisor.F.ok sc_divisor (fun vs H Q E h=>len_divisor h) (fun cdv A outer s H vs Q E hr h=>⟨t_divisor K, (pss_cons (ps_set (i:=2) sc_divisor.nd rfl (Or.inl rfl) (pe_callB call_abs rfl T.n_abs bt_abs (pa_cons (pv 0) pa_nil))) (pss_cons (ps_set (i:=3) sc_divisor.nd rfl (Or.inl rfl) (pe_callB call_abs rfl T.n_abs bt_abs (pa_cons (pv 1) pa_nil))) (pss_cons (ps_while PassesOwn.never (pt_cmpR op_ne (pv 3) pe_int (nomark _)) (pss_cons (ps_set (i:=4) sc_divisor.nd rfl (Or.inl rfl) (pe_op op_mod (pv 2) (pv 3))) (pss_cons (ps_set (i:=2) sc_divisor.nd rfl (Or.inl rfl) (pv 3)) (pss_one (ps_set (i:=3) sc_divisor.nd rfl (Or.inl rfl) (pv 4)))))) (pss_one (ps_ret (pv 2)))))), rd_divisor h⟩)
theorem sc_ratio:FnScope N_ratio ["top", "bottom"] (defScope s_ratio):=⟨rfl, rfl, rfl, by decide +kernel, rfl, by decide +kernel, by decide +kernel⟩
theorem ok_ratio (T:Tx K mg a):FnOk P w K mg base CX0 2 a.f_ratio a.d_ratio ["top", "bottom"] (sp_ratio K):=by
  refine T.ratio.F.ok sc_ratio (fun vs H Q E h=>len_ratio h) (fun cdv A outer s H vs Q E hr h=>⟨t_ratio K, (pss_cons (ps_if (pt_cmpR op_eq (pv 1) pe_int (nomark _)) (pss_one ps_never) pss_nil) (pss_cons (ps_set (i:=2) sc_ratio.nd rfl (Or.inl rfl) (pe_call (ok_divisor T) (hr.mono (by decide)) rfl T.divisor.m T.divisor.F.kp T.divisor.b .nil pass0 (pa_cons (pv 0) (pa_cons (pv 1) pa_nil)))) (pss_cons (ps_if (pt_cmpR op_lt (pv 1) pe_int (nomark _)) (pss_one (ps_set (i:=2) sc_ratio.nd rfl (Or.inl rfl) (pe_un un_neg (pv 2)))) pss_nil) (pss_one (ps_ret (pe_tup (pa_cons (pe_op op_fdivB (pv 0) (pv 2)) (pa_cons (pe_op op_fdivB (pv 1) (pv 2)) pa_nil)))))))), rd_ratio h⟩)
theorem sc_plus:FnScope N_plus ["one", "other"] (defScope s_plus):=⟨rfl, rfl, rfl, by decide +kernel, rfl, by decide +kernel, by decide +kernel⟩
theorem ok_plus (T:Tx K mg a):FnOk P w K mg base CX0 3 a.f_plus a.d_plus ["one", "other"] (sp_plus K):=by
  refine T.plus.F.ok sc_plus (fun vs H Q E h=>len_plus h) (fun cdv A outer s H vs Q E hr h=>⟨t_plus K, (pss_one (ps_ret (pe_call (ok_ratio T) (hr.mono (by decide)) rfl T.ratio.m T.ratio.F.kp T.ratio.b .nil pass0 (pa_cons (pe_op op_add (pe_op op_mulB (pe_ix ix_tup (pv 0) pe_int (fun _ _=>rfl)) (pe_ix ix_tup (pv 1) pe_int (fun _ _=>rfl))) (pe_op op_mulB (pe_ix ix_tup (pv 1) pe_int (fun _ _=>rfl)) (pe_ix ix_tup (pv 0) pe_int (fun _ _=>rfl)))) (pa_cons (pe_op op_mulB (pe_ix ix_tup (pv 0) pe_int (fun _ _=>rfl)) (pe_ix ix_tup (pv 1) pe_int (fun _ _=>rfl))) pa_nil))))), rd_plus h⟩)
theorem sc_summed:FnScope N_summed ["fractions"] (defScope s_summed):=⟨rfl, rfl, rfl, by decide +kernel, rfl, by decide +kernel, by decide +kernel⟩
theorem ok_summed (T:Tx K mg a):FnOk P w K mg base CX0 4 a.f_summed a.d_summed ["fractions"] (sp_summed K):=by
  refine T.summed.F.ok sc_summed (fun vs H Q E h=>len_summed h) (fun cdv A outer s H vs Q E hr h=>⟨t_summed K, (pss_cons (ps_set (i:=1) sc_summed.nd rfl (Or.inl rfl) (pe_tup (pa_cons pe_int (pa_cons pe_int pa_nil)))) (pss_cons (ps_for PassesOwn.never rfl (pi_list (pv 0)) (pg_name (i:=2) sc_summed.nd rfl (Or.inl rfl)) (pss_one (ps_set (i:=1) sc_summed.nd rfl (Or.inl rfl) (pe_call (ok_plus T) (hr.mono (by decide)) rfl T.plus.m T.plus.F.kp T.plus.b .nil pass0 (pa_cons (pv 1) (pa_cons (pv 2) pa_nil)))))) (pss_one (ps_ret (pv 1))))), rd_summed h⟩)
theorem sc_is_mixing:FnScope N_is_mixing ["weights", "many"] (defScope s_is_mixing):=⟨rfl, rfl, rfl, by decide +kernel, rfl, by decide +kernel, by decide +kernel⟩
theorem ok_is_mixing (T:Tx K mg a):FnOk P w K mg base CX0 5 a.f_is_mixing a.d_is_mixing ["weights", "many"] (sp_is_mixing K):=by
  refine T.is_mixing.F.ok sc_is_mixing (fun vs H Q E h=>len_is_mixing h) (fun cdv A outer s H vs Q E hr h=>⟨t_is_mixing K, (pss_cons (ps_if (pt_cmpR op_ne (pe_callB call_len_seq rfl T.n_len bt_len (pa_cons (pv 0) pa_nil)) (pv 1) (nomark _)) (pss_one (ps_ret pe_bl)) pss_nil) (pss_cons (ps_for PassesOwn.never rfl (pi_list (pv 0)) (pg_name (i:=2) sc_is_mixing.nd rfl (Or.inl rfl)) (pss_one (ps_if (pt_val (pe_call (ok_below T) (hr.mono (by decide)) rfl T.below.m T.below.F.kp T.below.b .nil pass0 (pa_cons (pv 2) (pa_cons (pe_tup (pa_cons pe_int (pa_cons pe_int pa_nil))) pa_nil)))) (pss_one (ps_ret pe_bl)) pss_nil))) (pss_one (ps_ret (pe_cmpR (op_eqT (hu_of hr)) (pe_call (ok_summed T) (hr.mono (by decide)) rfl T.summed.m T.summed.F.kp T.summed.b .nil pass0 (pa_cons (pv 0) pa_nil)) (pe_tup (pa_cons pe_int (pa_cons pe_int pa_nil))) (nomark _)))))), rd_is_mixing h⟩)
theorem sc_check_mixings:FnScope N_check_mixings ["table", "mixings"] (defScope s_check_mixings):=⟨rfl, rfl, rfl, by decide +kernel, rfl, by decide +kernel, by decide +kernel⟩
theorem ok_check_mixings (T:Tx K mg a):FnOk P w K mg base (CXF P w) 6 a.f_check_mixings a.d_check_mixings ["table", "mixings"] (sp_check_mixings K):=by
  refine T.check_mixings.F.okX sc_check_mixings (fun vs H Q E h=>len_check_mixings h) (fun cdv A outer s H vs Q E hr h=>⟨t_check_mixings K E, (pss_one (ps_for PassesOwn.leaving rfl (pi_enum rfl T.n_enumerate (pe_meth0 (pv 0) T.tt.cl T.Table_sizes.m (ok_Table_sizes T) (hr.mono (by decide)) T.Table_sizes.b .nil pass0)) (pg_tup (n:=2) rfl (pgs_cons (pg_name (i:=2) sc_check_mixings.nd rfl (Or.inl rfl)) (pgs_cons (pg_name (i:=3) sc_check_mixings.nd rfl (Or.inl rfl)) pgs_nil))) (pss_one (ps_if (pt_not (pt_val (pe_call (ok_is_mixing T) (hr.mono (by decide)) rfl T.is_mixing.m T.is_mixing.F.kp T.is_mixing.b .nil pass0 (pa_cons (pe_ix ix_list (pv 1) (pv 2) (fun _ _=>rfl)) (pa_cons (pv 3) pa_nil))))) (pss_one (ps_raiseE T.me_NoMixing (ok_NoMixing_init T) (hr.mono (by decide)) rfl T.c_NoMixing T.NoMixing_init.b (pa_cons (pv 2) pa_nil))) pss_nil)))), rd_check_mixings T.tt h⟩)
theorem sc_Table_plays:FnScope N_Table_plays ["self"] (defScope s_Table_plays):=⟨rfl, rfl, rfl, by decide +kernel, rfl, by decide +kernel, by decide +kernel⟩
theorem ok_Table_plays (T:Tx K mg a):FnOk P w K mg base CX0 3 a.f_Table_plays a.d_Table_plays ["self"] (sp_Table_plays K):=by
  refine T.Table_plays.F.ok sc_Table_plays (fun vs H Q E h=>len_Table_plays h) (fun cdv A outer s H vs Q E hr h=>⟨t_Table_plays K, (pss_one (ps_ret (pe_call (ok_in_order T) (hr.mono (by decide)) rfl T.in_order.m T.in_order.F.kp T.in_order.b .nil pass0 (pa_cons (pe_fld (pv 0) rfl) pa_nil)))), rd_Table_plays T.tt h⟩)
theorem sc_times:FnScope N_times ["one", "other"] (defScope s_times):=⟨rfl, rfl, rfl, by decide +kernel, rfl, by decide +kernel, by decide +kernel⟩
theorem ok_times (T:Tx K mg a):FnOk P w K mg base CX0 3 a.f_times a.d_times ["one", "other"] (sp_times K):=by
  refine T.times.F.ok sc_times (fun vs H Q E h=>len_times h) (fun cdv A outer s H vs Q E hr h=>⟨t_times K, (pss_one (ps_ret (pe_call (ok_ratio T) (hr.mono (by decide)) rfl T.ratio.m T.ratio.F.kp T.ratio.b .nil pass0 (pa_cons (pe_op op_mulB (pe_ix ix_tup (pv 0) pe_int (fun _ _=>rfl)) (pe_ix ix_tup (pv 1) pe_int (fun _ _=>rfl))) (pa_cons (pe_op op_mulB (pe_ix ix_tup (pv 0) pe_int (fun _ _=>rfl)) (pe_ix ix_tup (pv 1) pe_int (fun _ _=>rfl))) pa_nil))))), rd_times h⟩)
theorem sc_chance:FnScope N_chance ["choices", "mixings"] (defScope s_chance):=⟨rfl, rfl, rfl, by decide +kernel, rfl, by decide +kernel, by decide +kernel⟩
theorem ok_chance (T:Tx K mg a):FnOk P w K mg base CX0 4 a.f_chance a.d_chance ["choices", "mixings"] (sp_chance K):=by
  refine T.chance.F.ok sc_chance (fun vs H Q E h=>len_chance h) (fun cdv A outer s H vs Q E hr h=>⟨t_chance K, (pss_cons (ps_set (i:=2) sc_chance.nd rfl (Or.inl rfl) (pe_tup (pa_cons pe_int (pa_cons pe_int pa_nil)))) (pss_cons (ps_for PassesOwn.never rfl (pi_zipT rfl T.n_zip (pa_cons (pv 0) (pa_cons (pv 1) pa_nil))) (pg_tup (n:=2) rfl (pgs_cons (pg_name (i:=3) sc_chance.nd rfl (Or.inl rfl)) (pgs_cons (pg_name (i:=4) sc_chance.nd rfl (Or.inl rfl)) pgs_nil))) (pss_one (ps_set (i:=2) sc_chance.nd rfl (Or.inl rfl) (pe_call (ok_times T) (hr.mono (by decide)) rfl T.times.m T.times.F.kp T.times.b .nil pass0 (pa_cons (pv 2) (pa_cons (pe_ix ix_list (pv 4) (pv 3) (fun _ _=>rfl)) pa_nil)))))) (pss_one (ps_ret (pv 2))))), rd_chance h⟩)
theorem sc_Table_earned:FnScope N_Table_earned ["self", "play"] (defScope s_Table_earned):=⟨rfl, rfl, rfl, by decide +kernel, rfl, by decide +kernel, by decide +kernel⟩
theorem ok_Table_earned (T:Tx K mg a):FnOk P w K mg base CX0 1 a.f_Table_earned a.d_Table_earned ["self", "play"] (sp_Table_earned K):=by
  refine T.Table_earned.F.ok sc_Table_earned (fun vs H Q E h=>len_Table_earned h) (fun cdv A outer s H vs Q E hr h=>⟨t_Table_earned K, (pss_cons (ps_for PassesOwn.never rfl (pi_enum rfl T.n_enumerate (pe_fld (pv 0) rfl)) (pg_tup (n:=2) rfl (pgs_cons (pg_name (i:=2) sc_Table_earned.nd rfl (Or.inl rfl)) (pgs_cons (pg_name (i:=3) sc_Table_earned.nd rfl (Or.inl rfl)) pgs_nil))) (pss_one (ps_if (PW.pt (pw_or (pt_cmpR op_lt (pe_ix ix_tup (pv 1) (pv 2) (fun _ _=>rfl)) pe_int (nomark _)) (pw_or1 (pt_cmpR op_ge (pe_ix ix_tup (pv 1) (pv 2) (fun _ _=>rfl)) (pv 3) (nomark _))))) (pss_one ps_never) pss_nil))) (pss_one (ps_ret (pe_callTy call_list_of rfl T.n_list bt_list (pa_cons (pe_dget (hu_of hr) (pe_fld (pv 0) rfl) (pv 1) (fun _ _=>rfl)) pa_nil))))), rd_Table_earned T.tt h⟩)
theorem sc_earned_by:FnScope N_earned_by ["table", "mixings"] (defScope s_earned_by):=⟨rfl, rfl, rfl, by decide +kernel, rfl, by decide +kernel, by decide +kernel⟩
theorem ok_earned_by (T:Tx K mg a):FnOk P w K mg base (CXF P w) 7 a.f_earned_by a.d_earned_by ["table", "mixings"] (sp_earned_by K):=by
  refine T.earned_by.F.okX sc_earned_by (fun vs H Q E h=>len_earned_by h) (fun cdv A outer s H vs Q E hr h=>⟨t_earned_by K E, (pss_cons (ps_expr (pe_call (ok_check_mixings T) (hr.mono (by decide)) rfl T.check_mixings.m T.check_mixings.F.kp T.check_mixings.b .nil passF (pa_cons (pv 0) (pa_cons (pv 1) pa_nil)))) (pss_cons (ps_setComp (i:=2) (FS:=defScope s_earned_by) (N:=N_earned_by) (x:="size") (ys:=[]) (caps:=[]) ⟨by decide +kernel, rfl, by decide +kernel, rfl, by decide +kernel, rfl, by decide +kernel, rfl, by decide +kernel⟩ rfl rfl rfl sc_earned_by.nd rfl (Or.inl rfl) (pi_list (pe_meth0 (pv 0) T.tt.cl T.Table_sizes.m (ok_Table_sizes T) (hr.mono (by decide)) T.Table_sizes.b .nil pass0)) (fun _ _ _ _=>(pe_tup (pa_cons pe_int (pa_cons pe_int pa_nil))))) (pss_cons (ps_for PassesOwn.leaving rfl (pi_list (pe_meth0 (pv 0) T.tt.cl T.Table_plays.m (ok_Table_plays T) (hr.mono (by decide)) T.Table_plays.b .nil pass0)) (pg_name (i:=3) sc_earned_by.nd rfl (Or.inl rfl)) (pss_cons (ps_set (i:=4) sc_earned_by.nd rfl (Or.inr rfl) (pe_call (ok_chance T) (hr.mono (by decide)) rfl T.chance.m T.chance.F.kp T.chance.b .nil pass0 (pa_cons (pv 3) (pa_cons (pv 1) pa_nil)))) (pss_one (ps_setCompG (i:=2) (FS:=defScope s_earned_by) (N:=N_earned_by) (xs:=["total", "earned"]) (ys:=["share"]) (caps:=[4]) ⟨by decide +kernel, rfl, by decide +kernel, by decide +kernel, rfl, by decide +kernel, rfl⟩ rfl rfl rfl sc_earned_by.nd rfl (Or.inl rfl) (pi_zip rfl T.n_zip (pa_cons (pv 2) (pa_cons (pe_meth (pv 0) T.tt.cl T.Table_earned.m (ok_Table_earned T) (hr.mono (by decide)) T.Table_earned.b .nil pass0 (pa_cons (pv 3) pa_nil)) pa_nil))) (fun _ _ _ _=>pg_tup (n:=2) rfl (pgs_cons (pgc_name (i:=0) (by decide +kernel) rfl (by decide +kernel)) (pgs_cons (pgc_name (i:=1) (by decide +kernel) rfl (by decide +kernel)) pgs_nil))) (fun _ _ _ _=>(pe_call (ok_plus T) (hr.mono (by decide)) rfl T.plus.m T.plus.F.kp T.plus.b .nil pass0 (pa_cons (pv 0) (pa_cons (pe_call (ok_times T) (hr.mono (by decide)) rfl T.times.m T.times.F.kp T.times.b .nil pass0 (pa_cons (pv 2) (pa_cons (pv 1) pa_nil))) pa_nil)))))))) (pss_one (ps_ret (pv 2)))))), rd_earned_by T.tt h⟩)
theorem sc_minus:FnScope N_minus ["one", "other"] (defScope s_minus):=⟨rfl, rfl, rfl, by decide +kernel, rfl, by decide +kernel, by decide +kernel⟩
theorem ok_minus (T:Tx K mg a):FnOk P w K mg base CX0 3 a.f_minus a.d_minus ["one", "other"] (sp_minus K):=by
  refine T.minus.F.ok sc_minus (fun vs H Q E h=>len_minus h) (fun cdv A outer s H vs Q E hr h=>⟨t_minus K, (pss_one (ps_ret (pe_call (ok_ratio T) (hr.mono (by decide)) rfl T.ratio.m T.ratio.F.kp T.ratio.b .nil pass0 (pa_cons (pe_op op_sub (pe_op op_mulB (pe_ix ix_tup (pv 0) pe_int (fun _ _=>rfl)) (pe_ix ix_tup (pv 1) pe_int (fun _ _=>rfl))) (pe_op op_mulB (pe_ix ix_tup (pv 1) pe_int (fun _ _=>rfl)) (pe_ix ix_tup (pv 0) pe_int (fun _ _=>rfl)))) (pa_cons (pe_op op_mulB (pe_ix ix_tup (pv 0) pe_int (fun _ _=>rfl)) (pe_ix ix_tup (pv 1) pe_int (fun _ _=>rfl))) pa_nil))))), rd_minus h⟩)
theorem sc_greatest:FnScope N_greatest ["fractions"] (defScope s_greatest):=⟨rfl, rfl, rfl, by decide +kernel, rfl, by decide +kernel, by decide +kernel⟩
theorem ok_greatest (T:Tx K mg a):FnOk P w K mg base CX0 2 a.f_greatest a.d_greatest ["fractions"] (sp_greatest K):=by
  refine T.greatest.F.ok sc_greatest (fun vs H Q E h=>len_greatest h) (fun cdv A outer s H vs Q E hr h=>⟨t_greatest K, (pss_cons (ps_set (i:=1) sc_greatest.nd rfl (Or.inl rfl) (pe_ix ix_list (pv 0) pe_int (fun _ _=>rfl))) (pss_cons (ps_for PassesOwn.never rfl (pi_list (pv 0)) (pg_name (i:=2) sc_greatest.nd rfl (Or.inl rfl)) (pss_one (ps_if (pt_val (pe_call (ok_below T) (hr.mono (by decide)) rfl T.below.m T.below.F.kp T.below.b .nil pass0 (pa_cons (pv 1) (pa_cons (pv 2) pa_nil)))) (pss_one (ps_set (i:=1) sc_greatest.nd rfl (Or.inl rfl) (pv 2))) pss_nil))) (pss_one (ps_ret (pv 1))))), rd_greatest h⟩)
theorem sc_rests:FnScope N_rests ["table", "hand"] (defScope s_rests):=⟨rfl, rfl, rfl, by decide +kernel, rfl, by decide +kernel, by decide +kernel⟩
theorem ok_rests (T:Tx K mg a):FnOk P w K mg base CX0 3 a.f_rests a.d_rests ["table", "hand"] (sp_rests K):=by
  refine T.rests.F.ok sc_rests (fun vs H Q E h=>len_rests h) (fun cdv A outer s H vs Q E hr h=>⟨t_rests K, (pss_cons (ps_set (i:=2) sc_rests.nd rfl (Or.inl rfl) (pe_meth0 (pv 0) T.tt.cl T.Table_sizes.m (ok_Table_sizes T) (hr.mono (by decide)) T.Table_sizes.b .nil pass0)) (pss_one (ps_ret (pe_call (ok_in_order T) (hr.mono (by decide)) rfl T.in_order.m T.in_order.F.kp T.in_order.b .nil pass0 (pa_cons (pe_op op_cat (pe_slice sl_list (pv 2) po_none (po_some (pv 1))) (pe_slice sl_list (pv 2) (po_some (pe_op op_add (pv 1) pe_int)) po_none)) pa_nil))))), rd_rests h⟩)
theorem sc_joined:FnScope N_joined ["rest", "hand", "choice"] (defScope s_joined):=⟨rfl, rfl, rfl, by decide +kernel, rfl, by decide +kernel, by decide +kernel⟩
theorem ok_joined (T:Tx K mg a):FnOk P w K mg base CX0 1 a.f_joined a.d_joined ["rest", "hand", "choice"] (sp_joined K):=by
  refine T.joined.F.ok sc_joined (fun vs H Q E h=>len_joined h) (fun cdv A outer s H vs Q E hr h=>⟨t_joined K, (pss_one (ps_ret (pe_op op_catA (pe_op op_catA (pe_slice sl_tupA (pv 0) po_none (po_some (pv 1))) (pe_tup (pa_cons (pv 2) pa_nil))) (pe_slice sl_tupA (pv 0) (po_some (pv 1)) po_none)))), rd_joined h⟩)
theorem sc_earned_with:FnScope N_earned_with ["table", "rest", "hand", "choice"] (defScope s_earned_with):=⟨rfl, rfl, rfl, by decide +kernel, rfl, by decide +kernel, by decide +kernel⟩
theorem ok_earned_with (T:Tx K mg a):FnOk P w K mg base CX0 2 a.f_earned_with a.d_earned_with ["table", "rest", "hand", "choice"] (sp_earned_with K):=by
  refine T.earned_with.F.ok sc_earned_with (fun vs H Q E h=>len_earned_with h) (fun cdv A outer s H vs Q E hr h=>⟨t_earned_with K, (pss_one (ps_ret (pe_ix ix_list (pe_meth (pv 0) T.tt.cl T.Table_earned.m (ok_Table_earned T) (hr.mono (by decide)) T.Table_earned.b .nil pass0 (pa_cons (pe_call (ok_joined T) (hr.mono (by decide)) rfl T.joined.m T.joined.F.kp T.joined.b .nil pass0 (pa_cons (pv 1) (pa_cons (pv 2) (pa_cons (pv 3) pa_nil)))) pa_nil)) (pv 2) (fun _ _=>rfl)))), rd_earned_with h⟩)
theorem sc_answer:FnScope N_answer ["table", "others", "hand", "choice"] (defScope s_answer):=⟨rfl, rfl, rfl, by decide +kernel, rfl, by decide +kernel, by decide +kernel⟩
theorem ok_answer (T:Tx K mg a):FnOk P w K mg base CX0 5 a.f_answer a.d_answer ["table", "others", "hand", "choice"] (sp_answer K):=by
  refine T.answer.F.ok sc_answer (fun vs H Q E h=>len_answer h) (fun cdv A outer s H vs Q E hr h=>⟨t_answer K, (pss_cons (ps_set (i:=4) sc_answer.nd rfl (Or.inl rfl) (pe_tup (pa_cons pe_int (pa_cons pe_int pa_nil)))) (pss_cons (ps_for PassesOwn.never rfl (pi_list (pe_call (ok_rests T) (hr.mono (by decide)) rfl T.rests.m T.rests.F.kp T.rests.b .nil pass0 (pa_cons (pv 0) (pa_cons (pv 2) pa_nil)))) (pg_name (i:=5) sc_answer.nd rfl (Or.inl rfl)) (pss_one (ps_set (i:=4) sc_answer.nd rfl (Or.inl rfl) (pe_call (ok_plus T) (hr.mono (by decide)) rfl T.plus.m T.plus.F.kp T.plus.b .nil pass0 (pa_cons (pv 4) (pa_cons (pe_call (ok_times T) (hr.mono (by decide)) rfl T.times.m T.times.F.kp T.times.b .nil pass0 (pa_cons (pe_call (ok_chance T) (hr.mono (by decide)) rfl T.chance.m T.chance.F.kp T.chance.b .nil pass0 (pa_cons (pv 5) (pa_cons (pv 1) pa_nil))) (pa_cons (pe_call (ok_earned_with T) (hr.mono (by decide)) rfl T.earned_with.m T.earned_with.F.kp T.earned_with.b .nil pass0 (pa_cons (pv 0) (pa_cons (pv 5) (pa_cons (pv 2) (pa_cons (pv 3) pa_nil))))) pa_nil))) pa_nil)))))) (pss_one (ps_ret (pv 4))))), rd_answer h⟩)
theorem sc_answers:FnScope N_answers ["table", "mixings", "hand"] (defScope s_answers):=⟨rfl, rfl, rfl, by decide +kernel, rfl, by decide +kernel, by decide +kernel⟩
theorem ok_answers (T:Tx K mg a):FnOk P w K mg base (CXF P w) 7 a.f_answers a.d_answers ["table", "mixings", "hand"] (sp_answers K):=by
  refine T.answers.F.okX sc_answers (fun vs H Q E h=>len_answers h) (fun cdv A outer s H vs Q E hr h=>⟨t_answers K E, (pss_cons (ps_expr (pe_call (ok_check_mixings T) (hr.mono (by decide)) rfl T.check_mixings.m T.check_mixings.F.kp T.check_mixings.b .nil passF (pa_cons (pv 0) (pa_cons (pv 1) pa_nil)))) (pss_cons (ps_set (i:=3) sc_answers.nd rfl (Or.inr rfl) (pe_op op_cat (pe_slice sl_list (pv 1) po_none (po_some (pv 2))) (pe_slice sl_list (pv 1) (po_some (pe_op op_add (pv 2) pe_int)) po_none))) (pss_one (ps_ret (pe_comp (FS:=defScope s_answers) (N:=N_answers) (x:="choice") (ys:=["table", "others", "hand"]) (caps:=[0, 3, 2]) ⟨by decide +kernel, rfl, by decide +kernel, rfl, by decide +kernel, rfl, by decide +kernel, rfl, by decide +kernel⟩ rfl rfl rfl (pi_range1 rfl T.n_range (pa_cons (pe_ix ix_list (pe_meth0 (pv 0) T.tt.cl T.Table_sizes.m (ok_Table_sizes T) (hr.mono (by decide)) T.Table_sizes.b .nil pass0) (pv 2) (fun _ _=>rfl)) pa_nil)) (fun _ _ _ _=>(pe_call (ok_answer T) (hr.mono (by decide)) rfl T.answer.m T.answer.F.kp T.answer.b .nil pass0 (pa_cons (pv 1) (pa_cons (pv 2) (pa_cons (pv 3) (pa_cons (pv 0) pa_nil))))))))))), rd_answers h⟩)
theorem sc_gains:FnScope N_gains ["table", "mixings"] (defScope s_gains):=⟨rfl, rfl, rfl, by decide +kernel, rfl, by decide +kernel, by decide +kernel⟩
theorem ok_gains (T:Tx K mg a):FnOk P w K mg base (CXF P w) 8 a.f_gains a.d_gains ["table", "mixings"] (sp_gains K):=by
  refine T.gains.F.okX sc_gains (fun vs H Q E h=>len_gains h) (fun cdv A outer s H vs Q E hr h=>⟨t_gains K E, (pss_cons (ps_set (i:=2) sc_gains.nd rfl (Or.inl rfl) (pe_lst pa_nil)) (pss_cons (ps_for PassesOwn.leaving rfl (pi_enum rfl T.n_enumerate (pe_call (ok_earned_by T) (hr.mono (by decide)) rfl T.earned_by.m T.earned_by.F.kp T.earned_by.b .nil passF (pa_cons (pv 0) (pa_cons (pv 1) pa_nil)))) (pg_tup (n:=2) rfl (pgs_cons (pg_name (i:=3) sc_gains.nd rfl (Or.inl rfl)) (pgs_cons (pg_name (i:=4) sc_gains.nd rfl (Or.inl rfl)) pgs_nil))) (pss_one (ps_expr (pe_bm PySem.F.plainAttrs_list PySem.F.slot_list_append PySem.F.type_list_append mt_append (pv 2) (pa_cons (pe_call (ok_minus T) (hr.mono (by decide)) rfl T.minus.m T.minus.F.kp T.minus.b .nil pass0 (pa_cons (pe_call (ok_greatest T) (hr.mono (by decide)) rfl T.greatest.m T.greatest.F.kp T.greatest.b .nil pass0 (pa_cons (pe_call (ok_answers T) (hr.mono (by decide)) rfl T.answers.m T.answers.F.kp T.answers.b .nil passF (pa_cons (pv 0) (pa_cons (pv 1) (pa_cons (pv 3) pa_nil)))) pa_nil)) (pa_cons (pv 4) pa_nil))) pa_nil))))) (pss_one (ps_ret (pv 2))))), rd_gains h⟩)
theorem sc_l_asked:FnScope N_l_asked ["_law_table", "_law_mixings_here", "_law_way"] (defScope s_l_asked):=⟨rfl, rfl, rfl, by decide +kernel, rfl, by decide +kernel, by decide +kernel⟩
theorem ok_l_asked (T:Tx K mg a):FnOk P w K mg base (CXF P w) 9 a.f_l_asked a.d_l_asked ["_law_table", "_law_mixings_here", "_law_way"] (sp_l_asked K):=by
  refine T.l_asked.F.okX sc_l_asked (fun vs H Q E h=>len_l_asked h) (fun cdv A outer s H vs Q E hr h=>⟨t_l_asked K E, (pss_cons (ps_if (pt_cmpR op_eq (pv 2) pe_int (nomark _)) (pss_one (ps_ret (pe_call (ok_earned_by T) (hr.mono (by decide)) rfl T.earned_by.m T.earned_by.F.kp T.earned_by.b .nil passF (pa_cons (pv 0) (pa_cons (pv 1) pa_nil))))) pss_nil) (pss_cons (ps_if (pt_cmpR op_eq (pv 2) pe_int (nomark _)) (pss_one (ps_ret (pe_call (ok_gains T) (hr.mono (by decide)) rfl T.gains.m T.gains.F.kp T.gains.b .nil passF (pa_cons (pv 0) (pa_cons (pv 1) pa_nil))))) pss_nil) (pss_one (ps_ret (pe_call (ok_answers T) (hr.mono (by decide)) rfl T.answers.m T.answers.F.kp T.answers.b .nil passF (pa_cons (pv 0) (pa_cons (pv 1) (pa_cons (pe_op op_sub (pv 2) pe_int) pa_nil)))))))), rd_l_asked h⟩)
theorem sc_l_whole:FnScope N_l_whole ["_law_found"] (defScope s_l_whole):=⟨rfl, rfl, rfl, by decide +kernel, rfl, by decide +kernel, by decide +kernel⟩
theorem ok_l_whole (T:Tx K mg a):FnOk P w K mg base CX0 1 a.f_l_whole a.d_l_whole ["_law_found"] (sp_l_whole K):=by
  refine T.l_whole.F.ok sc_l_whole (fun vs H Q E h=>len_l_whole h) (fun cdv A outer s H vs Q E hr h=>⟨t_l_whole K, (pss_one (ps_ret (pe_and (pe_callB call_isB rfl T.n_isinstance bt_isinstance (pa_cons (pv 0) (pa_cons (pe_bltn (v:=.ty "int") rfl T.n_int bt_int rfl) pa_nil))) (pe_one (pe_not (pe_callB call_isB rfl T.n_isinstance bt_isinstance (pa_cons (pv 0) (pa_cons (pe_bltn (v:=.ty "bool") rfl T.n_bool bt_bool rfl) pa_nil)))))))), rd_l_whole h⟩)
theorem sc_l_refused:FnScope N_l_refused ["_law_table", "_law_mixings_here", "_law_way", "_law_hand"] (defScope s_l_refused):=⟨rfl, rfl, rfl, by decide +kernel, rfl, by decide +kernel, by decide +kernel⟩
theorem ok_l_refused (T:Tx K mg a):FnOk P w K mg base CX0 10 a.f_l_refused a.d_l_refused ["_law_table", "_law_mixings_here", "_law_way", "_law_hand"] (sp_l_refused K):=by
  refine T.l_refused.F.ok sc_l_refused (fun vs H Q E h=>len_l_refused h) (fun cdv A outer s H vs Q E hr h=>⟨t_l_refused K, (pss_cons (ps_set (i:=4) sc_l_refused.nd rfl (Or.inl rfl) pe_non) (pss_cons (ps_try (pex_call (ok_l_asked T) (hr.mono (by decide)) rfl T.l_asked.m T.l_asked.F.kp T.l_asked.b (pa_cons (pv 0) (pa_cons (pv 1) (pa_cons (pv 2) pa_nil)))) (fun _=>(pss_one (ps_set (i:=4) sc_l_refused.nd rfl (Or.inl rfl) (pv 5)))) rfl rfl rfl rfl T.c_PlayError T.exm sc_l_refused.nd rfl rfl) (pss_cons (ps_if (pt_val (pe_callB call_isE rfl T.n_isinstance bt_isinstance (pa_cons (pv 4) (pa_cons (pe_tup (pa_cons (pe_glob (v:=.ref (gadr K "NoNumber")) rfl T.c_NoNumber rfl) (pa_cons (pe_glob (v:=.ref (gadr K "NoTable")) rfl T.c_NoTable rfl) (pa_cons (pe_glob (v:=.ref (gadr K "NoStart")) rfl T.c_NoStart rfl) (pa_cons (pe_glob (v:=.ref (gadr K "NoOrder")) rfl T.c_NoOrder rfl) (pa_cons (pe_glob (v:=.ref (gadr K "NotTwo")) rfl T.c_NotTwo rfl) (pa_cons (pe_glob (v:=.ref (gadr K "NoPlan")) rfl T.c_NoPlan rfl) (pa_cons (pe_glob (v:=.ref (gadr K "NoChoice")) rfl T.c_NoChoice rfl) pa_nil)))))))) pa_nil)))) (pss_one (ps_ret pe_bl)) pss_nil) (pss_cons (ps_if (PW.pt (pw_or (pt_not (pt_val (pe_callB call_isE rfl T.n_isinstance bt_isinstance (pa_cons (pv 4) (pa_cons (pe_glob (v:=.ref (gadr K "NoMixing")) rfl T.c_NoMixing rfl) pa_nil))))) (pw_or1 (pt_not (pt_val (pe_callB call_isE rfl T.n_isinstance bt_isinstance (pa_cons (pv 4) (pa_cons (pe_bltn (v:=.ty "ValueError") rfl T.n_ValueError bt_ValueError rfl) pa_nil)))))))) (pss_one (ps_ret pe_bl)) pss_nil) (pss_one (ps_ret (pe_and (pe_call (ok_l_whole T) (hr.mono (by decide)) rfl T.l_whole.m T.l_whole.F.kp T.l_whole.b .nil pass0 (pa_cons (pe_fldX (pv 4) rfl) pa_nil)) (pe_one (pe_cmpR op_eq (pe_fldX (pv 4) rfl) (pv 3) (nomark _)))))))))), rd_l_refused T.xt T.xk h⟩)
theorem sc_law:FnScope N_law ["_law_script"] (defScope s_law):=⟨rfl, rfl, rfl, by decide +kernel, rfl, by decide +kernel, by decide +kernel⟩
theorem ok_law (T:Tx K mg a):FnOk P w K mg base CX0 11 a.f_law a.d_law ["_law_script"] (sp_law K):=by
  refine T.law.F.ok sc_law (fun vs H Q E h=>len_law h) (fun cdv A outer s H vs Q E hr h=>⟨t_law K, (pss_cons (ps_set (i:=1) sc_law.nd rfl (Or.inl rfl) (pe_call (ok_l_sizes T) (hr.mono (by decide)) rfl T.l_sizes.m T.l_sizes.F.kp T.l_sizes.b .nil pass0 (pa_cons (pv 0) pa_nil))) (pss_cons (ps_set (i:=2) sc_law.nd rfl (Or.inl rfl) (pe_make T.mk_Table (ok_Table_init T) (hr.mono (by decide)) rfl T.c_Table T.Table_init.b .nil pass0 (pa_cons (pe_callTy call_list_of rfl T.n_list bt_list (pa_cons (pv 1) pa_nil)) (pa_cons (pe_call (ok_l_cells T) (hr.mono (by decide)) rfl T.l_cells.m T.l_cells.F.kp T.l_cells.b .nil pass0 (pa_cons (pv 0) (pa_cons (pe_call (ok_l_order T) (hr.mono (by decide)) rfl T.l_order.m T.l_order.F.kp T.l_order.b .nil pass0 (pa_cons (pv 1) pa_nil)) (pa_cons (pe_callB call_len_seq rfl T.n_len bt_len (pa_cons (pv 1) pa_nil)) pa_nil)))) pa_nil)))) (pss_cons (ps_set (i:=3) sc_law.nd rfl (Or.inr rfl) (pe_call (ok_l_mixings T) (hr.mono (by decide)) rfl T.l_mixings.m T.l_mixings.F.kp T.l_mixings.b .nil pass0 (pa_cons (pe_call (ok_l_parts T) (hr.mono (by decide)) rfl T.l_parts.m T.l_parts.F.kp T.l_parts.b .nil pass0 (pa_cons (pv 0) (pa_cons (pv 1) pa_nil))) pa_nil))) (pss_cons (ps_set (i:=4) sc_law.nd rfl (Or.inr rfl) (pe_comp (FS:=defScope s_law) (N:=N_law) (x:="_law_k") (ys:=["_law_right", "_law_script"]) (caps:=[3, 0]) ⟨by decide +kernel, rfl, by decide +kernel, rfl, by decide +kernel, rfl, by decide +kernel, rfl, by decide +kernel⟩ rfl rfl rfl (pi_range1 rfl T.n_range (pa_cons (pe_callB call_len_seq rfl T.n_len bt_len (pa_cons (pv 1) pa_nil)) pa_nil)) (fun _ _ _ _=>(pe_call (ok_l_spoiled T) (hr.mono (by decide)) rfl T.l_spoiled.m T.l_spoiled.F.kp T.l_spoiled.b .nil pass0 (pa_cons (pe_ix ix_list (pv 1) (pv 0) (fun _ _=>rfl)) (pa_cons (pe_op op_mod (pe_call (ok_l_cell_at T) (hr.mono (by decide)) rfl T.l_cell_at.m T.l_cell_at.F.kp T.l_cell_at.b .nil pass0 (pa_cons (pv 2) (pa_cons (pe_op op_add pe_int (pv 0)) pa_nil))) (pe_op op_pow pe_int pe_int)) pa_nil)))))) (pss_cons (ps_setCompI (i:=5) (FS:=defScope s_law) (N:=N_law) (x:="_law_k") (ys:=["_law_lists", "_law_right"]) (caps:=[4, 3]) ⟨by decide +kernel, rfl, by decide +kernel, rfl, by decide +kernel, rfl, by decide +kernel, rfl, by decide +kernel⟩ rfl rfl rfl sc_law.nd rfl (Or.inl rfl) (pi_range1 rfl T.n_range (pa_cons (pe_callB call_len_seq rfl T.n_len bt_len (pa_cons (pv 1) pa_nil)) pa_nil)) (fun _ _ _ _=>(pt_cmpR (op_neD 1 (Nat.lt_of_le_of_lt (Nat.add_le_add_left (by decide) _) hr.units)) (pe_ix ix_list (pv 1) (pv 0) (fun _ _=>rfl)) (pe_ix ix_list (pv 2) (pv 0) (fun _ _=>rfl)) (nomark _))) (fun _ _ _ _=>(pv 0))) (pss_cons (ps_setComp (i:=6) (FS:=defScope s_law) (N:=N_law) (x:="_law_weights") (ys:=[]) (caps:=[]) ⟨by decide +kernel, rfl, by decide +kernel, rfl, by decide +kernel, rfl, by decide +kernel, rfl, by decide +kernel⟩ rfl rfl rfl sc_law.nd rfl (Or.inl rfl) (pi_list (pv 4)) (fun _ _ _ _=>(pe_callTy call_list_of rfl T.n_list bt_list (pa_cons (pv 0) pa_nil)))) (pss_cons (ps_if (pt_cmpR op_ne (pe_fldX (pe_makeE T.me_NoMixing (ok_NoMixing_init T) (hr.mono (by decide)) rfl rfl T.c_NoMixing T.NoMixing_init.b (pa_cons (pe_op op_mod (pe_call (ok_l_cell_at T) (hr.mono (by decide)) rfl T.l_cell_at.m T.l_cell_at.F.kp T.l_cell_at.b .nil pass0 (pa_cons (pv 0) (pa_cons pe_int pa_nil))) pe_int) pa_nil)) rfl) (pe_op op_mod (pe_call (ok_l_cell_at T) (hr.mono (by decide)) rfl T.l_cell_at.m T.l_cell_at.F.kp T.l_cell_at.b .nil pass0 (pa_cons (pv 0) (pa_cons pe_int pa_nil))) pe_int) (nomark _)) (pss_one (ps_ret pe_bl)) pss_nil) (pss_cons (ps_for PassesOwn.never rfl (pi_range1 rfl T.n_range (pa_cons (pe_op op_add pe_int (pe_callB call_len_seq rfl T.n_len bt_len (pa_cons (pv 1) pa_nil))) pa_nil)) (pg_name (i:=7) sc_law.nd rfl (Or.inl rfl)) (pss_cons (ps_if (PW.pt (pw_and (pt_cmpR (op_neD 0 (hu_of hr)) (pv 5) (pe_lst pa_nil) (nomark _)) (pw_and1 (pt_not (pt_val (pe_call (ok_l_refused T) (hr.mono (by decide)) rfl T.l_refused.m T.l_refused.F.kp T.l_refused.b .nil pass0 (pa_cons (pv 2) (pa_cons (pv 6) (pa_cons (pv 7) (pa_cons (pe_ix ix_list (pv 5) pe_int (fun _ _=>rfl)) pa_nil)))))))))) (pss_one (ps_ret pe_bl)) pss_nil) (pss_one (ps_if (PW.pt (pw_or (pt_cmpR (op_neD 2 (Nat.lt_of_le_of_lt (Nat.add_le_add_left (by decide) _) hr.units)) (pv 6) (pv 4) (nomark _)) (pw_or1 (pt_not (pt_val (pe_callB call_isB2 rfl T.n_isinstance bt_isinstance (pa_cons (pe_call (ok_l_asked T) (hr.mono (by decide)) rfl T.l_asked.m T.l_asked.F.kp T.l_asked.b .nil passN (pa_cons (pv 2) (pa_cons (pv 3) (pa_cons (pv 7) pa_nil)))) (pa_cons (pe_bltn (v:=.ty "list") rfl T.n_list bt_list rfl) pa_nil)))))))) (pss_one (ps_ret pe_bl)) pss_nil)))) (pss_one (ps_ret pe_bl)))))))))), rd_law T.xk h⟩)
end
theorem ar1 {P:List Value → Prop} (h:∀ a, P [a]):∀ us:List Value, us.length = 1 → P us
  | [a], _=>h a
theorem ar2 {P:List Value → Prop} (h:∀ a b, P [a, b]):∀ us:List Value, us.length = 2 → P us
  | [], e=>nomatch e
  | a :: us, e=>ar1 (P:=fun l=>P (a :: l)) (h a) us (Nat.succ.inj e)
theorem ar3 {P:List Value → Prop} (h:∀ a b c, P [a, b, c]):∀ us:List Value, us.length = 3 → P us
  | [], e=>nomatch e
  | a :: us, e=>ar2 (P:=fun l=>P (a :: l)) (h a) us (Nat.succ.inj e)
theorem ar4 {P:List Value → Prop} (h:∀ a b c d, P [a, b, c, d]):∀ us:List Value, us.length = 4 → P us
  | [], e=>nomatch e
  | a :: us, e=>ar3 (P:=fun l=>P (a :: l)) (h a) us (Nat.succ.inj e)
theorem all_mk {l:PySem.W.OpenLaw} {w:World} {K:PySem.W.Frag} {h:Heap} {mg:Str → Option Value} {fa f0 f1 f2 f3 f4 f5 f6 f7 f8 f9 f10 f11 f12 f13 f14 f15 f16 f17 f18 f19 f20 f21 f22 f23 f24 f25 f26 f27 f28 f29 f30 f31 f32 f33 f34 f35 f36 f37 f38 f39 f40 f41:Addr} {C0 C1 C2 C3 C4 C5 C6 C7 C8 C9:Addr} (X:K.In h) (G:h.Ns mainGlobals mg) (hfa:mg "law" = some (.ref fa))
    {od0 an0 od1 an1 od2 an2 od3 an3 od4 an4 od5 an5 od6 an6 od7 an7 od8 an8 od9 an9 od10 an10 od11 an11 od12 an12 od13 an13 od14 an14 od15 an15 od16 an16 od17 an17 od18 an18 od19 an19 od20 an20 od21 an21 od22 an22 od23 an23 od24 an24 od25 an25 od26 an26 od27 an27 od28 an28 od29 an29 od30 an30 od31 an31 od32 an32 od33 an33 od34 an34 od35 an35 od36 an36 od37 an37 od38 an38 od39 an39 od40 an40 od41 an41:Option Addr} {sl0 sl1 sl2 sl3 sl4 sl5 sl6 sl7 sl8 sl9 sl10 sl11 sl12 sl13 sl14 sl15 sl16 sl17 sl18 sl19 sl20 sl21 sl22 sl23 sl24 sl25 sl26 sl27 sl28 sl29 sl30 sl31 sl32 sl33 sl34 sl35 sl36 sl37 sl38 sl39 sl40 sl41:Array (Option Value)} {oc0 kV0 dc0 pm0 cd0 ct0 oc1 kV1 dc1 pm1 cd1 ct1 oc2 kV2 dc2 pm2 cd2 ct2 oc3 kV3 dc3 pm3 cd3 ct3 oc4 kV4 dc4 pm4 cd4 ct4 oc5 kV5 dc5 pm5 cd5 ct5 oc6 kV6 dc6 pm6 cd6 ct6 oc7 kV7 dc7 pm7 cd7 ct7 oc8 kV8 dc8 pm8 cd8 ct8 oc9 kV9 dc9 pm9 cd9 ct9 oc10 kV10 dc10 pm10 cd10 ct10 oc11 kV11 dc11 pm11 cd11 ct11 oc12 kV12 dc12 pm12 cd12 ct12 oc13 kV13 dc13 pm13 cd13 ct13 oc14 kV14 dc14 pm14 cd14 ct14 oc15 kV15 dc15 pm15 cd15 ct15 oc16 kV16 dc16 pm16 cd16 ct16 oc17 kV17 dc17 pm17 cd17 ct17 oc18 kV18 dc18 pm18 cd18 ct18 oc19 kV19 dc19 pm19 cd19 ct19 oc20 kV20 dc20 pm20 cd20 ct20 oc21 kV21 dc21 pm21 cd21 ct21 oc22 kV22 dc22 pm22 cd22 ct22 oc23 kV23 dc23 pm23 cd23 ct23 oc24 kV24 dc24 pm24 cd24 ct24 oc25 kV25 dc25 pm25 cd25 ct25 oc26 kV26 dc26 pm26 cd26 ct26 oc27 kV27 dc27 pm27 cd27 ct27 oc28 kV28 dc28 pm28 cd28 ct28 oc29 kV29 dc29 pm29 cd29 ct29 oc30 kV30 dc30 pm30 cd30 ct30 oc31 kV31 dc31 pm31 cd31 ct31 oc32 kV32 dc32 pm32 cd32 ct32 oc33 kV33 dc33 pm33 cd33 ct33 oc34 kV34 dc34 pm34 cd34 ct34 oc35 kV35 dc35 pm35 cd35 ct35 oc36 kV36 dc36 pm36 cd36 ct36 oc37 kV37 dc37 pm37 cd37 ct37 oc38 kV38 dc38 pm38 cd38 ct38 oc39 kV39 dc39 pm39 cd39 ct39 oc40 kV40 dc40 pm40 cd40 ct40 oc41 kV41 dc41 pm41 cd41 ct41:Value}
    (y0:PySem.W.nsIn K mainGlobals "NoChoice" = some (some (.ref C0))) (y1:PySem.W.nsIn K mainGlobals "NoMixing" = some (some (.ref C1))) (y2:PySem.W.nsIn K mainGlobals "NoNumber" = some (some (.ref C2))) (y3:PySem.W.nsIn K mainGlobals "NoOrder" = some (some (.ref C3))) (y4:PySem.W.nsIn K mainGlobals "NoPlan" = some (some (.ref C4))) (y5:PySem.W.nsIn K mainGlobals "NoStart" = some (some (.ref C5))) (y6:PySem.W.nsIn K mainGlobals "NoTable" = some (some (.ref C6))) (y7:PySem.W.nsIn K mainGlobals "NotTwo" = some (some (.ref C7))) (y8:PySem.W.nsIn K mainGlobals "PlayError" = some (some (.ref C8))) (y9:PySem.W.nsIn K mainGlobals "Table" = some (some (.ref C9)))
    (a0:PySem.W.nsIn K mainGlobals "_law_cell_at" = some (some (.ref f0))) (l0:K.lookup f0 = some ⟨oc0, od0, .func (PySem.W.fnOf "_law_cell_at" "_law_cell_at" (defArgs s_l_cell_at) (defBody s_l_cell_at) (defScope s_l_cell_at) .none kV0 dc0 pm0 an0 cd0 ct0), sl0⟩) (c0:PySem.W.codeIn K cd0 "_law_cell_at" = true) (k0:PySem.W.keepIn K (.ref f0) = true)
    (a1:PySem.W.nsIn K mainGlobals "_law_sizes" = some (some (.ref f1))) (l1:K.lookup f1 = some ⟨oc1, od1, .func (PySem.W.fnOf "_law_sizes" "_law_sizes" (defArgs s_l_sizes) (defBody s_l_sizes) (defScope s_l_sizes) .none kV1 dc1 pm1 an1 cd1 ct1), sl1⟩) (c1:PySem.W.codeIn K cd1 "_law_sizes" = true) (k1:PySem.W.keepIn K (.ref f1) = true)
    (a2:PySem.W.nsIn K mainGlobals "check_sizes" = some (some (.ref f2))) (l2:K.lookup f2 = some ⟨oc2, od2, .func (PySem.W.fnOf "check_sizes" "check_sizes" (defArgs s_check_sizes) (defBody s_check_sizes) (defScope s_check_sizes) .none kV2 dc2 pm2 an2 cd2 ct2), sl2⟩) (c2:PySem.W.codeIn K cd2 "check_sizes" = true) (k2:PySem.W.keepIn K (.ref f2) = true)
    (a3:PySem.W.nsIn K mainGlobals "one_of_each" = some (some (.ref f3))) (l3:K.lookup f3 = some ⟨oc3, od3, .func (PySem.W.fnOf "one_of_each" "one_of_each" (defArgs s_one_of_each) (defBody s_one_of_each) (defScope s_one_of_each) .none kV3 dc3 pm3 an3 cd3 ct3), sl3⟩) (c3:PySem.W.codeIn K cd3 "one_of_each" = true) (k3:PySem.W.keepIn K (.ref f3) = true)
    (a4:PySem.W.nsIn K mainGlobals "in_order" = some (some (.ref f4))) (l4:K.lookup f4 = some ⟨oc4, od4, .func (PySem.W.fnOf "in_order" "in_order" (defArgs s_in_order) (defBody s_in_order) (defScope s_in_order) .none kV4 dc4 pm4 an4 cd4 ct4), sl4⟩) (c4:PySem.W.codeIn K cd4 "in_order" = true) (k4:PySem.W.keepIn K (.ref f4) = true)
    (a5:PySem.W.nsIn K mainGlobals "check_cells" = some (some (.ref f5))) (l5:K.lookup f5 = some ⟨oc5, od5, .func (PySem.W.fnOf "check_cells" "check_cells" (defArgs s_check_cells) (defBody s_check_cells) (defScope s_check_cells) .none kV5 dc5 pm5 an5 cd5 ct5), sl5⟩) (c5:PySem.W.codeIn K cd5 "check_cells" = true) (k5:PySem.W.keepIn K (.ref f5) = true)
    (a6:PySem.W.findIn K (.ref C9) "__init__" = some (some (.ref f6))) (i6:PySem.W.isFn K (.ref f6) = true) (l6:K.lookup f6 = some ⟨oc6, od6, .func (PySem.W.fnOf "__init__" "Table.__init__" (defArgs s_Table_init) (defBody s_Table_init) (defScope s_Table_init) .none kV6 dc6 pm6 an6 cd6 ct6), sl6⟩) (c6:PySem.W.codeIn K cd6 "Table.__init__" = true) (k6:PySem.W.keepIn K (.ref f6) = true)
    (a7:PySem.W.nsIn K mainGlobals "_law_cells" = some (some (.ref f7))) (l7:K.lookup f7 = some ⟨oc7, od7, .func (PySem.W.fnOf "_law_cells" "_law_cells" (defArgs s_l_cells) (defBody s_l_cells) (defScope s_l_cells) .none kV7 dc7 pm7 an7 cd7 ct7), sl7⟩) (c7:PySem.W.codeIn K cd7 "_law_cells" = true) (k7:PySem.W.keepIn K (.ref f7) = true)
    (a8:PySem.W.nsIn K mainGlobals "_law_play" = some (some (.ref f8))) (l8:K.lookup f8 = some ⟨oc8, od8, .func (PySem.W.fnOf "_law_play" "_law_play" (defArgs s_l_play) (defBody s_l_play) (defScope s_l_play) .none kV8 dc8 pm8 an8 cd8 ct8), sl8⟩) (c8:PySem.W.codeIn K cd8 "_law_play" = true) (k8:PySem.W.keepIn K (.ref f8) = true)
    (a9:PySem.W.nsIn K mainGlobals "_law_order" = some (some (.ref f9))) (l9:K.lookup f9 = some ⟨oc9, od9, .func (PySem.W.fnOf "_law_order" "_law_order" (defArgs s_l_order) (defBody s_l_order) (defScope s_l_order) .none kV9 dc9 pm9 an9 cd9 ct9), sl9⟩) (c9:PySem.W.codeIn K cd9 "_law_order" = true) (k9:PySem.W.keepIn K (.ref f9) = true)
    (a10:PySem.W.nsIn K mainGlobals "_law_divisor" = some (some (.ref f10))) (l10:K.lookup f10 = some ⟨oc10, od10, .func (PySem.W.fnOf "_law_divisor" "_law_divisor" (defArgs s_l_divisor) (defBody s_l_divisor) (defScope s_l_divisor) .none kV10 dc10 pm10 an10 cd10 ct10), sl10⟩) (c10:PySem.W.codeIn K cd10 "_law_divisor" = true) (k10:PySem.W.keepIn K (.ref f10) = true)
    (a11:PySem.W.nsIn K mainGlobals "_law_lowest" = some (some (.ref f11))) (l11:K.lookup f11 = some ⟨oc11, od11, .func (PySem.W.fnOf "_law_lowest" "_law_lowest" (defArgs s_l_lowest) (defBody s_l_lowest) (defScope s_l_lowest) .none kV11 dc11 pm11 an11 cd11 ct11), sl11⟩) (c11:PySem.W.codeIn K cd11 "_law_lowest" = true) (k11:PySem.W.keepIn K (.ref f11) = true)
    (a12:PySem.W.nsIn K mainGlobals "_law_mixings" = some (some (.ref f12))) (l12:K.lookup f12 = some ⟨oc12, od12, .func (PySem.W.fnOf "_law_mixings" "_law_mixings" (defArgs s_l_mixings) (defBody s_l_mixings) (defScope s_l_mixings) .none kV12 dc12 pm12 an12 cd12 ct12), sl12⟩) (c12:PySem.W.codeIn K cd12 "_law_mixings" = true) (k12:PySem.W.keepIn K (.ref f12) = true)
    (a13:PySem.W.nsIn K mainGlobals "_law_parts" = some (some (.ref f13))) (l13:K.lookup f13 = some ⟨oc13, od13, .func (PySem.W.fnOf "_law_parts" "_law_parts" (defArgs s_l_parts) (defBody s_l_parts) (defScope s_l_parts) .none kV13 dc13 pm13 an13 cd13 ct13), sl13⟩) (c13:PySem.W.codeIn K cd13 "_law_parts" = true) (k13:PySem.W.keepIn K (.ref f13) = true)
    (a14:PySem.W.nsIn K mainGlobals "_law_more" = some (some (.ref f14))) (l14:K.lookup f14 = some ⟨oc14, od14, .func (PySem.W.fnOf "_law_more" "_law_more" (defArgs s_l_more) (defBody s_l_more) (defScope s_l_more) .none kV14 dc14 pm14 an14 cd14 ct14), sl14⟩) (c14:PySem.W.codeIn K cd14 "_law_more" = true) (k14:PySem.W.keepIn K (.ref f14) = true)
    (a15:PySem.W.nsIn K mainGlobals "_law_spoiled" = some (some (.ref f15))) (l15:K.lookup f15 = some ⟨oc15, od15, .func (PySem.W.fnOf "_law_spoiled" "_law_spoiled" (defArgs s_l_spoiled) (defBody s_l_spoiled) (defScope s_l_spoiled) .none kV15 dc15 pm15 an15 cd15 ct15), sl15⟩) (c15:PySem.W.codeIn K cd15 "_law_spoiled" = true) (k15:PySem.W.keepIn K (.ref f15) = true)
    (a16:PySem.W.findIn K (.ref C1) "__init__" = some (some (.ref f16))) (i16:PySem.W.isFn K (.ref f16) = true) (l16:K.lookup f16 = some ⟨oc16, od16, .func (PySem.W.fnOf "__init__" "NoMixing.__init__" (defArgs s_NoMixing_init) (defBody s_NoMixing_init) (defScope s_NoMixing_init) .none kV16 dc16 pm16 an16 cd16 ct16), sl16⟩) (c16:PySem.W.codeIn K cd16 "NoMixing.__init__" = true) (k16:PySem.W.keepIn K (.ref f16) = true)
    (a17:PySem.W.findIn K (.ref C9) "sizes" = some (some (.ref f17))) (i17:PySem.W.isFn K (.ref f17) = true) (l17:K.lookup f17 = some ⟨oc17, od17, .func (PySem.W.fnOf "sizes" "Table.sizes" (defArgs s_Table_sizes) (defBody s_Table_sizes) (defScope s_Table_sizes) .none kV17 dc17 pm17 an17 cd17 ct17), sl17⟩) (c17:PySem.W.codeIn K cd17 "Table.sizes" = true) (k17:PySem.W.keepIn K (.ref f17) = true)
    (a18:PySem.W.nsIn K mainGlobals "below" = some (some (.ref f18))) (l18:K.lookup f18 = some ⟨oc18, od18, .func (PySem.W.fnOf "below" "below" (defArgs s_below) (defBody s_below) (defScope s_below) .none kV18 dc18 pm18 an18 cd18 ct18), sl18⟩) (c18:PySem.W.codeIn K cd18 "below" = true) (k18:PySem.W.keepIn K (.ref f18) = true)
    (a19:PySem.W.nsIn K mainGlobals "divisor" = some (some (.ref f19))) (l19:K.lookup f19 = some ⟨oc19, od19, .func (PySem.W.fnOf "divisor" "divisor" (defArgs s_divisor) (defBody s_divisor) (defScope s_divisor) .none kV19 dc19 pm19 an19 cd19 ct19), sl19⟩) (c19:PySem.W.codeIn K cd19 "divisor" = true) (k19:PySem.W.keepIn K (.ref f19) = true)
    (a20:PySem.W.nsIn K mainGlobals "ratio" = some (some (.ref f20))) (l20:K.lookup f20 = some ⟨oc20, od20, .func (PySem.W.fnOf "ratio" "ratio" (defArgs s_ratio) (defBody s_ratio) (defScope s_ratio) .none kV20 dc20 pm20 an20 cd20 ct20), sl20⟩) (c20:PySem.W.codeIn K cd20 "ratio" = true) (k20:PySem.W.keepIn K (.ref f20) = true)
    (a21:PySem.W.nsIn K mainGlobals "plus" = some (some (.ref f21))) (l21:K.lookup f21 = some ⟨oc21, od21, .func (PySem.W.fnOf "plus" "plus" (defArgs s_plus) (defBody s_plus) (defScope s_plus) .none kV21 dc21 pm21 an21 cd21 ct21), sl21⟩) (c21:PySem.W.codeIn K cd21 "plus" = true) (k21:PySem.W.keepIn K (.ref f21) = true)
    (a22:PySem.W.nsIn K mainGlobals "summed" = some (some (.ref f22))) (l22:K.lookup f22 = some ⟨oc22, od22, .func (PySem.W.fnOf "summed" "summed" (defArgs s_summed) (defBody s_summed) (defScope s_summed) .none kV22 dc22 pm22 an22 cd22 ct22), sl22⟩) (c22:PySem.W.codeIn K cd22 "summed" = true) (k22:PySem.W.keepIn K (.ref f22) = true)
    (a23:PySem.W.nsIn K mainGlobals "is_mixing" = some (some (.ref f23))) (l23:K.lookup f23 = some ⟨oc23, od23, .func (PySem.W.fnOf "is_mixing" "is_mixing" (defArgs s_is_mixing) (defBody s_is_mixing) (defScope s_is_mixing) .none kV23 dc23 pm23 an23 cd23 ct23), sl23⟩) (c23:PySem.W.codeIn K cd23 "is_mixing" = true) (k23:PySem.W.keepIn K (.ref f23) = true)
    (a24:PySem.W.nsIn K mainGlobals "check_mixings" = some (some (.ref f24))) (l24:K.lookup f24 = some ⟨oc24, od24, .func (PySem.W.fnOf "check_mixings" "check_mixings" (defArgs s_check_mixings) (defBody s_check_mixings) (defScope s_check_mixings) .none kV24 dc24 pm24 an24 cd24 ct24), sl24⟩) (c24:PySem.W.codeIn K cd24 "check_mixings" = true) (k24:PySem.W.keepIn K (.ref f24) = true)
    (a25:PySem.W.findIn K (.ref C9) "plays" = some (some (.ref f25))) (i25:PySem.W.isFn K (.ref f25) = true) (l25:K.lookup f25 = some ⟨oc25, od25, .func (PySem.W.fnOf "plays" "Table.plays" (defArgs s_Table_plays) (defBody s_Table_plays) (defScope s_Table_plays) .none kV25 dc25 pm25 an25 cd25 ct25), sl25⟩) (c25:PySem.W.codeIn K cd25 "Table.plays" = true) (k25:PySem.W.keepIn K (.ref f25) = true)
    (a26:PySem.W.nsIn K mainGlobals "times" = some (some (.ref f26))) (l26:K.lookup f26 = some ⟨oc26, od26, .func (PySem.W.fnOf "times" "times" (defArgs s_times) (defBody s_times) (defScope s_times) .none kV26 dc26 pm26 an26 cd26 ct26), sl26⟩) (c26:PySem.W.codeIn K cd26 "times" = true) (k26:PySem.W.keepIn K (.ref f26) = true)
    (a27:PySem.W.nsIn K mainGlobals "chance" = some (some (.ref f27))) (l27:K.lookup f27 = some ⟨oc27, od27, .func (PySem.W.fnOf "chance" "chance" (defArgs s_chance) (defBody s_chance) (defScope s_chance) .none kV27 dc27 pm27 an27 cd27 ct27), sl27⟩) (c27:PySem.W.codeIn K cd27 "chance" = true) (k27:PySem.W.keepIn K (.ref f27) = true)
    (a28:PySem.W.findIn K (.ref C9) "earned" = some (some (.ref f28))) (i28:PySem.W.isFn K (.ref f28) = true) (l28:K.lookup f28 = some ⟨oc28, od28, .func (PySem.W.fnOf "earned" "Table.earned" (defArgs s_Table_earned) (defBody s_Table_earned) (defScope s_Table_earned) .none kV28 dc28 pm28 an28 cd28 ct28), sl28⟩) (c28:PySem.W.codeIn K cd28 "Table.earned" = true) (k28:PySem.W.keepIn K (.ref f28) = true)
    (a29:PySem.W.nsIn K mainGlobals "earned_by" = some (some (.ref f29))) (l29:K.lookup f29 = some ⟨oc29, od29, .func (PySem.W.fnOf "earned_by" "earned_by" (defArgs s_earned_by) (defBody s_earned_by) (defScope s_earned_by) .none kV29 dc29 pm29 an29 cd29 ct29), sl29⟩) (c29:PySem.W.codeIn K cd29 "earned_by" = true) (k29:PySem.W.keepIn K (.ref f29) = true)
    (a30:PySem.W.nsIn K mainGlobals "minus" = some (some (.ref f30))) (l30:K.lookup f30 = some ⟨oc30, od30, .func (PySem.W.fnOf "minus" "minus" (defArgs s_minus) (defBody s_minus) (defScope s_minus) .none kV30 dc30 pm30 an30 cd30 ct30), sl30⟩) (c30:PySem.W.codeIn K cd30 "minus" = true) (k30:PySem.W.keepIn K (.ref f30) = true)
    (a31:PySem.W.nsIn K mainGlobals "greatest" = some (some (.ref f31))) (l31:K.lookup f31 = some ⟨oc31, od31, .func (PySem.W.fnOf "greatest" "greatest" (defArgs s_greatest) (defBody s_greatest) (defScope s_greatest) .none kV31 dc31 pm31 an31 cd31 ct31), sl31⟩) (c31:PySem.W.codeIn K cd31 "greatest" = true) (k31:PySem.W.keepIn K (.ref f31) = true)
    (a32:PySem.W.nsIn K mainGlobals "rests" = some (some (.ref f32))) (l32:K.lookup f32 = some ⟨oc32, od32, .func (PySem.W.fnOf "rests" "rests" (defArgs s_rests) (defBody s_rests) (defScope s_rests) .none kV32 dc32 pm32 an32 cd32 ct32), sl32⟩) (c32:PySem.W.codeIn K cd32 "rests" = true) (k32:PySem.W.keepIn K (.ref f32) = true)
    (a33:PySem.W.nsIn K mainGlobals "joined" = some (some (.ref f33))) (l33:K.lookup f33 = some ⟨oc33, od33, .func (PySem.W.fnOf "joined" "joined" (defArgs s_joined) (defBody s_joined) (defScope s_joined) .none kV33 dc33 pm33 an33 cd33 ct33), sl33⟩) (c33:PySem.W.codeIn K cd33 "joined" = true) (k33:PySem.W.keepIn K (.ref f33) = true)
    (a34:PySem.W.nsIn K mainGlobals "earned_with" = some (some (.ref f34))) (l34:K.lookup f34 = some ⟨oc34, od34, .func (PySem.W.fnOf "earned_with" "earned_with" (defArgs s_earned_with) (defBody s_earned_with) (defScope s_earned_with) .none kV34 dc34 pm34 an34 cd34 ct34), sl34⟩) (c34:PySem.W.codeIn K cd34 "earned_with" = true) (k34:PySem.W.keepIn K (.ref f34) = true)
    (a35:PySem.W.nsIn K mainGlobals "answer" = some (some (.ref f35))) (l35:K.lookup f35 = some ⟨oc35, od35, .func (PySem.W.fnOf "answer" "answer" (defArgs s_answer) (defBody s_answer) (defScope s_answer) .none kV35 dc35 pm35 an35 cd35 ct35), sl35⟩) (c35:PySem.W.codeIn K cd35 "answer" = true) (k35:PySem.W.keepIn K (.ref f35) = true)
    (a36:PySem.W.nsIn K mainGlobals "answers" = some (some (.ref f36))) (l36:K.lookup f36 = some ⟨oc36, od36, .func (PySem.W.fnOf "answers" "answers" (defArgs s_answers) (defBody s_answers) (defScope s_answers) .none kV36 dc36 pm36 an36 cd36 ct36), sl36⟩) (c36:PySem.W.codeIn K cd36 "answers" = true) (k36:PySem.W.keepIn K (.ref f36) = true)
    (a37:PySem.W.nsIn K mainGlobals "gains" = some (some (.ref f37))) (l37:K.lookup f37 = some ⟨oc37, od37, .func (PySem.W.fnOf "gains" "gains" (defArgs s_gains) (defBody s_gains) (defScope s_gains) .none kV37 dc37 pm37 an37 cd37 ct37), sl37⟩) (c37:PySem.W.codeIn K cd37 "gains" = true) (k37:PySem.W.keepIn K (.ref f37) = true)
    (a38:PySem.W.nsIn K mainGlobals "_law_asked" = some (some (.ref f38))) (l38:K.lookup f38 = some ⟨oc38, od38, .func (PySem.W.fnOf "_law_asked" "_law_asked" (defArgs s_l_asked) (defBody s_l_asked) (defScope s_l_asked) .none kV38 dc38 pm38 an38 cd38 ct38), sl38⟩) (c38:PySem.W.codeIn K cd38 "_law_asked" = true) (k38:PySem.W.keepIn K (.ref f38) = true)
    (a39:PySem.W.nsIn K mainGlobals "_law_whole" = some (some (.ref f39))) (l39:K.lookup f39 = some ⟨oc39, od39, .func (PySem.W.fnOf "_law_whole" "_law_whole" (defArgs s_l_whole) (defBody s_l_whole) (defScope s_l_whole) .none kV39 dc39 pm39 an39 cd39 ct39), sl39⟩) (c39:PySem.W.codeIn K cd39 "_law_whole" = true) (k39:PySem.W.keepIn K (.ref f39) = true)
    (a40:PySem.W.nsIn K mainGlobals "_law_refused" = some (some (.ref f40))) (l40:K.lookup f40 = some ⟨oc40, od40, .func (PySem.W.fnOf "_law_refused" "_law_refused" (defArgs s_l_refused) (defBody s_l_refused) (defScope s_l_refused) .none kV40 dc40 pm40 an40 cd40 ct40), sl40⟩) (c40:PySem.W.codeIn K cd40 "_law_refused" = true) (k40:PySem.W.keepIn K (.ref f40) = true)
    (a41:PySem.W.nsIn K mainGlobals "law" = some (some (.ref f41))) (l41:K.lookup f41 = some ⟨oc41, od41, .func (PySem.W.fnOf "law" "law" (defArgs s_law) (defBody s_law) (defScope s_law) .none kV41 dc41 pm41 an41 cd41 ct41), sl41⟩) (c41:PySem.W.codeIn K cd41 "law" = true) (k41:PySem.W.keepIn K (.ref f41) = true)
    (xm:PySem.W.exmOne K (.ref C1) (.ref C8) = some true) (xa:PySem.W.kitAny K (.ref C1) [.ref C2, .ref C6, .ref C5, .ref C3, .ref C7, .ref C4, .ref C0] = some false) (xv:PySem.W.kitOne K (.ref C1) (.type "ValueError") = some true)
    (x1:PySem.W.findIn K (.ref C1) "__getattribute__" = some (some (.builtin "BaseException.__getattribute__"))) (x2:PySem.W.findIn K (.ref C1) "__getattr__" = some none) (x3:PySem.W.findIn K (.ref C1) "__class__" = some (some (.builtin "object.__class__"))) (x4:PySem.W.specialIn K (.builtin "object.__class__") "__get__" = some (some (.builtin "getset_descriptor.__get__"))) (x5:PySem.W.takesIn K (.builtin "object.__class__") = some true) (x6:PySem.W.mroIn K C1 (.type "object") = some true) (x7:PySem.W.mroIn K C1 (.type "BaseException") = some true)
    {dX dP:Option Addr} {cdX cdP:ClassData} {slX slP:Array (Option Value)} {rX:List Value} {j0 j1 j2 j3 j5:Option Value}
    (e1:K.lookup C1 = some ⟨.type "type", dX, .cls cdX, slX⟩) (e2:cdX.mro = .ref C1 :: .ref C8 :: rX) (e3:slX.toList = [j0, j1, j2, j3, some (.builtin "ValueError.__new__"), j5]) (e4:cdX.hasDel = false) (e5:K.lookup C8 = some ⟨.type "type", dP, .cls cdP, slP⟩) (e6:cdP.mro = .ref C8 :: rX) (e7:PySem.W.excIn K C8 vTail "ValueError.__new__" = true) (e8:onlyVal cdX.mro = true)
    (e9:PySem.W.keepIn K (.ref C1) = true) (ea:PySem.W.findIn K (.ref C1) "__setattr__" = some (some (.builtin "object.__setattr__"))) (eb:PySem.W.hasDictIn K C1 = true) (en0:PySem.W.findIn K (.ref C1) "hand" = some none)
    (pg:PySem.W.plainGet K C9 Str.empty = true) (hd:PySem.W.hasDictIn K C9 = true) (po:PySem.W.plainOver K C9 = true) (sa:PySem.W.findIn K (.ref C9) "__setattr__" = some (some (.builtin "object.__setattr__"))) (mk:PySem.W.makesIn K C9 = true) (kc:PySem.W.keepIn K (.ref C9) = true) (n_many:PySem.W.findIn K (.ref C9) "many" = some none) (n_cells:PySem.W.findIn K (.ref C9) "cells" = some none)
    (z0:PySem.W.nsIn K mainGlobals "ValueError" = some none) (z1:PySem.W.nsIn K mainGlobals "abs" = some none) (z2:PySem.W.nsIn K mainGlobals "bool" = some none) (z3:PySem.W.nsIn K mainGlobals "enumerate" = some none) (z4:PySem.W.nsIn K mainGlobals "int" = some none) (z5:PySem.W.nsIn K mainGlobals "isinstance" = some none) (z6:PySem.W.nsIn K mainGlobals "len" = some none) (z7:PySem.W.nsIn K mainGlobals "list" = some none) (z8:PySem.W.nsIn K mainGlobals "range" = some none) (z9:PySem.W.nsIn K mainGlobals "reversed" = some none) (z10:PySem.W.nsIn K mainGlobals "sum" = some none) (z11:PySem.W.nsIn K mainGlobals "zip" = some none) :
    ∃ fd:FuncData, (∀ (s:Shared) (v:Value), BindsTo s fd ⟨[v], []⟩ [("_law_script", v)]) ∧ ∀ base:Heap, K.In base → base.Ns mainGlobals mg → FnOk l.prog w K mg base CX0 11 fa fd ["_law_script"] (sp_law K):=by
  have e:=hfa.symm.trans (PySem.W.mg_of X G a41)
  cases e
  have F0:=fun_mk (st:=s_l_cell_at) l0 c0 k0
  have b0:=F0.binds (ps:=["_law_script", "_law_k"]) fun _ _ _ _ _ _=>ar2 fun _ _=>rfl
  have F1:=fun_mk (st:=s_l_sizes) l1 c1 k1
  have b1:=F1.binds (ps:=["_law_script"]) fun _ _ _ _ _ _=>ar1 fun _=>rfl
  have F2:=fun_mk (st:=s_check_sizes) l2 c2 k2
  have b2:=F2.binds (ps:=["sizes"]) fun _ _ _ _ _ _=>ar1 fun _=>rfl
  have F3:=fun_mk (st:=s_one_of_each) l3 c3 k3
  have b3:=F3.binds (ps:=["lists"]) fun _ _ _ _ _ _=>ar1 fun _=>rfl
  have F4:=fun_mk (st:=s_in_order) l4 c4 k4
  have b4:=F4.binds (ps:=["sizes"]) fun _ _ _ _ _ _=>ar1 fun _=>rfl
  have F5:=fun_mk (st:=s_check_cells) l5 c5 k5
  have b5:=F5.binds (ps:=["cells", "plays", "hands"]) fun _ _ _ _ _ _=>ar3 fun _ _ _=>rfl
  have F6:=fun_mk (st:=s_Table_init) l6 c6 k6
  have b6:=F6.binds (ps:=["self", "sizes", "cells"]) fun _ _ _ _ _ _=>ar3 fun _ _ _=>rfl
  have F7:=fun_mk (st:=s_l_cells) l7 c7 k7
  have b7:=F7.binds (ps:=["_law_script", "_law_order_here", "_law_hands"]) fun _ _ _ _ _ _=>ar3 fun _ _ _=>rfl
  have F8:=fun_mk (st:=s_l_play) l8 c8 k8
  have b8:=F8.binds (ps:=["_law_sizes_here", "_law_number"]) fun _ _ _ _ _ _=>ar2 fun _ _=>rfl
  have F9:=fun_mk (st:=s_l_order) l9 c9 k9
  have b9:=F9.binds (ps:=["_law_sizes_here"]) fun _ _ _ _ _ _=>ar1 fun _=>rfl
  have F10:=fun_mk (st:=s_l_divisor) l10 c10 k10
  have b10:=F10.binds (ps:=["_law_one", "_law_other"]) fun _ _ _ _ _ _=>ar2 fun _ _=>rfl
  have F11:=fun_mk (st:=s_l_lowest) l11 c11 k11
  have b11:=F11.binds (ps:=["_law_top", "_law_bottom"]) fun _ _ _ _ _ _=>ar2 fun _ _=>rfl
  have F12:=fun_mk (st:=s_l_mixings) l12 c12 k12
  have b12:=F12.binds (ps:=["_law_parts_here"]) fun _ _ _ _ _ _=>ar1 fun _=>rfl
  have F13:=fun_mk (st:=s_l_parts) l13 c13 k13
  have b13:=F13.binds (ps:=["_law_script", "_law_sizes_here"]) fun _ _ _ _ _ _=>ar2 fun _ _=>rfl
  have F14:=fun_mk (st:=s_l_more) l14 c14 k14
  have b14:=F14.binds (ps:=["_law_one", "_law_top", "_law_bottom"]) fun _ _ _ _ _ _=>ar3 fun _ _ _=>rfl
  have F15:=fun_mk (st:=s_l_spoiled) l15 c15 k15
  have b15:=F15.binds (ps:=["_law_weights", "_law_cell"]) fun _ _ _ _ _ _=>ar2 fun _ _=>rfl
  have F16:=fun_mk (st:=s_NoMixing_init) l16 c16 k16
  have b16:=F16.binds (ps:=["self", "hand"]) fun _ _ _ _ _ _=>ar2 fun _ _=>rfl
  have F17:=fun_mk (st:=s_Table_sizes) l17 c17 k17
  have b17:=F17.binds (ps:=["self"]) fun _ _ _ _ _ _=>ar1 fun _=>rfl
  have F18:=fun_mk (st:=s_below) l18 c18 k18
  have b18:=F18.binds (ps:=["one", "other"]) fun _ _ _ _ _ _=>ar2 fun _ _=>rfl
  have F19:=fun_mk (st:=s_divisor) l19 c19 k19
  have b19:=F19.binds (ps:=["one", "other"]) fun _ _ _ _ _ _=>ar2 fun _ _=>rfl
  have F20:=fun_mk (st:=s_ratio) l20 c20 k20
  have b20:=F20.binds (ps:=["top", "bottom"]) fun _ _ _ _ _ _=>ar2 fun _ _=>rfl
  have F21:=fun_mk (st:=s_plus) l21 c21 k21
  have b21:=F21.binds (ps:=["one", "other"]) fun _ _ _ _ _ _=>ar2 fun _ _=>rfl
  have F22:=fun_mk (st:=s_summed) l22 c22 k22
  have b22:=F22.binds (ps:=["fractions"]) fun _ _ _ _ _ _=>ar1 fun _=>rfl
  have F23:=fun_mk (st:=s_is_mixing) l23 c23 k23
  have b23:=F23.binds (ps:=["weights", "many"]) fun _ _ _ _ _ _=>ar2 fun _ _=>rfl
  have F24:=fun_mk (st:=s_check_mixings) l24 c24 k24
  have b24:=F24.binds (ps:=["table", "mixings"]) fun _ _ _ _ _ _=>ar2 fun _ _=>rfl
  have F25:=fun_mk (st:=s_Table_plays) l25 c25 k25
  have b25:=F25.binds (ps:=["self"]) fun _ _ _ _ _ _=>ar1 fun _=>rfl
  have F26:=fun_mk (st:=s_times) l26 c26 k26
  have b26:=F26.binds (ps:=["one", "other"]) fun _ _ _ _ _ _=>ar2 fun _ _=>rfl
  have F27:=fun_mk (st:=s_chance) l27 c27 k27
  have b27:=F27.binds (ps:=["choices", "mixings"]) fun _ _ _ _ _ _=>ar2 fun _ _=>rfl
  have F28:=fun_mk (st:=s_Table_earned) l28 c28 k28
  have b28:=F28.binds (ps:=["self", "play"]) fun _ _ _ _ _ _=>ar2 fun _ _=>rfl
  have F29:=fun_mk (st:=s_earned_by) l29 c29 k29
  have b29:=F29.binds (ps:=["table", "mixings"]) fun _ _ _ _ _ _=>ar2 fun _ _=>rfl
  have F30:=fun_mk (st:=s_minus) l30 c30 k30
  have b30:=F30.binds (ps:=["one", "other"]) fun _ _ _ _ _ _=>ar2 fun _ _=>rfl
  have F31:=fun_mk (st:=s_greatest) l31 c31 k31
  have b31:=F31.binds (ps:=["fractions"]) fun _ _ _ _ _ _=>ar1 fun _=>rfl
  have F32:=fun_mk (st:=s_rests) l32 c32 k32
  have b32:=F32.binds (ps:=["table", "hand"]) fun _ _ _ _ _ _=>ar2 fun _ _=>rfl
  have F33:=fun_mk (st:=s_joined) l33 c33 k33
  have b33:=F33.binds (ps:=["rest", "hand", "choice"]) fun _ _ _ _ _ _=>ar3 fun _ _ _=>rfl
  have F34:=fun_mk (st:=s_earned_with) l34 c34 k34
  have b34:=F34.binds (ps:=["table", "rest", "hand", "choice"]) fun _ _ _ _ _ _=>ar4 fun _ _ _ _=>rfl
  have F35:=fun_mk (st:=s_answer) l35 c35 k35
  have b35:=F35.binds (ps:=["table", "others", "hand", "choice"]) fun _ _ _ _ _ _=>ar4 fun _ _ _ _=>rfl
  have F36:=fun_mk (st:=s_answers) l36 c36 k36
  have b36:=F36.binds (ps:=["table", "mixings", "hand"]) fun _ _ _ _ _ _=>ar3 fun _ _ _=>rfl
  have F37:=fun_mk (st:=s_gains) l37 c37 k37
  have b37:=F37.binds (ps:=["table", "mixings"]) fun _ _ _ _ _ _=>ar2 fun _ _=>rfl
  have F38:=fun_mk (st:=s_l_asked) l38 c38 k38
  have b38:=F38.binds (ps:=["_law_table", "_law_mixings_here", "_law_way"]) fun _ _ _ _ _ _=>ar3 fun _ _ _=>rfl
  have F39:=fun_mk (st:=s_l_whole) l39 c39 k39
  have b39:=F39.binds (ps:=["_law_found"]) fun _ _ _ _ _ _=>ar1 fun _=>rfl
  have F40:=fun_mk (st:=s_l_refused) l40 c40 k40
  have b40:=F40.binds (ps:=["_law_table", "_law_mixings_here", "_law_way", "_law_hand"]) fun _ _ _ _ _ _=>ar4 fun _ _ _ _=>rfl
  have F41:=fun_mk (st:=s_law) l41 c41 k41
  have b41:=F41.binds (ps:=["_law_script"]) fun _ _ _ _ _ _=>ar1 fun _=>rfl
  have T:Tx K mg ⟨_, _, _, _, _, _, _, _, _, _, _, _, _, _, _, _, _, _, _, _, _, _, _, _, _, _, _, _, _, _, _, _, _, _, _, _, _, _, _, _, _, _, _, _, _, _, _, _, _, _, _, _, _, _, _, _, _, _, _, _, _, _, _, _, _, _, _, _, _, _, _, _, _, _, _, _, _, _, _, _, _, _, _, _⟩:=⟨⟨F0, b0, PySem.W.mg_of X G a0⟩, ⟨F1, b1, PySem.W.mg_of X G a1⟩, ⟨F2, b2, PySem.W.mg_of X G a2⟩, ⟨F3, b3, PySem.W.mg_of X G a3⟩, ⟨F4, b4, PySem.W.mg_of X G a4⟩, ⟨F5, b5, PySem.W.mg_of X G a5⟩, ⟨F6, b6, by rw [gadr_of y9]; exact ⟨a6, i6, k6⟩⟩, ⟨F7, b7, PySem.W.mg_of X G a7⟩, ⟨F8, b8, PySem.W.mg_of X G a8⟩, ⟨F9, b9, PySem.W.mg_of X G a9⟩, ⟨F10, b10, PySem.W.mg_of X G a10⟩, ⟨F11, b11, PySem.W.mg_of X G a11⟩, ⟨F12, b12, PySem.W.mg_of X G a12⟩, ⟨F13, b13, PySem.W.mg_of X G a13⟩, ⟨F14, b14, PySem.W.mg_of X G a14⟩, ⟨F15, b15, PySem.W.mg_of X G a15⟩, ⟨F16, b16, by rw [gadr_of y1]; exact ⟨a16, i16, k16⟩⟩, ⟨F17, b17, by rw [gadr_of y9]; exact ⟨a17, i17, k17⟩⟩, ⟨F18, b18, PySem.W.mg_of X G a18⟩, ⟨F19, b19, PySem.W.mg_of X G a19⟩, ⟨F20, b20, PySem.W.mg_of X G a20⟩, ⟨F21, b21, PySem.W.mg_of X G a21⟩, ⟨F22, b22, PySem.W.mg_of X G a22⟩, ⟨F23, b23, PySem.W.mg_of X G a23⟩, ⟨F24, b24, PySem.W.mg_of X G a24⟩, ⟨F25, b25, by rw [gadr_of y9]; exact ⟨a25, i25, k25⟩⟩, ⟨F26, b26, PySem.W.mg_of X G a26⟩, ⟨F27, b27, PySem.W.mg_of X G a27⟩, ⟨F28, b28, by rw [gadr_of y9]; exact ⟨a28, i28, k28⟩⟩, ⟨F29, b29, PySem.W.mg_of X G a29⟩, ⟨F30, b30, PySem.W.mg_of X G a30⟩, ⟨F31, b31, PySem.W.mg_of X G a31⟩, ⟨F32, b32, PySem.W.mg_of X G a32⟩, ⟨F33, b33, PySem.W.mg_of X G a33⟩, ⟨F34, b34, PySem.W.mg_of X G a34⟩, ⟨F35, b35, PySem.W.mg_of X G a35⟩, ⟨F36, b36, PySem.W.mg_of X G a36⟩, ⟨F37, b37, PySem.W.mg_of X G a37⟩, ⟨F38, b38, PySem.W.mg_of X G a38⟩, ⟨F39, b39, PySem.W.mg_of X G a39⟩, ⟨F40, b40, PySem.W.mg_of X G a40⟩, ⟨F41, b41, PySem.W.mg_of X G a41⟩, PySem.W.mg_none_of X G z0, PySem.W.mg_none_of X G z1, PySem.W.mg_none_of X G z2, PySem.W.mg_none_of X G z3, PySem.W.mg_none_of X G z4, PySem.W.mg_none_of X G z5, PySem.W.mg_none_of X G z6, PySem.W.mg_none_of X G z7, PySem.W.mg_none_of X G z8, PySem.W.mg_none_of X G z9, PySem.W.mg_none_of X G z10, PySem.W.mg_none_of X G z11, by rw [gadr_of y0]; exact PySem.W.mg_of X G y0, by rw [gadr_of y1]; exact PySem.W.mg_of X G y1, by rw [gadr_of y2]; exact PySem.W.mg_of X G y2, by rw [gadr_of y3]; exact PySem.W.mg_of X G y3, by rw [gadr_of y4]; exact PySem.W.mg_of X G y4, by rw [gadr_of y5]; exact PySem.W.mg_of X G y5, by rw [gadr_of y6]; exact PySem.W.mg_of X G y6, by rw [gadr_of y7]; exact PySem.W.mg_of X G y7, by rw [gadr_of y8]; exact PySem.W.mg_of X G y8, by rw [gadr_of y9]; exact PySem.W.mg_of X G y9, by rw [gadr_of y1]; exact ⟨excI_of e1 e2 e3 e4 e5 e6 e7, a16, beq_iff_eq.mp i16, e9⟩, ExK.of (gadr_of y1) ea (excOver_of e1 e8) eb x1 x2 x7 (by intro f hf; simp only [List.mem_cons, List.not_mem_nil, or_false] at hf; rcases hf with rfl; exact en0), by rw [gadr_of y1, gadr_of y8]; exact xm, ⟨by simp only [List.map_cons, List.map_nil, gadr_of y0, gadr_of y1, gadr_of y2, gadr_of y3, gadr_of y4, gadr_of y5, gadr_of y6, gadr_of y7, gadr_of y8, gadr_of y9]; exact xa, by rw [gadr_of y1]; exact xv, by rw [gadr_of y1]; exact fun _=>kitx_exc x1 x2 x3 x4 x5 x6 x7⟩, by rw [gadr_of y9]; exact ⟨mk, a6, i6, kc⟩, ⟨by rw [gadr_of y9]; exact ⟨pg, hd, po, sa⟩, by rw [gadr_of y9]; exact n_many, by rw [gadr_of y9]; exact n_cells⟩⟩
  exact ⟨_, fun s v=>.of_eq rfl, fun base _ _=>ok_law T⟩
theorem walk {l:PySem.W.OpenLaw} {q:Program} {loose:List Str} {XP:(Str → Option Value) → Heap → Prop} {YP:World → Heap → Prop} {d:DefRec} {K:Params → PySem.W.Frag} (hn:l.most = some 63) (hdf:d.params.defaults = [])
    (hY:∀ (w:World) (h:Heap), YP w h → (K w.params).In h)
    (F:∀ (w:World) (mg:Str → Option Value) (fa:Addr) (h:Heap), (K w.params).In h → h.Ns mainGlobals mg → mg d.name = some (.ref fa) →
      ∃ fd:FuncData, (∀ (s:Shared) (u:Value), BindsTo s fd ⟨[u], []⟩ [("_law_script", u)]) ∧ ∀ base:Heap, (K w.params).In base → base.Ns mainGlobals mg → FnOk l.prog w (K w.params) mg base CX0 11 fa fd ["_law_script"] (sp_law (K w.params))) :
    PySem.W.WalkO q loose XP YP l.row.toRowW d [] (fun f vs=>PySem.call f vs) :=
  L2.walk_of (n:=63) (k:=11) (x:="_law_script") (CX:=fun _=>CX0) (sp:=fun w=>sp_law (K w.params)) hn (by decide) hdf ⟨rfl, by decide, by decide⟩ hY F (fun _ _ a ns hl _ hS=>⟨a, ns, rfl, hS, hl, fun _=>rfl⟩) fun _ _ _ _ _ z=>z
end My
set_option Elab.async true
noncomputable def PySem.Challenge.cw_mixplay_k15_no_mixing_holds.tw17642553607888371760:Nat:=0
noncomputable def PySem.Challenge.cw_mixplay_k15_no_mixing_holds.tw1270944449230189013:Nat:=0
noncomputable def PySem.Challenge.cw_mixplay_k15_no_mixing_holds.tw15210949351912348145:Nat:=0
noncomputable def PySem.Challenge.cw_mixplay_k15_no_mixing_holds.tw12171061429091511157:Nat:=0
noncomputable def PySem.Challenge.cw_mixplay_k15_no_mixing_holds.tw6840275185753437937:Nat:=0
open PySem PySem.W PyProof.Rows
set_option maxRecDepth 100000 in
set_option maxHeartbeats 0 in
theorem PySem.Challenge.cw_mixplay_k15_no_mixing_holds : PySem.Challenge.rw_mixplay_k15_no_mixing.Holds := by
  w_on; o_law; z_head; (case hw => w_witness2)
  k_fill
  refine L2.walk_x (fun _ => rfl) (My.walk (l := PySem.Challenge.rw_mixplay_k15_no_mixing) rfl rfl (fun w h Y => Y) ?F)
  case F =>
    intro w mg fa h KX G hmg
    refine' My.all_mk KX G hmg ?y0 ?y1 ?y2 ?y3 ?y4 ?y5 ?y6 ?y7 ?y8 ?y9 ?a0 ?l0 ?c0 ?k0 ?a1 ?l1 ?c1 ?k1 ?a2 ?l2 ?c2 ?k2 ?a3 ?l3 ?c3 ?k3 ?a4 ?l4 ?c4 ?k4 ?a5 ?l5 ?c5 ?k5 ?a6 ?i6 ?l6 ?c6 ?k6 ?a7 ?l7 ?c7 ?k7 ?a8 ?l8 ?c8 ?k8 ?a9 ?l9 ?c9 ?k9 ?a10 ?l10 ?c10 ?k10 ?a11 ?l11 ?c11 ?k11 ?a12 ?l12 ?c12 ?k12 ?a13 ?l13 ?c13 ?k13 ?a14 ?l14 ?c14 ?k14 ?a15 ?l15 ?c15 ?k15 ?a16 ?i16 ?l16 ?c16 ?k16 ?a17 ?i17 ?l17 ?c17 ?k17 ?a18 ?l18 ?c18 ?k18 ?a19 ?l19 ?c19 ?k19 ?a20 ?l20 ?c20 ?k20 ?a21 ?l21 ?c21 ?k21 ?a22 ?l22 ?c22 ?k22 ?a23 ?l23 ?c23 ?k23 ?a24 ?l24 ?c24 ?k24 ?a25 ?i25 ?l25 ?c25 ?k25 ?a26 ?l26 ?c26 ?k26 ?a27 ?l27 ?c27 ?k27 ?a28 ?i28 ?l28 ?c28 ?k28 ?a29 ?l29 ?c29 ?k29 ?a30 ?l30 ?c30 ?k30 ?a31 ?l31 ?c31 ?k31 ?a32 ?l32 ?c32 ?k32 ?a33 ?l33 ?c33 ?k33 ?a34 ?l34 ?c34 ?k34 ?a35 ?l35 ?c35 ?k35 ?a36 ?l36 ?c36 ?k36 ?a37 ?l37 ?c37 ?k37 ?a38 ?l38 ?c38 ?k38 ?a39 ?l39 ?c39 ?k39 ?a40 ?l40 ?c40 ?k40 ?a41 ?l41 ?c41 ?k41 ?xm ?xa ?xv ?x1 ?x2 ?x3 ?x4 ?x5 ?x6 ?x7 ?e1 ?e2 ?e3 ?e4 ?e5 ?e6 ?e7 ?e8 ?e9 ?ea ?eb ?en0 ?pg ?hd ?po ?sa ?mk ?kc ?n_many ?n_cells ?z0 ?z1 ?z2 ?z3 ?z4 ?z5 ?z6 ?z7 ?z8 ?z9 ?z10 ?z11
    (case y0 => k_is)
    (case y1 => k_is)
    (case y2 => k_is)
    (case y3 => k_is)
    (case y4 => k_is)
    (case y5 => k_is)
    (case y6 => k_is)
    (case y7 => k_is)
    (case y8 => k_is)
    (case y9 => k_is)
    (case a0 => k_is)
    (case l0 => k_is)
    (case c0 => k_is)
    (case k0 => k_is)
    (case a1 => k_is)
    (case l1 => k_is)
    (case c1 => k_is)
    (case k1 => k_is)
    (case a2 => k_is)
    (case l2 => k_is)
    (case c2 => k_is)
    (case k2 => k_is)
    (case a3 => k_is)
    (case l3 => k_is)
    (case c3 => k_is)
    (case k3 => k_is)
    (case a4 => k_is)
    (case l4 => k_is)
    (case c4 => k_is)
    (case k4 => k_is)
    (case a5 => k_is)
    (case l5 => k_is)
    (case c5 => k_is)
    (case k5 => k_is)
    (case a6 => k_is)
    (case i6 => k_is)
    (case l6 => k_is)
    (case c6 => k_is)
    (case k6 => k_is)
    (case a7 => k_is)
    (case l7 => k_is)
    (case c7 => k_is)
    (case k7 => k_is)
    (case a8 => k_is)
    (case l8 => k_is)
    (case c8 => k_is)
    (case k8 => k_is)
    (case a9 => k_is)
    (case l9 => k_is)
    (case c9 => k_is)
    (case k9 => k_is)
    (case a10 => k_is)
    (case l10 => k_is)
    (case c10 => k_is)
    (case k10 => k_is)
    (case a11 => k_is)
    (case l11 => k_is)
    (case c11 => k_is)
    (case k11 => k_is)
    (case a12 => k_is)
    (case l12 => k_is)
    (case c12 => k_is)
    (case k12 => k_is)
    (case a13 => k_is)
    (case l13 => k_is)
    (case c13 => k_is)
    (case k13 => k_is)
    (case a14 => k_is)
    (case l14 => k_is)
    (case c14 => k_is)
    (case k14 => k_is)
    (case a15 => k_is)
    (case l15 => k_is)
    (case c15 => k_is)
    (case k15 => k_is)
    (case a16 => k_is)
    (case i16 => k_is)
    (case l16 => k_is)
    (case c16 => k_is)
    (case k16 => k_is)
    (case a17 => k_is)
    (case i17 => k_is)
    (case l17 => k_is)
    (case c17 => k_is)
    (case k17 => k_is)
    (case a18 => k_is)
    (case l18 => k_is)
    (case c18 => k_is)
    (case k18 => k_is)
    (case a19 => k_is)
    (case l19 => k_is)
    (case c19 => k_is)
    (case k19 => k_is)
    (case a20 => k_is)
    (case l20 => k_is)
    (case c20 => k_is)
    (case k20 => k_is)
    (case a21 => k_is)
    (case l21 => k_is)
    (case c21 => k_is)
    (case k21 => k_is)
    (case a22 => k_is)
    (case l22 => k_is)
    (case c22 => k_is)
    (case k22 => k_is)
    (case a23 => k_is)
    (case l23 => k_is)
    (case c23 => k_is)
    (case k23 => k_is)
    (case a24 => k_is)
    (case l24 => k_is)
    (case c24 => k_is)
    (case k24 => k_is)
    (case a25 => k_is)
    (case i25 => k_is)
    (case l25 => k_is)
    (case c25 => k_is)
    (case k25 => k_is)
    (case a26 => k_is)
    (case l26 => k_is)
    (case c26 => k_is)
    (case k26 => k_is)
    (case a27 => k_is)
    (case l27 => k_is)
    (case c27 => k_is)
    (case k27 => k_is)
    (case a28 => k_is)
    (case i28 => k_is)
    (case l28 => k_is)
    (case c28 => k_is)
    (case k28 => k_is)
    (case a29 => k_is)
    (case l29 => k_is)
    (case c29 => k_is)
    (case k29 => k_is)
    (case a30 => k_is)
    (case l30 => k_is)
    (case c30 => k_is)
    (case k30 => k_is)
    (case a31 => k_is)
    (case l31 => k_is)
    (case c31 => k_is)
    (case k31 => k_is)
    (case a32 => k_is)
    (case l32 => k_is)
    (case c32 => k_is)
    (case k32 => k_is)
    (case a33 => k_is)
    (case l33 => k_is)
    (case c33 => k_is)
    (case k33 => k_is)
    (case a34 => k_is)
    (case l34 => k_is)
    (case c34 => k_is)
    (case k34 => k_is)
    (case a35 => k_is)
    (case l35 => k_is)
    (case c35 => k_is)
    (case k35 => k_is)
    (case a36 => k_is)
    (case l36 => k_is)
    (case c36 => k_is)
    (case k36 => k_is)
    (case a37 => k_is)
    (case l37 => k_is)
    (case c37 => k_is)
    (case k37 => k_is)
    (case a38 => k_is)
    (case l38 => k_is)
    (case c38 => k_is)
    (case k38 => k_is)
    (case a39 => k_is)
    (case l39 => k_is)
    (case c39 => k_is)
    (case k39 => k_is)
    (case a40 => k_is)
    (case l40 => k_is)
    (case c40 => k_is)
    (case k40 => k_is)
    (case a41 => k_is)
    (case l41 => k_is)
    (case c41 => k_is)
    (case k41 => k_is)
    (case xm => kts_exm)
    (case xa => kit_is)
    (case xv => kit_is)
    (case x1 => k_is)
    (case x2 => k_is)
    (case x3 => k_is)
    (case x4 => k_is)
    (case x5 => k_is)
    (case x6 => k_is)
    (case x7 => k_is)
    (case e1 => k_is)
    (case e2 => rfl)
    (case e3 => rfl)
    (case e4 => rfl)
    (case e5 => k_is)
    (case e6 => rfl)
    (case e7 => k_exc)
    (case e8 => rfl)
    (case e9 => k_is)
    (case ea => k_is)
    (case eb => k_is)
    (case en0 => k_is)
    (case pg => k_is)
    (case hd => k_is)
    (case po => k_is)
    (case sa => k_is)
    (case mk => k_is)
    (case kc => k_is)
    (case n_many => k_is)
    (case n_cells => k_is)
    (case z0 => k_is)
    (case z1 => k_is)
    (case z2 => k_is)
    (case z3 => k_is)
    (case z4 => k_is)
    (case z5 => k_is)
    (case z6 => k_is)
    (case z7 => k_is)
    (case z8 => k_is)
    (case z9 => k_is)
    (case z10 => k_is)
    (case z11 => k_is)
