import PyProof.Rows.All
import Wide.All
import OpenK.AllK
import Wide.FinOn
import Lean
import PyProof.EqAt
import PyProof.EqKinds
import PyProof.TupleCall
import PySem.Challenge.RW_mixplay_k18_off_from_no_play
set_option Elab.async false
set_option linter.all false
set_option maxRecDepth 100000
/-! THE HAND LAYER, for ints, bools, texts, own classes, LISTS and tuples (index, slices, in, append, pop ..), calls, loops. Paste it whole ahead of your own text; what your proof does not reach may be deleted. -/
namespace L2
open PySem PySem.Spec PyProof.Rows
abbrev Key := Sum Int Str
def keyIs : Key → Value → Bool
  | .inl k, v => Value.isInt k v
  | .inr x, v => Value.isStrOf x v
def keyH (w : World) : Key → Int
  | .inl k => hashInt k
  | .inr x => hashStr w x
theorem keyIs_shape : ∀ {k : Key} {v : Value}, keyIs k v = true → (∃ i t, k = Sum.inl i ∧ v = Value.int i t) ∨ (∃ x t, k = Sum.inr x ∧ v = Value.str x t)
  | .inl i, v, h => by
    obtain ⟨t, e⟩ := Value.isInt_shape (k := i) (v := v) h
    exact .inl ⟨i, t, rfl, e⟩
  | .inr x, v, h => by
    obtain ⟨t, e⟩ := Value.isStrOf_shape (x := x) (v := v) h
    exact .inr ⟨x, t, rfl, e⟩
theorem keyIs_int (i : Int) (t : Tok) : keyIs (.inl i) (.int i t) = true := by simp [keyIs, Value.isInt]
theorem keyIs_str (x : Str) (t : Tok) : keyIs (.inr x) (.str x t) = true := by simp [keyIs, Value.isStrOf]
theorem key_ll (a b : Int) : decide ((Sum.inl a : Key) = Sum.inl b) = (a == b) := by
  by_cases e : a = b
  · subst e; simp
  · have h : ¬ (Sum.inl a : Key) = Sum.inl b := fun q => e (Sum.inl.inj q)
    rw [decide_eq_false h]
    exact (beq_eq_false_iff_ne.mpr e).symm
theorem key_rr (a b : Str) : decide ((Sum.inr a : Key) = Sum.inr b) = decide (a = b) := by
  by_cases e : a = b
  · subst e; simp
  · have h : ¬ (Sum.inr a : Key) = Sum.inr b := fun q => e (Sum.inr.inj q)
    rw [decide_eq_false h, decide_eq_false e]
theorem key_lr (a : Int) (b : Str) : decide ((Sum.inl a : Key) = Sum.inr b) = false := decide_eq_false (fun q => nomatch q)
theorem key_rl (a : Str) (b : Int) : decide ((Sum.inr a : Key) = Sum.inl b) = false := decide_eq_false (fun q => nomatch q)
def mixKind (prog : Program) (w : World) : PySem.KeyKind prog w Key where
  is := keyIs
  hash := keyH w
  inj := fun v a b ha hb => by
    rcases keyIs_shape ha with ⟨i, t, rfl, rfl⟩ | ⟨x, t, rfl, rfl⟩
    · rcases keyIs_shape hb with ⟨j, u, rfl, e⟩ | ⟨y, u, rfl, e⟩
      · injection e with e1 _; rw [e1]
      · exact nomatch e
    · rcases keyIs_shape hb with ⟨j, u, rfl, e⟩ | ⟨y, u, rfl, e⟩
      · exact nomatch e
      · injection e with e1 _; rw [e1]
  byValue := fun k v h => by
    rcases keyIs_shape h with ⟨i, t, rfl, rfl⟩ | ⟨x, t, rfl, rfl⟩ <;> rfl
  pyHash := fun hv h => by
    rcases keyIs_shape hv with ⟨i, t, rfl, rfl⟩ | ⟨x, t, rfl, rfl⟩
    · exact wpAny_pyHash_int h
    · exact wpAny_pyHash_str h
  eqBool := fun hu hv h => by
    rcases keyIs_shape hu with ⟨i, t, rfl, rfl⟩ | ⟨x, t, rfl, rfl⟩
    · rcases keyIs_shape hv with ⟨j, u, rfl, rfl⟩ | ⟨y, u, rfl, rfl⟩
      · rw [key_ll] at h; exact wpAny_eqBool_int h
      · rw [key_lr] at h; exact SeqAt.EqAt.int_str i t y u _ _ _ _ h
    · rcases keyIs_shape hv with ⟨j, u, rfl, rfl⟩ | ⟨y, u, rfl, rfl⟩
      · rw [key_rl] at h; exact SeqAt.EqAt.str_int x t j u _ _ _ _ h
      · rw [key_rr] at h; exact wpAny_eqBool_str h
  «strs» := fun k x t v h => by
    rcases keyIs_shape h with ⟨i, u, rfl, e⟩ | ⟨y, u, rfl, e⟩
    · exact nomatch e
    · injection e with e1 _
      subst e1
      cases v <;> rfl
theorem mixKind_int (prog : Program) (w : World) (i : Int) (t : Tok) : (mixKind prog w).is (.inl i) (.int i t) = true := keyIs_int i t
theorem mixKind_str (prog : Program) (w : World) (x : Str) (t : Tok) : (mixKind prog w).is (.inr x) (.str x t) = true := keyIs_str x t
end L2
namespace L2
open PySem PySem.Spec PyProof.Rows
inductive V where
  | non | bl (b : Bool) | int (i : Int) | str (x : Str) | byt (b : Array UInt8) | flt (b : UInt64) | ref (a : Addr) | ty (n : String)
  deriving DecidableEq
def RelV : V → Value → Prop
  | .non, u => u = Value.none
  | .bl b, u => u = Value.bool b
  | .int i, u => ∃ t, u = Value.int i t
  | .str x, u => ∃ t, u = Value.str x t
  | .byt b, u => ∃ t, u = Value.bytes b t
  | .flt b, u => ∃ t, u = Value.float b t
  | .ref a, u => u = Value.ref a
  | .ty n, u => u = Value.type n
abbrev Vals : List V → List Value → Prop := Paired RelV
theorem Vals.length {xs : List V} {us : List Value} (r : Vals xs us) : xs.length = us.length := Paired.length r
theorem Vals.get : ∀ {xs : List V} {us : List Value} {i : Nat} {x : V}, Vals xs us → xs[i]? = some x → ∃ u, us[i]? = some u ∧ RelV x u
  | _, _, _, _, .nil, e => by simp at e
  | _, _, 0, _, .cons r _, e => by simp at e; subst e; exact ⟨_, rfl, r⟩
  | _, _, i + 1, x, .cons _ t, e => by
    obtain ⟨u, h1, h2⟩ := Vals.get (i := i) (x := x) t (by simpa using e)
    exact ⟨u, by simpa using h1, h2⟩
theorem Vals.set {x : V} {u : Value} (r : RelV x u) : ∀ {xs : List V} {us : List Value} (i : Nat), Vals xs us → Vals (xs.set i x) (us.set i u)
  | _, _, _, .nil => .nil
  | _, _, 0, .cons _ t => .cons r t
  | _, _, i + 1, .cons q t => .cons q (Vals.set r i t)
theorem Vals.append : ∀ {xs ys : List V} {us ws : List Value}, Vals xs us → Vals ys ws → Vals (xs ++ ys) (us ++ ws)
  | _, _, _, _, .nil, s => s
  | _, _, _, _, .cons r t, s => .cons r (Vals.append t s)
theorem Vals.take : ∀ {xs : List V} {us : List Value} (n : Nat), Vals xs us → Vals (xs.take n) (us.take n)
  | _, _, 0, _ => .nil
  | _, _, _ + 1, .nil => .nil
  | _, _, n + 1, .cons r t => .cons r (Vals.take n t)
theorem Vals.drop : ∀ {xs : List V} {us : List Value} (n : Nat), Vals xs us → Vals (xs.drop n) (us.drop n)
  | _, _, 0, r => r
  | _, _, _ + 1, .nil => .nil
  | _, _, n + 1, .cons _ t => Vals.drop n t
theorem Vals.none_of : ∀ {xs : List V} {us : List Value} {i : Nat}, Vals xs us → xs[i]? = none → us[i]? = none := fun {xs us i} r e => by
  have h1 := r.length
  have h2 : xs.length ≤ i := List.getElem?_eq_none_iff.mp e
  exact List.getElem?_eq_none_iff.mpr (by omega)
def RelO : Option V → Option Value → Prop
  | some v, some u => RelV v u
  | none, none => True
  | _, _ => False
def KV {κ : Type} : List (κ × V) → List (κ × Value) → Prop := Paired fun (p : κ × V) (q : κ × Value) => p.1 = q.1 ∧ RelV p.2 q.2
def kV : Key → V
  | .inl i => .int i
  | .inr x => .str x
inductive HO where
  /-- a list -/
  | lst (xs : List V)
  /-- a tuple (never changes) -/
  | tup (xs : List V)
  /-- a dict whose keys are ints and texts; one whose keys are tuples of ints and texts (the empty one is both) -/
  | dK (kvs : List (Key × V)) | dT (kvs : List (List Key × V))
  /-- a set of ints: its members, its size -/
  | set (S : Int → Bool) (n : Nat)
  /-- an instance of the class at C, its dict at dx, its attributes -/
  | ins (C dx : Addr) (fs : List (Str × V))
  /-- the dict of the instance at x -/
  | own (x : Addr)
  /-- the dict of an exception -/
  | xd (fs : List (Str × V))
  /-- a bound method, f of x -/
  | met (f x : Addr)
  /-- a range object lo, lo + 1, .. below hi -/
  | rng (lo hi : Int)
  /-- a thing that is known to the object (the script; a dict while a loop walks it): read, never written while it is so -/
  | frz (o : Obj) (u : HO)
  /-- a code object's table -/
  | tbl (ps : Array Value)
  /-- any other thing, by what is true of its one object (a def of one's own: SetO a S n := HO.ext fun h => ..) -/
  | ext (φ : Heap → Prop)
abbrev Hp := Addr → Option HO
def upd (H : Hp) (a : Addr) (o : HO) : Hp := fun b => if b = a then some o else H b
theorem upd_same {H : Hp} {a : Addr} {o : HO} : upd H a o a = some o := by unfold upd; rw [if_pos rfl]
theorem upd_ne {H : Hp} {a b : Addr} {o : HO} (h : b ≠ a) : upd H a o b = H b := by unfold upd; rw [if_neg h]
theorem ne_of {H : Hp} {a b : Addr} {o u : HO} (h : H a = some o) (h' : H b = some u) (d : o ≠ u) : a ≠ b := by
  intro e; subst e; rw [h] at h'; exact d (Option.some.inj h')
theorem ne_of_none {H : Hp} {a b : Addr} {o : HO} (h : H a = some o) (h' : H b = none) : a ≠ b := by
  intro e; subst e; rw [h] at h'; cases h'
section
variable (P : Program) (w : World)
def ObjOk (H : Hp) (h : Heap) (a : Addr) : HO → Prop
  | .lst xs => xs.length ≤ sizeLine ∧ ∃ (its : List Value) (n : Nat), Vals xs its ∧ h.get? a = some { cls := .type "list", data := .seq its.toArray n }
  | .tup xs => xs.length ≤ sizeLine ∧ ∃ its : List Value, Vals xs its ∧ IsTup h a its.toArray
  | .dK kvs => kvs.length ≤ sizeLine ∧ (a == sysModules) = false ∧ ∃ vs, KV kvs vs ∧ h.DictOf (mixKind P w) a vs
  | .dT kvs => kvs.length ≤ sizeLine ∧ (a == sysModules) = false ∧ ∃ xs : List (List Key × Addr × Value),
      Paired (fun (p : List Key × V) (q : List Key × Addr × Value) => p.1 = q.1 ∧ H q.2.1 = some (.tup (p.1.map kV)) ∧ RelV p.2 q.2.2) kvs xs ∧
      ∃ o es ep, h.get? a = some o ∧ o.ExactDict ∧ o.data = .dict es ep ∧ es.toList = xs.map (entryOfKey (tupleKind (mixKind P w))) ∧ (xs.map (·.1)).Nodup
  | .set S n => h.SetOf (intKind P w) a S n
  | .ins C dx fs => H dx = some (.own a) ∧ fs.length ≤ 1000 ∧ dx ≠ a ∧ h.get? a = some (PySem.W.instObj C dx) ∧
      ∃ mA, h.Ns1 dx mA ∧ (∀ f, RelO (fs.lookup f) (mA f)) ∧ PySem.Within mA (fs.map (·.1))
  | .own _ => ∃ o, h.get? a = some o
  | .xd fs => ∃ mA, h.Ns1 a mA ∧ ∀ f, RelO (fs.lookup f) (mA f)
  | .rng lo hi => ∃ t u v, h.get? a = some { cls := .type "range", data := .fields #[.int lo t, .int hi u, .int 1 v] }
  | .frz o u => h.get? a = some o ∧ ObjOk H h a u
  | .tbl ps => h.get? a = some { cls := .none, data := .fields ps }
  | .met f x => h.get? a = some (PySem.W.methodObj (.ref f) (.ref x))
  | .ext φ => φ h ∧ (∃ o, h.get? a = some o) ∧ ∀ h1 h2 : Heap, φ h1 → (∀ o, h1.get? a = some o → h2.get? a = some o) → φ h2
def HOk (H : Hp) (h : Heap) : Prop := ∀ a o, H a = some o → ObjOk P w H h a o
end
section
variable {P : Program} {w : World} {H H' : Hp} {h h' : Heap} {a : Addr} {o : HO}
theorem ObjOk.lt (x : ObjOk P w H h a o) : a < h.objs.size := by
  cases o with
  | lst xs => obtain ⟨_, _, _, _, e⟩ := x; exact Heap.lt_size e
  | tup xs => obtain ⟨_, _, _, p⟩ := x; exact p.lt
  | dK kvs => obtain ⟨_, _, _, _, o, _, _, e, _⟩ := x; exact Heap.lt_size e
  | dT kvs => obtain ⟨_, _, _, _, o, _, _, e, _⟩ := x; exact Heap.lt_size e
  | set S n => obtain ⟨o, _, _, _, e, _⟩ := x; exact Heap.lt_size e
  | ins C dx fs => obtain ⟨_, _, _, e, _⟩ := x; exact Heap.lt_size e
  | own y => obtain ⟨_, e⟩ := x; exact Heap.lt_size e
  | xd fs => obtain ⟨_, ⟨_, _, _, e, _⟩, _⟩ := x; exact Heap.lt_size e
  | rng lo hi => obtain ⟨_, _, _, e⟩ := x; exact Heap.lt_size e
  | frz ob u => obtain ⟨e, _⟩ := x; exact Heap.lt_size e
  | tbl ps => exact Heap.lt_size (show h.get? a = some _ from x)
  | met f y => exact Heap.lt_size (show h.get? a = some _ from x)
  | ext φ => obtain ⟨_, ⟨_, e⟩, _⟩ := x; exact Heap.lt_size e
theorem Paired.mapP {α β : Type} {F G : α → β → Prop} : ∀ {l₁ : List α} {l₂ : List β}, Paired F l₁ l₂ → (∀ a b, F a b → G a b) → Paired G l₁ l₂
  | _, _, .nil, _ => .nil
  | _, _, .cons r t, f => .cons (f _ _ r) (Paired.mapP t f)
theorem ObjOk.stay (x : ObjOk P w H h a o) (k : ∀ b u, (b = a ∨ H b = some (.own a)) → h.get? b = some u → h'.get? b = some u)
    (ho : ∀ b, H b = some (.own a) → H' b = some (.own a)) (ht : ∀ b xs, H b = some (.tup xs) → H' b = some (.tup xs)) : ObjOk P w H' h' a o := by
  induction o with
  | lst xs => obtain ⟨z, its, n, r, e⟩ := x; exact ⟨z, its, n, r, k _ _ (.inl rfl) e⟩
  | tup xs => obtain ⟨z, its, r, ob, e, c⟩ := x; exact ⟨z, its, r, ob, k _ _ (.inl rfl) e, c⟩
  | dK kvs => obtain ⟨z, y, vs, r, ob, es, ep, e, c⟩ := x; exact ⟨z, y, vs, r, ob, es, ep, k _ _ (.inl rfl) e, c⟩
  | dT kvs =>
    obtain ⟨z, y, xs, r, ob, es, ep, e, c⟩ := x
    exact ⟨z, y, xs, Paired.mapP r fun p q z => ⟨z.1, ht _ _ z.2.1, z.2.2⟩, ob, es, ep, k _ _ (.inl rfl) e, c⟩
  | set S n => obtain ⟨ob, es, ep, t, e, c⟩ := x; exact ⟨ob, es, ep, t, k _ _ (.inl rfl) e, c⟩
  | ins C dx fs =>
    obtain ⟨d, z, ne, e, mA, ⟨od, es, ep, e2, c⟩, r⟩ := x
    exact ⟨ho _ d, z, ne, k _ _ (.inl rfl) e, mA, ⟨od, es, ep, k _ _ (.inr d) e2, c⟩, r⟩
  | own y => obtain ⟨ob, e⟩ := x; exact ⟨ob, k _ _ (.inl rfl) e⟩
  | xd fs => obtain ⟨mA, ⟨od, es, ep, e, c⟩, r⟩ := x; exact ⟨mA, ⟨od, es, ep, k _ _ (.inl rfl) e, c⟩, r⟩
  | rng lo hi => obtain ⟨t, u, v, e⟩ := x; exact ⟨t, u, v, k _ _ (.inl rfl) e⟩
  | frz ob u ih => obtain ⟨e, q⟩ := x; exact ⟨k _ _ (.inl rfl) e, ih q⟩
  | tbl ps =>
    have e : h.get? a = some { cls := .none, data := .fields ps } := x
    show h'.get? a = some { cls := .none, data := .fields ps }
    exact k a _ (.inl rfl) e
  | met f y =>
    have e : h.get? a = some (PySem.W.methodObj (.ref f) (.ref y)) := x
    show h'.get? a = some (PySem.W.methodObj (.ref f) (.ref y))
    exact k a _ (.inl rfl) e
  | ext φ => obtain ⟨p, ⟨o, e⟩, st⟩ := x; exact ⟨st _ _ p fun o q => k _ _ (.inl rfl) q, ⟨o, k _ _ (.inl rfl) e⟩, st⟩
theorem HOk.lt (x : HOk P w H h) (e : H a = some o) : a < h.objs.size := (x a o e).lt
theorem HOk.fresh (x : HOk P w H h) (e : h.objs.size ≤ a) : H a = none := by
  cases q : H a with
  | none => rfl
  | some u => exact absurd (Nat.lt_of_lt_of_le (x.lt q) e) (Nat.lt_irrefl _)
theorem HOk.kept (x : HOk P w H h) (k : ∀ b u, h.get? b = some u → h'.get? b = some u) : HOk P w H h' := fun a o e =>
  (x a o e).stay (fun b u _ q => k b u q) (fun _ q => q) fun _ _ q => q
theorem HOk.laid (x : HOk P w H h) (k : ∀ b u, h.get? b = some u → h'.get? b = some u) (hp : h.objs.size ≤ a) (new : ObjOk P w (upd H a o) h' a o) : HOk P w (upd H a o) h' := fun b u e => by
  have hn := x.fresh hp
  by_cases hb : b = a
  · subst hb; rw [upd_same] at e; cases e; exact new
  · rw [upd_ne hb] at e
    exact (x b u e).stay (fun c v _ q => k c v q) (fun c q => by rw [upd_ne (ne_of_none q hn)]; exact q) fun c xs q => by rw [upd_ne (ne_of_none q hn)]; exact q
end
def Rd (H : Hp) (a : Addr) (u : HO) : Prop := H a = some u ∨ ∃ o, H a = some (.frz o u)
theorem Rd.of {H : Hp} {a : Addr} {u : HO} (h : H a = some u) : Rd H a u := .inl h
theorem Rd.ok {P : Program} {w : World} {H : Hp} {h : Heap} {a : Addr} {u : HO} (r : Rd H a u) (x : HOk P w H h) : ObjOk P w H h a u := by
  rcases r with r | ⟨o, r⟩
  · exact x a u r
  · obtain ⟨_, q⟩ := x a _ r
    exact q
def Mut : Option HO → Prop
  | some (.lst _) => True
  | some (.dK _) => True
  | some (.dT _) => True
  | some (.set _ _) => True
  | some (.ins _ _ _) => True
  | some (.ext _) => True
  | _ => False
section
variable {P : Program} {w : World} {H : Hp} {h h' : Heap} {x e : Addr} {o' : HO}
theorem HOk.write (ok : HOk P w H h) (mu : Mut (H x)) (he : e = x ∨ H e = some (.own x)) (k : ∀ b u, b ≠ e → h.get? b = some u → h'.get? b = some u) (heo : ∃ u, h'.get? e = some u)
    (new : ObjOk P w (upd H x o') h' x o') : HOk P w (upd H x o') h' := fun b u q => by
  have nown : ∀ c y, H c = some (.own y) → c ≠ x := fun c y r z => by subst z; rw [r] at mu; exact mu
  have ntup : ∀ c xs, H c = some (.tup xs) → c ≠ x := fun c xs r z => by subst z; rw [r] at mu; exact mu
  by_cases hb : b = x
  · subst hb; rw [upd_same] at q; cases q; exact new
  · rw [upd_ne hb] at q
    by_cases hbe : b = e
    · have q' : H b = some (.own x) := by
        rcases he with z | z
        · exact absurd (hbe.trans z) hb
        · rw [hbe]; exact z
      rw [q] at q'; cases q'
      obtain ⟨v, hv⟩ := heo
      exact ⟨v, by rw [hbe]; exact hv⟩
    · refine (ok b u q).stay (fun c v hc r => k c v ?_ r) (fun c r => by rw [upd_ne (nown c b r)]; exact r) fun c xs r => by rw [upd_ne (ntup c xs r)]; exact r
      rcases hc with rfl | hc
      · exact hbe
      · rintro rfl
        rcases he with z | z
        · exact nown c b hc z
        · rw [hc] at z; cases z; exact hb rfl
end
structure Un (fs ex : List Addr) (H H' : Hp) (h h' : Heap) : Prop where
  keep : ∀ b o, h.get? b = some o → H b = none → b ∉ fs → b ∉ ex → h'.get? b = some o
  slot : ∀ b o, h.get? b = some o → H b = none → b ∈ fs → b ∉ ex → ∃ sl, h'.get? b = some { o with slots := sl }
  free : ∀ b o, h.get? b = some o → H b = none → b ∉ ex → H' b = none
  there : ∀ b o, h.get? b = some o → b ∉ ex → ∃ o', h'.get? b = some o'
  tups : ∀ b xs, H b = some (.tup xs) → H' b = some (.tup xs)
  frzs : ∀ b o u, H b = some (.frz o u) → H' b = some (.frz o u)
  tbls : ∀ b ps, H b = some (.tbl ps) → ∃ more, H' b = some (.tbl (ps ++ more))
section
variable {fs fs' ex ex' : List Addr} {H H1 H2 : Hp} {h h1 h2 h' : Heap} {a x e : Addr} {o : HO}
theorem Un.any (u : Un fs ex H H1 h h1) {b : Addr} {ob : Obj} (q : h.get? b = some ob) (n : H b = none) (hx : b ∉ ex) : ∃ sl, h1.get? b = some { ob with slots := sl } := by
  by_cases hb : b ∈ fs
  · exact u.slot b ob q n hb hx
  · exact ⟨ob.slots, u.keep b ob q n hb hx⟩
theorem Un.trans (a : Un fs ex H H1 h h1) (b : Un fs ex H1 H2 h1 h2) : Un fs ex H H2 h h2 where
  keep := fun c ob q n hc hx => b.keep c ob (a.keep c ob q n hc hx) (a.free c ob q n hx) hc hx
  slot := fun c ob q n hc hx => by
    obtain ⟨sl, e1⟩ := a.slot c ob q n hc hx
    obtain ⟨sl', e2⟩ := b.slot c _ e1 (a.free c ob q n hx) hc hx
    exact ⟨sl', e2⟩
  free := fun c ob q n hx => by
    obtain ⟨o', e1⟩ := a.there c ob q hx
    exact b.free c o' e1 (a.free c ob q n hx) hx
  there := fun c ob q hx => by
    obtain ⟨o', e1⟩ := a.there c ob q hx
    exact b.there c o' e1 hx
  tups := fun c xs q => b.tups c xs (a.tups c xs q)
  frzs := fun c ob xs q => b.frzs c ob xs (a.frzs c ob xs q)
  tbls := fun c ps q => by
    obtain ⟨m1, e1⟩ := a.tbls c ps q
    obtain ⟨m2, e2⟩ := b.tbls c _ e1
    exact ⟨m1 ++ m2, by rw [e2, Array.append_assoc]⟩
theorem Un.kept (k : ∀ b u, h.get? b = some u → h'.get? b = some u) : Un fs ex H H h h' :=
  ⟨fun b ob q _ _ _ => k b ob q, fun b ob q _ _ _ => ⟨ob.slots, k b ob q⟩, fun _ _ _ n _ => n, fun b ob q _ => ⟨ob, k b ob q⟩, fun _ _ q => q, fun _ _ _ q => q, fun _ ps q => ⟨#[], by rw [q]; simp⟩⟩
theorem Un.refl : Un fs ex H H h h := Un.kept fun _ _ q => q
theorem Un.laid (k : ∀ b u, h.get? b = some u → h'.get? b = some u) (hp : h.objs.size ≤ a) (hn : H a = none) : Un fs ex H (upd H a o) h h' where
  keep := fun b u q _ _ _ => k b u q
  slot := fun b u q _ _ _ => ⟨u.slots, k b u q⟩
  free := fun b u q n _ => by rw [upd_ne (Nat.ne_of_lt (Nat.lt_of_lt_of_le (Heap.lt_size q) hp))]; exact n
  there := fun b u q _ => ⟨u, k b u q⟩
  tups := fun b xs q => by rw [upd_ne (ne_of_none q hn)]; exact q
  frzs := fun b u xs q => by rw [upd_ne (ne_of_none q hn)]; exact q
  tbls := fun b ps q => ⟨#[], by rw [upd_ne (ne_of_none q hn), q]; simp⟩
theorem Un.write (mu : Mut (H x)) (he : e = x ∨ H e = some (.own x)) (k : ∀ b u, b ≠ e → h.get? b = some u → h'.get? b = some u) (heo : ∃ u, h'.get? e = some u) : Un fs ex H (upd H x o) h h' := by
  have hx : ∀ b, H b = none → b ≠ x := fun b n z => by subst z; rw [n] at mu; exact mu
  have hb : ∀ b, H b = none → b ≠ e := fun b n z => by
    subst z
    rcases he with r | r
    · exact hx b n r
    · rw [n] at r; cases r
  have hm : ∀ b u, H b = some u → ¬ Mut (some u) → b ≠ x := fun b u q nm z => by subst z; rw [q] at mu; exact nm mu
  refine ⟨fun b u q n _ _ => k b u (hb b n) q, fun b u q n _ _ => ⟨u.slots, k b u (hb b n) q⟩, fun b u q n _ => by rw [upd_ne (hx b n)]; exact n, fun b u q _ => ?_,
    fun b xs q => by rw [upd_ne (hm b _ q fun z => z)]; exact q, fun b u xs q => by rw [upd_ne (hm b _ q fun z => z)]; exact q, fun b ps q => ⟨#[], by rw [upd_ne (hm b _ q fun z => z), q]; simp⟩⟩
  by_cases hbe : b = e
  · subst hbe; exact heo
  · exact ⟨u, k b u hbe q⟩
theorem Un.mono (u : Un fs ex H H1 h h1) (hs : ∀ b ∈ fs, b ∈ fs') (hx : ∀ b ∈ ex, b ∈ ex') : Un fs' ex' H H1 h h1 :=
  ⟨fun b ob q n hb he => u.keep b ob q n (fun z => hb (hs b z)) fun z => he (hx b z), fun _ _ q n _ he => u.any q n fun z => he (hx _ z), fun b ob q n he => u.free b ob q n fun z => he (hx b z), fun b ob q he => u.there b ob q fun z => he (hx b z), u.tups, u.frzs, u.tbls⟩
end
def trk (h : Heap) (H : Hp) : List Addr := (List.range h.objs.size).filter fun a => (H a).isSome
def hidT (h : Heap) (H : Hp) : Heap := PySem.W.hideAll h (trk h H)
theorem hidT_size (h : Heap) (H : Hp) : (hidT h H).objs.size = h.objs.size := PySem.W.hideAll_size _ _
theorem hidT_get {h : Heap} {H : Hp} {b : Addr} {o : Obj} (e : h.get? b = some o) (n : H b = none) : (hidT h H).get? b = some o :=
  PySem.W.hideAll_get _ e fun hm => by
    have q : (H b).isSome = true := (List.mem_filter.mp hm).2
    rw [n] at q; simp at q
theorem of_hidT {h : Heap} {H : Hp} {b : Addr} {o : Obj} (e : (hidT h H).get? b = some o) : h.get? b = some o ∧ H b = none := by
  have e' : h.get? b = some o := PySem.W.of_hideAll (trk h H) e
  refine ⟨e', ?_⟩
  cases q : H b with
  | none => rfl
  | some x =>
    have hm : b ∈ trk h H := List.mem_filter.mpr ⟨List.mem_range.mpr (Heap.lt_size e'), by simp [q]⟩
    have z : (hidT h H).get? b = none := PySem.W.hideAll_none (trk h H) hm
    rw [z] at e; cases e
def allNews (g h : Heap) (L : Addr) : List (Addr × Obj) := (List.range h.objs.size).filterMap fun a => if a = L ∨ (g.get? a).isSome = true then none else (h.get? a).map fun o => (a, o)
def rest (g h : Heap) (L d : Addr) : List (Addr × Obj) := (allNews g h L).filter fun p => decide (p.1 ≠ d)
end L2
namespace L2
open PySem PySem.Spec PyProof.Rows
structure Mod (K : PySem.W.Frag) (mg : Str → Option Value) (base : Heap) : Prop where
  kin : K.In base
  glob : base.Ns mainGlobals mg
  blt : ∃ mb, base.Ns builtinsNs mb ∧ ∀ x : Str, x ≠ "__name__" → mb x = bootBuiltins x
  nolimit : base.NoLimit
structure Cx where
  prog : Program
  w : World
  K : PySem.W.Frag
  mg : Str → Option Value
  base : Heap
  A : Around
  N : List Str
  s₀ : Shared
  H₀ : Hp
  env : Env
  outer : List Env
  stack : List Env
  ex : List Addr
  fn : Str → Bool
  calm : Bool
  pn : List (Addr × Obj)
  xe : Value → Shared → Prop
def frs (l : List Env) : List Addr := l.filterMap (·.frame)
abbrev Cx.fs (X : Cx) : List Addr := frs X.outer
def Vis (sc : Scope) (x : Str) : Prop := sc.names.lookup x = some .local ∨ sc.names.lookup x = some .cell ∨ sc.names.lookup x = some .free
def Loc (sc : Scope) (x : Str) : Prop := sc.names.lookup x = some .local ∨ sc.names.lookup x = some .cell
def Look (env : Env) (h : Heap) (m : Str → Option Value) (x : Str) (u : Value) : Prop :=
  (env.kindOf x = some .local ∧ m x = some u) ∨ ((env.kindOf x = some .cell ∨ env.kindOf x = some .free) ∧ ∃ c, env.cells.lookup x = some c ∧ h.IsCell c (some u))
structure Cx.Ok (X : Cx) : Prop where
  mod : Mod X.K X.mg X.base
  kind : X.env.scope.kind = .function
  glob : X.env.globals = mainGlobals
  blt : X.env.builtins = builtinsNs
  above : X.s₀.heap.objs.size ≤ X.env.locals
  inj : ∀ x y c, X.env.cells.lookup x = some c → X.env.cells.lookup y = some c → x = y
  has : ∀ x, (X.env.kindOf x = some .cell ∨ X.env.kindOf x = some .free) → ∃ c, X.env.cells.lookup x = some c
  cab : ∀ x c, X.fn x = true → X.env.cells.lookup x = some c → X.s₀.heap.objs.size ≤ c
  hd : X.calm = true → X.A.handled = none
  frames : X.A.frames = some X.stack
  stk : X.stack = X.outer ∨ (X.stack = X.env :: X.outer ∧ X.env.frame = some X.env.locals)
  exf : ∀ b ∈ X.ex, b ≠ X.env.locals ∧ ∀ x c, X.env.cells.lookup x = some c → c ≠ b
  bs : ∀ b o, X.base.get? b = some o → X.s₀.heap.get? b = some o ∧ X.H₀ b = none
  bsz : X.base.objs.size ≤ X.s₀.heap.objs.size
  noex : ∀ b o, X.base.get? b = some o → b ∉ X.ex
  exfs : ∀ b ∈ X.ex, b ∉ X.fs
  funs : X.s₀.heap.FunFrames X.base X.outer
  frf : ∀ b ∈ X.fs, X.H₀ b = none
structure Inv (X : Cx) (pins : List (Addr × Obj)) (σ : List (Option V)) (H : Hp) (s : Shared) : Prop where
  ok : X.Ok
  os : s.os = X.s₀.os
  bare : AllBare s.gens
  base : Un X.fs X.ex X.H₀ H X.s₀.heap s.heap
  loc : ∃ m, s.heap.Ns X.env.locals m ∧ ∀ (i : Nat) (x : Str) (v : V), X.N[i]? = some x → σ[i]? = some (some v) → Vis X.env.scope x → ∃ u, RelV v u ∧ Look X.env s.heap m x u
  cell : ∀ x c, X.env.cells.lookup x = some c → ∃ v, s.heap.IsCell c v
  free : H X.env.locals = none
  freeC : ∀ x c, X.env.cells.lookup x = some c → H c = none
  pin : ∀ p ∈ X.pn ++ pins, s.heap.get? p.1 = some p.2 ∧ H p.1 = none ∧ p.1 ≠ X.env.locals ∧ p.1 ∉ X.fs ∧ ∀ v, p.2.data ≠ .cell v
  hok : HOk X.prog X.w H s.heap
  len : σ.length = X.N.length
section
variable {X : Cx} {pins : List (Addr × Obj)} {σ : List (Option V)} {H H' : Hp} {s : Shared} {h' : Heap}
theorem Cx.Ok.nofr (ok : X.Ok) {b : Addr} {o : Obj} (e : X.base.get? b = some o) : b ∉ X.fs := fun hb => by
  have := (ok.funs.mem hb).1
  rw [e] at this; cases this
theorem Inv.bs (I : Inv X pins σ H s) : ∀ b o, X.base.get? b = some o → s.heap.get? b = some o ∧ H b = none := fun b o e =>
  ⟨I.base.keep b o (I.ok.bs b o e).1 (I.ok.bs b o e).2 (I.ok.nofr e) (I.ok.noex b o e), I.base.free b o (I.ok.bs b o e).1 (I.ok.bs b o e).2 (I.ok.noex b o e)⟩
theorem Inv.bk (I : Inv X pins σ H s) : ∀ b o, X.base.get? b = some o → s.heap.get? b = some o := fun b o e => (I.bs b o e).1
theorem Inv.mod (I : Inv X pins σ H s) : Mod X.K X.mg X.base := I.ok.mod
theorem Inv.kIn (I : Inv X pins σ H s) : X.K.In s.heap := I.ok.mod.kin.keeps I.bk
theorem Inv.nolimit (I : Inv X pins σ H s) : s.heap.NoLimit := I.ok.mod.nolimit.keeps I.bk
theorem Inv.fr (I : Inv X pins σ H s) : ∃ m, Fr X.base X.env.locals s.heap m :=
  let ⟨m, hn, _⟩ := I.loc
  ⟨m, hn, I.bk, Nat.le_trans I.ok.bsz I.ok.above⟩
theorem Inv.lt (I : Inv X pins σ H s) : X.env.locals < s.heap.objs.size := let ⟨_, hn, _⟩ := I.loc; hn.lt
theorem Inv.sz (I : Inv X pins σ H s) : X.s₀.heap.objs.size ≤ s.heap.objs.size := Nat.le_trans I.ok.above (Nat.le_of_lt I.lt)
theorem Inv.nofs (I : Inv X pins σ H s) {a : Addr} (h : s.heap.objs.size ≤ a) : a ∉ X.fs := fun hb => by
  obtain ⟨_, o, ho, _⟩ := I.ok.funs.mem hb
  exact absurd (Nat.lt_of_lt_of_le (Heap.lt_size ho) (Nat.le_trans I.sz h)) (Nat.lt_irrefl _)
theorem Inv.cne (I : Inv X pins σ H s) : ∀ x c, X.env.cells.lookup x = some c → c ≠ X.env.locals := fun x c e z => by
  obtain ⟨v, o, ho, hd⟩ := I.cell x c e
  obtain ⟨m, ⟨o', es, ep, ho', hd', _⟩, _⟩ := I.loc
  rw [z, ho'] at ho; cases ho; rw [hd'] at hd; cases hd
theorem Inv.funs (I : Inv X pins σ H s) : s.heap.FunFrames X.base X.outer := by
  have all : ∀ (l : List Env), (∀ b ∈ frs l, b ∈ X.fs) → X.s₀.heap.FunFrames X.base l → s.heap.FunFrames X.base l := by
    intro l
    induction l with
    | nil => intro _ _; trivial
    | cons env r ih =>
      intro hs hl
      obtain ⟨hk, ⟨L, o, hf, hn, ho, hd⟩, hr⟩ := hl
      have hL : L ∈ X.fs := hs L (by unfold frs; rw [List.filterMap_cons, hf]; exact List.mem_cons_self)
      obtain ⟨sl, e⟩ := I.base.slot L o ho (I.ok.frf L hL) hL fun z => I.ok.exfs L z hL
      exact ⟨hk, ⟨L, _, hf, hn, e, hd⟩, ih (fun b hb => hs b (by unfold frs; rw [List.filterMap_cons, hf]; exact List.mem_cons_of_mem _ hb)) hr⟩
  exact all X.outer (fun _ hb => hb) I.ok.funs
theorem Inv.stack (I : Inv X pins σ H s) : s.heap.FunFrames X.base X.stack := by
  rcases I.ok.stk with e | ⟨e, hf⟩
  · rw [e]; exact I.funs
  · rw [e]
    obtain ⟨m, hn, _⟩ := I.loc
    refine .cons (by rw [I.ok.kind]; decide) hf hn ?_ I.funs
    exact Heap.get?_none_of_le (Nat.le_trans I.ok.bsz I.ok.above)
theorem Inv.stkSub (I : Inv X pins σ H s) : ∀ b ∈ frs X.stack, b ∈ X.env.locals :: X.fs := fun b hb => by
  rcases I.ok.stk with e | ⟨e, hf⟩
  · rw [e] at hb; exact List.mem_cons_of_mem _ hb
  · rw [e] at hb
    unfold frs at hb
    rw [List.filterMap_cons, hf] at hb
    exact hb
theorem Inv.stkFree (I : Inv X pins σ H s) : ∀ b ∈ frs X.stack, H b = none := fun b hb => by
  rcases List.mem_cons.mp (I.stkSub b hb) with e | hb
  · rw [e]; exact I.free
  · obtain ⟨_, o, ho, _⟩ := I.ok.funs.mem hb
    exact I.base.free b o ho (I.ok.frf b hb) fun z => I.ok.exfs b z hb
theorem Inv.step {g' : Array GenState} {t' : Nat} {d' : Drawn} {ch : List Addr} (I : Inv X pins σ H s)
    (hch : ∀ b ∈ ch, (b ∈ X.ex ∨ X.s₀.heap.objs.size ≤ b) ∧ b ≠ X.env.locals ∧ (∀ x c, X.env.cells.lookup x = some c → c ≠ b) ∧ ∀ p ∈ X.pn ++ pins, p.1 ≠ b)
    (keep : ∀ b o, b ≠ X.env.locals → b ∉ X.fs → b ∉ ch → s.heap.get? b = some o → H b = none → h'.get? b = some o)
    (slot : ∀ b o, b ≠ X.env.locals → b ∈ X.fs → b ∉ ch → s.heap.get? b = some o → H b = none → ∃ sl, h'.get? b = some { o with slots := sl }) (free : ∀ b o, b ∉ ch → s.heap.get? b = some o → H b = none → H' b = none)
    (there : ∀ b o, b ∉ ch → s.heap.get? b = some o → ∃ o', h'.get? b = some o')
    (tups : ∀ b xs, H b = some (.tup xs) → H' b = some (.tup xs)) (frzs : ∀ b o u, H b = some (.frz o u) → H' b = some (.frz o u)) (tbls : ∀ b ps, H b = some (.tbl ps) → ∃ more, H' b = some (.tbl (ps ++ more)))
    (ns : ∀ m, s.heap.Ns X.env.locals m → h'.Ns X.env.locals m) (hok : HOk X.prog X.w H' h') (hg : AllBare g') :
    Inv X pins σ H' { s with heap := h', gens := g', drawn := d', toks := t' } := by
  have neL : ∀ b o, X.s₀.heap.get? b = some o → b ≠ X.env.locals := fun b o e => Nat.ne_of_lt (Nat.lt_of_lt_of_le (Heap.lt_size e) I.ok.above)
  have neC : ∀ b o, X.s₀.heap.get? b = some o → b ∉ X.ex → b ∉ ch := fun b o e hx hb => by
    rcases (hch b hb).1 with z | z
    · exact hx z
    · exact absurd (Nat.lt_of_lt_of_le (Heap.lt_size e) z) (Nat.lt_irrefl _)
  have cellK : ∀ x c, X.env.cells.lookup x = some c → ∀ v, s.heap.IsCell c v → h'.IsCell c v := fun x c e v ⟨o, ho, hd⟩ => by
    have nch : c ∉ ch := fun z => (hch c z).2.2.1 x c e rfl
    by_cases hc : c ∈ X.fs
    · obtain ⟨sl, q⟩ := slot c o (I.cne x c e) hc nch ho (I.freeC x c e)
      exact ⟨_, q, hd⟩
    · exact ⟨o, keep c o (I.cne x c e) hc nch ho (I.freeC x c e), hd⟩
  refine ⟨I.ok, I.os, hg, ⟨fun b o e n hb hx => ?_, fun b o e n hb hx => ?_, fun b o e n hx => ?_, fun b o e hx => ?_, fun b xs e => tups b xs (I.base.tups b xs e), fun b o xs e => frzs b o xs (I.base.frzs b o xs e), fun b ps e => ?_⟩, ?_, fun x c e => ?_, ?_, fun x c e => ?_, fun p hp => ?_, hok, I.len⟩
  · exact keep b o (neL b o e) hb (neC b o e hx) (I.base.keep b o e n hb hx) (I.base.free b o e n hx)
  · obtain ⟨sl, e1⟩ := I.base.slot b o e n hb hx
    obtain ⟨sl', e2⟩ := slot b _ (neL b o e) hb (neC b o e hx) e1 (I.base.free b o e n hx)
    exact ⟨sl', e2⟩
  · obtain ⟨o', e1⟩ := I.base.there b o e hx
    exact free b o' (neC b o e hx) e1 (I.base.free b o e n hx)
  · obtain ⟨o', e1⟩ := I.base.there b o e hx
    exact there b o' (neC b o e hx) e1
  · obtain ⟨m1, e1⟩ := I.base.tbls b ps e
    obtain ⟨m2, e2⟩ := tbls b _ e1
    exact ⟨m1 ++ m2, by rw [e2, Array.append_assoc]⟩
  · obtain ⟨m, hn, hl⟩ := I.loc
    refine ⟨m, ns m hn, fun i x v e1 e2 e3 => ?_⟩
    obtain ⟨u, r, l⟩ := hl i x v e1 e2 e3
    refine ⟨u, r, ?_⟩
    rcases l with l | ⟨k, c, e, z⟩
    · exact .inl l
    · exact .inr ⟨k, c, e, cellK x c e _ z⟩
  · obtain ⟨v, z⟩ := I.cell x c e
    exact ⟨v, cellK x c e v z⟩
  · obtain ⟨m, ⟨o, _, _, ho, _⟩, _⟩ := I.loc
    exact free _ o (fun z => (hch _ z).2.1 rfl) ho I.free
  · obtain ⟨v, o, ho, hd⟩ := I.cell x c e
    exact free c o (fun z => (hch c z).2.2.1 x c e rfl) ho (I.freeC x c e)
  · obtain ⟨e, n, ne, nf, d⟩ := I.pin p hp
    have nch : p.1 ∉ ch := fun z => (hch p.1 z).2.2.2 p hp rfl
    exact ⟨keep p.1 p.2 ne nf nch e n, free p.1 p.2 nch e n, ne, nf, d⟩
theorem Inv.un {t' : Nat} (I : Inv X pins σ H s) (u : Un X.fs [] H H' s.heap h') (hok : HOk X.prog X.w H' h') : Inv X pins σ H' { s with heap := h', toks := t' } := by
  obtain ⟨m, ⟨o, es, ep, ho, r⟩, _⟩ := id I.loc
  obtain ⟨sl, hL⟩ := u.any ho I.free (by simp)
  exact I.step (g' := s.gens) (d' := s.drawn) (ch := []) (fun _ z => nomatch z) (fun b o _ hb _ e n => u.keep b o e n hb (by simp)) (fun b o _ hb _ e n => u.slot b o e n hb (by simp)) (fun b o _ e n => u.free b o e n (by simp)) (fun b o _ e => u.there b o e (by simp)) u.tups u.frzs u.tbls (fun m' hm => by
    obtain ⟨o', es', ep', ho', r'⟩ := hm
    rw [ho] at ho'; cases ho'
    exact ⟨_, es', ep', hL, r'⟩) hok I.bare
theorem Inv.call {g' : Array GenState} {t' : Nat} {d' : Drawn} {ch : List Addr} (I : Inv X pins σ H s) (u : Un (frs X.stack) ch H H' s.heap h') (hok : HOk X.prog X.w H' h') (hg : AllBare g')
    (hch : ∀ b ∈ ch, (b ∈ X.ex ∨ X.s₀.heap.objs.size ≤ b) ∧ b ≠ X.env.locals ∧ (∀ x c, X.env.cells.lookup x = some c → c ≠ b) ∧ ∀ p ∈ X.pn ++ pins, p.1 ≠ b) :
    Inv X pins σ H' { s with heap := h', gens := g', drawn := d', toks := t' } := by
  obtain ⟨m, ⟨o, es, ep, ho, r⟩, _⟩ := id I.loc
  obtain ⟨sl, hL⟩ := u.any ho I.free fun z => (hch _ z).2.1 rfl
  exact I.step (ch := ch) hch (fun b o hL hb hc e n => u.keep b o e n (fun z => (List.mem_cons.mp (I.stkSub b z)).elim hL hb) hc) (fun b o _ _ hc e n => u.any e n hc) (fun b o hc e n => u.free b o e n hc) (fun b o hc e => u.there b o e hc) u.tups u.frzs u.tbls (fun m' hm => by
    obtain ⟨o', es', ep', ho', r'⟩ := hm
    rw [ho] at ho'; cases ho'
    exact ⟨_, es', ep', hL, r'⟩) hok hg
theorem Inv.turned {t' : Nat} {it : Addr} (I : Inv X pins σ H s) (k : ∀ b o, b ≠ it → s.heap.get? b = some o → h'.get? b = some o) (hn : H it = none) (hL : it ≠ X.env.locals)
    (h1 : it ∈ X.ex ∨ X.s₀.heap.objs.size ≤ it) (h2 : ∀ x c, X.env.cells.lookup x = some c → c ≠ it) (h3 : ∀ p ∈ X.pn ++ pins, p.1 ≠ it) : Inv X pins σ H { s with heap := h', toks := t' } := by
  have nit : ∀ b u, H b = some u → b ≠ it := fun b u e z => by rw [z, hn] at e; cases e
  refine I.step (g' := s.gens) (d' := s.drawn) (ch := [it]) (fun b hb => ?_) (fun b o _ _ hc e _ => k b o (fun z => hc (by simp [z])) e) (fun b o _ _ hc e _ => ⟨o.slots, k b o (fun z => hc (by simp [z])) e⟩) (fun _ _ _ _ n => n)
    (fun b o hc e => ⟨o, k b o (fun z => hc (by simp [z])) e⟩) (fun _ _ e => e) (fun _ _ _ e => e) (fun b ps e => ⟨#[], by rw [e]; simp⟩) (fun m hm => ?_) (fun b u e => ?_) I.bare
  · have e : b = it := by simpa using hb
    subst e
    exact ⟨h1, hL, h2, h3⟩
  · obtain ⟨o, es, ep, ho, r⟩ := hm
    exact ⟨o, es, ep, k _ o (Ne.symm hL) ho, r⟩
  · refine (I.hok b u e).stay (fun c v hc q => k c v ?_ q) (fun _ q => q) fun _ _ q => q
    rcases hc with z | z
    · rw [z]; exact nit b u e
    · exact nit c _ z
theorem Inv.tok (I : Inv X pins σ H s) (t : Nat) : Inv X pins σ H { s with toks := t } := I.un (h' := s.heap) (t' := t) Un.refl I.hok
theorem Inv.kept {t' : Nat} (I : Inv X pins σ H s) (k : ∀ b u, s.heap.get? b = some u → h'.get? b = some u) : Inv X pins σ H { s with heap := h', toks := t' } := I.un (Un.kept k) (I.hok.kept k)
theorem Inv.laid {a : Addr} {o : HO} {t' : Nat} (I : Inv X pins σ H s) (k : ∀ b u, s.heap.get? b = some u → h'.get? b = some u) (hp : s.heap.objs.size ≤ a) (new : ObjOk X.prog X.w (upd H a o) h' a o) :
    Inv X pins σ (upd H a o) { s with heap := h', toks := t' } := I.un (Un.laid k hp (I.hok.fresh hp)) (I.hok.laid k hp new)
theorem Inv.write {x e : Addr} {o : HO} {t' : Nat} (I : Inv X pins σ H s) (mu : Mut (H x)) (he : e = x ∨ H e = some (.own x)) (k : ∀ b u, b ≠ e → s.heap.get? b = some u → h'.get? b = some u) (heo : ∃ u, h'.get? e = some u)
    (new : ObjOk X.prog X.w (upd H x o) h' x o) : Inv X pins σ (upd H x o) { s with heap := h', toks := t' } := I.un (Un.write mu he k heo) (I.hok.write mu he k heo new)
theorem Inv.pins_of {pins' : List (Addr × Obj)} (I : Inv X pins σ H s) (h : ∀ p ∈ pins', s.heap.get? p.1 = some p.2 ∧ H p.1 = none ∧ p.1 ≠ X.env.locals ∧ p.1 ∉ X.fs ∧ ∀ v, p.2.data ≠ .cell v) : Inv X pins' σ H s :=
  ⟨I.ok, I.os, I.bare, I.base, I.loc, I.cell, I.free, I.freeC, fun p hp => (List.mem_append.mp hp).elim (fun z => I.pin p (List.mem_append_left _ z)) (h p), I.hok, I.len⟩
theorem nodup_ix {N : List Str} (hN : N.Nodup) {i j : Nat} {x : Str} (a : N[i]? = some x) (b : N[j]? = some x) : i = j := by
  obtain ⟨h1, e1⟩ := List.getElem?_eq_some_iff.mp a
  obtain ⟨h2, e2⟩ := List.getElem?_eq_some_iff.mp b
  exact (List.getElem_inj hN).mp (e1.trans e2.symm)
theorem store_ok2 {M : Model} {A : Around} {E : Value → Shared → Prop} {i : Nat} {x : Str} {v : V} {u : Value} {Q : Unit → Shared → Prop} (I : Inv X pins σ H s) (hN : X.N.Nodup) (hi : X.N[i]? = some x) (hx : Loc X.env.scope x) (r : RelV v u)
    (h : ∀ s', Inv X pins (σ.set i (some v)) H s' → (∃ a, Heap.SameBut a s.heap s'.heap ∧ (a = X.env.locals ∨ X.env.cells.lookup x = some a)) → Q () s') (hf : X.fn x = true ∨ X.env.scope.names.lookup x = some .local := by first | exact .inl rfl | exact .inr rfl | assumption) : wpAny M A (storeName X.env x u) Q E s := by
  obtain ⟨m, hn, hl⟩ := id I.loc
  have hcls : (X.env.scope.kind == .class || (X.env.scope.kind == .module && X.env.locals != X.env.globals)) = false := by rw [I.ok.kind]; rfl
  have hiσ : i < σ.length := by rw [I.len]; exact (List.getElem?_eq_some_iff.mp hi).1
  have cne := I.cne
  have tracked : ∀ {a : Addr} {h' : Heap}, (∃ o, s.heap.get? a = some o ∧ H a = none) → Heap.SameBut a s.heap h' → HOk X.prog X.w H h' := fun {a h'} ha hs b ob e => by
    obtain ⟨_, _, hfree⟩ := ha
    refine (I.hok b ob e).stay (fun c w' hc q => (hs.2 c ?_).trans q) (fun _ q => q) fun _ _ q => q
    rintro rfl
    rcases hc with rfl | hc
    · rw [hfree] at e; cases e
    · rw [hfree] at hc; cases hc
  rcases hx with hk | hk
  · refine wpAny_storeName_local hk hn (fun h' hn' hs => ?_) hcls
    obtain ⟨oL, _, _, hoL, _⟩ := id hn
    refine h _ ⟨I.ok, I.os, I.bare, ⟨fun b o e n hb hx => ?_, fun b o e n hb hx => ?_, I.base.free, fun b o e hx => ?_, I.base.tups, I.base.frzs, I.base.tbls⟩, ⟨_, hn', fun j y v' e1 e2 e3 => ?_⟩, fun y c e => ?_, I.free, I.freeC, fun p hp => ?_, tracked ⟨oL, hoL, I.free⟩ hs, by simpa using I.len⟩ ⟨_, hs, .inl rfl⟩
    · exact (hs.2 b (Nat.ne_of_lt (Nat.lt_of_lt_of_le (Heap.lt_size e) I.ok.above))).trans (I.base.keep b o e n hb hx)
    · obtain ⟨sl, e1⟩ := I.base.slot b o e n hb hx
      exact ⟨sl, (hs.2 b (Nat.ne_of_lt (Nat.lt_of_lt_of_le (Heap.lt_size e) I.ok.above))).trans e1⟩
    · obtain ⟨o', e1⟩ := I.base.there b o e hx
      exact ⟨o', (hs.2 b (Nat.ne_of_lt (Nat.lt_of_lt_of_le (Heap.lt_size e) I.ok.above))).trans e1⟩
    · by_cases hj : j = i
      · subst hj
        rw [hi] at e1; cases e1
        rw [List.getElem?_set_self hiσ] at e2
        cases e2
        exact ⟨u, r, .inl ⟨hk, by simp⟩⟩
      · rw [List.getElem?_set_ne (Ne.symm hj)] at e2
        obtain ⟨u', r', q⟩ := hl j y v' e1 e2 e3
        refine ⟨u', r', ?_⟩
        rcases q with ⟨k, e⟩ | ⟨k, c, e, z⟩
        · refine .inl ⟨k, ?_⟩
          have : y ≠ x := fun e => hj (nodup_ix hN e1 (e ▸ hi))
          simp [this, e]
        · exact .inr ⟨k, c, e, z.sameBut hs (cne y c e)⟩
    · obtain ⟨w', z⟩ := I.cell y c e
      exact ⟨w', z.sameBut hs (cne y c e)⟩
    · obtain ⟨e, n, ne, nf, d⟩ := I.pin p hp
      exact ⟨(hs.2 p.1 ne).trans e, n, ne, nf, d⟩
  · have hfn : X.fn x = true := by
      rcases hf with z | z
      · exact z
      · rw [z] at hk; cases hk
    obtain ⟨c, hc⟩ := I.ok.has x (.inl hk)
    obtain ⟨w', z⟩ := I.cell x c hc
    refine wpAny_storeName_cell I.ok.kind hk hc z (fun h' hc' hs => ?_)
    obtain ⟨oc, hoc, hocd⟩ := id z
    refine h { s with heap := h' } ⟨I.ok, I.os, I.bare, ⟨fun b o e n hb hx => ?_, fun b o e n hb hx => ?_, I.base.free, fun b o e hx => ?_, I.base.tups, I.base.frzs, I.base.tbls⟩, ⟨m, hn.sameBut hs (Ne.symm (cne x c hc)), fun j y v' e1 e2 e3 => ?_⟩, fun y c' e => ?_, I.free, I.freeC, fun p hp => ?_, tracked ⟨oc, hoc, I.freeC x c hc⟩ hs, by simpa using I.len⟩ ⟨c, hs, .inr hc⟩
    · exact (hs.2 b (Nat.ne_of_lt (Nat.lt_of_lt_of_le (Heap.lt_size e) (I.ok.cab x c hfn hc)))).trans (I.base.keep b o e n hb hx)
    · obtain ⟨sl, e1⟩ := I.base.slot b o e n hb hx
      exact ⟨sl, (hs.2 b (Nat.ne_of_lt (Nat.lt_of_lt_of_le (Heap.lt_size e) (I.ok.cab x c hfn hc)))).trans e1⟩
    · obtain ⟨o', e1⟩ := I.base.there b o e hx
      exact ⟨o', (hs.2 b (Nat.ne_of_lt (Nat.lt_of_lt_of_le (Heap.lt_size e) (I.ok.cab x c hfn hc)))).trans e1⟩
    · by_cases hj : j = i
      · subst hj
        rw [hi] at e1; cases e1
        rw [List.getElem?_set_self hiσ] at e2
        cases e2
        exact ⟨u, r, .inr ⟨.inl hk, c, hc, hc'⟩⟩
      · rw [List.getElem?_set_ne (Ne.symm hj)] at e2
        obtain ⟨u', r', q⟩ := hl j y v' e1 e2 e3
        refine ⟨u', r', ?_⟩
        rcases q with q | ⟨k, c', e, z'⟩
        · exact .inl q
        · refine .inr ⟨k, c', e, z'.sameBut hs ?_⟩
          rintro rfl
          exact hj (nodup_ix hN e1 (I.ok.inj _ _ _ e hc ▸ hi))
    · by_cases hcc : c' = c
      · subst hcc; exact ⟨_, hc'⟩
      · obtain ⟨w2, z2⟩ := I.cell y c' e
        exact ⟨w2, z2.sameBut hs hcc⟩
    · obtain ⟨e, n, ne, nf, d⟩ := I.pin p hp
      refine ⟨(hs.2 p.1 ?_).trans e, n, ne, nf, d⟩
      intro q
      rw [q, hoc] at e
      have q' : oc = p.2 := Option.some.inj e
      exact d w' (by rw [← q']; exact hocd)
theorem store_ok {M : Model} {A : Around} {E : Value → Shared → Prop} {i : Nat} {x : Str} {v : V} {u : Value} {Q : Unit → Shared → Prop} (I : Inv X pins σ H s) (hN : X.N.Nodup) (hi : X.N[i]? = some x) (hx : Loc X.env.scope x) (r : RelV v u)
    (h : ∀ s', Inv X pins (σ.set i (some v)) H s' → Q () s') (hf : X.fn x = true ∨ X.env.scope.names.lookup x = some .local := by first | exact .inl rfl | exact .inr rfl | assumption) : wpAny M A (storeName X.env x u) Q E s :=
  store_ok2 I hN hi hx r (fun s' I' _ => h s' I') hf
theorem Inv.call' {s' : Shared} {ch : List Addr} (I : Inv X pins σ H s) (ho : s'.os = s.os) (u : Un (frs X.stack) ch H H' s.heap s'.heap) (hok : HOk X.prog X.w H' s'.heap) (hg : AllBare s'.gens)
    (hch : ∀ b ∈ ch, (b ∈ X.ex ∨ X.s₀.heap.objs.size ≤ b) ∧ b ≠ X.env.locals ∧ (∀ x c, X.env.cells.lookup x = some c → c ≠ b) ∧ ∀ p ∈ X.pn ++ pins, p.1 ≠ b) : Inv X pins σ H' s' := by
  obtain ⟨h', g', d', t', o'⟩ := s'
  have e : o' = s.os := ho
  subst e
  exact I.call (g' := g') (t' := t') (d' := d') u hok hg hch
end
abbrev XK := Value → Option Addr → Hp → Prop
abbrev St := List (Option V)
abbrev VK := V → Hp → Prop
abbrev TE := St → Hp → VK → Prop
abbrev TT := St → Hp → (Bool → Hp → Prop) → Prop
abbrev TA := St → Hp → (List V → Hp → Prop) → Prop
structure Ends where
  nx : St → Hp → Prop
  rt : VK
  bk : St → Hp → Prop := fun _ _ => False
  ct : St → Hp → Prop := fun _ _ => False
abbrev TS := Ends → St → Hp → Prop
def EP (X : Cx) (pins : List (Addr × Obj)) (σ : St) (Q : VK) (u : Value) (s' : Shared) : Prop := ∃ v H', Inv X pins σ H' s' ∧ RelV v u ∧ Q v H'
def TP (X : Cx) (pins : List (Addr × Obj)) (σ : St) (Q : Bool → Hp → Prop) (b : Bool) (s' : Shared) : Prop := ∃ H', Inv X pins σ H' s' ∧ Q b H'
def AP (X : Cx) (pins : List (Addr × Obj)) (σ : St) (Q : List V → Hp → Prop) (us : List Value) (s' : Shared) : Prop := ∃ vs H', Inv X pins σ H' s' ∧ Vals vs us ∧ Q vs H'
def SP (X : Cx) (pins : List (Addr × Obj)) (D : Ends) (f : Flow) (s' : Shared) : Prop :=
  match f with
  | .next => ∃ σ' H', Inv X pins σ' H' s' ∧ D.nx σ' H'
  | .brk => ∃ σ' H', Inv X pins σ' H' s' ∧ D.bk σ' H'
  | .cont => ∃ σ' H', Inv X pins σ' H' s' ∧ D.ct σ' H'
  | .ret u => ∃ v σ' H', Inv X pins σ' H' s' ∧ RelV v u ∧ D.rt v H'
def PE (X : Cx) (e : Expr) (t : TE) : Prop :=
  ∀ (pins : List (Addr × Obj)) (s : Shared) (σ : St) (H : Hp) (Q : VK), Inv X pins σ H s → t σ H Q → wpAny (model X.prog X.w) X.A (eval e X.env) (EP X pins σ Q) X.xe s
def PT (X : Cx) (e : Expr) (t : TT) : Prop :=
  ∀ (pins : List (Addr × Obj)) (s : Shared) (σ : St) (H : Hp) (Q : Bool → Hp → Prop), Inv X pins σ H s → t σ H Q → wpAny (model X.prog X.w) X.A (isTrue e X.env (eval e X.env)) (TP X pins σ Q) X.xe s
def PW (X : Cx) (e : Expr) (t : TT) : Prop :=
  ∀ (whole : Sem Value) (pins : List (Addr × Obj)) (s : Shared) (σ : St) (H : Hp) (Q : Bool → Hp → Prop), Inv X pins σ H s → t σ H Q → wpAny (model X.prog X.w) X.A (isTrue e X.env whole) (TP X pins σ Q) X.xe s
theorem PW.pt {X : Cx} {e : Expr} {t : TT} (h : PW X e t) : PT X e t := h _
def PA (X : Cx) (es : List Expr) (t : TA) : Prop :=
  ∀ (pos : Pos) (pins : List (Addr × Obj)) (s : Shared) (σ : St) (H : Hp) (Q : List V → Hp → Prop), Inv X pins σ H s → t σ H Q → wpAny (model X.prog X.w) X.A (spliced (backTo pos (starEach es X.env))) (AP X pins σ Q) X.xe s
def PS (X : Cx) (st : Stmt) (t : TS) : Prop :=
  ∀ (pins : List (Addr × Obj)) (s : Shared) (σ : St) (H : Hp) (D : Ends), Inv X pins σ H s → t D σ H → wpAny (model X.prog X.w) X.A (exec st X.env) (SP X pins D) X.xe s
def PSs (X : Cx) (st : List Stmt) (t : TS) : Prop :=
  ∀ (pins : List (Addr × Obj)) (s : Shared) (σ : St) (H : Hp) (D : Ends), Inv X pins σ H s → t D σ H → wpAny (model X.prog X.w) X.A (execs st X.env) (SP X pins D) X.xe s
theorem thn {α : Type} {t : Sem α} {Q Q' : α → Shared → Prop} {M : Model} {A : Around} {E : Value → Shared → Prop} {s : Shared} (h : wpAny M A t Q E s) (hQ : ∀ a s, Q a s → Q' a s) : wpAny M A t Q' E s := wpAny_mono h hQ fun _ _ x => x
end L2
namespace L2
open PySem PySem.Spec PyProof.Rows
section
variable {X : Cx}
def tVar (i : Nat) : TE := fun σ H Q => ∃ v, σ[i]? = some (some v) ∧ Q v H
def tC (v : V) : TE := fun _ H Q => Q v H
theorem pe_var {i : Nat} {x : Str} {pos : Pos} (hN : X.N[i]? = some x) (hv : Vis X.env.scope x) (hd : (x == ("__debug__" : Str)) = false := by decide) (hcd : (x == ("__classdict__" : Str)) = false := by decide) : PE X (.Name x pos) (tVar i) := by
  intro pins s σ H Q I h
  obtain ⟨v, e, h⟩ := h
  obtain ⟨m, hn, hl⟩ := I.loc
  obtain ⟨u, r, l⟩ := hl i x v hN e hv
  have fin : EP X pins σ Q u s := ⟨v, H, I, r, h⟩
  rcases l with ⟨hk, hm⟩ | ⟨hk, c, hc, hcell⟩
  · exact wpAny_Name (wpAny_loadName_local I.ok.kind hk hn hm fin) hd
  · rcases hk with hk | hk
    · exact wpAny_Name (wpAny_loadName_cell I.ok.kind hk hc hcell fin) hd
    · exact wpAny_Name (wpAny_loadName_free I.ok.kind hk hc hcell fin hcd) hd
theorem pe_int {i j pos} : PE X (.Constant (.int i) j pos) (tC (.int i)) := fun _ _ _ H _ I h => wpAny_Constant_int ⟨.int i, H, I.tok _, ⟨_, rfl⟩, h⟩
theorem pe_bl {b j pos} : PE X (.Constant (.bool b) j pos) (tC (.bl b)) := fun _ _ _ H _ I h => Constant_bool ⟨.bl b, H, I, rfl, h⟩
theorem pe_non {j pos} : PE X (.Constant .none j pos) (tC .non) := fun _ _ _ H _ I h => Constant_none ⟨.non, H, I, rfl, h⟩
def Gl (X : Cx) (x : Str) : Prop := X.env.kindOf x = some .globalImplicit
theorem ld_glob {E : Value → Shared → Prop} {pins : List (Addr × Obj)} {s : Shared} {σ : St} {H : Hp} {x : Str} {u : Value} {pos : Pos} {Q : Value → Shared → Prop} (I : Inv X pins σ H s) (hg : Gl X x) (hm : X.mg x = some u) (h : Q u s)
    (hd : (x == ("__debug__" : Str)) = false := by decide) : wpAny (model X.prog X.w) X.A (eval (.Name x pos) X.env) Q E s :=
  Calls.Name_function_global I.ok.kind hg (Calls.loadGlobal_global (by rw [I.ok.glob]; exact I.mod.glob.keeps I.bk) hm h) hd
theorem ld_blt {E : Value → Shared → Prop} {pins : List (Addr × Obj)} {s : Shared} {σ : St} {H : Hp} {x : Str} {u : Value} {pos : Pos} {Q : Value → Shared → Prop} (I : Inv X pins σ H s) (hg : Gl X x) (hm : X.mg x = none) (hv : bootBuiltins x = some u) (h : Q u s)
    (hn : x ≠ "__name__" := by decide) (hd : (x == ("__debug__" : Str)) = false := by decide) : wpAny (model X.prog X.w) X.A (eval (.Name x pos) X.env) Q E s := by
  obtain ⟨mb, h1, h2⟩ := I.mod.blt
  exact Calls.Name_function_global I.ok.kind hg (Calls.loadGlobal_builtin (by rw [I.ok.glob]; exact I.mod.glob.keeps I.bk) hm (by rw [I.ok.blt]; exact h1.keeps I.bk) ((h2 x hn).trans hv) h) hd
theorem pe_glob {x : Str} {v : V} {u : Value} {pos : Pos} (hg : Gl X x) (hm : X.mg x = some u) (r : RelV v u) (hd : (x == ("__debug__" : Str)) = false := by decide) : PE X (.Name x pos) (tC v) :=
  fun _ _ _ H _ I h => ld_glob I hg hm ⟨v, H, I, r, h⟩ hd
theorem pe_bltn {x : Str} {v : V} {u : Value} {pos : Pos} (hg : Gl X x) (hm : X.mg x = none) (hv : bootBuiltins x = some u) (r : RelV v u) (hn : x ≠ "__name__" := by decide) (hd : (x == ("__debug__" : Str)) = false := by decide) : PE X (.Name x pos) (tC v) :=
  fun _ _ _ H _ I h => ld_blt I hg hm hv ⟨v, H, I, r, h⟩ hn hd
variable {a b : Expr} {ta tb : TE} {pos : Pos}
def PC (X : Cx) (op : CmpOp) (a b : Expr) (t : TE) : Prop :=
  ∀ (pins : List (Addr × Obj)) (s : Shared) (σ : St) (H : Hp) (Q : VK), Inv X pins σ H s → t σ H Q →
    wpAny (model X.prog X.w) X.A (eval a X.env) (fun v s₁ => wpAny (model X.prog X.w) X.A (eval b X.env) (fun u s₂ => wpAny (model X.prog X.w) X.A (compareOp op v u) (EP X pins σ Q) X.xe s₂) X.xe s₁) X.xe s
theorem nobehind (b : Expr) {op : CmpOp} (h : op ≠ .In) (h2 : op ≠ .NotIn) : behindInMarks op b = false := by
  have e1 : (op == CmpOp.In) = false := by cases op <;> first | rfl | exact absurd rfl h
  have e2 : (op == CmpOp.NotIn) = false := by cases op <;> first | rfl | exact absurd rfl h2
  cases b <;> simp [behindInMarks, e1, e2]
def tB (t : TE) : TT := fun σ H Q => t σ H fun x H1 => ∃ c, x = .bl c ∧ Q c H1
theorem pt_cmp {op : CmpOp} {t : TE} (h : PC X op a b t) (h1 : behindInMarks op b = false := by first | exact nobehind _ (by decide) (by decide) | rfl) : PT X (.Compare a [op] [b] pos) (tB t) := by
  intro pins s σ H Q I hw
  refine wpAny_isTrue_Compare1 (thn (h pins s σ H _ I hw) fun v s1 h1 => thn h1 fun u s2 h2 => thn h2 fun c s3 ⟨x, H1, I1, r1, q1⟩ => ?_) h1
  obtain ⟨d, rfl, q⟩ := q1
  cases r1
  exact wpAny_truthy_bool ⟨H1, I1, q⟩
theorem pt_val {e : Expr} {t : TE} (h : PE X e t) (he : ∀ whole, isTrue e X.env whole = (do let v ← whole; standAt e.pos; holding [v] (truthy v)) := by intro _; rfl) : PT X e (tB t) := by
  intro pins s σ H Q I hw
  refine isTrue_plain (thn (h pins s σ H _ I hw) fun v s1 ⟨x, H1, I1, r1, q1⟩ => ?_) (he _)
  obtain ⟨d, rfl, q⟩ := q1
  cases r1
  exact wpAny_truthy_bool ⟨H1, I1, q⟩
variable {tA tB' : TT} {rest : List Expr}
def tAnd (t u : TT) : TT := fun σ H Q => t σ H fun c H1 => if c = true then u σ H1 Q else Q false H1
def tOr (t u : TT) : TT := fun σ H Q => t σ H fun c H1 => if c = true then Q true H1 else u σ H1 Q
def tNot (t : TT) : TT := fun σ H Q => t σ H fun c H1 => Q (!c) H1
theorem pw_or1 (ha : PT X a tA) : PW X (.BoolOp .Or [a] pos) tA := by
  intro wh pins s σ H Q I h
  refine isTrue_or (thn (ha pins s σ H Q I h) fun c s1 e => ?_)
  cases c with
  | false => exact isTrue_or_nil e
  | true => exact e
theorem pw_or (ha : PT X a tA) (hb : PW X (.BoolOp .Or (b :: rest) pos) tB') : PW X (.BoolOp .Or (a :: b :: rest) pos) (tOr tA tB') := by
  intro wh pins s σ H Q I h
  refine isTrue_or (thn (ha pins s σ H _ I h) fun c s1 ⟨H1, I1, q1⟩ => ?_)
  cases c with
  | true => exact ⟨H1, I1, q1⟩
  | false => exact hb wh pins s1 σ H1 Q I1 q1
theorem pt_not (ha : PT X a tA) : PT X (.UnaryOp .Not a pos) (tNot tA) := by
  intro pins s σ H Q I h
  exact isTrue_not (ha pins s σ H (fun c H1 => Q (!c) H1) I h)
def tAndV (ta tb : TE) : TE := fun σ H Q => ta σ H fun x H1 => ∃ c, x = .bl c ∧ if c = true then tb σ H1 Q else Q (.bl false) H1
def tOrV (ta tb : TE) : TE := fun σ H Q => ta σ H fun x H1 => ∃ c, x = .bl c ∧ if c = true then Q (.bl true) H1 else tb σ H1 Q
def tNotV (ta : TE) : TE := fun σ H Q => ta σ H fun x H1 => ∃ c, x = .bl c ∧ Q (.bl (!c)) H1
theorem pe_one {op} {t : TE} (h : PE X a t) : PE X (.BoolOp op [a] pos) t := fun pins s σ H Q I hw => BoolOp_one (h pins s σ H Q I hw)
theorem pe_and (ha : PE X a ta) (hb : PE X (.BoolOp .And (b :: rest) pos) tb) : PE X (.BoolOp .And (a :: b :: rest) pos) (tAndV ta tb) := by
  intro pins s σ H Q I h
  refine BoolOp_and (thn (ha pins s σ H _ I h) fun v s1 ⟨x, H1, I1, r1, q1⟩ => ?_)
  obtain ⟨c, rfl, q1⟩ := q1
  cases r1
  refine wpAny_truthy_bool ?_
  cases c with
  | true => exact hb pins s1 σ H1 Q I1 q1
  | false => exact ⟨.bl false, H1, I1, rfl, q1⟩
theorem pe_not (ha : PE X a ta) : PE X (.UnaryOp .Not a pos) (tNotV ta) := by
  intro pins s σ H Q I h
  refine UnaryOp_ (thn (ha pins s σ H _ I h) fun v s1 ⟨x, H1, I1, r1, q1⟩ => ?_)
  obtain ⟨c, rfl, q1⟩ := q1
  cases r1
  exact not_of (wpAny_truthy_bool ⟨.bl (!c), H1, I1, rfl, q1⟩)
end
end L2
namespace L2
open PySem PySem.Spec PyProof.Rows
def SqL (K : PySem.W.Frag) (H : Hp) (a : Addr) (xs : List V) : Prop :=
  Rd H a (.lst xs) ∨
    ∃ (o : Obj) (its : Array Value) (n : Nat), K.lookup a = some o ∧ o.cls = .type "list" ∧ o.dict = none ∧ o.data = .seq its n ∧ its.size ≤ sizeLine ∧ Vals xs its.toList
def SqT (K : PySem.W.Frag) (H : Hp) (a : Addr) (xs : List V) : Prop :=
  Rd H a (.tup xs) ∨
    ∃ (o : Obj) (its : Array Value) (n : Nat), K.lookup a = some o ∧ o.cls = .type "tuple" ∧ o.data = .seq its n ∧ its.size ≤ sizeLine ∧ Vals xs its.toList
def absV : Value → Option V
  | .none => some .non
  | .bool b => some (.bl b)
  | .int i _ => some (.int i)
  | .str x _ => some (.str x)
  | .bytes b _ => some (.byt b)
  | .float b _ => some (.flt b)
  | .ref a => some (.ref a)
  | .type n => some (.ty n)
  | _ => none
theorem RelV.abs {x : V} {u : Value} (r : RelV x u) : absV u = some x := by
  cases x with
  | non => cases r; rfl
  | bl _ => cases r; rfl
  | int _ => obtain ⟨t, rfl⟩ := r; rfl
  | str _ => obtain ⟨t, rfl⟩ := r; rfl
  | byt _ => obtain ⟨t, rfl⟩ := r; rfl
  | flt _ => obtain ⟨t, rfl⟩ := r; rfl
  | ref _ => cases r; rfl
  | ty _ => cases r; rfl
theorem RelV.inj {x y : V} {u : Value} (r : RelV x u) (q : RelV y u) : x = y := Option.some.inj (r.abs.symm.trans q.abs)
theorem Vals.inj : ∀ {xs ys : List V} {us : List Value}, Vals xs us → Vals ys us → xs = ys
  | _, _, _, .nil, .nil => rfl
  | _, _, _, .cons r t, .cons r' t' => by rw [r.inj r', Vals.inj t t']
section
variable {X : Cx} {pins : List (Addr × Obj)} {σ : St} {H : Hp} {s : Shared} {a : Addr} {xs ys : List V}
theorem SqL.of {K : PySem.W.Frag} (h : H a = some (.lst xs)) : SqL K H a xs := .inl (.inl h)
theorem SqT.of {K : PySem.W.Frag} (h : H a = some (.tup xs)) : SqT K H a xs := .inl (.inl h)
theorem Inv.list (I : Inv X pins σ H s) (h : SqL X.K H a xs) : ∃ its : List Value, Vals xs its ∧ PlainL s.heap a its.toArray ∧ xs.length ≤ sizeLine := by
  rcases h with h | ⟨o, its, n, hk, hc, hd, hs, hz, r⟩
  · obtain ⟨z, its, n, r, e⟩ := h.ok I.hok
    exact ⟨its, r, ⟨_, n, e, rfl, rfl, rfl⟩, z⟩
  · refine ⟨its.toList, r, ⟨o, n, I.kIn a o hk, hc, hd, by simpa using hs⟩, ?_⟩
    have e := r.length
    simp only [Array.length_toList] at e
    omega
theorem Inv.tuple (I : Inv X pins σ H s) (h : SqT X.K H a xs) : ∃ its : List Value, Vals xs its ∧ IsTup s.heap a its.toArray ∧ xs.length ≤ sizeLine := by
  rcases h with h | ⟨o, its, n, hk, hc, hs, hz, r⟩
  · obtain ⟨z, its, r, p⟩ := h.ok I.hok
    exact ⟨its, r, p, z⟩
  · refine ⟨its.toList, r, ⟨o, I.kIn a o hk, hc, n, by simpa using hs⟩, ?_⟩
    have e := r.length
    simp only [Array.length_toList] at e
    omega
theorem Inv.list_inj (I : Inv X pins σ H s) (h : SqL X.K H a xs) (h' : SqL X.K H a ys) : xs = ys := by
  obtain ⟨its, r, ⟨o, n, e, _, _, d⟩, _⟩ := I.list h
  obtain ⟨its', r', ⟨o', n', e', _, _, d'⟩, _⟩ := I.list h'
  rw [e] at e'; cases e'
  rw [d] at d'
  injection d' with d1 _
  have : its = its' := by simpa using congrArg Array.toList d1
  subst this
  exact r.inj r'
end
abbrev Cx.wish (X : Cx) (E : Value → Shared → Prop) : Cx := { X with xe := E }
abbrev Cx.nox (X : Cx) : Cx := X.wish fun _ _ => False
theorem Cx.Ok.wish {X : Cx} (ok : X.Ok) (E : Value → Shared → Prop) : (X.wish E).Ok :=
  ⟨ok.mod, ok.kind, ok.glob, ok.blt, ok.above, ok.inj, ok.has, ok.cab, ok.hd, ok.frames, ok.stk, ok.exf, ok.bs, ok.bsz, ok.noex, ok.exfs, ok.funs, ok.frf⟩
theorem Cx.Ok.unwish {X : Cx} {E : Value → Shared → Prop} (ok : (X.wish E).Ok) : X.Ok :=
  ⟨ok.mod, ok.kind, ok.glob, ok.blt, ok.above, ok.inj, ok.has, ok.cab, ok.hd, ok.frames, ok.stk, ok.exf, ok.bs, ok.bsz, ok.noex, ok.exfs, ok.funs, ok.frf⟩
section
variable {X : Cx} {pins : List (Addr × Obj)} {σ : St} {H : Hp} {s : Shared} {E : Value → Shared → Prop}
theorem Inv.wish (I : Inv X pins σ H s) (E : Value → Shared → Prop) : Inv (X.wish E) pins σ H s := ⟨I.ok.wish E, I.os, I.bare, I.base, I.loc, I.cell, I.free, I.freeC, I.pin, I.hok, I.len⟩
theorem Inv.unwish (I : Inv (X.wish E) pins σ H s) : Inv X pins σ H s := ⟨I.ok.unwish, I.os, I.bare, I.base, I.loc, I.cell, I.free, I.freeC, I.pin, I.hok, I.len⟩
theorem SP.unwish {D : Ends} {f : Flow} {s' : Shared} (h : SP (X.wish E) pins D f s') : SP X pins D f s' := by
  cases f with
  | next => obtain ⟨σ', H', I, q⟩ := h; exact ⟨σ', H', I.unwish, q⟩
  | brk => obtain ⟨σ', H', I, q⟩ := h; exact ⟨σ', H', I.unwish, q⟩
  | cont => obtain ⟨σ', H', I, q⟩ := h; exact ⟨σ', H', I.unwish, q⟩
  | ret u => obtain ⟨v, σ', H', I, r, q⟩ := h; exact ⟨v, σ', H', I.unwish, r, q⟩
theorem PE.nox {e : Expr} {t : TE} (h : PE X.nox e t) : PE X e t := fun pins s σ H Q I hw =>
  wpAny_mono (h pins s σ H Q (I.wish _) hw) (fun _ _ ⟨v, H', I', r, q⟩ => ⟨v, H', I'.unwish, r, q⟩) fun _ _ z => False.elim z
theorem PT.nox {e : Expr} {t : TT} (h : PT X.nox e t) : PT X e t := fun pins s σ H Q I hw =>
  wpAny_mono (h pins s σ H Q (I.wish _) hw) (fun _ _ ⟨H', I', q⟩ => ⟨H', I'.unwish, q⟩) fun _ _ z => False.elim z
theorem PSs.nox {st : List Stmt} {t : TS} (h : PSs X.nox st t) : PSs X st t := fun pins s σ H D I hw =>
  wpAny_mono (h pins s σ H D (I.wish _) hw) (fun _ _ q => q.unwish) fun _ _ z => False.elim z
end
section
variable {X : Cx} {st : Stmt} {rest : List Stmt} {t u : TS} {e : Expr} {te : TE} {pos : Pos}
def tNext : TS := fun D σ H => D.nx σ H
def tSeq (t u : TS) : TS := fun D σ H => t { D with nx := u D } σ H
theorem pss_nil : PSs X [] tNext := fun _ _ σ H _ I h => wpAny_execs_nil ⟨σ, H, I, h⟩
theorem pss_cons (h1 : PS X st t) (h2 : PSs X rest u) : PSs X (st :: rest) (tSeq t u) := by
  intro pins s σ H D I h
  refine wpAny_execs_cons (thn (h1 pins s σ H { D with nx := u D } I h) fun f s1 q => ?_)
  cases f with
  | next =>
    obtain ⟨σ', H', I', q⟩ := q
    exact h2 pins s1 σ' H' D I' q
  | ret v => exact q
  | brk => exact q
  | cont => exact q
theorem pss_one (h1 : PS X st t) : PSs X [st] t := by
  intro pins s σ H D I h
  refine wpAny_execs_cons (thn (h1 pins s σ H D I h) fun f s1 q => ?_)
  cases f with
  | next => exact wpAny_execs_nil q
  | ret v => exact q
  | brk => exact q
  | cont => exact q
theorem Inv.quiet {pins : List (Addr × Obj)} {σ : St} {H : Hp} {s : Shared} (I : Inv X pins σ H s) : interactive X.env = false := by simp [interactive, I.ok.kind]
def tDrop (te : TE) : TS := fun D σ H => te σ H fun _ H1 => D.nx σ H1
theorem ps_expr (he : PE X e te) (hs : swapsWith e none pos.line X.env = pure false := by rfl) : PS X (.Expr e pos) (tDrop te) := by
  intro pins s σ H D I h
  exact wpAny_Expr_any (thn (he pins s σ H _ I h) fun v s1 ⟨x, H1, I1, r1, q1⟩ => ⟨σ, H1, I1, q1⟩) I.quiet hs
def tRet (te : TE) : TS := fun D σ H => te σ H D.rt
theorem ps_ret (he : PE X e te) : PS X (.Return (some e) pos) (tRet te) := by
  intro pins s σ H D I h
  exact wpAny_Return_some (thn (he pins s σ H _ I h) fun v s1 ⟨x, H1, I1, r1, q1⟩ => ⟨x, σ, H1, I1, r1, q1⟩)
def tIfS (c : TT) (t u : TS) : TS := fun D σ H => c σ H fun b H1 => if b = true then t D σ H1 else u D σ H1
theorem ps_if {c : Expr} {a b : List Stmt} {tc : TT} (hc : PT X c tc) (ha : PSs X a t) (hb : PSs X b u) : PS X (.If c a b pos) (tIfS tc t u) := by
  intro pins s σ H D I h
  refine wpAny_If (thn (hc pins s σ H _ I h) fun d s1 ⟨H1, I1, q1⟩ => ?_)
  cases d with
  | true => exact ha pins s1 σ H1 D I1 q1
  | false => exact hb pins s1 σ H1 D I1 q1
def tNever : TS := fun _ _ _ => False
theorem ps_never : PS X st tNever := fun _ _ _ _ _ _ h => h.elim
end
abbrev TG := V → St → Hp → (St → Hp → Prop) → Prop
abbrev TGs := List V → St → Hp → (St → Hp → Prop) → Prop
def PG (X : Cx) (target : Expr) (t : TG) : Prop :=
  ∀ (pins : List (Addr × Obj)) (s : Shared) (σ : St) (H : Hp) (v : V) (u : Value) (Q : St → Hp → Prop), Inv X pins σ H s → RelV v u → t v σ H Q →
    wpAny (model X.prog X.w) X.A (assign target X.env u) (fun _ s' => ∃ σ' H', Inv X pins σ' H' s' ∧ Q σ' H') X.xe s
def PGs (X : Cx) (ts : List Expr) (t : TGs) : Prop :=
  ∀ (pins : List (Addr × Obj)) (s : Shared) (σ : St) (H : Hp) (vs : List V) (us : List Value) (Q : St → Hp → Prop), Inv X pins σ H s → Vals vs us → t vs σ H Q →
    wpAny (model X.prog X.w) X.A (assignInOrder ((assignEach ts X.env).map (·.2)) us) (fun _ s' => ∃ σ' H', Inv X pins σ' H' s' ∧ Q σ' H') X.xe s
section
variable {X : Cx} {pos : Pos}
def gName (i : Nat) : TG := fun v σ H Q => Q (σ.set i (some v)) H
theorem pg_name {i : Nat} {x : Str} (hN : X.N.Nodup) (hi : X.N[i]? = some x) (hx : Loc X.env.scope x) (hf : X.fn x = true ∨ X.env.scope.names.lookup x = some .local := by first | exact .inl rfl | exact .inr rfl | assumption) : PG X (.Name x pos) (gName i) := by
  intro pins s σ H v u Q I r h
  exact wpAny_assign_Name (store_ok I hN hi hx r (fun s' I' => ⟨_, H, I', h⟩) hf)
def gNil : TGs := fun vs σ H Q => vs = [] ∧ Q σ H
def gCons (t : TG) (u : TGs) : TGs := fun vs σ H Q => ∃ v r, vs = v :: r ∧ t v σ H fun σ' H' => u r σ' H' Q
theorem pgs_nil : PGs X [] gNil := by
  intro pins s σ H vs us Q I r h
  obtain ⟨e, h⟩ := h
  subst e
  cases r
  exact assignInOrder_nil ⟨σ, H, I, h⟩
theorem pgs_cons {e : Expr} {es : List Expr} {t : TG} {u : TGs} (h1 : PG X e t) (h2 : PGs X es u)
    (hs : (assignEach (e :: es) X.env).map (·.2) = assign e X.env :: (assignEach es X.env).map (·.2) := by rfl) : PGs X (e :: es) (gCons t u) := by
  intro pins s σ H vs us Q I r h
  obtain ⟨v, vr, e1, h⟩ := h
  subst e1
  cases r with
  | cons r rr =>
    rw [hs]
    refine assignInOrder_cons (thn (h1 pins s σ H _ _ _ I r h) fun _ s1 ⟨σ1, H1, I1, q1⟩ => ?_)
    exact h2 pins s1 σ1 H1 _ _ Q I1 rr q1
def gTup (K : PySem.W.Frag) (n : Nat) (t : TGs) : TG := fun v σ H Q => ∃ a xs, v = .ref a ∧ SqT K H a xs ∧ xs.length = n ∧ t xs σ H Q
theorem pg_tup {es : List Expr} {k : Nat} {t : TGs} {n : Nat} (hc : X.calm = true) (h : PGs X es t)
    (hn : (assignEach es X.env).length = n := by rfl) (hst : (assignEach es X.env).findIdx? (·.1) = none := by rfl) : PG X (.Tuple es k pos) (gTup X.K n t) := by
  intro pins s σ H v u Q I r hw
  obtain ⟨a, xs, e1, hq, hl, hw⟩ := hw
  subst e1
  cases r
  obtain ⟨its, rv, ht, hz⟩ := I.tuple hq
  refine assign_Tuple_tuple (I.ok.hd hc) ht (by simp [hn, ← hl, rv.length]) hst fun h' hx => ?_
  have I1 : Inv X pins σ H { s with heap := h' } := I.kept (t' := s.toks) fun b o e => hx b o (Nat.ne_of_lt (Heap.lt_size e)) e
  exact h pins _ σ H xs _ Q I1 (by simpa using rv) hw
def tAsg (te : TE) (g : TG) : TS := fun D σ H => te σ H fun x H1 => g x σ H1 D.nx
theorem ps_asg {tg e : Expr} {te : TE} {g : TG} (he : PE X e te) (hg : PG X tg g) (hs : swapsWithSole [tg] e pos.line X.env = pure false := by rfl) (hw : swappedStores [tg] e X.env = pure none := by rfl)
    (h1 : (assignEach [tg] X.env).map (·.2) = [assign tg X.env] := by rfl) : PS X (.Assign [tg] e pos) (tAsg te g) := by
  intro pins s σ H D I h
  refine wpAny_Assign_stores (thn (he pins s σ H _ I h) fun v s1 ⟨x, H1, I1, r1, q1⟩ => ?_) hs hw
  rw [h1]
  exact thn (hg pins s1 σ H1 x v _ I1 r1 q1) fun _ s2 q => q
theorem ps_set {i : Nat} {x : Str} {e : Expr} {te : TE} {pos' : Pos} (hN : X.N.Nodup) (hi : X.N[i]? = some x) (hx : Loc X.env.scope x) (he : PE X e te) (hs : swapsWith e (some (.Name x pos')) pos.line X.env = pure false := by rfl) (hf : X.fn x = true ∨ X.env.scope.names.lookup x = some .local := by first | exact .inl rfl | exact .inr rfl | assumption) :
    PS X (.Assign [.Name x pos'] e pos) (tAsg te (gName i)) := by
  intro pins s σ H D I h
  refine wpAny_Assign_Name (thn (he pins s σ H _ I h) fun v s1 ⟨y, H1, I1, r1, q1⟩ => ?_) hs
  exact store_ok I1 hN hi hx r1 (fun s2 I2 => ⟨_, H1, I2, q1⟩) hf
def tPar (i j : Nat) (ta : TA) : TS := fun D σ H => ta σ H fun vs H1 => ∃ v w, vs = [v, w] ∧ D.nx ((σ.set i (some v)).set j (some w)) H1
end
section
variable {X : Cx} {pos : Pos}
end
structure It where
  go : Nat → Hp → Prop
  yld : Nat → Hp → V → Hp → Prop
  stop : Nat → Hp → Prop
def FpOk (X : Cx) (pins : List (Addr × Obj)) (H : Hp) (b : Addr) : Prop :=
  H b = none ∧ b ≠ X.env.locals ∧ b ∉ X.fs ∧ (b ∈ X.ex ∨ X.s₀.heap.objs.size ≤ b) ∧ (∀ x c, X.env.cells.lookup x = some c → c ≠ b) ∧ ∀ p ∈ X.pn ++ pins, p.1 ≠ b
theorem Inv.fpOk {X : Cx} {pins : List (Addr × Obj)} {σ : St} {H H' : Hp} {s : Shared} {b : Addr} (I : Inv X pins σ H s) (hb : s.heap.objs.size ≤ b) (hn : H' b = none) : FpOk X pins H' b := by
  refine ⟨hn, Nat.ne_of_gt (Nat.lt_of_lt_of_le I.lt hb), I.nofs hb, .inr (Nat.le_trans I.sz hb), fun x c e z => ?_, fun p hp z => ?_⟩
  · obtain ⟨v, q⟩ := I.cell x c e
    exact absurd (Nat.lt_of_lt_of_le q.lt (by rw [z]; exact hb)) (Nat.lt_irrefl _)
  · exact absurd (Nat.lt_of_lt_of_le (Heap.lt_size (I.pin p hp).1) (by rw [z]; exact hb)) (Nat.lt_irrefl _)
structure Turn (P : Program) (w : World) (K : PySem.W.Frag) (tg : Expr) (J : It) (fp : List Addr) (it : Addr) (tn : Nat → Heap → Prop) : Prop where
  mem : it ∈ fp
  obj : ∀ i h, tn i h → ∀ b ∈ fp, ∃ o, h.get? b = some o ∧ ∀ v, o.data ≠ .cell v
  keep : ∀ i h h', tn i h → (∀ b ∈ fp, ∀ o, h.get? b = some o → h'.get? b = some o) → tn i h'
  item : ∀ (X : Cx), X.prog = P → X.w = w → X.K = K → X.calm = true → ∀ (i : Nat) (pins : List (Addr × Obj)) (s : Shared) (σ : St) (H : Hp) (E : Value → Shared → Prop), Inv X pins σ H s → (∀ b ∈ fp, FpOk X pins H b) → tn i s.heap → J.go i H →
    wpAny (model P w) X.A (pyNext (.ref it)) (fun r s1 => ∃ u, r = some u ∧
      wpAny (model P w) X.A (letOwnedTupleGo tg (.ref it) u) (fun _ s2 => ∃ x H', Inv X pins σ H' s2 ∧ RelV x u ∧ J.yld i H x H' ∧ tn (i + 1) s2.heap ∧ ∀ b ∈ fp, H' b = none) E s1) E s
  done : ∀ (X : Cx), X.prog = P → X.w = w → X.K = K → X.calm = true → ∀ (i : Nat) (pins : List (Addr × Obj)) (s : Shared) (σ : St) (H : Hp) (E : Value → Shared → Prop), Inv X pins σ H s → (∀ b ∈ fp, FpOk X pins H b) → tn i s.heap → J.stop i H →
    wpAny (model P w) X.A (pyNext (.ref it)) (fun r s1 => r = none ∧ Inv X pins σ H s1) E s
  self : ∀ (A : Around) (i : Nat) (s : Shared) (Q : Value → Shared → Prop) (E : Value → Shared → Prop), tn i s.heap → Q (.ref it) s → wpAny (model P w) A (pyIter (.ref it)) Q E s
abbrev TI := St → Hp → (It → Hp → Prop) → Prop
def PIE (X : Cx) (pins : List (Addr × Obj)) (σ : St) (tg : Expr) (R : It → Hp → Prop) (itv : Value) (s2 : Shared) : Prop :=
  ∃ (it : Addr) (fp : List Addr) (tn : Nat → Heap → Prop) (J : It) (H' : Hp), itv = .ref it ∧ Inv X pins σ H' s2 ∧ Turn X.prog X.w X.K tg J fp it tn ∧ tn 0 s2.heap ∧ (∀ b ∈ fp, FpOk X pins H' b) ∧ R J H'
def PI (X : Cx) (tg iter : Expr) (wi : TI) : Prop :=
  ∀ (pins : List (Addr × Obj)) (s : Shared) (σ : St) (H : Hp) (R : It → Hp → Prop), Inv X pins σ H s → wi σ H R →
    wpAny (model X.prog X.w) X.A (eval iter X.env) (fun v s1 => wpAny (model X.prog X.w) X.A (pyIter v) (PIE X pins σ tg R) X.xe s1) X.xe s
theorem go_of {M : Model} {A : Around} {E : Value → Shared → Prop} {s : Shared} {tg : Expr} {it : Addr} {u : Value} {o : Obj} {n : String} {vs : Array Value} {Q : Unit → Shared → Prop} (ho : s.heap.get? it = some o) (hc : o.cls = .type n) (hd : o.data = .fields vs)
    (hn : ["enumerate", "zip", "dict_itemiterator", "dict_reverseitemiterator", "odict_iterator", "itertools.zip_longest", "itertools.pairwise"].contains n = false) (hQ : Q () s) : wpAny M A (letOwnedTupleGo tg (.ref it) u) Q E s := by
  unfold letOwnedTupleGo
  cases tg <;> first
    | exact wpAny_pure hQ
    | (cases u <;> first
        | exact wpAny_pure hQ
        | (refine wpAny_bind (wpAny_load ho ?_)
           rw [hc, hd]
           show wpAny M A (if (["enumerate", "zip", "dict_itemiterator", "dict_reverseitemiterator", "odict_iterator", "itertools.zip_longest", "itertools.pairwise"].contains n && vs[0]? == some (rawInt _)) = true then _ else _) Q E s
           rw [if_neg (by intro h; rw [hn, Bool.false_and] at h; cases h)]
           exact wpAny_pure hQ))
def Itl (K : PySem.W.Frag) (a : Addr) : It :=
  ⟨fun i H => ∃ xs x, SqL K H a xs ∧ xs[i]? = some x, fun i H x H' => H' = H ∧ ∀ xs, SqL K H a xs → xs[i]? = some x, fun i H => ∃ xs, SqL K H a xs ∧ xs.length ≤ i⟩
def Itr (lo : Int) (n : Nat) : It := ⟨fun i _ => i < n, fun i H x H' => H' = H ∧ x = .int (lo + i), fun i _ => n ≤ i⟩
theorem turn_list {P : Program} {w : World} {K : PySem.W.Frag} {tg : Expr} (a it : Addr) : Turn P w K tg (Itl K a) [it] it (fun i h => h.IsListIter it a i) where
  mem := by simp
  obj := fun i h st b hb => by
    have e : b = it := by simpa using hb
    subst e
    obtain ⟨o, e, c, d⟩ := st
    exact ⟨o, e, fun v z => by rw [d] at z; cases z⟩
  keep := fun i h h' st k => st.at fun o e => k it (by simp) o e
  item := by
    intro X hP hw hK hc i pins s σ H E I hf st hg
    subst hP hw hK
    obtain ⟨xs, x, hq, hx⟩ := hg
    obtain ⟨its, rv, p, hz⟩ := I.list hq
    obtain ⟨u, hu, ru⟩ := rv.get hx
    obtain ⟨f0, f1, f2, f3, f4, f5⟩ := hf it (by simp)
    refine wpAny_pyNext_list_item st p.isList (x := u) (by simpa using hu) fun h' st' sb => ?_
    have I1 : Inv X pins σ H { s with heap := h' } := I.turned (t' := s.toks) (fun b o hb e => (sb.2 b hb).trans e) f0 f1 f3 f4 f5
    obtain ⟨o, e, c, d⟩ := id st'
    exact ⟨u, rfl, go_of (s := { s with heap := h' }) e c d (by decide) ⟨x, H, I1, ru, ⟨rfl, fun ys hy => by rw [I.list_inj hy hq]; exact hx⟩, st', fun b hb => (hf b hb).1⟩⟩
  done := by
    intro X hP hw hK hc i pins s σ H E I hf st hg
    subst hP hw hK
    obtain ⟨xs, hq, hx⟩ := hg
    obtain ⟨its, rv, p, hz⟩ := I.list hq
    obtain ⟨f0, f1, f2, f3, f4, f5⟩ := hf it (by simp)
    have hl := rv.length
    exact wpAny_pyNext_list_end (I.ok.hd hc) st p.isList (by simp; omega) fun h' eb => ⟨rfl, I.turned (t' := s.toks) (fun b o hb e => eb b o hb e) f0 f1 f3 f4 f5⟩
  self := fun _ _ _ _ _ st h => wpAny_pyIter_listiter st h
theorem turn_range {P : Program} {w : World} {K : PySem.W.Frag} {tg : Expr} (it : Addr) (lo : Int) (n : Nat) : Turn P w K tg (Itr lo n) [it] it (fun i h => IsRangeIter h it (lo + (i : Nat) * 1) ((n : Int) - (i : Nat)) 1) where
  mem := by simp
  obj := fun i h st b hb => by
    have e : b = it := by simpa using hb
    subst e
    exact ⟨_, st, fun v z => by
      have z' : Data.fields _ = Data.cell v := z
      cases z'⟩
  keep := fun i h h' st k => k it (by simp) _ st
  item := by
    intro X hP hw hK hc i pins s σ H E I hf st hg
    subst hP hw hK
    obtain ⟨f0, f1, f2, f3, f4, f5⟩ := hf it (by simp)
    have W := Walks.range (prog := X.prog) (w := X.w) (I.ok.hd hc) it lo 1 n
    refine W.item i s _ _ hg st fun v h' tk hv st' kk => ?_
    obtain ⟨t, rfl⟩ := hv
    have I1 : Inv X pins σ H { s with heap := h', toks := tk } := I.turned (fun b o hb e => kk b o (by simpa using hb) e) f0 f1 f3 f4 f5
    refine ⟨_, rfl, go_of (s := { s with heap := h', toks := tk }) (n := "range_iterator") st' rfl rfl (by decide) ⟨.int (lo + i), H, I1, ⟨t, ?_⟩, ⟨rfl, rfl⟩, st', fun b hb => (hf b hb).1⟩⟩
    rw [Int.mul_one]
  done := by
    intro X hP hw hK hc i pins s σ H E I hf st hg
    subst hP hw hK
    obtain ⟨f0, f1, f2, f3, f4, f5⟩ := hf it (by simp)
    exact wpAny_pyNext_range_end (I.ok.hd hc) st (by have : n ≤ i := hg; omega) fun h' eb => ⟨rfl, I.turned (t' := s.toks) (fun b o hb e => eb b o hb e) f0 f1 f3 f4 f5⟩
  self := fun _ _ _ _ _ st h => wpAny_pyIter_rangeiter st h
end L2
namespace L2
open PySem PySem.Spec PyProof.Rows
section
variable {X : Cx} {tg : Expr}
def iList (K : PySem.W.Frag) (tl : TE) : TI := fun σ H R => tl σ H fun x H1 => ∃ a, x = .ref a ∧ (∃ xs, SqL K H1 a xs) ∧ R (Itl K a) H1
theorem pi_list {l : Expr} {tl : TE} (hl : PE X l tl) : PI X tg l (iList X.K tl) := by
  intro pins s σ H R I h
  refine thn (hl pins s σ H _ I h) fun v s1 ⟨x, H1, I1, r1, q1⟩ => ?_
  obtain ⟨a, e, ⟨xs, hq⟩, q⟩ := q1
  subst e
  cases r1
  obtain ⟨its, rv, p, hz⟩ := I1.list hq
  refine wpAny_pyIter_list p.isList ?_
  refine ⟨s1.heap.objs.size, [s1.heap.objs.size], _, _, H1, rfl, I1.kept (t' := s1.toks) fun b o e => Heap.get?_push_of_some _ e, turn_list a _, ⟨_, Heap.get?_push_size _ rfl, rfl, rfl⟩, fun b hb => ?_, q⟩
  have e : b = s1.heap.objs.size := by simpa using hb
  subst e
  exact I1.fpOk (Nat.le_refl _) (I1.hok.fresh (Nat.le_refl _))
theorem range_it {pins : List (Addr × Obj)} {σ : St} {H : Hp} {s : Shared} {R : It → Hp → Prop} {E : Value → Shared → Prop} {lo hi : Int} {t u v : Tok} {tk : Nat} (I : Inv X pins σ H s) (h1 : -(2 ^ 62) ≤ lo) (h2 : lo < 2 ^ 62) (h3 : -(2 ^ 62) ≤ hi) (h4 : hi < 2 ^ 62)
    (q : R (Itr lo (hi - lo).toNat) H) : wpAny (model X.prog X.w) X.A (pyIter (.ref s.heap.objs.size)) (PIE X pins σ tg R) E { s with heap := s.heap.push { cls := .type "range", data := .fields #[.int lo t, .int hi u, .int 1 v] }, toks := tk } := by
  refine wpAny_pyIter_range (IsRange.new ..) (small_one h1 h2 h3 h4) ?_
  have I1 : Inv X pins σ H { s with heap := s.heap.push { cls := .type "range", data := .fields #[.int lo t, .int hi u, .int 1 v] }, toks := tk } := I.kept fun b o e => Heap.get?_push_of_some _ e
  refine ⟨(s.heap.push { cls := .type "range", data := .fields #[.int lo t, .int hi u, .int 1 v] }).objs.size, [(s.heap.push { cls := .type "range", data := .fields #[.int lo t, .int hi u, .int 1 v] }).objs.size], _, _, H, rfl,
    I1.kept (t' := tk) fun b o e => Heap.get?_push_of_some _ e, turn_range _ lo (hi - lo).toNat, ?_, fun b hb => ?_, q⟩
  · have e1 : lo + ((0 : Nat) : Int) * 1 = lo := by simp
    have e2 : (((hi - lo).toNat : Nat) : Int) - ((0 : Nat) : Int) = Builtin.Range.rangeSize lo hi 1 := by rw [rangeSize_one]; split <;> omega
    show IsRangeIter _ _ (lo + ((0 : Nat) : Int) * 1) ((((hi - lo).toNat : Nat) : Int) - ((0 : Nat) : Int)) 1
    rw [e1, e2]
    exact Heap.get?_push_size _ rfl
  · have e : b = (s.heap.push { cls := .type "range", data := .fields #[.int lo t, .int hi u, .int 1 v] }).objs.size := by simpa using hb
    subst e
    exact I1.fpOk (Nat.le_refl _) (I1.hok.fresh (Nat.le_refl _))
def iRng1 (ta : TA) : TI := fun σ H R => ta σ H fun vs H1 => ∃ j : Int, vs = [.int j] ∧ -(2 ^ 62) ≤ j ∧ j < 2 ^ 62 ∧ R (Itr 0 j.toNat) H1
theorem pi_range1 {a : Expr} {ta : TA} {p pos : Pos} (hg : Gl X "range") (hm : X.mg "range" = none) (ha : PA X [a] ta) (hs : starEach [a] X.env = [(false, eval a X.env)] := by rfl) : PI X tg (.Call (.Name "range" p) [a] [] pos) (iRng1 ta) := by
  intro pins s σ H R I h
  refine Call_ (ld_blt I hg hm boot_range (PyProof.Rows.callWith_type1 (thn (ha pos pins s σ H _ I h) fun us s1 ⟨vs, H1, I1, r1, q1⟩ => ?_) hs rfl))
  obtain ⟨j, e, q1, q2, q⟩ := q1
  subst e
  cases r1 with
  | cons r rr =>
    cases rr
    obtain ⟨t, rfl⟩ := r
    exact call_range_1 (range_it I1 (by omega) (by omega) q1 q2 (by simpa using q))
def tFor (wi : TI) (g : TG) (tb : TS) : TS := fun D σ H => wi σ H fun J H1 => ∃ W : Nat → Nat → St → Hp → Prop, (∃ m, W 0 m σ H1) ∧ ∀ i m σ H, W i m σ H →
  (J.stop i H ∧ D.nx σ H) ∨ (J.go i H ∧ ∃ N : St → Hp → Prop, (∀ σ' H', N σ' H' → ∃ m', m' < m ∧ W (i + 1) m' σ' H') ∧ ∀ x H', J.yld i H x H' → g x σ H' fun σ2 H2 => tb { D with nx := N, ct := N, bk := D.nx } σ2 H2)
def pinsAt (fp : List Addr) (h : Heap) : List (Addr × Obj) := fp.filterMap fun b => (h.get? b).map fun o => (b, o)
theorem mem_pinsAt {fp : List Addr} {h : Heap} {b : Addr} {o : Obj} (hb : b ∈ fp) (e : h.get? b = some o) : (b, o) ∈ pinsAt fp h := List.mem_filterMap.mpr ⟨b, hb, by rw [e]; rfl⟩
theorem of_pinsAt {fp : List Addr} {h : Heap} {p : Addr × Obj} (hp : p ∈ pinsAt fp h) : p.1 ∈ fp ∧ h.get? p.1 = some p.2 := by
  obtain ⟨b, hb, e⟩ := List.mem_filterMap.mp hp
  cases q : h.get? b with
  | none => rw [q] at e; cases e
  | some o =>
    rw [q] at e
    have e' : (b, o) = p := Option.some.inj e
    subst e'
    exact ⟨hb, q⟩
theorem Inv.pinned {pins : List (Addr × Obj)} {σ : St} {H : Hp} {s : Shared} {fp : List Addr} (I : Inv X pins σ H s) (hf : ∀ b ∈ fp, FpOk X pins H b) (ho : ∀ b ∈ fp, ∃ o, s.heap.get? b = some o ∧ ∀ v, o.data ≠ .cell v) : Inv X (pins ++ pinsAt fp s.heap) σ H s :=
  I.pins_of fun p hp => (List.mem_append.mp hp).elim (fun z => I.pin p (List.mem_append_right _ z)) fun z => by
    obtain ⟨hb, e⟩ := of_pinsAt z
    obtain ⟨f0, f1, f2, _⟩ := hf p.1 hb
    obtain ⟨o, e', d⟩ := ho p.1 hb
    rw [e] at e'; cases e'
    exact ⟨e, f0, f1, f2, d⟩
theorem Inv.unpinned {pins pl : List (Addr × Obj)} {σ : St} {H : Hp} {s : Shared} (I : Inv X (pins ++ pl) σ H s) : Inv X pins σ H s := I.pins_of fun p hp => I.pin p (List.mem_append_right _ (List.mem_append_left _ hp))
theorem ps_for {iter : Expr} {body : List Stmt} {wi : TI} {g : TG} {tb : TS} {pos : Pos} (hp : PassesOwn (model X.prog X.w) X.A X.env X.xe) (hc : X.calm = true) (hi : PI X tg iter wi) (hg : PG X tg g) (hb : PSs X body tb)
    (hs : ∀ x, foldedSetIterable iter X.env x = pure x := by intro _; rfl) : PS X (.For tg iter body [] pos) (tFor wi g tb) := by
  intro pins s σ H D I h
  refine wpAny_For (thn (hi pins s σ H _ I h) fun v s1 h1 => thn h1 fun itv s2 h2 => ?_) hs
  obtain ⟨it, fp, tn, J, H2, e, I2, T, st2, f2, W, ⟨m0, w0⟩, turn⟩ := h2
  subst e
  -- what stays true of the iterator's objects through the loop
  have stat : ∀ {H' : Hp}, (∀ b ∈ fp, H' b = none) → ∀ b ∈ fp, FpOk X pins H' b := fun hn b hb => ⟨hn b hb, (f2 b hb).2⟩
  refine codeAny_forLoop_any (fun n s' => ∃ i σ' H', Inv X pins σ' H' s' ∧ tn i s'.heap ∧ (∀ b ∈ fp, H' b = none) ∧ W i n σ' H') ?_ m0 ⟨0, σ, H2, I2, st2, fun b hb => (f2 b hb).1, w0⟩
  rintro n s3 ⟨i, σ3, H3, I3, st3, fr3, w3⟩
  rcases turn i n σ3 H3 w3 with ⟨stop, qn⟩ | ⟨go, N, hN, step⟩
  · refine wpAny_passesOwn hp (thn (T.done X rfl rfl rfl hc i pins s3 σ3 H3 X.xe I3 (stat fr3) st3 stop) fun r s4 ⟨hr, I4⟩ => ?_)
    subst hr
    exact wpAny_execs_nil ⟨σ3, H3, I4, qn⟩
  · refine wpAny_passesOwn hp (thn (T.item X rfl rfl rfl hc i pins s3 σ3 H3 X.xe I3 (stat fr3) st3 go) fun r s4 ⟨u, hr, h4⟩ => ?_)
    subst hr
    refine wpAny_passesOwn hp (thn h4 fun _ s5 ⟨x, H5, I5, r5, y5, st5, fr5⟩ => ?_)
    have I5' := I5.pinned (stat fr5) (T.obj _ _ st5)
    refine wpAny_passesOwn hp (thn (hg _ s5 σ3 H5 x u _ I5' r5 (step x H5 y5)) fun _ s6 ⟨σ6, H6, I6, q6⟩ => ?_)
    refine wpAny_passesOwn hp (thn (hb _ s6 σ6 H6 _ I6 q6) fun f s7 q7 => ?_)
    have again : ∀ {σ7 : St} {H7 : Hp}, Inv X (pins ++ pinsAt fp s5.heap) σ7 H7 s7 → N σ7 H7 → ∃ m, m < n ∧ ∃ i σ' H', Inv X pins σ' H' s7 ∧ tn i s7.heap ∧ (∀ b ∈ fp, H' b = none) ∧ W i m σ' H' := fun {σ7 H7} I7 n7 => by
      obtain ⟨m', hm, w7⟩ := hN σ7 H7 n7
      refine ⟨m', hm, i + 1, σ7, H7, I7.unpinned, T.keep _ _ _ st5 fun b hb o e => (I7.pin (b, o) (List.mem_append_right _ (List.mem_append_right _ (mem_pinsAt hb e)))).1, fun b hb => ?_, w7⟩
      obtain ⟨o, e, d⟩ := T.obj _ _ st5 b hb
      exact (I7.pin (b, o) (List.mem_append_right _ (List.mem_append_right _ (mem_pinsAt hb e)))).2.1
    cases f with
    | next => obtain ⟨σ7, H7, I7, n7⟩ := q7; exact again I7 n7
    | cont => obtain ⟨σ7, H7, I7, n7⟩ := q7; exact again I7 n7
    | brk => obtain ⟨σ7, H7, I7, q7⟩ := q7; exact ⟨σ7, H7, I7.unpinned, q7⟩
    | ret v => obtain ⟨x7, σ7, H7, I7, r7, q7⟩ := q7; exact ⟨x7, σ7, H7, I7.unpinned, r7, q7⟩
end
theorem for_list {K : PySem.W.Frag} {a : Addr} {xs : List V} {g : TG} {tb : TS} {D : Ends} {σ : St} {H : Hp} (Pv : Nat → St → Hp → Prop) (h0 : Pv 0 σ H) (hl : ∀ i σ H, i ≤ xs.length → Pv i σ H → SqL K H a xs)
    (hs : ∀ i x σ H, xs[i]? = some x → Pv i σ H → g x σ H fun σ2 H2 => tb { D with nx := Pv (i + 1), ct := Pv (i + 1), bk := D.nx } σ2 H2) (hd : ∀ σ H, Pv xs.length σ H → D.nx σ H) :
    ∃ W : Nat → Nat → St → Hp → Prop, (∃ m, W 0 m σ H) ∧ ∀ i m σ H, W i m σ H →
      ((Itl K a).stop i H ∧ D.nx σ H) ∨ ((Itl K a).go i H ∧ ∃ N : St → Hp → Prop, (∀ σ' H', N σ' H' → ∃ m', m' < m ∧ W (i + 1) m' σ' H') ∧ ∀ x H', (Itl K a).yld i H x H' → g x σ H' fun σ2 H2 => tb { D with nx := N, ct := N, bk := D.nx } σ2 H2) := by
  refine ⟨fun i m σ H => m = xs.length - i ∧ i ≤ xs.length ∧ Pv i σ H, ⟨xs.length, by simp, Nat.zero_le _, h0⟩, ?_⟩
  rintro i m σ H ⟨rfl, hi, p⟩
  have q := hl i σ H hi p
  by_cases hlt : i < xs.length
  · refine .inr ⟨⟨xs, xs[i], q, by simp [hlt]⟩, Pv (i + 1), fun σ' H' p' => ⟨xs.length - (i + 1), by omega, rfl, hlt, p'⟩, fun x H' y => ?_⟩
    obtain ⟨e, y⟩ := y
    subst e
    exact hs i x σ _ (y xs q) p
  · have e : i = xs.length := by omega
    subst e
    exact .inl ⟨⟨xs, q, Nat.le_refl _⟩, hd σ H p⟩
theorem for_range {lo : Int} {n : Nat} {g : TG} {tb : TS} {D : Ends} {σ : St} {H : Hp} (Pv : Nat → St → Hp → Prop) (h0 : Pv 0 σ H)
    (hs : ∀ i σ H, i < n → Pv i σ H → g (.int (lo + i)) σ H fun σ2 H2 => tb { D with nx := Pv (i + 1), ct := Pv (i + 1), bk := D.nx } σ2 H2) (hd : ∀ σ H, Pv n σ H → D.nx σ H) :
    ∃ W : Nat → Nat → St → Hp → Prop, (∃ m, W 0 m σ H) ∧ ∀ i m σ H, W i m σ H →
      ((Itr lo n).stop i H ∧ D.nx σ H) ∨ ((Itr lo n).go i H ∧ ∃ N : St → Hp → Prop, (∀ σ' H', N σ' H' → ∃ m', m' < m ∧ W (i + 1) m' σ' H') ∧ ∀ x H', (Itr lo n).yld i H x H' → g x σ H' fun σ2 H2 => tb { D with nx := N, ct := N, bk := D.nx } σ2 H2) := by
  refine ⟨fun i m σ H => m = n - i ∧ i ≤ n ∧ Pv i σ H, ⟨n, by simp, Nat.zero_le _, h0⟩, ?_⟩
  rintro i m σ H ⟨rfl, hi, p⟩
  by_cases hlt : i < n
  · refine .inr ⟨hlt, Pv (i + 1), fun σ' H' p' => ⟨n - (i + 1), by omega, rfl, hlt, p'⟩, fun x H' y => ?_⟩
    obtain ⟨e, y⟩ := y
    subst e y
    exact hs i σ _ hlt p
  · have e : i = n := by omega
    subst e
    exact .inl ⟨Nat.le_refl _, hd σ H p⟩
end L2
namespace L2
open PySem PySem.Spec PyProof.Rows
abbrev R2 := V → V → Hp → VK → Prop
def OpR (X : Cx) (f : Value → Value → Sem Value) (r : R2) : Prop :=
  ∀ (pins : List (Addr × Obj)) (s : Shared) (σ : St) (H : Hp) (x y : V) (v u : Value) (Q : VK), Inv X pins σ H s → RelV x v → RelV y u → r x y H Q →
    wpAny (model X.prog X.w) X.A (f v u) (EP X pins σ Q) X.xe s
def UnR (X : Cx) (f : Value → Sem Value) (r : V → Hp → VK → Prop) : Prop :=
  ∀ (pins : List (Addr × Obj)) (s : Shared) (σ : St) (H : Hp) (x : V) (v : Value) (Q : VK), Inv X pins σ H s → RelV x v → r x H Q →
    wpAny (model X.prog X.w) X.A (f v) (EP X pins σ Q) X.xe s
def CallR (X : Cx) (f : Value) (r : List V → Hp → VK → Prop) : Prop :=
  ∀ (pins : List (Addr × Obj)) (s : Shared) (σ : St) (H : Hp) (xs : List V) (us : List Value) (Q : VK), Inv X pins σ H s → Vals xs us → r xs H Q →
    wpAny (model X.prog X.w) X.A (call f us) (EP X pins σ Q) X.xe s
def tOp (r : R2) (ta tb : TE) : TE := fun σ H Q => ta σ H fun x H1 => tb σ H1 fun y H2 => r x y H2 Q
def tUn (r : V → Hp → VK → Prop) (ta : TE) : TE := fun σ H Q => ta σ H fun x H1 => r x H1 Q
def rI (C : Int → Int → Prop) (g : Int → Int → V) : R2 := fun x y H Q => ∃ i j, x = .int i ∧ y = .int j ∧ C i j ∧ Q (g i j) H
def rI0 (g : Int → Int → V) : R2 := fun x y H Q => ∃ i j, x = .int i ∧ y = .int j ∧ Q (g i j) H
def rU (g : Int → V) : V → Hp → VK → Prop := fun x H Q => ∃ i, x = .int i ∧ Q (g i) H
section
variable {X : Cx} {a b c : Expr} {ta tb tc : TE} {pos : Pos}
theorem binT (ha : PE X a ta) (hb : PE X b tb) {pins : List (Addr × Obj)} {s : Shared} {σ : St} {H : Hp} {R : V → V → Hp → Prop} (I : Inv X pins σ H s)
    (h : ta σ H fun x H1 => tb σ H1 fun y H2 => R x y H2) {Q : Value → Shared → Prop} {f : Value → Value → Sem Value}
    (hf : ∀ v u s2 x y H2, Inv X pins σ H2 s2 → RelV x v → RelV y u → R x y H2 → wpAny (model X.prog X.w) X.A (f v u) Q X.xe s2) :
    wpAny (model X.prog X.w) X.A (eval a X.env) (fun v s₁ => wpAny (model X.prog X.w) X.A (eval b X.env) (fun u s₂ => wpAny (model X.prog X.w) X.A (f v u) Q X.xe s₂) X.xe s₁) X.xe s := by
  refine thn (ha pins s σ H _ I h) fun v s1 ⟨x, H1, I1, r1, q1⟩ => ?_
  refine thn (hb pins s1 σ H1 _ I1 q1) fun u s2 ⟨y, H2, I2, r2, q2⟩ => ?_
  exact hf v u s2 x y H2 I2 r1 r2 q2
theorem pe_op {op : Operator} {r : R2} (ho : OpR X (binaryOp op) r) (ha : PE X a ta) (hb : PE X b tb) : PE X (.BinOp a op b pos) (tOp r ta tb) := by
  intro pins s σ H Q I h
  exact wpAny_BinOp (binT ha hb I h fun v u s2 x y H2 I2 rx ry q => ho pins s2 σ H2 x y v u Q I2 rx ry q)
theorem pe_un {op : UnaryOp} {r : V → Hp → VK → Prop} (ho : UnR X (unaryOp op) r) (ha : PE X a ta) : PE X (.UnaryOp op a pos) (tUn r ta) := by
  intro pins s σ H Q I h
  exact UnaryOp_ (thn (ha pins s σ H _ I h) fun v s1 ⟨x, H1, I1, r1, q1⟩ => ho pins s1 σ H1 x v Q I1 r1 q1)
theorem opI {f : Value → Value → Sem Value} {C : Int → Int → Prop} {g : Int → Int → Int}
    (rule : ∀ (i j : Int) (t u : Tok) (s : Shared) (Q : Value → Shared → Prop) (E : Value → Shared → Prop), C i j → Q (.int (g i j) s.toks) { s with toks := s.toks + 1 } → wpAny (model X.prog X.w) X.A (f (.int i t) (.int j u)) Q E s) :
    OpR X f (rI C fun i j => .int (g i j)) := by
  intro pins s σ H x y v u Q I rx ry h
  obtain ⟨i, j, rfl, rfl, hc, q⟩ := h
  obtain ⟨t, rfl⟩ := rx
  obtain ⟨t', rfl⟩ := ry
  exact rule i j t t' s _ _ hc ⟨.int (g i j), H, I.tok _, ⟨_, rfl⟩, q⟩
theorem opI0 {f : Value → Value → Sem Value} {g : Int → Int → Int}
    (rule : ∀ (i j : Int) (t u : Tok) (s : Shared) (Q : Value → Shared → Prop) (E : Value → Shared → Prop), Q (.int (g i j) s.toks) { s with toks := s.toks + 1 } → wpAny (model X.prog X.w) X.A (f (.int i t) (.int j u)) Q E s) :
    OpR X f (rI0 fun i j => .int (g i j)) := by
  intro pins s σ H x y v u Q I rx ry h
  obtain ⟨i, j, rfl, rfl, q⟩ := h
  obtain ⟨t, rfl⟩ := rx
  obtain ⟨t', rfl⟩ := ry
  exact rule i j t t' s _ _ ⟨.int (g i j), H, I.tok _, ⟨_, rfl⟩, q⟩
theorem opB0 {f : Value → Value → Sem Value} {g : Int → Int → Bool}
    (rule : ∀ (i j : Int) (t u : Tok) (s : Shared) (Q : Value → Shared → Prop) (E : Value → Shared → Prop), Q (.bool (g i j)) s → wpAny (model X.prog X.w) X.A (f (.int i t) (.int j u)) Q E s) :
    OpR X f (rI0 fun i j => .bl (g i j)) := by
  intro pins s σ H x y v u Q I rx ry h
  obtain ⟨i, j, rfl, rfl, q⟩ := h
  obtain ⟨t, rfl⟩ := rx
  obtain ⟨t', rfl⟩ := ry
  exact rule i j t t' s _ _ ⟨.bl (g i j), H, I, rfl, q⟩
def CDiv (i j : Int) : Prop := 0 < j ∧ j < 1073741824
def CPow (i j : Int) : Prop := 0 ≤ j ∧ j ≤ 1000000 ∧ i.natAbs < 2 ^ 64
def CMul (i j : Int) : Prop := (-(2 ^ 64) < i ∧ i < 2 ^ 64) ∨ (-(2 ^ 64) < j ∧ j < 2 ^ 64)
theorem CMul.ok {i j : Int} (h : CMul i j) : IntMulOk i j := by
  rcases h with ⟨h1, h2⟩ | ⟨h1, h2⟩
  · exact .of_left (intBits_le_64 h1 h2)
  · exact .of_right (intBits_le_64 h1 h2)
theorem op_add : OpR X (binaryOp .Add) (rI0 fun i j => .int (i + j)) := opI0 fun _ _ _ _ _ _ _ q => add_int q
theorem op_sub : OpR X (binaryOp .Sub) (rI0 fun i j => .int (i - j)) := opI0 fun _ _ _ _ _ _ _ q => sub_int q
theorem op_fdiv : OpR X (binaryOp .FloorDiv) (rI CDiv fun i j => .int (i / j)) := opI fun i j _ _ _ _ _ hc q => by
  have h1 : (0 : Int) < j := hc.1
  have h2 : j < 1073741824 := hc.2
  exact floordiv_int (by omega) (by rw [Int.fdiv_eq_ediv_of_nonneg i (by omega)]; exact q) (.inl (PyProof.noPylong_small (by omega)))
theorem op_mod : OpR X (binaryOp .Mod) (rI (fun _ j => 0 < j) fun i j => .int (i % j)) := opI fun i j _ _ _ _ _ hc q => by
  have h1 : (0 : Int) < j := hc
  exact mod_int' (by omega) (by rw [Int.fmod_eq_emod_of_nonneg i (by omega)]; exact q)
theorem op_pow : OpR X (binaryOp .Pow) (rI CPow fun i j => .int (i ^ j.toNat)) := opI fun _ _ _ _ _ _ _ hc q => pow_int_small hc.1 hc.2.1 hc.2.2 q
theorem unI {f : Value → Sem Value} {g : Int → Int}
    (rule : ∀ (i : Int) (t : Tok) (s : Shared) (Q : Value → Shared → Prop) (E : Value → Shared → Prop), Q (.int (g i) s.toks) { s with toks := s.toks + 1 } → wpAny (model X.prog X.w) X.A (f (.int i t)) Q E s) :
    UnR X f (rU fun i => .int (g i)) := by
  intro pins s σ H x v Q I rx h
  obtain ⟨i, rfl, q⟩ := h
  obtain ⟨t, rfl⟩ := rx
  exact rule i t s _ _ ⟨.int (g i), H, I.tok _, ⟨_, rfl⟩, q⟩
theorem un_neg : UnR X (unaryOp .USub) (rU fun i => .int (-i)) := unI fun _ _ _ _ _ q => neg_int q
end
def scal : V → V → Bool
  | .non, .non => true | .non, .int _ => true | .int _, .non => true | .non, .bl _ => true | .bl _, .non => true | .non, .str _ => true | .str _, .non => true
  | .int _, .int _ => true | .bl _, .bl _ => true | .str _, .str _ => true | .byt _, .byt _ => true
  | .int _, .str _ => true | .str _, .int _ => true | .bl _, .str _ => true | .str _, .bl _ => true
  | _, _ => false
def rEq : R2 := fun x y H Q => scal x y = true ∧ Q (.bl (decide (x = y))) H
def rNe : R2 := fun x y H Q => scal x y = true ∧ Q (.bl (!decide (x = y))) H
theorem dec_int {i j : Int} : decide (V.int i = V.int j) = (i == j) := by
  rw [Bool.eq_iff_iff]
  simp
theorem dec_bl {i j : Bool} : decide (V.bl i = V.bl j) = (i == j) := by
  rw [Bool.eq_iff_iff]
  simp
theorem dec_str {i j : Str} : decide (V.str i = V.str j) = (i == j) := by
  rw [Bool.eq_iff_iff]
  simp
theorem dec_byt {i j : Array UInt8} : decide (V.byt i = V.byt j) = (i.toList == j.toList) := by
  rw [Bool.eq_iff_iff]
  cases i
  cases j
  simp
section
variable {X : Cx} {a b c : Expr} {ta tb tc : TE} {pos : Pos}
theorem fin_bl {pins : List (Addr × Obj)} {σ : St} {H : Hp} {s : Shared} {Q : VK} {k k' : Bool} (I : Inv X pins σ H s) (q : Q (.bl k) H) (e : k = k') : EP X pins σ Q (.bool k') s := by
  subst e
  exact ⟨.bl k, H, I, rfl, q⟩
theorem op_eq : OpR X (compareOp .Eq) rEq := by
  intro pins s σ H x y v u Q I rx ry h
  obtain ⟨hs, q⟩ := h
  cases x with
  | non =>
    cases rx
    cases y with
    | non => cases ry; exact PySem.EqNone.eq_none_none (fin_bl I q (by simp))
    | bl j => cases ry; exact PySem.EqNone.eq_none_bool (fin_bl I q (by simp))
    | int j => obtain ⟨t', rfl⟩ := ry; exact PySem.EqNone.eq_none_int (fin_bl I q (by simp))
    | str j => obtain ⟨t', rfl⟩ := ry; exact PySem.EqNone.eq_none_str (fin_bl I q (by simp))
    | _ => exact absurd (show false = true from hs) Bool.false_ne_true
  | bl i =>
    cases rx
    cases y with
    | non => cases ry; exact PySem.EqNone.eq_bool_none (fin_bl I q (by simp))
    | bl j => cases ry; exact eq_bool (fin_bl I q dec_bl)
    | str j => obtain ⟨t', rfl⟩ := ry; exact PySem.EqMixed.eq_bool_str (fin_bl I q (by simp))
    | _ => exact absurd (show false = true from hs) Bool.false_ne_true
  | int i =>
    obtain ⟨t, rfl⟩ := rx
    cases y with
    | non => cases ry; exact PySem.EqNone.eq_int_none (fin_bl I q (by simp))
    | int j => obtain ⟨t', rfl⟩ := ry; exact eq_int (fin_bl I q dec_int)
    | str j => obtain ⟨t', rfl⟩ := ry; exact PySem.EqMixed.eq_int_str (fin_bl I q (by simp))
    | _ => exact absurd (show false = true from hs) Bool.false_ne_true
  | str i =>
    obtain ⟨t, rfl⟩ := rx
    cases y with
    | non => cases ry; exact PySem.EqNone.eq_str_none (fin_bl I q (by simp))
    | bl j => cases ry; exact PySem.EqMixed.eq_str_bool (fin_bl I q (by simp))
    | int j => obtain ⟨t', rfl⟩ := ry; exact PySem.EqMixed.eq_str_int (fin_bl I q (by simp))
    | str j => obtain ⟨t', rfl⟩ := ry; exact eq_str (fin_bl I q dec_str)
    | _ => exact absurd (show false = true from hs) Bool.false_ne_true
  | byt i =>
    obtain ⟨t, rfl⟩ := rx
    cases y with
    | byt j => obtain ⟨t', rfl⟩ := ry; exact PySem.W.eq_bytes (fin_bl I q dec_byt)
    | _ => exact absurd (show false = true from hs) Bool.false_ne_true
  | _ => cases y <;> exact absurd (show false = true from hs) Bool.false_ne_true
theorem op_ne : OpR X (compareOp .NotEq) rNe := by
  intro pins s σ H x y v u Q I rx ry h
  obtain ⟨hs, q⟩ := h
  cases x with
  | non =>
    cases rx
    cases y with
    | non => cases ry; exact PySem.EqNone.ne_none_none (fin_bl I q (by simp))
    | bl j => cases ry; exact PySem.EqNone.ne_none_bool (fin_bl I q (by simp))
    | int j => obtain ⟨t', rfl⟩ := ry; exact PySem.EqNone.ne_none_int (fin_bl I q (by simp))
    | str j => obtain ⟨t', rfl⟩ := ry; exact PySem.EqNone.ne_none_str (fin_bl I q (by simp))
    | _ => exact absurd (show false = true from hs) Bool.false_ne_true
  | bl i =>
    cases rx
    cases y with
    | non => cases ry; exact PySem.EqNone.ne_bool_none (fin_bl I q (by simp))
    | bl j => cases ry; exact ne_bool (fin_bl I q (congrArg not dec_bl))
    | str j => obtain ⟨t', rfl⟩ := ry; exact PySem.EqMixed.ne_bool_str (fin_bl I q (by simp))
    | _ => exact absurd (show false = true from hs) Bool.false_ne_true
  | int i =>
    obtain ⟨t, rfl⟩ := rx
    cases y with
    | non => cases ry; exact PySem.EqNone.ne_int_none (fin_bl I q (by simp))
    | int j => obtain ⟨t', rfl⟩ := ry; exact ne_int (fin_bl I q (congrArg not dec_int))
    | str j => obtain ⟨t', rfl⟩ := ry; exact PySem.EqMixed.ne_int_str (fin_bl I q (by simp))
    | _ => exact absurd (show false = true from hs) Bool.false_ne_true
  | str i =>
    obtain ⟨t, rfl⟩ := rx
    cases y with
    | non => cases ry; exact PySem.EqNone.ne_str_none (fin_bl I q (by simp))
    | bl j => cases ry; exact PySem.EqMixed.ne_str_bool (fin_bl I q (by simp))
    | int j => obtain ⟨t', rfl⟩ := ry; exact PySem.EqMixed.ne_str_int (fin_bl I q (by simp))
    | str j => obtain ⟨t', rfl⟩ := ry; exact ne_str (fin_bl I q (congrArg not dec_str))
    | _ => exact absurd (show false = true from hs) Bool.false_ne_true
  | byt i =>
    obtain ⟨t, rfl⟩ := rx
    cases y with
    | byt j => obtain ⟨t', rfl⟩ := ry; exact PySem.W.ne_bytes (fin_bl I q (congrArg not dec_byt))
    | _ => exact absurd (show false = true from hs) Bool.false_ne_true
  | _ => cases y <;> exact absurd (show false = true from hs) Bool.false_ne_true
theorem op_lt : OpR X (compareOp .Lt) (rI0 fun i j => .bl (decide (i < j))) := opB0 fun _ _ _ _ _ _ _ q => lt_int q
theorem op_gt : OpR X (compareOp .Gt) (rI0 fun i j => .bl (decide (j < i))) := opB0 fun _ _ _ _ _ _ _ q => gt_int q
theorem op_ge : OpR X (compareOp .GtE) (rI0 fun i j => .bl (decide (j ≤ i))) := opB0 fun _ _ _ _ _ _ _ q => ge_int q
theorem op_isN : OpR X (compareOp .Is) (fun x y H Q => y = .non ∧ Q (.bl (decide (x = .non))) H) := by
  intro pins s σ H x y v u Q I rx ry h
  obtain ⟨rfl, q⟩ := h
  cases ry
  refine is_none_gen (fin_bl I q ?_)
  cases x <;> first
    | (cases rx; rfl)
    | (obtain ⟨t, rfl⟩ := rx; rfl)
theorem OpR.or {f : Value → Value → Sem Value} {r r' : R2} (h : OpR X f r) (h' : OpR X f r') : OpR X f (fun x y H Q => r x y H Q ∨ r' x y H Q) := by
  intro pins s σ H x y v u Q I rx ry q
  rcases q with q | q
  · exact h pins s σ H x y v u Q I rx ry q
  · exact h' pins s σ H x y v u Q I rx ry q
theorem nomark (b : Expr) {op : CmpOp} (h : op ≠ .In := by decide) (h2 : op ≠ .NotIn := by decide) : behindInMarks op b = false := by
  have e1 : (op == CmpOp.In) = false := by cases op <;> first | rfl | exact absurd rfl h
  have e2 : (op == CmpOp.NotIn) = false := by cases op <;> first | rfl | exact absurd rfl h2
  cases b <;> simp [behindInMarks, e1, e2]
theorem pe_cmpR {op : CmpOp} {r : R2} (ho : OpR X (compareOp op) r) (ha : PE X a ta) (hb : PE X b tb) (hm : behindInMarks op b = false) : PE X (.Compare a [op] [b] pos) (tOp r ta tb) := by
  intro pins s σ H Q I h
  exact wpAny_Compare1 (binT ha hb I h fun v u s2 x y H2 I2 rx ry q => ho pins s2 σ H2 x y v u Q I2 rx ry q) hm
def tTest (t : TE) : TT := fun σ H Q => t σ H fun x H' => ∃ k, x = .bl k ∧ Q k H'
theorem pt_cmpR {op : CmpOp} {r : R2} (ho : OpR X (compareOp op) r) (ha : PE X a ta) (hb : PE X b tb) (hm : behindInMarks op b = false) : PT X (.Compare a [op] [b] pos) (tTest (tOp r ta tb)) := by
  intro pins s σ H Q I h
  refine wpAny_isTrue_Compare1 (thn (ha pins s σ H _ I h) fun v s1 ⟨x, H1, I1, r1, q1⟩ => thn (hb pins s1 σ H1 _ I1 q1) fun u s2 ⟨y, H2, I2, r2, q2⟩ =>
    thn (ho pins s2 σ H2 x y v u _ I2 r1 r2 q2) fun c s3 ⟨z, H3, I3, r3, k, e, q3⟩ => ?_) hm
  subst e
  cases r3
  exact wpAny_truthy_bool ⟨H3, I3, q3⟩
theorem line63 : (sizeLine : Nat) < 2 ^ 63 := by rw [sizeLine_eq]; decide
theorem vals1 {x : V} {us : List Value} (r : Vals [x] us) : ∃ u, us = [u] ∧ RelV x u := by
  cases r with
  | cons r1 r2 => cases r2; exact ⟨_, rfl, r1⟩
theorem vals2 {x y : V} {us : List Value} (r : Vals [x, y] us) : ∃ u w', us = [u, w'] ∧ RelV x u ∧ RelV y w' := by
  cases r with
  | cons r1 r2 =>
    cases r2 with
    | cons r3 r4 => cases r4; exact ⟨_, _, rfl, r1, r3⟩
end
end L2
namespace L2
open PySem PySem.Spec PyProof.Rows
structure ObjM (h : Heap) (x dx C : Addr) (mA : Str → Option Value) : Prop where
  obj : h.get? x = some (PySem.W.instObj C dx)
  ns : h.Ns1 dx mA
  ne : dx ≠ x
theorem lookIn_ns {h : Heap} {dx : Addr} {mA : Str → Option Value} (n : h.Ns1 dx mA) : ∃ od, h.get? dx = some od ∧ ∀ name, PySem.W.lookIn name od = some (mA name) := by
  obtain ⟨o, es, ep, ho, hd, hk, _, hm⟩ := n
  refine ⟨o, ho, fun name => ?_⟩
  have e := hm name
  unfold nsFind findBy at e
  rw [← Array.find?_toList] at e
  unfold PySem.W.lookIn
  rw [hd]
  dsimp only
  split
  · rename_i y q
    rw [q] at e
    exact congrArg some e
  · rename_i q
    rw [q] at e
    have a : es.toList.any (·.refKey) = false := by
      rw [List.any_eq_false]
      intro y hy
      obtain ⟨z, t, hkey⟩ := hk y (Array.mem_toList_iff.mp hy)
      simp [DictEntry.refKey, hkey]
    have a' : ¬ es.toList.any (·.refKey) = true := by rw [a]; exact Bool.false_ne_true
    rw [if_neg a']
    exact congrArg some e
theorem ObjM.look {h : Heap} {x dx C : Addr} {mA : Str → Option Value} (I : ObjM h x dx C mA) : ∃ od, PySem.W.InstAt h x (PySem.W.instObj C dx) C (some od) ∧ ∀ name, PySem.W.lookIn name od = some (mA name) :=
  let ⟨od, ho, hl⟩ := lookIn_ns I.ns
  ⟨od, ⟨I.obj, rfl, rfl, ho⟩, hl⟩
section
variable {prog : Program} {w : World} {A : Around} {E : Value → Shared → Prop} {s : Shared} {K : PySem.W.Frag} {x dx C f : Addr} {mA : Str → Option Value} {name : Str} {v : Value}
theorem get_map {expr : Bool} {Q : Value → Shared → Prop} (X : K.In s.heap) (I : ObjM s.heap x dx C mA) (hg : PySem.W.plainGet K C name = true) (hh : PySem.W.hasDictIn K C = true)
    (ha : PySem.W.findIn K (.ref C) name = some none) (hv : mA name = some v) (hv' : PySem.W.handedIn v = true) (h : Q v { s with toks := s.toks + 1 }) :
    wpAny (model prog w) A (getAttr (.ref x) name expr) Q E s := by
  obtain ⟨od, J, hl⟩ := I.look
  exact PySem.W.get_value X J (PySem.W.plainGet_of hg).1 (PySem.W.findObj_own hh ha rfl (by rw [hl, hv])) hv' h
theorem get_meth {pl : Sem Bool} {Q : Value × List Value → Shared → Prop} (X : K.In s.heap) (I : ObjM s.heap x dx C mA) (hg : PySem.W.plainGet K C name = true)
    (hf : PySem.W.findIn K (.ref C) name = some (some (.ref f))) (ht : PySem.W.isFn K (.ref f) = true) (hv : mA name = none) (h : Q (.ref f, [.ref x]) s) :
    wpAny (model prog w) A (getMethod (.ref x) name pl) Q E s := by
  obtain ⟨od, J, hl⟩ := I.look
  exact PySem.W.method_fn X J (PySem.W.plainGet_of hg).1 (PySem.W.plainGet_of hg).2 hf (beq_iff_eq.mp ht) (by show (PySem.W.lookIn name od).map (·.isSome) = some false; rw [hl, hv]; rfl) h
theorem set_map {ns : List Str} {Q : Unit → Shared → Prop} (X : K.In s.heap) (I : ObjM s.heap x dx C mA)
    (hs : PySem.W.findIn K (.ref C) "__setattr__" = some (some (.builtin "object.__setattr__"))) (hp : PySem.W.plainOver K C = true) (ht : PySem.W.takerIn K C name = some none) (hh : PySem.W.hasDictIn K C = true)
    (hw : PySem.Within mA ns) (hsz : ns.length ≤ sizeLine)
    (h : ∀ h', ObjM h' x dx C (fun y => if y = name then some v else mA y) → Heap.SameBut dx s.heap h' → Q () { s with heap := h', toks := s.toks + 2 }) :
    wpAny (model prog w) A (setAttr (.ref x) name v) Q E s := by
  obtain ⟨od, J, hl⟩ := I.look
  refine PySem.W.set_plain X J hs (PySem.W.osa_open (s := { s with toks := s.toks + 1 }) (r := none) X J hp ht fun b => ?_)
  obtain ⟨cd, hc, hd'⟩ := PySem.W.any_some hh
  have hx : s.heap.get? x = some ⟨.ref C, some dx, .plain, #[]⟩ := I.obj
  refine wpAny_bind (wpAny_pure (wpAny_bind (wpAny_bind (wpAny_loadPart hx (wpAny_bind (PySem.W.Looks.here (s := { s with toks := s.toks + 1 }) (PySem.W.looks_clsIn X hc) ?_))))))
  rw [hd']
  refine wpAny_pure (a := some dx) (wpAny_bind (wpAny_pure (wpAny_bind ?_)))
  refine wpAny_nsSet1 (s := { s with toks := s.toks + 1 }) I.ns fun h' hn2 hs2 => ?_
  obtain ⟨oD, esD, epD, hoD, hdD, hcD⟩ := hn2.count (PySem.Within.cons name v hw)
  refine wpAny_bind (wpAny_lookBehind hoD (by rw [hdD]; exact pastItsLine_dict (Nat.le_trans hcD (by rw [List.length_cons]; omega))) ?_)
  exact wpAny_pure (h _ ⟨(hs2.2 _ (Ne.symm I.ne)).trans I.obj, hn2, I.ne⟩ hs2)
theorem make_map {R : Result → Shared → Prop} {vs : List Value} {kw : List (Str × Value)} (X : K.In s.heap) (hm : PySem.W.makesIn K C = true)
    (hi : PySem.W.findIn K (.ref C) "__init__" = some (some (.ref f))) (hf : PySem.W.typeIn K (.ref f) = some (.type "function"))
    (h : codeAny (model prog w) (A.under (.builtin "type.__call__" ⟨.ref C :: vs, kw⟩)) (.call (.ref f) ⟨.ref (s.heap.objs.size + 1) :: vs, kw⟩) (PySem.W.InitBack (s.heap.objs.size + 1) R)
      { s with heap := (s.heap.push PySem.W.emptyDict).push (PySem.W.instObj C s.heap.objs.size) }) :
    codeAny (model prog w) A (.call (.ref C) ⟨vs, kw⟩) R s := by
  obtain ⟨hh, g, d, t, os⟩ := s
  exact PySem.W.make_core (PySem.W.makes_of X hm) (PySem.W.looks_findIn X hi) (fun self => PySem.W.bind_fn X self hf) (.inl rfl) h
end
def putF (f : Str) (v : V) : List (Str × V) → List (Str × V)
  | [] => [(f, v)]
  | (g, x) :: r => if g = f then (g, v) :: r else (g, x) :: putF f v r
theorem lookup_putF (f g : Str) (v : V) : ∀ fs : List (Str × V), (putF f v fs).lookup g = if g = f then some v else fs.lookup g
  | [] => by
    show List.lookup g [(f, v)] = _
    by_cases h : g = f
    · have hb : (g == f) = true := beq_iff_eq.mpr h
      simp only [List.lookup, hb, if_pos h]
    · have hb : (g == f) = false := beq_eq_false_iff_ne.mpr h
      simp only [List.lookup, hb, if_neg h]
  | (k, x) :: r => by
    have ih := lookup_putF f g v r
    rw [show putF f v ((k, x) :: r) = (if k = f then (k, v) :: r else (k, x) :: putF f v r) from rfl]
    by_cases hk : k = f
    · rw [if_pos hk]
      by_cases h : g = k
      · have hb : (g == k) = true := beq_iff_eq.mpr h
        simp only [List.lookup, hb, if_pos (h.trans hk)]
      · have hb : (g == k) = false := beq_eq_false_iff_ne.mpr h
        simp only [List.lookup, hb, if_neg (fun e : g = f => h (e.trans hk.symm))]
    · rw [if_neg hk]
      by_cases h : g = k
      · have hb : (g == k) = true := beq_iff_eq.mpr h
        simp only [List.lookup, hb, if_neg (fun e : g = f => hk (h.symm.trans e))]
      · have hb : (g == k) = false := beq_eq_false_iff_ne.mpr h
        simp only [List.lookup, hb]
        exact ih
theorem keys_putF (f : Str) (v : V) : ∀ fs : List (Str × V), f ∈ (putF f v fs).map (·.1) ∧ ∀ g, g ∈ fs.map (·.1) → g ∈ (putF f v fs).map (·.1)
  | [] => ⟨by simp [putF], fun g h => by simp at h⟩
  | (k, x) :: r => by
    obtain ⟨i1, i2⟩ := keys_putF f v r
    rw [show putF f v ((k, x) :: r) = (if k = f then (k, v) :: r else (k, x) :: putF f v r) from rfl]
    by_cases hk : k = f
    · rw [if_pos hk]
      subst hk
      exact ⟨by simp, fun g h => by simpa using h⟩
    · rw [if_neg hk]
      refine ⟨?_, fun g h => ?_⟩
      · rw [List.map_cons]
        exact List.mem_cons_of_mem _ i1
      · rw [List.map_cons] at h ⊢
        rcases List.mem_cons.mp h with e | e
        · exact List.mem_cons.mpr (.inl e)
        · exact List.mem_cons_of_mem _ (i2 g e)
theorem length_putF (f : Str) (v : V) : ∀ fs : List (Str × V), (putF f v fs).length ≤ fs.length + 1
  | [] => by simp [putF]
  | (k, x) :: r => by
    have ih := length_putF f v r
    rw [show putF f v ((k, x) :: r) = (if k = f then (k, v) :: r else (k, x) :: putF f v r) from rfl]
    by_cases hk : k = f
    · rw [if_pos hk, List.length_cons, List.length_cons]; omega
    · rw [if_neg hk, List.length_cons, List.length_cons]; omega
theorem RelO.some_of {v : V} {o : Option Value} (r : RelO (some v) o) : ∃ u, o = some u ∧ RelV v u := by
  cases o with
  | none => exact (show False from r).elim
  | some u => exact ⟨u, rfl, r⟩
theorem RelO.none_of {o : Option Value} (r : RelO none o) : o = none := by
  cases o with
  | none => rfl
  | some u => exact (show False from r).elim
theorem handed_of {v : V} {u : Value} (r : RelV v u) : PySem.W.handedIn u = true := by
  cases v with
  | non => cases (show u = Value.none from r); rfl
  | bl b => cases (show u = Value.bool b from r); rfl
  | int i => obtain ⟨t, e⟩ := (show ∃ t, u = Value.int i t from r); cases e; rfl
  | str x => obtain ⟨t, e⟩ := (show ∃ t, u = Value.str x t from r); cases e; rfl
  | byt b => obtain ⟨t, e⟩ := (show ∃ t, u = Value.bytes b t from r); cases e; rfl
  | flt b => obtain ⟨t, e⟩ := (show ∃ t, u = Value.float b t from r); cases e; rfl
  | ref a => cases (show u = Value.ref a from r); rfl
  | ty n => cases (show u = Value.type n from r); rfl
section
variable {P : Program} {w : World} {H H' : Hp} {h h' : Heap} {a C dx : Addr} {fs fs' : List (Str × V)}
theorem ins_get (hok : HOk P w H h) (e : H a = some (.ins C dx fs)) : ∃ mA, ObjM h a dx C mA ∧ (∀ f, RelO (fs.lookup f) (mA f)) ∧ PySem.Within mA (fs.map (·.1)) ∧ fs.length ≤ 1000 ∧ H dx = some (.own a) := by
  obtain ⟨d, z, ne, ob, mA, n, r, q⟩ := (show ObjOk P w H h a (.ins C dx fs) from hok a _ e)
  exact ⟨mA, ⟨ob, n, ne⟩, r, q, z, d⟩
end
structure Cls (K : PySem.W.Frag) (C : Addr) : Prop where
  pg : PySem.W.plainGet K C Str.empty = true
  hd : PySem.W.hasDictIn K C = true
  po : PySem.W.plainOver K C = true
  sa : PySem.W.findIn K (.ref C) "__setattr__" = some (some (.builtin "object.__setattr__"))
theorem Cls.get {K : PySem.W.Frag} {C : Addr} (c : Cls K C) (f : Str) : PySem.W.plainGet K C f = true := c.pg
def NoAttr (K : PySem.W.Frag) (C : Addr) (f : Str) : Prop := PySem.W.findIn K (.ref C) f = some none
theorem NoAttr.taker {K : PySem.W.Frag} {C : Addr} {f : Str} (n : NoAttr K C f) : PySem.W.takerIn K C f = some none := by
  unfold PySem.W.takerIn
  rw [show PySem.W.findIn K (.ref C) f = some none from n]
  rfl
structure Meth (K : PySem.W.Frag) (C : Addr) (m : Str) (f : Addr) : Prop where
  at_ : PySem.W.findIn K (.ref C) m = some (some (.ref f))
  fn : PySem.W.isFn K (.ref f) = true
  kp : PySem.W.keepIn K (.ref f) = true
section
variable {X : Cx} {pins : List (Addr × Obj)} {σ : St} {H : Hp} {s : Shared} {a C dx : Addr} {fs : List (Str × V)} {f : Str} {v : V} {A : Around} {E : Value → Shared → Prop}
theorem getattr_ok {b : Bool} {Q : Value → Shared → Prop} (I : Inv X pins σ H s) (e : H a = some (.ins C dx fs)) (c : Cls X.K C) (n : NoAttr X.K C f) (l : fs.lookup f = some v)
    (h : ∀ u s', Inv X pins σ H s' → RelV v u → Q u s') : wpAny (model X.prog X.w) A (getAttr (.ref a) f b) Q E s := by
  obtain ⟨mA, O, r, _, _, _⟩ := ins_get I.hok e
  obtain ⟨u, hu, ru⟩ := RelO.some_of (v := v) (o := mA f) (by rw [← l]; exact r f)
  exact get_map I.kIn O (c.get f) c.hd n hu (handed_of ru) (h u _ (I.tok _) ru)
theorem getmeth_ok {m : Str} {g : Addr} {pl : Sem Bool} {Q : Value × List Value → Shared → Prop} (I : Inv X pins σ H s) (e : H a = some (.ins C dx fs)) (c : Cls X.K C) (k : Meth X.K C m g) (l : fs.lookup m = none)
    (h : Q (.ref g, [.ref a]) s) : wpAny (model X.prog X.w) A (getMethod (.ref a) m pl) Q E s := by
  obtain ⟨mA, O, r, _, _, _⟩ := ins_get I.hok e
  have hn : mA m = none := RelO.none_of (by rw [← l]; exact r m)
  exact get_meth I.kIn O (c.get m) k.at_ k.fn hn h
theorem setattr_ok {y : V} {u : Value} {Q : Unit → Shared → Prop} (I : Inv X pins σ H s) (e : H a = some (.ins C dx fs)) (c : Cls X.K C) (n : NoAttr X.K C f) (hl : fs.length < 1000) (ry : RelV y u)
    (h : ∀ s', Inv X pins σ (upd H a (.ins C dx (putF f y fs))) s' → Q () s') : wpAny (model X.prog X.w) A (setAttr (.ref a) f u) Q E s := by
  obtain ⟨mA, O, r, wi, _, ho⟩ := ins_get I.hok e
  have hz : (fs.map (·.1)).length ≤ sizeLine := by rw [List.length_map, sizeLine_eq]; omega
  refine set_map I.kIn O c.sa c.po n.taker c.hd wi hz fun h' O' sb => h _ ?_
  have hd : ∃ o, h'.get? dx = some o := let ⟨o, _, _, e', _⟩ := O'.ns; ⟨o, e'⟩
  refine I.write (x := a) (e := dx) (by rw [e]; exact True.intro) (.inr ho) (fun b q hb z => (sb.2 b hb).trans z) hd ?_
  refine ⟨by rw [upd_ne O.ne]; exact ho, ?_, O.ne, O'.obj, _, O'.ns, fun g => ?_, fun g hg => ?_⟩
  · have := length_putF f y fs; omega
  · show RelO ((putF f y fs).lookup g) (if g = f then some u else mA g)
    rw [lookup_putF]
    by_cases q : g = f
    · rw [if_pos q, if_pos q]; exact ry
    · rw [if_neg q, if_neg q]; exact r g
  · by_cases q : g = f
    · rw [q]; exact (keys_putF f y fs).1
    · refine (keys_putF f y fs).2 g (wi g fun z => hg ?_)
      show (if g = f then some u else mA g) = none
      rw [if_neg q]; exact z
theorem Inv.made (I : Inv X pins σ H s) : Inv X pins σ (upd (upd H s.heap.objs.size (.own (s.heap.objs.size + 1))) (s.heap.objs.size + 1) (.ins C s.heap.objs.size []))
    { s with heap := (s.heap.push PySem.W.emptyDict).push (PySem.W.instObj C s.heap.objs.size) } := by
  have e1 : (s.heap.push PySem.W.emptyDict).get? s.heap.objs.size = some PySem.W.emptyDict := Heap.get?_push_size s.heap rfl
  have e2 : ((s.heap.push PySem.W.emptyDict).push (PySem.W.instObj C s.heap.objs.size)).get? (s.heap.objs.size + 1) = some (PySem.W.instObj C s.heap.objs.size) := by
    have := Heap.get?_push_size (s.heap.push PySem.W.emptyDict) (o := PySem.W.instObj C s.heap.objs.size) rfl
    rwa [Heap.size_push] at this
  have e3 : (s.heap.push PySem.W.emptyDict).Ns s.heap.objs.size (fun _ => none) := ⟨PySem.W.emptyDict, #[], _, e1, rfl, (fun e he => absurd he (by simp)), fun _ => rfl⟩
  have I1 := I.laid (a := s.heap.objs.size) (o := .own (s.heap.objs.size + 1)) (h' := s.heap.push PySem.W.emptyDict) (t' := s.toks) (fun b u q => Heap.get?_push_of_some _ q) (Nat.le_refl _) ⟨_, e1⟩
  refine I1.laid (a := s.heap.objs.size + 1) (o := .ins C s.heap.objs.size []) (t' := s.toks) (fun b u q => Heap.get?_push_of_some _ q) (Nat.le_of_eq (Heap.size_push _ _)) ?_
  have ne : s.heap.objs.size ≠ s.heap.objs.size + 1 := Nat.ne_of_lt (Nat.lt_succ_self _)
  refine ⟨by rw [upd_ne ne, upd_same], Nat.zero_le _, ne, e2, fun _ => none, (Heap.Ns1.of_empty e3).at fun o q => Heap.get?_push_of_some _ q, fun _ => True.intro, fun y hy => absurd rfl hy⟩
theorem attr_of {prog : Program} {w : World} {env : Env} {e : Expr} {f : Str} {pos : Pos} {s : Shared} {Q : Value → Shared → Prop} (hb : attributeBase e f env (eval e env) = eval e env)
    (h : wpAny (model prog w) A (eval e env) (fun o s₁ => wpAny (model prog w) A (getAttr o f true) Q E s₁) E s) : wpAny (model prog w) A (eval (.Attribute e f pos) env) Q E s :=
  Attribute_any_ h (by rw [arm_eval_Attribute, hb])
end
def tFld (K : PySem.W.Frag) (ta : TE) (f : Str) : TE := fun σ H Q => ta σ H fun x H1 => ∃ a C dx fs v, x = .ref a ∧ H1 a = some (.ins C dx fs) ∧ Cls K C ∧ NoAttr K C f ∧ fs.lookup f = some v ∧ Q v H1
def sFld (K : PySem.W.Frag) (ta tv : TE) (f : Str) : TS := fun D σ H => tv σ H fun y H1 => ta σ H1 fun x H2 => ∃ a C dx fs, x = .ref a ∧ H2 a = some (.ins C dx fs) ∧ Cls K C ∧ NoAttr K C f ∧ fs.length < 1000 ∧
  D.nx σ (upd H2 a (.ins C dx (putF f y fs)))
section
variable {X : Cx} {o e value : Expr} {f : Str} {pos pos' tpos : Pos} {ta tv : TE}
theorem pe_fld (he : PE X e ta) (hb : attributeBase e f X.env (eval e X.env) = eval e X.env) : PE X (.Attribute e f pos) (tFld X.K ta f) := by
  intro pins s σ H Q I h
  refine attr_of hb (thn (he pins s σ H _ I h) fun u s1 ⟨x, H1, I1, rx, a, C, dx, fs, v, ex, ea, c, n, l, q⟩ => ?_)
  subst ex
  obtain rfl : u = Value.ref a := rx
  exact getattr_ok I1 ea c n l fun u' s2 I2 ru => ⟨v, H1, I2, ru, q⟩
theorem ps_fld (ha : PE X o ta) (hv : PE X value tv) (hs : swapsWith value (some (.Attribute o f pos')) pos.line X.env = pure false) : PS X (.Assign [.Attribute o f pos'] value pos) (sFld X.K ta tv f) := by
  intro pins s σ H D I h
  refine plainObj_wpAny_Assign_Attribute (thn (hv pins s σ H _ I h) fun u s1 ⟨y, H1, I1, ry, q⟩ => thn (ha pins s1 σ H1 _ I1 q) fun ov s2 ⟨x, H2, I2, rx, a, C, dx, fs, ex, ea, c, n, l, q2⟩ => ?_) hs
  subst ex
  obtain rfl : ov = Value.ref a := rx
  exact setattr_ok I2 ea c n l ry fun s3 I3 => ⟨σ, _, I3, q2⟩
end
section
variable {X : Cx} {pins : List (Addr × Obj)} {σ : St} {H : Hp} {s : Shared} {A : Around} {E : Value → Shared → Prop} {Q : Value → Shared → Prop} {c : Value} {b : Bool}
inductive TyOf (K : PySem.W.Frag) (H : Hp) : V → Value → Prop where
  | non : TyOf K H .non (.type "NoneType")
  | bl (x : Bool) : TyOf K H (.bl x) (.type "bool")
  | int (i : Int) : TyOf K H (.int i) (.type "int")
  | str (x : Str) : TyOf K H (.str x) (.type "str")
  | flt (x : UInt64) : TyOf K H (.flt x) (.type "float")
  | lst {a : Addr} {xs : List V} (e : H a = some (.lst xs)) : TyOf K H (.ref a) (.type "list")
  | frz {a : Addr} {o : Obj} {xs : List V} (e : H a = some (.frz o (.lst xs))) : TyOf K H (.ref a) (.type "list")
  | tup {a : Addr} {xs : List V} (e : H a = some (.tup xs)) : TyOf K H (.ref a) (.type "tuple")
  | dK {a : Addr} {kvs : List (Key × V)} (e : H a = some (.dK kvs)) : TyOf K H (.ref a) (.type "dict")
  | dT {a : Addr} {kvs : List (List Key × V)} (e : H a = some (.dT kvs)) : TyOf K H (.ref a) (.type "dict")
  | ins {a C dx : Addr} {fs : List (Str × V)} (e : H a = some (.ins C dx fs)) (cl : Cls K C) (ha : PySem.W.findIn K (.ref C) "__class__" = some (some (.builtin "object.__class__")))
      (hn : PySem.W.specialIn K (.builtin "object.__class__") "__get__" = some (some (.builtin "getset_descriptor.__get__"))) (htk : PySem.W.takesIn K (.builtin "object.__class__") = some true)
      (hm : PySem.W.mroIn K C (.type "object") = some true) : TyOf K H (.ref a) (.ref C)
theorem isinst_ok {x : V} {u t : Value} (I : Inv X pins σ H s) (rx : RelV x u) (ty : TyOf X.K H x t) (e : PySem.W.kitOne X.K t c = some b) (h : ∀ tk, Q (.bool b) { s with toks := tk }) :
    wpAny (model X.prog X.w) A (call (.builtin "isinstance") [u, c]) Q E s := by
  cases ty with
  | non => cases (show u = Value.none from rx); exact PySem.W.kia_one PySem.W.kitx_none I.kIn True.intro e (fun z => nomatch z) h
  | bl y => cases (show u = Value.bool y from rx); exact PySem.W.kia_one PySem.W.kitx_bool I.kIn True.intro e (fun z => nomatch z) h
  | int i => obtain ⟨t, q⟩ := (show ∃ t, u = Value.int i t from rx); cases q; exact PySem.W.kia_one PySem.W.kitx_int I.kIn True.intro e (fun z => nomatch z) h
  | str y => obtain ⟨t, q⟩ := (show ∃ t, u = Value.str y t from rx); cases q; exact PySem.W.kia_one PySem.W.kitx_str I.kIn True.intro e (fun z => nomatch z) h
  | flt y => obtain ⟨t, q⟩ := (show ∃ t, u = Value.float y t from rx); cases q; exact PySem.W.kia_one PySem.W.kitx_float I.kIn True.intro e (fun z => nomatch z) h
  | @lst a xs ea =>
    cases (show u = Value.ref a from rx)
    obtain ⟨_, _, n, _, h1⟩ := (show ObjOk X.prog X.w H s.heap a (.lst xs) from I.hok a _ ea)
    exact PySem.W.kia_one PySem.W.kitx_list I.kIn ⟨_, h1, rfl⟩ e (fun z => nomatch z) h
  | @frz a ob xs ea =>
    cases (show u = Value.ref a from rx)
    obtain ⟨_, _, _, n, _, h1⟩ := (show ObjOk X.prog X.w H s.heap a (.frz ob (.lst xs)) from I.hok a _ ea)
    exact PySem.W.kia_one PySem.W.kitx_list I.kIn ⟨_, h1, rfl⟩ e (fun z => nomatch z) h
  | @tup a xs ea =>
    cases (show u = Value.ref a from rx)
    obtain ⟨_, _, _, p⟩ := (show ObjOk X.prog X.w H s.heap a (.tup xs) from I.hok a _ ea)
    obtain ⟨o, h1, h2, _⟩ := p
    exact PySem.W.kia_one PySem.W.kitx_tuple I.kIn ⟨o, h1, h2⟩ e (fun z => nomatch z) h
  | @dK a kvs ea =>
    cases (show u = Value.ref a from rx)
    obtain ⟨_, _, vs, _, p⟩ := (show ObjOk X.prog X.w H s.heap a (.dK kvs) from I.hok a _ ea)
    obtain ⟨o, es, ep, h1, h2, _⟩ := p
    exact PySem.W.kia_one PySem.W.kitx_dict I.kIn ⟨o, h1, h2.1⟩ e (fun z => nomatch z) h
  | @dT a kvs ea =>
    cases (show u = Value.ref a from rx)
    obtain ⟨_, _, xs, _, o, es, ep, h1, h2, _⟩ := (show ObjOk X.prog X.w H s.heap a (.dT kvs) from I.hok a _ ea)
    exact PySem.W.kia_one PySem.W.kitx_dict I.kIn ⟨o, h1, h2.1⟩ e (fun z => nomatch z) h
  | @ins a C dx fs ea cl ha hn htk hm =>
    cases (show u = Value.ref a from rx)
    obtain ⟨mA, O, _⟩ := ins_get I.hok ea
    obtain ⟨od, J, _⟩ := O.look
    exact PySem.W.kia_one (PySem.W.kitx_own (cl.get _) cl.hd ha hn htk hm) I.kIn J e (fun z => nomatch z) h
end
end L2
namespace L2
open PySem PySem.Spec PyProof.Rows
structure Room (k : Nat) (A : Around) : Prop where
  hd : A.handled = none
  dp : A.depth + 3 * k + 5 < recursionLimit
  un : A.units + 16 * k + 200 < cLine
theorem Room.mono {j k : Nat} {A : Around} (r : Room k A) (h : j ≤ k) : Room j A := ⟨r.hd, by have := r.dp; omega, by have := r.un; omega⟩
theorem Room.deeper {k : Nat} {A : Around} (r : Room (k + 1) A) (env : Env) : Room k (A.deeper env) :=
  ⟨r.hd, by have := r.dp; show A.depth + 1 + 3 * k + 5 < _; omega, by have := r.un; show A.units + 3 + 16 * k + 200 < _; omega⟩
theorem Room.in1 {k : Nat} {A : Around} (r : Room (k + 1) A) : Room k A.in1 :=
  ⟨r.hd, by have := r.dp; show A.depth + 3 * k + 5 < _; omega, by have := r.un; show A.units + 1 + 16 * k + 200 < _; omega⟩
theorem make_depth {A : Around} {C : Addr} {us : List Value} {kw : List (Str × Value)} : (A.under (.builtin "type.__call__" ⟨.ref C :: us, kw⟩)).depth = A.depth + 1 := by
  first | rfl | simp [Around.under, Code.weight, Code.isCreation, Code.isGuard, Code.isCaller, Code.frames, Code.isFrame, guardIds]
theorem make_units {A : Around} {C : Addr} {us : List Value} {kw : List (Str × Value)} : (A.under (.builtin "type.__call__" ⟨.ref C :: us, kw⟩)).units = A.units + 1 := by
  first | rfl | simp [Around.under, Code.cUnits, Code.frames, Code.isFrame]
theorem Room.make {k : Nat} {A : Around} (r : Room (k + 1) A) (C : Addr) (us : List Value) (kw : List (Str × Value)) : Room k (A.under (.builtin "type.__call__" ⟨.ref C :: us, kw⟩)) :=
  ⟨r.hd, by have := r.dp; rw [make_depth]; omega, by have := r.un; rw [make_units]; omega⟩
theorem Room.depth {k : Nat} {A : Around} (r : Room k A) : A.depth < recursionLimit := by have := r.dp; omega
theorem Room.units {k : Nat} {A : Around} (r : Room k A) : A.units + 64 < cLine := by have := r.un; omega
def tNil : TA := fun _ H Q => Q [] H
def tCons (ta : TE) (tr : TA) : TA := fun σ H Q => ta σ H fun x H1 => tr σ H1 fun xs H2 => Q (x :: xs) H2
section
variable {X : Cx} {e : Expr} {es : List Expr} {te : TE} {t : TA} {pos : Pos}
theorem pa_nil : PA X [] tNil := fun _ _ _ _ H Q I h => Calls.spliced_nil ⟨[], H, I, .nil, h⟩
theorem pa_cons (ha : PE X e te) (hr : PA X es t) (hs : starEach (e :: es) X.env = (false, eval e X.env) :: starEach es X.env := by rfl) : PA X (e :: es) (tCons te t) := by
  intro pos pins s σ H Q I h
  rw [hs]
  show wpAny _ _ (spliced ((false, eval e X.env) :: backTo pos (starEach es X.env))) _ _ s
  refine Calls.spliced_cons (thn (ha pins s σ H _ I h) fun u s1 ⟨x, H1, I1, r1, q1⟩ => ?_)
  exact thn (hr pos pins s1 σ H1 _ I1 q1) fun us s2 ⟨xs, H2, I2, r2, q2⟩ => ⟨x :: xs, H2, I2, .cons r1 r2, q2⟩
def tTup (t : TA) : TE := fun σ H Q => t σ H fun xs H1 => xs.length ≤ sizeLine ∧ ∀ p, H1 p = none → Q (.ref p) (upd H1 p (.tup xs))
def tLst (t : TA) : TE := fun σ H Q => t σ H fun xs H1 => xs.length ≤ sizeLine ∧ ∀ p, H1 p = none → Q (.ref p) (upd H1 p (.lst xs))
theorem pe_tup {x1} (h : PA X es t) : PE X (.Tuple es x1 pos) (tTup t) := by
  intro pins s σ H Q I hq
  refine wpAny_Tuple_spliced (thn (h pos pins s σ H _ I hq) fun us s1 ⟨xs, H1, I1, r, z, q⟩ => ⟨by rw [← r.length]; exact z, ?_⟩)
  have hf : H1 s1.heap.objs.size = none := I1.hok.fresh (Nat.le_refl _)
  refine ⟨.ref s1.heap.objs.size, upd H1 s1.heap.objs.size (.tup xs), I1.laid (t' := s1.toks) (fun b u e => Heap.get?_push_of_some _ e) (Nat.le_refl _) ?_, rfl, q _ hf⟩
  exact ⟨z, us, r, ⟨_, Heap.get?_push_size _ rfl, rfl, _, rfl⟩⟩
theorem pe_lst (h : PA X es t) : PE X (.List es pos) (tLst t) := by
  intro pins s σ H Q I hq
  refine wpAny_List_spliced (thn (h pos pins s σ H _ I hq) fun us s1 ⟨xs, H1, I1, r, z, q⟩ => ⟨by rw [← r.length]; exact z, ?_⟩)
  have hf : H1 s1.heap.objs.size = none := I1.hok.fresh (Nat.le_refl _)
  refine ⟨.ref s1.heap.objs.size, upd H1 s1.heap.objs.size (.lst xs), I1.laid (t' := s1.toks) (fun b u e => Heap.get?_push_of_some _ e) (Nat.le_refl _) ?_, rfl, q _ hf⟩
  exact ⟨z, us, 0, r, Heap.get?_push_size _ rfl⟩
end
abbrev Sp := List V → Hp → VK → XK → Prop
abbrev CXT := List Env → Hp → Shared → XK → Value → Shared → Prop
structure Env0 (P : Program) (w : World) (K : PySem.W.Frag) (mg : Str → Option Value) (base : Heap) (A : Around) (outer : List Env) (s : Shared) (H : Hp) : Prop where
  frames : A.frames = some outer
  mod : Mod K mg base
  bs : ∀ b o, base.get? b = some o → s.heap.get? b = some o ∧ H b = none
  bsz : base.objs.size ≤ s.heap.objs.size
  funs : s.heap.FunFrames base outer
  frf : ∀ b ∈ frs outer, H b = none
  hok : HOk P w H s.heap
  bare : AllBare s.gens
def CE (outer : List Env) (P : Program) (w : World) (H : Hp) (s : Shared) (Q : VK) (u : Value) (s' : Shared) : Prop :=
  ∃ v H', s'.os = s.os ∧ AllBare s'.gens ∧ Un (frs outer) [] H H' s.heap s'.heap ∧ HOk P w H' s'.heap ∧ RelV v u ∧ Q v H'
def CR (CX : CXT) (outer : List Env) (P : Program) (w : World) (H : Hp) (s : Shared) (Q : VK) (E : XK) (r : Result) (s' : Shared) : Prop :=
  match r with
  | .ok (.ret u) => CE outer P w H s Q u s'
  | .ok _ => False
  | .error e => CX outer H s E e s'
structure FnOk (P : Program) (w : World) (K : PySem.W.Frag) (mg : Str → Option Value) (base : Heap) (CX : CXT) (k : Nat) (f : Addr) (fd : FuncData) (ps : List Str) (sp : Sp) : Prop where
  len : ∀ vs H Q E, sp vs H Q E → vs.length = ps.length
  run : ∀ (A : Around) (outer : List Env) (s : Shared) (H : Hp) (args : Args) (us : List Value) (vs : List V) (Q : VK) (E : XK), Room k A → Env0 P w K mg base A outer s H → BindsTo s fd args (ps.zip us) → Vals vs us → sp vs H Q E →
    codeAny (model P w) A (.call (.ref f) args) (CR CX outer P w H s Q E) s
theorem FnOk.mono {P : Program} {w : World} {K : PySem.W.Frag} {mg : Str → Option Value} {base : Heap} {CX : CXT} {j k : Nat} {f : Addr} {fd : FuncData} {ps : List Str} {sp : Sp} (F : FnOk P w K mg base CX j f fd ps sp) (h : j ≤ k) :
    FnOk P w K mg base CX k f fd ps sp := ⟨F.len, fun A outer s H args us vs Q E hr => F.run A outer s H args us vs Q E (hr.mono h)⟩
theorem FnOk.imp {P : Program} {w : World} {K : PySem.W.Frag} {mg : Str → Option Value} {base : Heap} {CX : CXT} {k : Nat} {f : Addr} {fd : FuncData} {ps : List Str} {sp sp' : Sp} (F : FnOk P w K mg base CX k f fd ps sp)
    (h : ∀ vs H Q E, sp' vs H Q E → sp vs H Q E) : FnOk P w K mg base CX k f fd ps sp' :=
  ⟨fun vs H Q E q => F.len vs H Q E (h _ _ _ _ q), fun A outer s H args us vs Q E hr he hb hv hs => F.run A outer s H args us vs Q E hr he hb hv (h _ _ _ _ hs)⟩
theorem Env0.make {P : Program} {w : World} {K : PySem.W.Frag} {mg : Str → Option Value} {base : Heap} {A : Around} {outer : List Env} {s : Shared} {H : Hp} (e : Env0 P w K mg base A outer s H) (C : Addr) (us : List Value) (kw : List (Str × Value)) :
    Env0 P w K mg base (A.under (.builtin "type.__call__" ⟨.ref C :: us, kw⟩)) outer s H := ⟨by first | exact e.frames | (simpa [Around.under, Code.envs, Code.isFrame, pushEnvs] using e.frames), e.mod, e.bs, e.bsz, e.funs, e.frf, e.hok, e.bare⟩
theorem Env0.in1 {P : Program} {w : World} {K : PySem.W.Frag} {mg : Str → Option Value} {base : Heap} {A : Around} {outer : List Env} {s : Shared} {H : Hp} (e : Env0 P w K mg base A outer s H) :
    Env0 P w K mg base A.in1 outer s H := ⟨e.frames, e.mod, e.bs, e.bsz, e.funs, e.frf, e.hok, e.bare⟩
section
variable {X : Cx} {pins : List (Addr × Obj)} {σ : St} {H : Hp} {s s' : Shared}
theorem Inv.env0 (I : Inv X pins σ H s) : Env0 X.prog X.w X.K X.mg X.base X.A X.stack s H :=
  ⟨I.ok.frames, I.ok.mod, I.bs, Nat.le_trans I.ok.bsz I.sz, I.stack, I.stkFree, I.hok, I.bare⟩
theorem Inv.after {Q : VK} {u : Value} (I : Inv X pins σ H s) (h : CE X.stack X.prog X.w H s Q u s') : EP X pins σ Q u s' := by
  obtain ⟨v, H', os, bare, un, hok, r, q⟩ := h
  obtain ⟨hh, g, d, t, os'⟩ := s'
  obtain rfl : os' = s.os := os
  exact ⟨v, H', I.call (h' := hh) (g' := g) (d' := d) (t' := t) (ch := []) un hok bare (fun b z => absurd z (by simp)), r, q⟩
end
def tCall (sp : Sp) (dvs : List V) (E : XK) (t : TA) : TE := fun σ H Q => t σ H fun vs H1 => sp (vs ++ dvs) H1 Q E
def tMeth (C : Addr) (m : Str) (sp : Sp) (dvs : List V) (E : XK) (ta : TE) (t : TA) : TE := fun σ H Q => ta σ H fun x H1 => ∃ a dx fs, x = .ref a ∧ H1 a = some (.ins C dx fs) ∧ fs.lookup m = none ∧
  t σ H1 fun vs H2 => sp (x :: (vs ++ dvs)) H2 Q E
def tMake (C : Addr) (sp : Sp) (dvs : List V) (E : XK) (t : TA) : TE := fun σ H Q => t σ H fun vs H1 => ∀ x dx, H1 x = none → H1 dx = none → dx ≠ x →
  sp (.ref x :: (vs ++ dvs)) (upd (upd H1 dx (.own x)) x (.ins C dx [])) (fun v H2 => v = .non ∧ Q (.ref x) H2) E
def Binds (K : PySem.W.Frag) (fd : FuncData) (ps : List Str) (ds : List Value) : Prop :=
  ∀ (s : Shared) (us : List Value), K.In s.heap → (us ++ ds).length = ps.length → BindsTo s fd ⟨us, []⟩ (ps.zip (us ++ ds))
theorem Binds.all {K : PySem.W.Frag} {fd : FuncData} {ps : List Str} (h : ∀ us : List Value, us.length = ps.length → bindArgs fd ⟨us, []⟩ = pure (ps.zip us)) : Binds K fd ps [] := fun s us _ hl => by
  rw [List.append_nil] at hl ⊢
  exact .of_eq (h us hl)
def Passes (CX : CXT) (X : Cx) (E : XK) : Prop := ∀ (pins : List (Addr × Obj)) (σ : St) (H : Hp) (s : Shared) (e : Value) (s' : Shared), Inv X pins σ H s → CX X.stack H s E e s' → X.xe e s'
section
variable {X : Cx} {CX : CXT} {k : Nat} {f C : Addr} {fd : FuncData} {ps : List Str} {sp : Sp} {dvs : List V} {ds : List Value} {E : XK} {x m : Str} {p pos apos : Pos} {e o : Expr} {es : List Expr} {ta : TE} {t : TA}
theorem run_fn {pins : List (Addr × Obj)} {σ : St} {H : Hp} {s : Shared} {Q : VK} {us : List Value} {vs : List V} (F : FnOk X.prog X.w X.K X.mg X.base CX k f fd ps sp) (hr : Room k X.A) (hb : Binds X.K fd ps ds) (hd : Vals dvs ds) (hx : Passes CX X E)
    (I : Inv X pins σ H s) (r : Vals vs us) (h : sp (vs ++ dvs) H Q E) : wpAny (model X.prog X.w) X.A (call (.ref f) us) (EP X pins σ Q) X.xe s := by
  have r2 : Vals (vs ++ dvs) (us ++ ds) := r.append hd
  have hl : (us ++ ds).length = ps.length := by rw [← r2.length]; exact F.len _ _ _ _ h
  refine wpAny_call (codeAny_mono (F.run X.A X.stack s H ⟨us, []⟩ (us ++ ds) (vs ++ dvs) Q E hr I.env0 (hb s us I.kIn hl) r2 h) fun r s' hq => ?_)
  cases r with
  | error e => exact hx pins σ H s e s' I hq
  | ok fl =>
    cases fl with
    | ret u => exact I.after hq
    | next => exact False.elim hq
    | brk => exact False.elim hq
    | cont => exact False.elim hq
theorem pe_call (F : FnOk X.prog X.w X.K X.mg X.base CX k f fd ps sp) (hr : Room k X.A) (hg : Gl X x) (hm : X.mg x = some (.ref f)) (hk : PySem.W.keepIn X.K (.ref f) = true) (hb : Binds X.K fd ps ds) (hd : Vals dvs ds) (hx : Passes CX X E)
    (ha : PA X (e :: es) t) (hdb : (x == ("__debug__" : Str)) = false := by decide) (he : starEach (e :: es) X.env = (false, eval e X.env) :: starEach es X.env := by rfl) (hpl : (backTo pos (starEach es X.env)).any (·.1) = false := by rfl) :
    PE X (.Call (.Name x p) (e :: es) [] pos) (tCall sp dvs E t) := by
  intro pins s σ H Q I h
  refine wpAny_Call_Name_kw (ld_glob I hg hm ?_ hdb)
  refine PySem.W.callWith_K (h₀ := X.base) I.ok.mod.kin hk (thn (ha pos pins s σ H _ I h) fun us s1 ⟨vs, H1, I1, r, q⟩ => ⟨I1.kIn, ?_⟩) he hpl
  exact run_fn F hr hb hd hx I1 r q
theorem pe_meth {pl : Sem Bool} (he : PE X o ta) (c : Cls X.K C) (hm : Meth X.K C m f) (F : FnOk X.prog X.w X.K X.mg X.base CX k f fd ps sp) (hr : Room k X.A) (hb : Binds X.K fd ps ds) (hd : Vals dvs ds) (hx : Passes CX X E) (ha : PA X (e :: es) t)
    (hst : starEach (e :: es) X.env = (false, eval e X.env) :: starEach es X.env := by rfl) (hpl : (backTo pos (starEach es X.env)).any (·.1) = false := by rfl)
    (ht : eval (.Call (.Attribute o m apos) (e :: es) [] pos) X.env = (do
      let ov ← eval o X.env
      standAt apos.atName
      let (f, first) ← holding [ov] (getMethod ov m pl)
      callWith pos f first (backTo pos (starEach (e :: es) X.env)) (backToKw pos (keywordEach [] X.env))) := by rfl) :
    PE X (.Call (.Attribute o m apos) (e :: es) [] pos) (tMeth C m sp dvs E ta t) := by
  intro pins s σ H Q I h
  refine PySem.W.methodCall_KW (pl := pl) (thn (he pins s σ H _ I h) fun u s1 ⟨x, H1, I1, rx, a, dx, fs, ex, ea, l, q⟩ => ?_) ht
  subst ex
  obtain rfl : u = Value.ref a := rx
  refine getmeth_ok I1 ea c hm l ?_
  refine PySem.W.callWith_K (first := [.ref a]) (h₀ := X.base) I.ok.mod.kin hm.kp (thn (ha pos pins s1 σ H1 _ I1 q) fun us s2 ⟨vs, H2, I2, r, q2⟩ => ⟨I2.kIn, ?_⟩) hst hpl
  exact run_fn (us := .ref a :: us) (vs := .ref a :: vs) F hr hb hd hx I2 (.cons rfl r) q2
theorem pe_meth0 {pl : Sem Bool} (he : PE X o ta) (c : Cls X.K C) (hm : Meth X.K C m f) (F : FnOk X.prog X.w X.K X.mg X.base CX k f fd ps sp) (hr : Room k X.A) (hb : Binds X.K fd ps ds) (hd : Vals dvs ds) (hx : Passes CX X E)
    (ht : eval (.Call (.Attribute o m apos) [] [] pos) X.env = (do
      let ov ← eval o X.env
      standAt apos.atName
      let (f, first) ← holding [ov] (getMethod ov m pl)
      callWith pos f first (backTo pos (starEach [] X.env)) (backToKw pos (keywordEach [] X.env))) := by rfl) :
    PE X (.Call (.Attribute o m apos) [] [] pos) (tMeth C m sp dvs E ta tNil) := by
  intro pins s σ H Q I h
  refine PySem.W.methodCall_KW (pl := pl) (thn (he pins s σ H _ I h) fun u s1 ⟨x, H1, I1, rx, a, dx, fs, ex, ea, l, q⟩ => ?_) ht
  subst ex
  obtain rfl : u = Value.ref a := rx
  refine getmeth_ok I1 ea c hm l ?_
  exact PySem.W.callWith_K0 (first := [.ref a]) I1.kIn hm.kp (run_fn (us := [.ref a]) (vs := [.ref a]) F hr hb hd hx I1 (.cons rfl .nil) q)
structure Mk (K : PySem.W.Frag) (C f : Addr) : Prop where
  makes : PySem.W.makesIn K C = true
  init : PySem.W.findIn K (.ref C) "__init__" = some (some (.ref f))
  fn : PySem.W.isFn K (.ref f) = true
  kp : PySem.W.keepIn K (.ref C) = true
theorem run_make {pins : List (Addr × Obj)} {σ : St} {H : Hp} {s : Shared} {Q : VK} {us : List Value} {vs : List V} (M : Mk X.K C f) (F : FnOk X.prog X.w X.K X.mg X.base CX k f fd ps sp) (hr : Room (k + 1) X.A) (hb : Binds X.K fd ps ds) (hd : Vals dvs ds)
    (hx : Passes CX X E) (I : Inv X pins σ H s) (r : Vals vs us)
    (h : ∀ x dx, H x = none → H dx = none → dx ≠ x → sp (.ref x :: (vs ++ dvs)) (upd (upd H dx (.own x)) x (.ins C dx [])) (fun v H2 => v = .non ∧ Q (.ref x) H2) E) :
    wpAny (model X.prog X.w) X.A (call (.ref C) us) (EP X pins σ Q) X.xe s := by
  have hq := h (s.heap.objs.size + 1) s.heap.objs.size (I.hok.fresh (Nat.le_succ _)) (I.hok.fresh (Nat.le_refl _)) (Nat.ne_of_lt (Nat.lt_succ_self _))
  have I2 := Inv.made (C := C) I
  have r2 : Vals (V.ref (s.heap.objs.size + 1) :: (vs ++ dvs)) (Value.ref (s.heap.objs.size + 1) :: (us ++ ds)) := .cons rfl (r.append hd)
  have hl : (Value.ref (s.heap.objs.size + 1) :: us ++ ds).length = ps.length := by
    have e := r2.length
    rw [F.len _ _ _ _ hq] at e
    exact e.symm
  refine wpAny_call (make_map (f := f) I.kIn M.makes M.init (beq_iff_eq.mp M.fn) (codeAny_mono (F.run _ X.stack _ _ ⟨Value.ref (s.heap.objs.size + 1) :: us, []⟩ (Value.ref (s.heap.objs.size + 1) :: (us ++ ds)) _ _ E (hr.make C us [])
    (I2.env0.make C us []) (hb _ (Value.ref (s.heap.objs.size + 1) :: us) I2.kIn hl) r2 hq) fun r s' hq' => ?_))
  cases r with
  | error e => exact hx pins σ _ _ e s' I2 hq'
  | ok fl =>
    cases fl with
    | ret u =>
      obtain ⟨v, H', I3, rv, ev, q3⟩ := I2.after hq'
      subst ev
      exact ⟨rv, ⟨V.ref (s.heap.objs.size + 1), H', I3, rfl, q3⟩⟩
    | next => exact False.elim hq'
    | brk => exact False.elim hq'
    | cont => exact False.elim hq'
theorem pe_make (M : Mk X.K C f) (F : FnOk X.prog X.w X.K X.mg X.base CX k f fd ps sp) (hr : Room (k + 1) X.A) (hg : Gl X x) (hm : X.mg x = some (.ref C)) (hb : Binds X.K fd ps ds) (hd : Vals dvs ds) (hx : Passes CX X E)
    (ha : PA X (e :: es) t) (hdb : (x == ("__debug__" : Str)) = false := by decide) (he : starEach (e :: es) X.env = (false, eval e X.env) :: starEach es X.env := by rfl) (hpl : (backTo pos (starEach es X.env)).any (·.1) = false := by rfl) :
    PE X (.Call (.Name x p) (e :: es) [] pos) (tMake C sp dvs E t) := by
  intro pins s σ H Q I h
  refine wpAny_Call_Name_kw (ld_glob I hg hm ?_ hdb)
  refine PySem.W.callWith_K (h₀ := X.base) I.ok.mod.kin M.kp (thn (ha pos pins s σ H _ I h) fun us s1 ⟨vs, H1, I1, r, q⟩ => ⟨I1.kIn, ?_⟩) he hpl
  exact run_make M F hr hb hd hx I1 r q
end
section
variable {X : Cx} {CX : CXT} {k : Nat} {f C : Addr} {fd : FuncData} {ps ks : List Str} {sp : Sp} {E : XK} {x m : Str} {p pos apos kpos : Pos} {e o : Expr} {es : List Expr} {kws : List Keyword} {te ta : TE} {t tk : TA} {nm : Option Str}
variable {g : List Value → List Value → List Value} {gV : List V → List V → List V}
end
structure FnScope (N P : List Str) (sc : Scope) : Prop where
  kind : sc.kind = .function
  co : sc.isCoroutine = false
  gen : sc.isGenerator = false
  nd : N.Nodup
  pre : N.take P.length = P
  par : ∀ x ∈ P, sc.names.lookup x = some .local ∨ sc.names.lookup x = some .cell
  nofree : ∀ y ∈ sc.names, y.2 ≠ .free
theorem bindL_out {kindOf : Str → Option NameKind} {x : Str} : ∀ {binds : List (Str × Value)} {m : Str → Option Value}, (∀ v, (x, v) ∉ binds) → bindL kindOf binds m x = m x
  | [], _, _ => rfl
  | (n, v) :: r, m, h => by
    unfold bindL
    rw [bindL_out fun w hw => h w (List.mem_cons_of_mem _ hw)]
    split
    · have : x ≠ n := by rintro rfl; exact h v List.mem_cons_self
      simp [this]
    · rfl
theorem bindC_out {kindOf : Str → Option NameKind} {x : Str} : ∀ {binds : List (Str × Value)} {m : Str → Option Value}, (∀ v, (x, v) ∉ binds) → bindC kindOf binds m x = m x
  | [], _, _ => rfl
  | (n, v) :: r, m, h => by
    unfold bindC
    rw [bindC_out fun w hw => h w (List.mem_cons_of_mem _ hw)]
    split
    · rfl
    · have : x ≠ n := by rintro rfl; exact h v List.mem_cons_self
      simp [this]
theorem bindL_get {kindOf : Str → Option NameKind} {x : Str} {v : Value} : ∀ {P : List Str} {vs : List Value} {i : Nat} {m : Str → Option Value}, P.Nodup → P[i]? = some x → vs[i]? = some v → kindOf x = some .local →
    bindL kindOf (P.zip vs) m x = some v
  | [], _, _, _, _, h, _, _ => by simp at h
  | _ :: _, [], _, _, _, _, h, _ => by simp at h
  | p :: P, w :: vs, 0, m, nd, h1, h2, hk => by
    simp at h1 h2; subst h1; subst h2
    show bindL kindOf ((p, w) :: P.zip vs) m p = _
    unfold bindL
    rw [bindL_out fun v hv => (List.nodup_cons.mp nd).1 (List.of_mem_zip hv).1, if_pos hk]
    simp
  | p :: P, w :: vs, i + 1, m, nd, h1, h2, hk => by
    show bindL kindOf ((p, w) :: P.zip vs) m x = _
    unfold bindL
    exact bindL_get (i := i) (List.nodup_cons.mp nd).2 (by simpa using h1) (by simpa using h2) hk
theorem bindC_get {kindOf : Str → Option NameKind} {x : Str} {v : Value} : ∀ {P : List Str} {vs : List Value} {i : Nat} {m : Str → Option Value}, P.Nodup → P[i]? = some x → vs[i]? = some v → kindOf x ≠ some .local →
    bindC kindOf (P.zip vs) m x = some v
  | [], _, _, _, _, h, _, _ => by simp at h
  | _ :: _, [], _, _, _, _, h, _ => by simp at h
  | p :: P, w :: vs, 0, m, nd, h1, h2, hk => by
    simp at h1 h2; subst h1; subst h2
    show bindC kindOf ((p, w) :: P.zip vs) m p = _
    unfold bindC
    rw [bindC_out fun v hv => (List.nodup_cons.mp nd).1 (List.of_mem_zip hv).1, if_neg hk]
    simp
  | p :: P, w :: vs, i + 1, m, nd, h1, h2, hk => by
    show bindC kindOf ((p, w) :: P.zip vs) m x = _
    unfold bindC
    exact bindC_get (i := i) (List.nodup_cons.mp nd).2 (by simpa using h1) (by simpa using h2) hk
def start (N : List Str) (vs : List V) : St := vs.map some ++ List.replicate (N.length - vs.length) none
def cxOf (CX : CXT) (P : Program) (w : World) (K : PySem.W.Frag) (mg : Str → Option Value) (base : Heap) (N : List Str) (qual : Str) (scope : Scope) (f : Addr) (cd : Value) (A : Around) (outer : List Env) (s : Shared) (H : Hp) (E : XK) : Cx where
  prog := P
  w := w
  K := K
  mg := mg
  base := base
  A := A.deeper (envOfC qual scope s.heap.objs.size f cd)
  N := N
  s₀ := s
  H₀ := H
  env := envOfC qual scope s.heap.objs.size f cd
  outer := outer
  stack := envOfC qual scope s.heap.objs.size f cd :: outer
  ex := []
  calm := true
  fn := fun _ => true
  pn := []
  xe := fun e s' => wpAny (model P w) (A.deeper (envOfC qual scope s.heap.objs.size f cd)) (leaving (envOfC qual scope s.heap.objs.size f cd) e) (fun _ s'' => CX outer H s E e s'') (fun e' s'' => CX outer H s E e' s'') s'
theorem cell_has {sc : Scope} {n : Nat} {x : Str} (h : sc.names.lookup x = some .cell) : ∃ c, (cellsFrom n sc.names []).lookup x = some c := by
  have q := PySem.W.cellsFrom_some sc.names n [] (.inl h)
  exact Option.isSome_iff_exists.mp q
theorem inv_start {CX : CXT} {P : Program} {w : World} {K : PySem.W.Frag} {mg : Str → Option Value} {base : Heap} {N ps : List Str} {qual : Str} {scope : Scope} {f : Addr} {cd : Value} {A : Around} {outer : List Env} {s s1 : Shared} {H : Hp} {E : XK} {us : List Value} {vs : List V}
    (S : FnScope N ps scope) (hd : A.handled = none) (e0 : Env0 P w K mg base A outer s H) (hl : vs.length = ps.length) (r : Vals vs us)
    (x : InCallC s s.heap.objs.size (bindL (envOfC qual scope s.heap.objs.size f cd).kindOf (ps.zip us) fun _ => none) (cellsFrom (s.heap.objs.size + 1) scope.names []) (bindC (envOfC qual scope s.heap.objs.size f cd).kindOf (ps.zip us) fun _ => none) s1) :
    Inv (cxOf CX P w K mg base N qual scope f cd A outer s H E) [] (start N vs) H s1 := by
  have hpl : ps.length ≤ N.length := by have := congrArg List.length S.pre; rw [List.length_take] at this; omega
  obtain ⟨h1, tk, rfl, hk⟩ := x.done
  have noA : ∀ b : Addr, b ∉ (cxOf CX P w K mg base N qual scope f cd A outer s H E).ex := fun b z => absurd (show b ∈ ([] : List Addr) from z) (by simp)
  refine ⟨⟨e0.mod, S.kind, rfl, rfl, Nat.le_refl _, fun y z c h1 h2 => ?_, fun y hy => ?_, fun y c _ h => ?_, fun _ => hd, Around.frames_deeper e0.frames, .inr ⟨rfl, rfl⟩, fun b z => absurd z (noA b), e0.bs, e0.bsz, fun b _ _ => noA b, fun b z => absurd z (noA b), e0.funs, e0.frf⟩,
    rfl, e0.bare, Un.kept hk, ⟨_, x.toInCall.ns, fun i y v h1 h2 h3 => ?_⟩, fun y c h => ⟨_, x.cell y c h⟩, e0.hok.fresh (Nat.le_refl _), fun y c h => ?_, fun p hp => absurd (show p ∈ ([] : List (Addr × Obj)) from hp) (by simp), e0.hok.kept hk, ?_⟩
  · exact name_of_addr x.apart (PySem.mem_of_lookup h1) (PySem.mem_of_lookup h2)
  · have hy : scope.names.lookup y = some .cell ∨ scope.names.lookup y = some .free := hy
    rcases hy with hy | hy
    · exact cell_has hy
    · exact absurd rfl (S.nofree _ (PySem.mem_of_lookup hy))
  · exact Nat.le_of_lt (x.above y c (PySem.mem_of_lookup h))
  · have hi : i < vs.length := by
      unfold start at h2
      by_cases hi : i < vs.length
      · exact hi
      · rw [List.getElem?_append_right (by simpa using hi)] at h2
        rw [List.getElem?_replicate] at h2
        split at h2 <;> cases h2
    have ha : vs[i]? = some v := by
      unfold start at h2
      rw [List.getElem?_append_left (by simpa using hi), List.getElem?_map] at h2
      cases e : vs[i]? with
      | none => rw [e] at h2; cases h2
      | some a => rw [e] at h2; cases h2; rfl
    obtain ⟨u, hu, rv⟩ := r.get ha
    have hp : ps[i]? = some y := by
      rw [← S.pre, List.getElem?_take_of_lt (by omega)]; exact h1
    have ndP : ps.Nodup := by rw [← S.pre]; exact S.nd.sublist (List.take_sublist _ _)
    refine ⟨u, rv, ?_⟩
    rcases S.par y (List.mem_of_getElem? hp) with k | k
    · exact .inl ⟨k, bindL_get ndP hp hu k⟩
    · obtain ⟨c, e⟩ := cell_has (n := s.heap.objs.size + 1) k
      refine .inr ⟨.inl k, c, e, ?_⟩
      have q := x.cell y c e
      rw [bindC_get ndP hp hu (by show scope.names.lookup y ≠ _; rw [k]; decide)] at q
      exact q
  · exact e0.hok.fresh (Nat.le_of_lt (x.above y c (PySem.mem_of_lookup h)))
  · unfold start
    show _ = N.length
    rw [List.length_append, List.length_map, List.length_replicate]
    omega
theorem fn_of {CX : CXT} {P : Program} {w : World} {K : PySem.W.Frag} {mg : Str → Option Value} {base : Heap} {k : Nat} {f : Addr} {name qual : Str} {params : Arguments} {body : List Stmt} {scope : Scope} {dV kV doc pm cdv ct oc : Value} {an od : Option Addr}
    {osl : Array (Option Value)} {N ps : List Str} {sp : Sp} (lk : K.lookup f = some ⟨oc, od, .func (PySem.W.fnOf name qual params body scope dV kV doc pm an cdv ct), osl⟩) (hcd : PySem.W.codeIn K cdv qual = true) (S : FnScope N ps scope)
    (len : ∀ vs H Q E, sp vs H Q E → vs.length = ps.length)
    (hbody : ∀ (A : Around) (outer : List Env) (s : Shared) (H : Hp) (vs : List V) (Q : VK) (E : XK), Room k (A.deeper (envOfC qual scope s.heap.objs.size f cdv)) → sp vs H Q E →
      ∃ t, PSs (cxOf CX P w K mg base N qual scope f cdv A outer s H E) body t ∧ t { nx := fun _ H' => Q .non H', rt := Q } (start N vs) H) :
    FnOk P w K mg base CX (k + 1) f (PySem.W.fnOf name qual params body scope dV kV doc pm an cdv ct) ps sp := by
  refine ⟨len, fun A outer s H args us vs Q E hr e0 hb r hsp => ?_⟩
  have hl := len _ _ _ _ hsp
  have KX : K.In s.heap := e0.mod.kin.keeps fun b o e => (e0.bs b o e).1
  have lim : s.heap.NoLimit := e0.mod.nolimit.keeps fun b o e => (e0.bs b o e).1
  have hkind : ∀ y ∈ ps.zip us, scope.names.lookup y.1 = some .local ∨ (scope.names.lookup y.1 = some .cell ∧ ((cellsFrom (s.heap.objs.size + 1) scope.names []).lookup y.1).isSome = true) := fun ⟨n, v⟩ hy => by
    rcases S.par n (List.of_mem_zip hy).1 with q | q
    · exact .inl q
    · exact .inr ⟨q, PySem.W.cellsFrom_some _ _ _ (.inl q)⟩
  refine codeAny_call_function hr.depth (KX _ _ lk) rfl S.co S.gen rfl (PySem.W.codeRec_of KX hcd) (hb _ _ _ _ ?_)
  refine wpAny_newFunctionEnv_cells S.kind hkind fun env he s1 x => ?_
  subst he
  refine ⟨lim.keeps x.toInCall.keep, codeAny_func ?_⟩
  obtain ⟨t, ht, hq⟩ := hbody A outer s H vs Q E (hr.deeper _) hsp
  have I : Inv (cxOf CX P w K mg base N qual scope f cdv A outer s H E) [] (start N vs) H s1 := inv_start S hr.hd e0 hl r x
  refine wpAny_mono (ht [] s1 (start N vs) H _ I hq) (fun fl s' hs => ?_) fun e s' hs => hs
  have fin : ∀ {σ' : St} {H' : Hp} {v : V} {u : Value}, Inv (cxOf CX P w K mg base N qual scope f cdv A outer s H E) [] σ' H' s' → RelV v u → Q v H' → CE outer P w H s Q u s' :=
    fun {σ' H' v u} J rv q => ⟨v, H', J.os, J.bare, J.base, J.hok, rv, q⟩
  cases fl with
  | ret u =>
    obtain ⟨v, σ', H', J, rv, q⟩ := hs
    exact fin J rv q
  | next =>
    obtain ⟨σ', H', J, q⟩ := hs
    exact fin (v := V.non) (u := Value.none) J rfl q
  | brk =>
    obtain ⟨_, _, _, q⟩ := hs
    exact False.elim q
  | cont =>
    obtain ⟨_, _, _, q⟩ := hs
    exact False.elim q
end L2
namespace L2
open PySem PySem.Spec PyProof.Rows
section
variable {X : Cx} {x : Str} {p pos : Pos} {e : Expr} {es : List Expr} {t : TA} {id T : String} {r : List V → Hp → VK → Prop}
def tCB (r : List V → Hp → VK → Prop) (t : TA) : TE := fun σ H Q => t σ H fun vs H1 => r vs H1 Q
theorem pe_callB (hc : CallR X (.builtin id) r) (hg : Gl X x) (hm : X.mg x = none) (hv : bootBuiltins x = some (.builtin id)) (ha : PA X (e :: es) t) (hn : x ≠ "__name__" := by decide) (hdb : (x == ("__debug__" : Str)) = false := by decide)
    (he : starEach (e :: es) X.env = (false, eval e X.env) :: starEach es X.env := by rfl) (hpl : (backTo pos (starEach es X.env)).any (·.1) = false := by rfl) : PE X (.Call (.Name x p) (e :: es) [] pos) (tCB r t) := by
  intro pins s σ H Q I h
  refine wpAny_Call_Name_kw (ld_blt I hg hm hv ?_ hn hdb)
  exact PyProof.Rows.callWith_builtin1 (thn (ha pos pins s σ H _ I h) fun us s1 ⟨vs, H1, I1, r1, q1⟩ => hc pins s1 σ H1 vs us Q I1 r1 q1) he hpl
theorem pe_callTy (hc : CallR X (.type T) r) (hg : Gl X x) (hm : X.mg x = none) (hv : bootBuiltins x = some (.type T)) (ha : PA X (e :: es) t) (hn : x ≠ "__name__" := by decide) (hdb : (x == ("__debug__" : Str)) = false := by decide)
    (he : starEach (e :: es) X.env = (false, eval e X.env) :: starEach es X.env := by rfl) (hpl : (backTo pos (starEach es X.env)).any (·.1) = false := by rfl) : PE X (.Call (.Name x p) (e :: es) [] pos) (tCB r t) := by
  intro pins s σ H Q I h
  refine wpAny_Call_Name_kw (ld_blt I hg hm hv ?_ hn hdb)
  exact PyProof.Rows.callWith_type1 (thn (ha pos pins s σ H _ I h) fun us s1 ⟨vs, H1, I1, r1, q1⟩ => hc pins s1 σ H1 vs us Q I1 r1 q1) he hpl
end
end L2
namespace HT
open PySem PyProof.Rows
section
open PySem.SeqAt
open PySem.AutoSeq1 (wpAny_loadPart')
open PySem.MeetsSeq PySem.MeetsSeq2 PySem.MeetsSeq3
end
section
variable {prog : Program} {w : World} {A : Around} {E : Value → Shared → Prop} {s : Shared}
theorem cat_tup {t b : Addr} {vs ws : List Value} {Q : Value → Shared → Prop} (ht : IsTup s.heap t vs.toArray) (hb : IsTup s.heap b ws.toArray) (hv : vs ≠ [])
    (h1 : ws = [] → Q (.ref t) s) (h2 : ws ≠ [] → Q (.ref s.heap.objs.size) { s with heap := s.heap.push { cls := .type "tuple", data := .seq (vs ++ ws).toArray } })
    (hsz : vs.length + ws.length ≤ sizeLine) : wpAny (model prog w) A (binaryOp .Add (.ref t) (.ref b)) Q E s := by
  obtain ⟨⟨cls, dd, data, sl⟩, ho, hc, n, hd⟩ := id ht
  obtain ⟨⟨cls2, dd2, data2, sl2⟩, ho2, hc2, n2, hd2⟩ := id hb
  simp only at hc hd hc2 hd2
  subst hc hd hc2 hd2
  have e : vs.toArray ++ ws.toArray = (vs ++ ws).toArray := by simp
  by_cases hw : ws = []
  · exact concat_meets ⟨_, ho, rfl⟩ ⟨_, ho2, rfl⟩ noFill_tuple_add seq_tuple_add PySem.F.slot_tuple_add PySem.F.entry_tuple_add (PySem.F.args_tuple_add_2 _ _)
      (tuple_addW1 t b vs.toArray ws.toArray n n2 dd dd2 sl sl2 (by simpa using hv) (by simp [hw])) ⟨ho, ho2, h1 hw⟩
  · refine concat_meets ⟨_, ho, rfl⟩ ⟨_, ho2, rfl⟩ noFill_tuple_add seq_tuple_add PySem.F.slot_tuple_add PySem.F.entry_tuple_add (PySem.F.args_tuple_add_2 _ _)
      (tuple_addW2 t b vs.toArray ws.toArray n n2 dd dd2 sl sl2 (by simpa using hv) (by simpa using hw) (by rw [List.size_toArray, List.size_toArray]; exact hsz)) ⟨ho, ho2, ?_⟩
    rw [e]
    exact h2 hw
def sIx (n d : Nat) : Option Int → Nat
  | none => d
  | some v => if v < 0 then (v + (n : Int)).toNat else min v.toNat n
theorem sIx_none (n d : Nat) : sIx n d none = d := rfl
theorem sIx_nat (n d k : Nat) : sIx n d (some (k : Int)) = min k n := by
  show (if (k : Int) < 0 then ((k : Int) + (n : Int)).toNat else min (k : Int).toNat n) = min k n
  rw [if_neg (by omega), Int.toNat_natCast]
theorem sIx_le (n d : Nat) (hd : d ≤ n) (o : Option Int) : sIx n d o ≤ n := by
  cases o with
  | none => exact hd
  | some v =>
    show (if v < 0 then (v + (n : Int)).toNat else min v.toNat n) ≤ n
    by_cases hv : v < 0
    · rw [if_pos hv]; omega
    · rw [if_neg hv]; exact Nat.min_le_right _ _
theorem clip_eq (v : Int) (n d : Nat) : (if v < 0 then max (v + (n : Int)) 0 else min v (n : Int)) = ((sIx n d (some v) : Nat) : Int) := by
  show (if v < 0 then max (v + (n : Int)) 0 else min v (n : Int)) = (((if v < 0 then (v + (n : Int)).toNat else min v.toNat n) : Nat) : Int)
  by_cases hv : v < 0
  · simp only [if_pos hv]; omega
  · simp only [if_neg hv]; omega
theorem adjust_gen (lo hi : Option Int) (n : Nat) : Builtin.Slice.sliceAdjust lo hi 1 (n : Int) = (((sIx n 0 lo : Nat) : Int), ((sIx n n hi : Nat) : Int)) := by
  have h1 : ¬ ((1 : Int) < 0) := by omega
  unfold Builtin.Slice.sliceAdjust
  simp only [h1, if_false]
  refine Prod.ext ?_ ?_
  · cases lo with
    | none => rfl
    | some v => exact clip_eq v n 0
  · cases hi with
    | none => rfl
    | some v => exact clip_eq v n n
theorem places_gen (i j : Nat) : Builtin.Slice.slicePlaces (i : Int) (j : Int) 1 = j - i := by
  unfold Builtin.Slice.slicePlaces
  have h1 : (1 : Int) > 0 := by omega
  simp only [h1, if_true, Int.ediv_one]
  split <;> omega
theorem slicePart_ {v : Value} {o : Option Int} {Q : Option Int → Shared → Prop} (p : IsPart v o) (h : Q o s) : wpAny (model prog w) A (Builtin.Slice.slicePartIndex v) Q E s := by
  cases p with
  | none => exact slicePart_none h
  | int i t => exact slicePart_int h
theorem sliceApplied_gen {sl : Addr} {vl vu : Value} {lo hi : Option Int} {n : Nat} {Q : Int × Int × Nat → Shared → Prop} (hs : s.heap.IsSliceOf sl vl vu .none) (pl : IsPart vl lo) (pu : IsPart vu hi)
    (h : Q (((sIx n 0 lo : Nat) : Int), 1, sIx n n hi - sIx n 0 lo) s) : wpAny (model prog w) A (Builtin.Slice.sliceApplied (.ref sl) (pure (n : Int))) Q E s := by
  obtain ⟨os, hos, hcs, hds⟩ := id hs
  unfold Builtin.Slice.sliceApplied Builtin.Slice.sliceFields
  refine wpAny_bind (wpAny_bind (wpAny_field hos hds (x := vl) rfl (wpAny_bind (wpAny_field hos hds (x := vu) rfl (wpAny_bind (wpAny_field hos hds (x := .none) rfl (wpAny_pure ?_)))))))
  refine wpAny_bind (slicePart_none ?_)
  show wpAny _ _ (if ((1 : Int) == 0) = true then _ else _) _ _ s
  rw [if_neg (by decide)]
  refine wpAny_bind (slicePart_ pl (wpAny_bind (slicePart_ pu (wpAny_bind (wpAny_pure ?_)))))
  show wpAny _ _ (match Builtin.Slice.sliceAdjust lo hi 1 (n : Int) with | (lo, hi) => pure (lo, (1 : Int), Builtin.Slice.slicePlaces lo hi 1)) _ _ s
  rw [adjust_gen lo hi n]
  show wpAny _ _ (pure (((sIx n 0 lo : Nat) : Int), (1 : Int), Builtin.Slice.slicePlaces ((sIx n 0 lo : Nat) : Int) ((sIx n n hi : Nat) : Int) 1)) _ _ s
  rw [places_gen]
  exact wpAny_pure h
theorem pick_gen (xs : Array Value) (i k : Nat) : ((List.range k).filterMap fun (m : Nat) => xs[((i : Int) + (m : Int) * 1).toNat]?).toArray = ((xs.toList.drop i).take k).toArray := by
  have e : (fun (m : Nat) => xs[((i : Int) + (m : Int) * 1).toNat]?) = fun m => xs[i + m]? := by
    funext m
    have : ((i : Int) + (m : Int) * 1).toNat = i + m := by omega
    rw [this]
  rw [e]
  have := pick_run xs i k
  rw [List.filterMap_map] at this
  have e2 : ((fun x => xs[x]?) ∘ fun x => i + x) = fun m => xs[i + m]? := rfl
  rw [e2] at this
  rw [this]
theorem getItem_tuple_cut {t sl : Addr} {items : Array Value} {vl vu : Value} {lo hi : Option Int} {Q : Value → Shared → Prop} (ht : IsTup s.heap t items) (hs : s.heap.IsSliceOf sl vl vu .none) (pl : IsPart vl lo) (pu : IsPart vu hi)
    (hw : ¬ (sIx items.size 0 lo = 0 ∧ sIx items.size items.size hi = items.size))
    (h : Q (.ref s.heap.objs.size) { s with heap := s.heap.push { cls := .type "tuple", data := .seq ((items.toList.drop (sIx items.size 0 lo)).take (sIx items.size items.size hi - sIx items.size 0 lo)).toArray } })
    (hsz : items.size ≤ sizeLine) : wpAny (model prog w) A (getItem (.ref t) (.ref sl)) Q E s := by
  have htake : sizeOk (.seq ((items.toList.drop (sIx items.size 0 lo)).take (sIx items.size items.size hi - sIx items.size 0 lo)).toArray) := by
    show ((items.toList.drop (sIx items.size 0 lo)).take (sIx items.size items.size hi - sIx items.size 0 lo)).toArray.size ≤ sizeLine
    rw [List.size_toArray, List.length_take, List.length_drop, Array.length_toList]
    omega
  have hj : sIx items.size items.size hi ≤ items.size := sIx_le _ _ (Nat.le_refl _) hi
  obtain ⟨os, hos, hcs, hds⟩ := id hs
  have hTs : s.TypeIs (.ref sl) "slice" := ⟨os, hos, hcs⟩
  unfold getItem
  try with_reducible refine wpAny_holding ?_
  first | refine wpAny_bind (wpAny_pure ?_) | skip
  refine wpAny_bind (wpAny_sequenceKey ht.typeIs (by decide) ?_)
  refine wpAny_bind (wpAny_callSpecial?_slot (name := Str.ofString "__getitem__") ht.typeIs PyProof.Rows.slot_tuple_getitem
    (wpAny_call_entry PyProof.Rows.slot_tuple_getitem ht.typeIs entry_tuple_getitem ?_ (args_tuple_getitem _ _)))
  show wpAny _ _ (Builtin.Tuple.tupleItemsOf (.ref t) >>= _) _ _ s
  refine wpAny_bind (tupleItemsOf_ ht ?_)
  refine wpAny_bind (wpAny_typeOf hTs ?_)
  rw [if_pos (by decide)]
  refine wpAny_bind (sliceApplied_gen hs pl pu ?_)
  have hno : ¬ ((((sIx items.size 0 lo : Nat) : Int) == 0 && (1 : Int) == 1 && (sIx items.size items.size hi - sIx items.size 0 lo) == items.size) = true) := by
    intro q
    rw [Bool.and_eq_true, Bool.and_eq_true] at q
    have q1 : ((sIx items.size 0 lo : Nat) : Int) = 0 := eq_of_beq q.1.1
    have q2 : sIx items.size items.size hi - sIx items.size 0 lo = items.size := eq_of_beq q.2
    exact hw ⟨by omega, by omega⟩
  show wpAny _ _ (if (((sIx items.size 0 lo : Nat) : Int) == 0 && (1 : Int) == 1 && (sIx items.size items.size hi - sIx items.size 0 lo) == items.size) = true then _ else _) _ _ s
  rw [if_neg hno, pick_gen]
  first
    | exact wpAny_bind (m := Builtin.Tuple.tupleExact _) (wpAny_newObj_type (wpAny_pure ⟨_, rfl, wpAny_pure h⟩) htake)
    | exact wpAny_bind (m := Builtin.Tuple.tupleExact _) (wpAny_newObj_type (wpAny_bind (wpAny_pure (wpAny_pure ⟨_, rfl, wpAny_pure h⟩))) htake)
    | exact wpAny_bind (wpAny_bind (m := Builtin.Tuple.tupleExact _) (wpAny_newObj_type (wpAny_pure (wpAny_pure ⟨_, rfl, wpAny_pure h⟩)) htake))
    | exact wpAny_bind (wpAny_bind (m := Builtin.Tuple.tupleExact _) (wpAny_newObj_type (wpAny_pure ⟨_, rfl, wpAny_pure h⟩) htake))
end
end HT
namespace L2
open PySem PySem.Spec PyProof.Rows
abbrev TO := St → Hp → (Option Int → Hp → Prop) → Prop
def PO (X : Cx) (e : Option Expr) (t : TO) : Prop :=
  ∀ (pins : List (Addr × Obj)) (s : Shared) (σ : St) (H : Hp) (Q : Option Int → Hp → Prop), Inv X pins σ H s → t σ H Q →
    wpAny (model X.prog X.w) X.A (evalPart e X.env) (fun u s' => ∃ o H', Inv X pins σ H' s' ∧ IsPart u o ∧ Q o H') X.xe s
def tNoPart : TO := fun _ H Q => Q none H
def tPart (t : TE) : TO := fun σ H Q => t σ H fun x H1 => ∃ i, x = .int i ∧ Q (some i) H1
section
variable {X : Cx} {e : Expr} {te : TE} {lo hi : Option Expr} {tl th : TO} {pos p2 : Pos}
theorem po_none : PO X none tNoPart := by
  intro pins s σ H Q I h
  rw [evalPart_none]
  exact wpAny_pure ⟨none, H, I, .none, h⟩
theorem po_some (h : PE X e te) : PO X (some e) (tPart te) := by
  intro pins s σ H Q I hw
  rw [evalPart_some]
  refine thn (h pins s σ H _ I hw) fun u s1 ⟨x, H1, I1, r1, q1⟩ => ?_
  obtain ⟨i, rfl, q⟩ := q1
  obtain ⟨t, rfl⟩ := r1
  exact ⟨some i, H1, I1, .int i t, q⟩
def SlR (X : Cx) (r : V → Option Int → Option Int → Hp → VK → Prop) : Prop :=
  ∀ (pins : List (Addr × Obj)) (s : Shared) (σ : St) (H : Hp) (x : V) (v vl vu : Value) (lo hi : Option Int) (sl : Addr) (Q : VK), Inv X pins σ H s → RelV x v → s.heap.IsSliceOf sl vl vu .none → IsPart vl lo → IsPart vu hi → r x lo hi H Q →
    ∃ T id, typeLookup (.type T) "__getitem__" = pure (some (.builtin id)) ∧ s.TypeIs v T ∧ wpAny (model X.prog X.w) X.A (getItem v (.ref sl)) (EP X pins σ Q) X.xe s
theorem SlR.or {r r' : V → Option Int → Option Int → Hp → VK → Prop} (h : SlR X r) (h' : SlR X r') : SlR X (fun x lo hi H Q => r x lo hi H Q ∨ r' x lo hi H Q) := by
  intro pins s σ H x v vl vu lo hi sl Q I rx hs pl pu q
  rcases q with q | q
  · exact h pins s σ H x v vl vu lo hi sl Q I rx hs pl pu q
  · exact h' pins s σ H x v vl vu lo hi sl Q I rx hs pl pu q
def tSl (r : V → Option Int → Option Int → Hp → VK → Prop) (te : TE) (tl th : TO) : TE := fun σ H Q => te σ H fun x H1 => tl σ H1 fun l H2 => th σ H2 fun u H3 => r x l u H3 Q
theorem pe_slice {r : V → Option Int → Option Int → Hp → VK → Prop} (hr : SlR X r) (he : PE X e te) (hl : PO X lo tl) (hu : PO X hi th) : PE X (.Subscript e (.Slice lo hi none p2) pos) (tSl r te tl th) := by
  intro pins s σ H Q I h
  refine Subscript_ (thn (he pins s σ H _ I h) fun v s1 ⟨x, H1, I1, r1, q1⟩ => ?_)
  refine wpAny_Slice (thn (hl pins s1 σ H1 _ I1 q1) fun vl s2 ⟨l, H2, I2, pl, q2⟩ => thn (hu pins s2 σ H2 _ I2 q2) fun vu s3 ⟨u, H3, I3, pu, q3⟩ => ?_)
  rw [evalPart_none]
  refine wpAny_pure ?_
  have I4 : Inv X pins σ H3 { s3 with heap := s3.heap.push { cls := .type "slice", data := .fields #[vl, vu, .none] } } := I3.kept (t' := s3.toks) fun b ob q => Heap.get?_push_of_some _ q
  obtain ⟨T, id, hT, ht, hg⟩ := hr pins { s3 with heap := s3.heap.push { cls := .type "slice", data := .fields #[vl, vu, .none] } } σ H3 x v vl vu l u s3.heap.objs.size Q I4 r1 (Heap.IsSliceOf.new ..) pl pu q3
  show wpAny (model X.prog X.w) X.A (subscriptTail e (.Slice lo hi none p2) v (.ref s3.heap.objs.size)) (EP X pins σ Q) X.xe { s3 with heap := s3.heap.push { cls := .type "slice", data := .fields #[vl, vu, .none] } }
  exact tail_any (ops := [.ref s3.heap.objs.size, v]) ht hT hg (by with_unfolding_all rfl)
def cutV (xs : List V) (lo hi : Option Int) : List V := (xs.drop (HT.sIx xs.length 0 lo)).take (HT.sIx xs.length xs.length hi - HT.sIx xs.length 0 lo)
theorem cutV_length (xs : List V) (lo hi : Option Int) : (cutV xs lo hi).length ≤ xs.length := by
  unfold cutV
  rw [List.length_take, List.length_drop]
  omega
def rSlT (K : PySem.W.Frag) : V → Option Int → Option Int → Hp → VK → Prop := fun x lo hi H Q => ∃ a xs, x = .ref a ∧ SqT K H a xs ∧
  ¬ (HT.sIx xs.length 0 lo = 0 ∧ HT.sIx xs.length xs.length hi = xs.length) ∧ ∀ p, H p = none → Q (.ref p) (upd H p (.tup (cutV xs lo hi)))
theorem sl_tup : SlR X (rSlT X.K) := by
  intro pins s σ H x v vl vu lo hi sl Q I rx hs pl pu h
  obtain ⟨a, xs, rfl, hx, hw, q⟩ := h
  cases rx
  obtain ⟨its, r, ht, hz⟩ := I.tuple hx
  have hlen : its.toArray.size = xs.length := by rw [List.size_toArray]; exact r.length.symm
  refine ⟨"tuple", _, PyProof.Rows.slot_tuple_getitem.lookup, ht.typeIs, ?_⟩
  refine HT.getItem_tuple_cut ht hs pl pu (by rw [hlen]; exact hw) ?_ (by rw [hlen]; exact hz)
  rw [hlen]
  refine ⟨.ref s.heap.objs.size, _, I.laid (t' := s.toks) (o := .tup (cutV xs lo hi)) (fun b ob q => Heap.get?_push_of_some _ q) (Nat.le_refl _) ?_, rfl, q _ (I.hok.fresh (Nat.le_refl _))⟩
  exact ⟨Nat.le_trans (cutV_length xs lo hi) hz, _, (r.drop (HT.sIx xs.length 0 lo)).take (HT.sIx xs.length xs.length hi - HT.sIx xs.length 0 lo), IsTup.new _ _⟩
def rCatT (K : PySem.W.Frag) : R2 := fun x y H Q => ∃ a b xs ys, x = .ref a ∧ y = .ref b ∧ SqT K H a xs ∧ SqT K H b ys ∧ xs ≠ [] ∧ xs.length + ys.length ≤ sizeLine ∧
  (ys = [] → Q (.ref a) H) ∧ (ys ≠ [] → ∀ p, H p = none → Q (.ref p) (upd H p (.tup (xs ++ ys))))
theorem Vals.nil_iff {xs : List V} {us : List Value} (r : Vals xs us) : us = [] ↔ xs = [] := by
  cases r with
  | nil => simp
  | cons _ _ => simp
theorem op_catT : OpR X (binaryOp .Add) (rCatT X.K) := by
  intro pins s σ H x y v u Q I rx ry h
  obtain ⟨a, b, xs, ys, rfl, rfl, ha, hb, hx, hz, q1, q2⟩ := h
  cases rx
  cases ry
  obtain ⟨its, r1, p1, _⟩ := I.tuple ha
  obtain ⟨its2, r2, p2, _⟩ := I.tuple hb
  refine HT.cat_tup p1 p2 (fun z => hx (r1.nil_iff.mp z)) (fun z => ⟨.ref a, H, I, rfl, q1 (r2.nil_iff.mp z)⟩) (fun z => ?_) (by rw [← r1.length, ← r2.length]; exact hz)
  refine ⟨.ref s.heap.objs.size, _, I.laid (t' := s.toks) (o := .tup (xs ++ ys)) (fun b ob q => Heap.get?_push_of_some _ q) (Nat.le_refl _) ?_, rfl, q2 (fun w => z (r2.nil_iff.mpr w)) _ (I.hok.fresh (Nat.le_refl _))⟩
  exact ⟨by rw [List.length_append]; exact hz, _, r1.append r2, IsTup.new _ _⟩
end
end L2
namespace L2
open PySem PySem.Spec PyProof.Rows
def ixN (n : Nat) (i : Int) : Option Nat := if 0 ≤ i then (if i < n then some i.toNat else none) else if -(n : Int) ≤ i then some (i + n).toNat else none
def atI {α : Type} (xs : List α) (i : Int) : Option α := (ixN xs.length i).bind fun j => xs[j]?
theorem ixN_seq {n : Nat} {i : Int} {j : Nat} (h : ixN n i = some j) : seqIndex? i n = some j ∧ j < n ∧ -(n : Int) ≤ i ∧ i < n := by
  unfold ixN at h
  by_cases h0 : 0 ≤ i
  · rw [if_pos h0] at h
    by_cases h1 : i < n
    · rw [if_pos h1] at h
      have e : i.toNat = j := Option.some.inj h
      exact ⟨by rw [seqIndex_of h0 h1, e], by omega, by omega, h1⟩
    · rw [if_neg h1] at h; cases h
  · rw [if_neg h0] at h
    by_cases h1 : -(n : Int) ≤ i
    · rw [if_pos h1] at h
      have e : (i + n).toNat = j := Option.some.inj h
      exact ⟨by rw [seqIndex_neg (by omega) h1, e], by omega, h1, by omega⟩
    · rw [if_neg h1] at h; cases h
theorem atI_get {α : Type} {xs : List α} {i : Int} {v : α} (h : atI xs i = some v) : ∃ j, seqIndex? i xs.length = some j ∧ xs[j]? = some v ∧ j < xs.length ∧ -(xs.length : Int) ≤ i ∧ i < xs.length := by
  unfold atI at h
  cases e : ixN xs.length i with
  | none => rw [e] at h; cases h
  | some j =>
    rw [e] at h
    obtain ⟨h1, h2, h3, h4⟩ := ixN_seq e
    exact ⟨j, h1, h, h2, h3, h4⟩
theorem atI_nat {α : Type} {xs : List α} {j : Nat} {v : α} (h : xs[j]? = some v) : atI xs (j : Int) = some v := by
  have hj : j < xs.length := (List.getElem?_eq_some_iff.mp h).1
  have e : ixN xs.length (j : Int) = some j := by
    unfold ixN
    rw [if_pos (by omega), if_pos (by omega)]; simp
  unfold atI; rw [e]; exact h
def PlainIx (b : Expr) : Prop := ∀ o i, subscripted b false o i = operate [o, i] (getItem o i)
def IxR (X : Cx) (r : R2) : Prop :=
  ∀ (value slice : Expr) (pins : List (Addr × Obj)) (s : Shared) (σ : St) (H : Hp) (x y : V) (v u : Value) (Q : VK), Inv X pins σ H s → RelV x v → RelV y u → r x y H Q →
    subscripted slice false v u = operate [v, u] (getItem v u) → wpAny (model X.prog X.w) X.A (subscriptTail value slice v u) (EP X pins σ Q) X.xe s
def MtR (X : Cx) (id : String) (r : V → List V → Hp → VK → Prop) : Prop :=
  ∀ (pins : List (Addr × Obj)) (s : Shared) (σ : St) (H : Hp) (x : V) (xs : List V) (v : Value) (us : List Value) (Q : VK), Inv X pins σ H s → RelV x v → Vals xs us → r x xs H Q →
    wpAny (model X.prog X.w) X.A (call (.builtin id) (v :: us)) (EP X pins σ Q) X.xe s
section
variable {X : Cx} {a b : Expr} {ta tb : TE} {pos : Pos}
theorem IxR.or {r r' : R2} (h : IxR X r) (h' : IxR X r') : IxR X (fun x y H Q => r x y H Q ∨ r' x y H Q) := by
  intro value slice pins s σ H x y v u Q I rx ry q hs
  rcases q with q | q
  · exact h value slice pins s σ H x y v u Q I rx ry q hs
  · exact h' value slice pins s σ H x y v u Q I rx ry q hs
theorem MtR.or {id : String} {r r' : V → List V → Hp → VK → Prop} (h : MtR X id r) (h' : MtR X id r') : MtR X id (fun x xs H Q => r x xs H Q ∨ r' x xs H Q) := by
  intro pins s σ H x xs v us Q I rx rs q
  rcases q with q | q
  · exact h pins s σ H x xs v us Q I rx rs q
  · exact h' pins s σ H x xs v us Q I rx rs q
theorem pe_ix {r : R2} (hr : IxR X r) (ha : PE X a ta) (hb : PE X b tb) (hs : PlainIx b) : PE X (.Subscript a b pos) (tOp r ta tb) := by
  intro pins s σ H Q I h
  exact Subscript_ (binT ha hb I h fun v u s2 x y H2 I2 rx ry q => hr a b pins s2 σ H2 x y v u Q I2 rx ry q (hs _ _))
def rIxL (K : PySem.W.Frag) : R2 := fun x y H Q => ∃ p xs i v, x = .ref p ∧ y = .int i ∧ SqL K H p xs ∧ atI xs i = some v ∧ Q v H
def rIxT (K : PySem.W.Frag) : R2 := fun x y H Q => ∃ p xs i v, x = .ref p ∧ y = .int i ∧ SqT K H p xs ∧ atI xs i = some v ∧ Q v H
theorem ix_list : IxR X (rIxL X.K) := by
  intro value slice pins s σ H x y v u Q I rx ry h hs
  obtain ⟨p, xs, i, z, rfl, rfl, hq, he, q⟩ := h
  cases rx
  obtain ⟨t, rfl⟩ := ry
  obtain ⟨its, r, pl, hz⟩ := I.list hq
  obtain ⟨j, h1, h2, h3, h4, h5⟩ := atI_get he
  obtain ⟨w, ew, rw'⟩ := r.get h2
  have hl := r.length
  have hn := line63
  have fin : EP X pins σ Q w s := ⟨z, H, I, rw', q⟩
  by_cases h0 : 0 ≤ i
  · have hj : i.toNat = j := by
      rw [seqIndex_of h0 h5] at h1
      exact Option.some.inj h1
    exact item_listR pl.isList h0 (by omega) (by rw [hj]; simpa using ew) fin hs
  · have hj : (i + (its.toArray.size : Int)).toNat = j := by
      rw [seqIndex_neg (by omega) h4] at h1
      rw [List.size_toArray, ← hl]
      exact Option.some.inj h1
    exact subscriptTail_builtinR (x := w) pl.isList.typeIs slot_list_getitem.lookup
      (wpAny_getItem_list_neg (Q := fun r s' => r = w ∧ EP X pins σ Q r s') pl.isList (by omega) (by rw [List.size_toArray] <;> omega) (by omega) (by rw [hj]; simpa using ew) ⟨rfl, fin⟩) hs
theorem ix_tup : IxR X (rIxT X.K) := by
  intro value slice pins s σ H x y v u Q I rx ry h hs
  obtain ⟨p, xs, i, z, rfl, rfl, hq, he, q⟩ := h
  cases rx
  obtain ⟨t, rfl⟩ := ry
  obtain ⟨its, r, pl, hz⟩ := I.tuple hq
  obtain ⟨j, h1, h2, h3, h4, h5⟩ := atI_get he
  obtain ⟨w, ew, rw'⟩ := r.get h2
  have hl := r.length
  have hn := line63
  have fin : EP X pins σ Q w s := ⟨z, H, I, rw', q⟩
  exact subscriptTail_builtinR (x := w) pl.typeIs slot_tuple_getitem.lookup
    (getItem_tuple (j := j) (Q := fun r s' => r = w ∧ EP X pins σ Q r s') pl (by omega) (by omega) (by rw [List.size_toArray, ← hl]; exact h1) (by simpa using ew) ⟨rfl, fin⟩) hs
theorem Inv.lst {pins : List (Addr × Obj)} {σ : St} {H : Hp} {s : Shared} {p : Addr} {xs : List V} (I : Inv X pins σ H s) (h : H p = some (.lst xs)) :
    ∃ (its : List Value) (n : Nat), Vals xs its ∧ s.heap.get? p = some { cls := .type "list", data := .seq its.toArray n } ∧ xs.length ≤ sizeLine := by
  obtain ⟨z, its, n, r, e⟩ := I.hok p _ h
  exact ⟨its, n, r, e, z⟩
theorem slice_bounds (lo hi : Option Int) (n : Nat) : (sliceBounds lo hi none n).1 = ((HT.sIx n 0 lo : Nat) : Int) ∧ (sliceBounds lo hi none n).2.1 = ((HT.sIx n n hi : Nat) : Int) ∧ (sliceBounds lo hi none n).2.2 = 1 := by
  refine ⟨?_, ?_, rfl⟩
  · cases lo with
    | none => simp [sliceBounds, HT.sIx]
    | some i =>
      simp only [sliceBounds, HT.sIx, Option.getD_none, show (1 : Int) > 0 by decide, if_true]
      by_cases h : i < 0
      · simp only [h, if_true] <;> omega
      · simp only [h, if_false] <;> omega
  · cases hi with
    | none => simp [sliceBounds, HT.sIx]
    | some i =>
      simp only [sliceBounds, HT.sIx, Option.getD_none, show (1 : Int) > 0 by decide, if_true]
      by_cases h : i < 0
      · simp only [h, if_true] <;> omega
      · simp only [h, if_false] <;> omega
theorem slicePick_cut (its : List Value) (lo hi : Option Int) : slicePick its.toArray lo hi none = ((its.drop (HT.sIx its.length 0 lo)).take (HT.sIx its.length its.length hi - HT.sIx its.length 0 lo)).toArray := by
  obtain ⟨h1, h2, h3⟩ := slice_bounds lo hi its.toArray.size
  unfold slicePick
  rw [h1, h2, h3]
  simp only [sliceRange_one, pick_run, List.size_toArray] <;> rfl
def rSlL (K : PySem.W.Frag) : V → Option Int → Option Int → Hp → VK → Prop := fun x lo hi H Q => ∃ a xs, x = .ref a ∧ SqL K H a xs ∧ ∀ p, H p = none → Q (.ref p) (upd H p (.lst (cutV xs lo hi)))
theorem sl_list : SlR X (rSlL X.K) := by
  intro pins s σ H x v vl vu lo hi sl Q I rx hs pl pu h
  obtain ⟨a, xs, rfl, hx, q⟩ := h
  cases rx
  obtain ⟨its, r, ht, hz⟩ := I.list hx
  have hlen := r.length
  refine ⟨"list", _, slot_list_getitem.lookup, ht.isList.typeIs, ?_⟩
  refine wpAny_getItem_list_slice ht.isList hs pl pu .none (by simp) ?_ (by rw [List.size_toArray] <;> omega)
  rw [slicePick_cut, ← hlen]
  refine ⟨.ref s.heap.objs.size, _, I.laid (t' := s.toks) (o := .lst (cutV xs lo hi)) (fun b ob q => Heap.get?_push_of_some _ q) (Nat.le_refl _) ?_, rfl, q _ (I.hok.fresh (Nat.le_refl _))⟩
  exact ⟨Nat.le_trans (cutV_length xs lo hi) hz, _, 0, (r.drop (HT.sIx xs.length 0 lo)).take (HT.sIx xs.length xs.length hi - HT.sIx xs.length 0 lo), Heap.get?_push_size _ rfl⟩
theorem call_len_seq : CallR X (.builtin "len") (fun xs H Q => ∃ p ys, xs = [.ref p] ∧ (SqL X.K H p ys ∨ SqT X.K H p ys) ∧ Q (.int ys.length) H) := by
  intro pins s σ H xs us Q I r h
  obtain ⟨p, ys, rfl, hq, q⟩ := h
  obtain ⟨u, rfl, rx⟩ := vals1 r
  cases rx
  have hn := line63
  rcases hq with hq | hq
  · obtain ⟨its, r', pl, hz⟩ := I.list hq
    have hlen := r'.length
    exact Calls.call_len_list pl.isList (by simp only [List.size_toArray] <;> omega) ⟨.int ys.length, H, I.tok _, ⟨s.toks + 1, by rw [List.size_toArray, hlen]⟩, q⟩
  · obtain ⟨its, r', pl, hz⟩ := I.tuple hq
    have hlen := r'.length
    exact len_tuple pl (by simp only [List.size_toArray] <;> omega) ⟨.int ys.length, H, I.tok _, ⟨s.toks + 1, by rw [List.size_toArray, hlen]⟩, q⟩
theorem CallR.or {f : Value} {r r' : List V → Hp → VK → Prop} (h : CallR X f r) (h' : CallR X f r') : CallR X f (fun xs H Q => r xs H Q ∨ r' xs H Q) := by
  intro pins s σ H xs us Q I rs q
  rcases q with q | q
  · exact h pins s σ H xs us Q I rs q
  · exact h' pins s σ H xs us Q I rs q
theorem call_list_of : CallR X (.type "list") (fun xs H Q => ∃ p ys, xs = [.ref p] ∧ (SqL X.K H p ys ∨ SqT X.K H p ys) ∧ ∀ l, H l = none → Q (.ref l) (upd H l (.lst ys))) := by
  intro pins s σ H xs us Q I r h
  obtain ⟨p, ys, rfl, hq, q⟩ := h
  obtain ⟨u, rfl, rx⟩ := vals1 r
  cases rx
  have fin : ∀ (its : List Value), Vals ys its → ys.length ≤ sizeLine → ∀ (h' : Heap) (c' : Nat), (∀ b o', s.heap.get? b = some o' → h'.get? b = some o') →
      h'.get? s.heap.objs.size = some { cls := .type "list", dict := none, data := .seq its.toArray c', slots := #[] } → EP X pins σ Q (.ref s.heap.objs.size) { s with heap := h' } := fun its r' hz h' c' kp e =>
    ⟨.ref s.heap.objs.size, _, I.laid (t' := s.toks) kp (Nat.le_refl _) (show ObjOk X.prog X.w _ h' _ (.lst ys) from ⟨hz, its, c', r', e⟩), rfl, q _ (I.hok.fresh (Nat.le_refl _))⟩
  rcases hq with hq | hq
  · obtain ⟨its, r', pl, hz⟩ := I.list hq
    have hlen := r'.length
    obtain ⟨o, ho, hc, n, hd⟩ := pl.isList
    exact call_list_seq p (.inl rfl) ho hc hd (fun h' c' kp e => fin its r' hz h' c' kp e) (by simp only [List.size_toArray] <;> omega)
  · obtain ⟨its, r', pl, hz⟩ := I.tuple hq
    have hlen := r'.length
    obtain ⟨o, ho, hc, n, hd⟩ := pl
    exact call_list_seq p (.inr rfl) ho hc hd (fun h' c' kp e => fin its r' hz h' c' kp e) (by simp only [List.size_toArray] <;> omega)
theorem call_tuple_of : CallR X (.type "tuple") (fun xs H Q => ∃ p ys, xs = [.ref p] ∧ ((SqL X.K H p ys ∧ ∀ l, H l = none → Q (.ref l) (upd H l (.tup ys))) ∨ (SqT X.K H p ys ∧ Q (.ref p) H))) := by
  intro pins s σ H xs us Q I r h
  obtain ⟨p, ys, rfl, h⟩ := h
  obtain ⟨u, rfl, rx⟩ := vals1 r
  cases rx
  rcases h with ⟨hq, q⟩ | ⟨hq, q⟩
  · obtain ⟨its, r', pl, hz⟩ := I.list hq
    have hlen := r'.length
    refine call_tuple_list pl.isList (fun h' kp => ?_) (by simp only [List.size_toArray] <;> omega)
    have I1 : Inv X pins σ H { s with heap := h' } := I.kept (t' := s.toks) kp
    have I2 : Inv X pins σ (upd H h'.objs.size (.tup ys)) { s with heap := h'.push { cls := .type "tuple", data := .seq its.toArray } } :=
      I1.laid (t' := s.toks) (fun b o e => Heap.get?_push_of_some _ e) (Nat.le_refl _) (show ObjOk X.prog X.w _ _ _ (.tup ys) from ⟨hz, its, r', IsTup.new _ _⟩)
    exact ⟨.ref h'.objs.size, _, I2, rfl, q _ (I1.hok.fresh (Nat.le_refl _))⟩
  · obtain ⟨its, r', pl, hz⟩ := I.tuple hq
    exact call_tuple_same pl ⟨.ref p, H, I, rfl, q⟩
def tyV (K : PySem.W.Frag) (T : String) (x : V) (H : Hp) : Prop := match x with
  | .str _ => T = "str"
  | .int _ => T = "int"
  | .ref p => (T = "list" ∧ ∃ xs, SqL K H p xs) ∨ (T = "tuple" ∧ ∃ o, K.lookup p = some o ∧ o.cls = .type "tuple" ∧ o.dict = none) ∨
      (T = "dict" ∧ ((∃ kvs, H p = some (.dK kvs)) ∨ ∃ kvs, H p = some (.dT kvs))) ∨ (T = "set" ∧ ∃ S n, H p = some (.set S n))
  | _ => False
theorem tyV_is {pins : List (Addr × Obj)} {σ : St} {H : Hp} {s : Shared} {T : String} {x : V} {v : Value} (I : Inv X pins σ H s) (r : RelV x v) (ty : tyV X.K T x H) :
    s.TypeIs v T ∧ ∀ a, v = .ref a → ∃ ob, s.heap.get? a = some ob ∧ ob.dict = none := by
  cases x with
  | str z =>
    obtain ⟨t, rfl⟩ := r
    cases (show T = "str" from ty)
    exact ⟨typeIs_str s z t, fun _ e => nomatch e⟩
  | int i =>
    obtain ⟨t, rfl⟩ := r
    cases (show T = "int" from ty)
    exact ⟨typeIs_int s i t, fun _ e => nomatch e⟩
  | ref p =>
    cases r
    rcases ty with ⟨rfl, xs, hq⟩ | ⟨rfl, o, hk, hc, hd⟩ | ⟨rfl, hk⟩ | ⟨rfl, S, n, hk⟩
    · obtain ⟨its, _, pl, _⟩ := I.list hq
      refine ⟨pl.isList.typeIs, fun a e => ?_⟩
      cases e
      obtain ⟨o, n, e, c, hd, _⟩ := pl
      exact ⟨o, e, hd⟩
    · refine ⟨⟨o, I.kIn p o hk, hc⟩, fun a e => ?_⟩
      cases e
      exact ⟨o, I.kIn _ o hk, hd⟩
    · have z : ∃ o, s.heap.get? p = some o ∧ o.ExactDict := by
        rcases hk with ⟨kvs, hk⟩ | ⟨kvs, hk⟩
        · obtain ⟨_, _, _, _, o, _, _, e, ex, _⟩ := I.hok p _ hk
          exact ⟨o, e, ex⟩
        · obtain ⟨_, _, _, _, o, _, _, e, ex, _⟩ := I.hok p _ hk
          exact ⟨o, e, ex⟩
      obtain ⟨o, e, ex⟩ := z
      refine ⟨⟨o, e, ex.1⟩, fun a e2 => ?_⟩
      cases e2
      exact ⟨o, e, ex.2.1⟩
    · obtain ⟨o, _, _, _, e, ex, _⟩ := I.hok p _ hk
      refine ⟨⟨o, e, ex.1⟩, fun a e2 => ?_⟩
      cases e2
      exact ⟨o, e, ex.2.1⟩
  | _ => exact False.elim ty
def tBM (K : PySem.W.Frag) (T : String) (r : V → List V → Hp → VK → Prop) (to : TE) (t : TA) : TE := fun σ H Q => to σ H fun x H1 => tyV K T x H1 ∧ t σ H1 fun xs H2 => r x xs H2 Q
variable {o e : Expr} {es : List Expr} {to : TE} {t : TA} {name : Str} {apos cpos : Pos} {T id : String} {r : V → List V → Hp → VK → Prop}
theorem pe_bm (pa : PlainAttrs T) (slot : Slot T name id) (hty : typeOf (.builtin id) = pure (.type "method_descriptor")) (hm : MtR X id r) (ho : PE X o to) (ha : PA X (e :: es) t)
    (hbase : attributeBase o name X.env (eval o X.env) = eval o X.env := by rfl)
    (hfew : ((backTo cpos (starEach (e :: es) X.env)).all (fun x => !x.1) && (backToKw cpos (keywordEach [] X.env)).all (fun x => x.1.isSome)
      && decide ((e :: es).length + ([] : List Keyword).length + (if ([] : List Keyword).isEmpty then 0 else 1) < 30)) = true := by rfl)
    (hline : (apos.endLine == cpos.line) = true := by rfl) (hs : starEach (e :: es) X.env = (false, eval e X.env) :: starEach es X.env := by rfl) (hplain : (backTo cpos (starEach es X.env)).any (·.1) = false := by rfl) :
    PE X (.Call (.Attribute o name apos) (e :: es) [] cpos) (tBM X.K T r to t) := by
  intro pins s σ H Q I h
  refine wpAny_Call_method_late hbase hfew hline rfl (thn (ho pins s σ H _ I h) fun v s1 ⟨x, H1, I1, r1, ty, q1⟩ => ?_)
  obtain ⟨h1, h2⟩ := tyV_is I1 r1 ty
  refine ⟨T, id, pa, slot, hty, h1, h2, ?_⟩
  have hA := ha cpos pins s1 σ H1 _ I1 q1
  rw [hs] at hA ⊢
  refine Calls.callWith_builtin (by show (false || (backTo cpos (starEach es X.env)).any (·.1)) = false; rw [hplain] <;> rfl) (Calls.evalArgs_plain ?_)
  exact thn hA fun us s2 ⟨vs, H2, I2, r2, q2⟩ => hm pins s2 σ H2 x vs v us Q I2 r1 r2 q2
end
end L2
namespace L2
open PySem PySem.Spec PyProof.Rows
def MtM (X : Cx) (id : String) (r : V → List V → Hp → VK → Prop) : Prop :=
  ∀ (pins : List (Addr × Obj)) (s : Shared) (σ : St) (H : Hp) (x : V) (xs : List V) (v : Value) (us : List Value) (Q : VK), Inv X pins σ H s → RelV x v → Vals xs us → r x xs H Q →
    wpAny (model X.prog X.w) X.A (call (.builtin id) (v :: us)) (EP X pins σ Q) X.xe s
theorem Vals.one : ∀ {x : V} {us : List Value}, Vals [x] us → ∃ u, us = [u] ∧ RelV x u
  | _, _, .cons r .nil => ⟨_, rfl, r⟩
theorem Vals.two : ∀ {x y : V} {us : List Value}, Vals [x, y] us → ∃ u v, us = [u, v] ∧ RelV x u ∧ RelV y v
  | _, _, _, .cons r (.cons q .nil) => ⟨_, _, rfl, r, q⟩
theorem Vals.zero : ∀ {us : List Value}, Vals [] us → us = []
  | _, .nil => rfl
theorem Vals.reverse {xs : List V} {us : List Value} (h : Vals xs us) : Vals xs.reverse us.reverse := by
  induction h with
  | nil => exact .nil
  | cons r t ih => rw [List.reverse_cons, List.reverse_cons]; exact Vals.append ih (.cons r .nil)
section
variable {X : Cx} {pins : List (Addr × Obj)} {σ : St} {H : Hp} {s : Shared} {l b : Addr} {xs ys zs : List V}
theorem Inv.lset {its its' : List Value} {n : Nat} {f : Array Value → Array Value} {t' : Nat} (I : Inv X pins σ H s) (hH : H l = some (.lst xs))
    (e : s.heap.get? l = some { cls := .type "list", data := .seq its.toArray n }) (hf : f its.toArray = its'.toArray) (hv : Vals ys its') (hz : ys.length ≤ sizeLine) :
    Inv X pins σ (upd H l (.lst ys)) { s with heap := s.heap.update l (Obj.mapSeq f), toks := t' } := by
  have q := PySem.IsL.update e f
  rw [hf] at q
  refine I.write (x := l) (e := l) (by rw [hH]; exact trivial) (.inl rfl) (fun b' u hb hu => (Heap.get?_update_other s.heap (Obj.mapSeq f) (Ne.symm hb)).trans hu) ⟨_, q⟩ ?_
  exact ⟨hz, its', _, hv, q⟩
theorem Inv.fresh (I : Inv X pins σ H s) : H s.heap.objs.size = none := I.hok.fresh (Nat.le_refl _)
theorem Inv.lstM (I : Inv X pins σ H s) (hH : H l = some (.lst xs)) : xs.length ≤ sizeLine ∧ ∃ (its : List Value) (n : Nat), Vals xs its ∧ xs.length = its.length ∧ s.heap.get? l = some { cls := .type "list", data := .seq its.toArray n } := by
  obtain ⟨z, its, n, r, e⟩ := I.hok l _ hH
  exact ⟨z, its, n, r, r.length, e⟩
theorem notLongL {n : Nat} (h : n ≤ sizeLine) : Builtin.List.listTooLong n = false := by
  unfold Builtin.List.listTooLong
  exact decide_eq_false (by omega)
end
section
variable {X : Cx}
def rAppend : V → List V → Hp → VK → Prop := fun x vs H Q => ∃ l xs y, x = .ref l ∧ vs = [y] ∧ H l = some (.lst xs) ∧ xs.length < sizeLine ∧ Q .non (upd H l (.lst (xs ++ [y])))
theorem mt_append : MtM X "list.append" rAppend := by
  intro pins s σ H x vs v us Q I rx rv h
  obtain ⟨l, xs, y, rfl, rfl, hH, hz, q⟩ := h
  cases rx
  obtain ⟨u, rfl, ru⟩ := rv.one
  obtain ⟨z, its, n, r, hl, e⟩ := I.lstM hH
  refine call_meets F.slot_list_append ⟨_, e, rfl⟩ F.entry_list_append (F.args_list_append_2 _ _) (PySem.list_append l its.toArray n u (by rw [List.size_toArray]; omega)) ⟨e, ?_⟩
  refine ⟨.non, _, I.lset (its' := its ++ [u]) hH e (by simp) (r.append (.cons ru .nil)) ?_, rfl, q⟩
  rw [List.length_append, List.length_singleton]
  omega
def rExtend : V → List V → Hp → VK → Prop := fun x vs H Q => ∃ l b xs zs, x = .ref l ∧ vs = [.ref b] ∧ H l = some (.lst xs) ∧ H b = some (.lst zs) ∧ xs.length + zs.length ≤ sizeLine ∧ Q .non (upd H l (.lst (xs ++ zs)))
theorem mt_extend : MtM X "list.extend" rExtend := by
  intro pins s σ H x vs v us Q I rx rv h
  obtain ⟨l, b, xs, zs, rfl, rfl, hH, hB, hz, q⟩ := h
  cases rx
  obtain ⟨u, rfl, ru⟩ := rv.one
  cases ru
  obtain ⟨z, its, n, r, hl, e⟩ := I.lstM hH
  obtain ⟨z2, its2, n2, r2, hl2, e2⟩ := I.lstM hB
  have hsz : its.toArray.size + its2.toArray.size ≤ sizeLine := by rw [List.size_toArray, List.size_toArray]; omega
  have hlong : ¬ (!its.toArray.isEmpty && Builtin.List.listTooLong (its.toArray.size + its2.toArray.size)) = true := by
    rw [notLongL hsz, Bool.and_false]
    exact Bool.false_ne_true
  refine call_meets F.slot_list_extend ⟨_, e, rfl⟩ F.entry_list_extend (F.args_list_extend_2 _ _)
    (AutoSeq1.list_extend_list_list_0 l its.toArray n b its2.toArray n2 hlong (by rw [List.size_toArray]; omega) (by omega)) ⟨e, e2, ?_⟩
  refine ⟨.non, _, I.lset (its' := its ++ its2) hH e (by simp) (r.append r2) ?_, rfl, q⟩
  rw [List.length_append]
  omega
end
section
variable {prog : Program} {w : World} {A : Around} {E : Value → Shared → Prop} {s : Shared}
end
section
variable {X : Cx}
end
end L2
namespace Att
open PySem PySem.W PySem.Calls PyProof.Rows
theorem ints_of_wellAll {P : Params} {h : Heap} : ∀ (ns : List Int) (vs : List Value), WellAll P h vs (ns.map WData.int) → IntsAre vs ns := by
  intro ns
  induction ns with
  | nil =>
    intro vs w
    rw [List.map_nil] at w
    cases w
    exact .nil
  | cons n ns ih =>
    intro vs w
    rw [List.map_cons] at w
    cases w with
    | cons a b =>
      cases a
      exact .cons _ _ (ih _ b)
theorem script_of {l : OpenLaw} {n : Nat} (hn : l.most = some n) {P : Params} {h : Heap} {args : List WData} {vals : List Value}
    (hpre : l.row.toRowW.claim.pre args = true) (hwl : WellAll P h vals args) :
    ∃ a vs ns, vals = [Value.ref a] ∧ args = [WData.list (ns.map WData.int)] ∧ h.get? a = some { cls := .type "list", data := .seq vs.toArray } ∧ IntsAre vs ns ∧ ns.length ≤ n := by
  have hsh : WShape.hasAll [] args [.list .int] = true := (pre_splitW hpre).1
  have hc : l.pre.holds [] { args := args } = true := (pre_splitW hpre).2
  obtain ⟨d, r, rfl, h1, h2⟩ := hasAllW_cons hsh
  obtain rfl := hasAllW_nil h2
  obtain ⟨xs, rfl, h3⟩ := hasW_list h1
  obtain ⟨ns, rfl⟩ := items_int h3
  have hlen : ns.length ≤ n := by
    unfold OpenLaw.pre at hc
    have h4 : (WTm.not (.lt (.lit (.int (n : Int))) (.len (.arg 0)))).holds [] { args := [.list (ns.map .int)] } = true := by
      have h4 := (holds_andW hc).1
      rw [hn] at h4
      exact h4
    have h5 := condW_of h4 (w_not (w_lt w_lit (w_len_list (w_arg rfl))))
    rw [List.length_map] at h5
    refine Nat.le_of_not_lt fun q => ?_
    have q' : (n : Int) < ((ns.length : Nat) : Int) := by omega
    first
      | (rw [decide_eq_true q'] at h5; exact absurd h5 (by decide))
      | (simp at h5; omega)
  cases hwl with
  | cons w1 w2 =>
    cases w2
    cases w1 with
    | list ho hall => exact ⟨_, _, ns, rfl, rfl, ho, ints_of_wellAll ns _ hall, hlen⟩
theorem post_true (l : OpenLaw) (args : List WData) : l.row.toRowW.claim.post args (.bool true) args = true :=
  postW_of (r := l.row.toRowW) (X := (true == true))
    (show WShape.has [] (.bool true) .bool = true by first | rfl | decide | simp [WShape.has, WShape.arms, WShape.armsAll])
    (show (WTm.eq .res (.lit (.bool true))).value [] { args := args, res := some (.bool true), after := args } = some (.bool (true == true)) from w_eq_bool (w_res rfl) w_lit) rfl
theorem attach_call {l : OpenLaw} {n : Nat} {q : Program} {loose : List Str} {XP : (Str → Option Value) → Heap → Prop} {YP : World → Heap → Prop} {d : DefRec}
    (hn : l.most = some n) (hdf : d.params.defaults = [])
    (call : ∀ (w : World) (s₀ s₁ : Shared) (mg mb : Str → Option Value) (fa : Addr) (o : Obj) (pm cd doc : Value) (a : Addr) (vs : List Value) (ns : List Int),
      Ground q loose [] XP w s₀ mg mb s₁.heap → YP w s₁.heap →
      s₁.heap.get? fa = some o → o.data = .func (docDef d.name d.params d.body d.scope pm cd doc) → s₁.heap.CodeRec cd d.name → mg d.name = some (.ref fa) →
      s₁.heap.get? a = some { cls := .type "list", data := .seq vs.toArray } → IntsAre vs ns → ns.length ≤ n → s₁.gens = #[] →
      codeAny (model l.prog w) callerA (.call (.ref fa) ⟨[.ref a], []⟩) (fun r s' => r = .ok (.ret (.bool true)) ∧ OldK s₁.heap s'.heap ∧ s'.os = s₁.os ∧ AllBare s'.gens) s₁) :
    WalkO q loose XP YP l.row.toRowW d [] (fun f vs => PySem.call f vs) := by
  intro w s₀ s₁ mg mb G Y fa o pm cd doc dV kV ho hd hcd hD hmg hg args vals as hpre hlay hrd hwl hlo
  obtain rfl : dV = .none := Dflts.none hD hdf
  obtain rfl : kV = .none := Dflts.noKw hD
  obtain ⟨a, vs, ns, rfl, rfl, hobj, hints, hlen⟩ := script_of hn hpre hwl
  refine enter_call (codeAny_mono (call w s₀ s₁ mg mb fa o pm cd doc a vs ns G Y ho (fd_plain hd) hcd hmg hobj hints hlen hg) fun r s' hq => ?_)
  obtain ⟨rfl, h2, h3, h4⟩ := hq
  exact ⟨.inl ⟨.bool true, .bool true, [], rfl, fun _ => rfl, .bool true, post_true l _, fun _ => ⟨List.Pairwise.nil, fun _ hm => (nomatch hm)⟩⟩, h2, h3, h4⟩
section
variable {prog : Program} {w : World} {A : Around} {E : Value → Shared → Prop} {s : Shared} {K : Frag}
end
end Att
namespace L2
open PySem PySem.Spec PyProof.Rows
theorem vals_ints : ∀ {vs : List Value} {ns : List Int}, IntsAre vs ns → Vals (ns.map V.int) vs
  | _, _, .nil => .nil
  | _, _, .cons n t h => .cons ⟨t, rfl⟩ (vals_ints h)
def Only (H : Hp) : Prop := ∀ b, H b = none ∨ ∃ o xs, H b = some (.frz o (.lst xs))
theorem law_call {P : Program} {w : World} {K : PySem.W.Frag} {mg mb : Str → Option Value} {CX : CXT} {k : Nat} {fa a : Addr} {fd : FuncData} {x : Str} {sp : Sp} {s₁ : Shared} {vs : List Value} {ns : List Int}
    (KX : K.In s₁.heap) (hns : s₁.heap.Ns mainGlobals mg) (hb : s₁.heap.Ns builtinsNs mb) (hbb : ∀ x : Str, x ≠ "__name__" → mb x = bootBuiltins x) (hlim : s₁.heap.NoLimit) (hg : s₁.gens = #[])
    (ha : s₁.heap.get? a = some { cls := .type "list", data := .seq vs.toArray }) (hi : IntsAre vs ns) (hl : ns.length ≤ sizeLine) (hr : Room k callerA)
    (F : ∀ base : Heap, K.In base → base.Ns mainGlobals mg → FnOk P w K mg base CX k fa fd [x] sp) (hbind : ∀ (s : Shared) (u : Value), BindsTo s fd ⟨[u], []⟩ [(x, u)])
    (hsp : ∀ H : Hp, Only H → SqL K H a (ns.map V.int) → sp [.ref a] H (fun v _ => v = .bl true) fun _ _ _ => False)
    (hCX : ∀ H e s', CX [] H s₁ (fun _ _ _ => False) e s' → False) :
    codeAny (model P w) callerA (.call (.ref fa) ⟨[.ref a], []⟩) (fun r s' => r = .ok (.ret (.bool true)) ∧ OldK s₁.heap s'.heap ∧ s'.os = s₁.os ∧ AllBare s'.gens) s₁ := by
  have rv := vals_ints hi
  have lenV := hi.length
  -- from an abstract heap in which nothing but the script may be tracked
  have core : ∀ H : Hp, Only H → SqL K H a (ns.map V.int) → HOk P w H s₁.heap → (∀ b, H b ≠ none → b = a) → (H a ≠ none → K.lookup a = none) →
      codeAny (model P w) callerA (.call (.ref fa) ⟨[.ref a], []⟩) (fun r s' => r = .ok (.ret (.bool true)) ∧ OldK s₁.heap s'.heap ∧ s'.os = s₁.os ∧ AllBare s'.gens) s₁ := by
    intro H hO hS hok hA hK
    have base_of : ∀ {b : Addr} {o : Obj}, s₁.heap.get? b = some o → H b = none → (hidT s₁.heap H).get? b = some o := fun e n => hidT_get e n
    have noA : ∀ {b : Addr} {o : Obj} {es : Array DictEntry} {ep : Nat}, s₁.heap.get? b = some o → o.data = .dict es ep → H b = none := fun {b o es ep} e d => by
      cases q : H b with
      | none => rfl
      | some u =>
        have e' : b = a := hA b (by rw [q]; simp)
        subst e'
        rw [ha] at e; cases e
        have d' : Data.seq vs.toArray _ = Data.dict es ep := d
        cases d'
    have nsK : ∀ {b : Addr} {m : Str → Option Value}, s₁.heap.Ns b m → (hidT s₁.heap H).Ns b m := fun {b m} ⟨o, es, ep, e, d, r⟩ => ⟨o, es, ep, base_of e (noA e d), d, r⟩
    have hKb : K.In (hidT s₁.heap H) := fun b o e => base_of (KX b o e) (by
      cases q : H b with
      | none => rfl
      | some u =>
        have e' : b = a := hA b (by rw [q]; simp)
        subst e'
        rw [hK (by rw [q]; simp)] at e; cases e)
    have hM : Mod K mg (hidT s₁.heap H) := ⟨hKb, nsK hns, ⟨mb, nsK hb, hbb⟩, let ⟨mc, h1, h2⟩ := hlim; ⟨mc, nsK h1, h2⟩⟩
    have e0 : Env0 P w K mg (hidT s₁.heap H) callerA [] s₁ H := ⟨rfl, hM, fun b o e => of_hidT e, Nat.le_of_eq (hidT_size _ _), trivial, fun b hb => absurd (show b ∈ ([] : List Addr) from hb) (by simp), hok, .of_eq hg⟩
    refine codeAny_mono ((F _ hKb (nsK hns)).run callerA [] s₁ H ⟨[.ref a], []⟩ [.ref a] [.ref a] _ _ hr e0 (hbind s₁ (.ref a)) (.cons rfl .nil) (hsp H hO hS)) fun r s' h => ?_
    cases r with
    | error e => exact (hCX H e s' h).elim
    | ok fl =>
      cases fl with
      | next => exact False.elim h
      | brk => exact False.elim h
      | cont => exact False.elim h
      | ret u =>
        obtain ⟨v, H', os, bare, un, hok', r', q⟩ := h
        have q' : v = .bl true := q
        subst q'
        obtain rfl : u = Value.bool true := r'
        refine ⟨rfl, OldK.of_keep fun b o e => ?_, os, bare⟩
        cases q : H b with
        | none => exact un.keep b o e q (by intro z; exact absurd (show b ∈ ([] : List Addr) from z) (by simp)) (by simp)
        | some u =>
          rcases hO b with z | ⟨ob, xs, z⟩
          · rw [q] at z; cases z
          · have z2 := un.frzs b ob _ z
            obtain ⟨e1, _⟩ := hok b _ z
            obtain ⟨e2, _⟩ := hok' b _ z2
            rw [e] at e1; cases e1
            exact e2
  cases hk : K.lookup a with
  | some o =>
    -- the script is one of the module's own objects
    have e := KX a o hk
    rw [ha] at e
    cases e
    refine core (fun _ => none) (fun _ => .inl rfl) (.inr ⟨_, vs.toArray, _, hk, rfl, rfl, rfl, by rw [List.size_toArray, lenV]; exact hl, by simpa using rv⟩) (fun b u z => by have z' : (none : Option HO) = some u := z; cases z') (fun b z => absurd rfl z) fun z => absurd rfl z
  | none =>
    refine core (fun b => if b = a then some (.frz { cls := .type "list", data := .seq vs.toArray } (.lst (ns.map V.int))) else none) (fun b => ?_) (.inl (.inr ⟨{ cls := .type "list", data := .seq vs.toArray }, if_pos rfl⟩)) (fun b u z => ?_) (fun b z => ?_) fun _ => hk
    · by_cases hb : b = a
      · exact .inr ⟨_, _, if_pos hb⟩
      · exact .inl (if_neg hb)
    · by_cases hb : b = a
      · have z' := (if_pos hb).symm.trans z
        cases z'
        subst hb
        exact ⟨ha, by rw [List.length_map]; exact hl, vs, _, rv, ha⟩
      · have z' := (if_neg hb).symm.trans z
        cases z'
    · by_cases hb : b = a
      · exact hb
      · exact absurd (if_neg hb) z
end L2
namespace L2
open PySem PySem.Spec PyProof.Rows
theorem walk_of {l : PySem.W.OpenLaw} {n k : Nat} {q : Program} {loose : List Str} {XP : (Str → Option Value) → Heap → Prop} {YP : World → Heap → Prop} {d : DefRec} {K : Params → PySem.W.Frag} {CX : World → CXT} {sp : World → Sp} {x : Str}
    (hn : l.most = some n) (hn2 : n ≤ sizeLine) (hdf : d.params.defaults = []) (hr : Room k callerA)
    (hY : ∀ (w : World) (h : Heap), YP w h → (K w.params).In h)
    (F : ∀ (w : World) (mg : Str → Option Value) (fa : Addr) (h : Heap), (K w.params).In h → h.Ns mainGlobals mg → mg d.name = some (.ref fa) →
      ∃ fd : FuncData, (∀ (s : Shared) (u : Value), BindsTo s fd ⟨[u], []⟩ [(x, u)]) ∧
        ∀ base : Heap, (K w.params).In base → base.Ns mainGlobals mg → FnOk l.prog w (K w.params) mg base (CX w) k fa fd [x] (sp w))
    (hsp : ∀ (w : World) (H : Hp) (a : Addr) (ns : List Int), ns.length ≤ n → Only H → SqL (K w.params) H a (ns.map V.int) → sp w [.ref a] H (fun v _ => v = .bl true) fun _ _ _ => False)
    (hCX : ∀ (w : World) (H : Hp) (s : Shared) (e : Value) (s' : Shared), CX w [] H s (fun _ _ _ => False) e s' → False) :
    PySem.W.WalkO q loose XP YP l.row.toRowW d [] (fun f vs => PySem.call f vs) := by
  refine Att.attach_call hn hdf fun w s₀ s₁ mg mb fa o pm cd doc a vs ns G Y ho hd hcd hmg hobj hints hlen hg => ?_
  have KX := hY w _ Y
  obtain ⟨fd, hb, hF⟩ := F w mg fa _ KX G.T.g hmg
  exact law_call KX G.T.g G.T.b G.T.builtins G.T.nolimit hg hobj hints (Nat.le_trans hlen hn2) hr hF hb (fun H hO hS => hsp w H a ns hlen hO hS) fun H e s' => hCX w H s₁ e s'
end L2
namespace L2
open PySem PySem.Spec PyProof.Rows
def inClass (s : Stmt) (j : Nat) : Stmt := match s with
  | .ClassDef _ _ _ body _ _ _ _ _ _ _ => body.getD j (.Pass ⟨0, 0, 0, 0⟩)
  | _ => .Pass ⟨0, 0, 0, 0⟩
def defArgs (s : Stmt) : Arguments := match s with
  | .FunctionDef _ a _ _ _ _ _ _ _ _ => a
  | _ => { posonlyargs := [], args := [], vararg := none, kwonlyargs := [], kw_defaults := [], kwarg := none, defaults := [] }
def defBody (s : Stmt) : List Stmt := match s with
  | .FunctionDef _ _ b _ _ _ _ _ _ _ => b
  | _ => []
def defScope (s : Stmt) : Scope := match s with
  | .FunctionDef _ _ _ _ _ _ sc _ _ _ => sc
  | _ => { kind := .function, names := [], isGenerator := false, isCoroutine := false }
abbrev CX0 : CXT := fun _ _ _ _ _ _ => False
abbrev E0 : XK := fun _ _ _ => False
theorem pass0 {X : Cx} : Passes CX0 X E0 := fun _ _ _ _ _ _ _ h => h.elim
structure Fun (K : PySem.W.Frag) (x qual : Str) (st : Stmt) (f : Addr) (fd : FuncData) : Prop where
  ex : ∃ (oc : Value) (od : Option Addr) (kV doc pm : Value) (an : Option Addr) (cdv ct : Value) (osl : Array (Option Value)),
    fd = PySem.W.fnOf x qual (defArgs st) (defBody st) (defScope st) .none kV doc pm an cdv ct ∧ K.lookup f = some ⟨oc, od, .func fd, osl⟩ ∧ PySem.W.codeIn K cdv qual = true
  kp : PySem.W.keepIn K (.ref f) = true
section
variable {P : Program} {w : World} {K : PySem.W.Frag} {mg : Str → Option Value} {base : Heap}
theorem Fun.ok {x qual : Str} {st : Stmt} {f : Addr} {fd : FuncData} {N ps : List Str} {k : Nat} {sp : Sp} (F : Fun K x qual st f fd) (S : FnScope N ps (defScope st)) (len : ∀ vs H Q E, sp vs H Q E → vs.length = ps.length)
    (hbody : ∀ (cdv : Value) (A : Around) (outer : List Env) (s : Shared) (H : Hp) (vs : List V) (Q : VK) (E : XK), Room k (A.deeper (envOfC qual (defScope st) s.heap.objs.size f cdv)) → sp vs H Q E →
      ∃ t, PSs (cxOf CX0 P w K mg base N qual (defScope st) f cdv A outer s H E).nox (defBody st) t ∧ t { nx := fun _ H' => Q .non H', rt := Q } (start N vs) H) : FnOk P w K mg base CX0 (k + 1) f fd ps sp := by
  obtain ⟨oc, od, kV, doc, pm, an, cdv, ct, osl, rfl, lk, hcd⟩ := F.ex
  refine fn_of lk hcd S len fun A outer s H vs Q E hr hsp => ?_
  obtain ⟨t, h, q⟩ := hbody cdv A outer s H vs Q E hr hsp
  exact ⟨t, h.nox, q⟩
theorem Fun.binds {x qual : Str} {st : Stmt} {f : Addr} {fd : FuncData} {ps : List Str} (F : Fun K x qual st f fd)
    (h : ∀ (kV doc pm : Value) (an : Option Addr) (cdv ct : Value) (us : List Value), us.length = ps.length → bindArgs (PySem.W.fnOf x qual (defArgs st) (defBody st) (defScope st) .none kV doc pm an cdv ct) ⟨us, []⟩ = pure (ps.zip us)) : Binds K fd ps [] := by
  obtain ⟨oc, od, kV, doc, pm, an, cdv, ct, osl, rfl, lk, hcd⟩ := F.ex
  exact .all (h kV doc pm an cdv ct)
theorem fun_mk {x qual : Str} {st : Stmt} {f : Addr} {oc : Value} {od an : Option Addr} {osl : Array (Option Value)} {kV doc pm cdv ct : Value} (l : K.lookup f = some ⟨oc, od, .func (PySem.W.fnOf x qual (defArgs st) (defBody st) (defScope st) .none kV doc pm an cdv ct), osl⟩)
    (c : PySem.W.codeIn K cdv qual = true) (k : PySem.W.keepIn K (.ref f) = true) : Fun K x qual st f (PySem.W.fnOf x qual (defArgs st) (defBody st) (defScope st) .none kV doc pm an cdv ct) := ⟨⟨oc, od, kV, doc, pm, an, cdv, ct, osl, rfl, l, c⟩, k⟩
end
theorem hu_of {A : Around} {k : Nat} (hr : Room k A) : A.units + 1 < cLine := Nat.lt_of_le_of_lt (Nat.add_le_add_left (by decide : 1 ≤ 64) _) hr.units
section
variable {X : Cx}
theorem pv (i : Nat) {x : Str} {pos : Pos} (hN : X.N[i]? = some x := by rfl) (hv : Vis X.env.scope x := by first | exact Or.inl rfl | exact Or.inr (Or.inl rfl) | exact Or.inr (Or.inr rfl)) (hd : (x == ("__debug__" : Str)) = false := by decide)
    (hcd : (x == ("__classdict__" : Str)) = false := by decide) : PE X (.Name x pos) (tVar i) := pe_var hN hv hd hcd
end
theorem iteF {A B : Prop} (h : B) : if false = true then A else B := by
  rw [if_neg Bool.false_ne_true]
  exact h
theorem iteT {A B : Prop} (h : A) : if true = true then A else B := by
  rw [if_pos rfl]
  exact h
theorem ite2 {c A B : Prop} [Decidable c] (h1 : c → A) (h2 : ¬ c → B) : if c then A else B := by
  by_cases h : c
  · rw [if_pos h]
    exact h1 h
  · rw [if_neg h]
    exact h2 h
theorem iteNS {c A B : Prop} [Decidable c] (hc : c) (h : B) : if (!decide c) = true then A else B := by
  rw [decide_eq_true hc]
  exact iteF h
def Same (H H' : Hp) : Prop := ∀ b o, H b = some o → H' b = some o
theorem Same.refl (H : Hp) : Same H H := fun _ _ h => h
theorem Same.trans {H H1 H2 : Hp} (a : Same H H1) (b : Same H1 H2) : Same H H2 := fun c o h => b c o (a c o h)
theorem Same.free {H H' : Hp} (e : Same H H') {l : Addr} (h : H' l = Option.none) : H l = Option.none := by
  cases q : H l with
  | none => rfl
  | some o =>
    rw [e l o q] at h
    cases h
theorem Same.seq {K : PySem.W.Frag} {H H' : Hp} {a : Addr} {xs : List V} (e : Same H H') (h : SqL K H a xs) : SqL K H' a xs := by
  rcases h with (h | ⟨o, h⟩) | h
  · exact .inl (.inl (e _ _ h))
  · exact .inl (.inr ⟨o, e _ _ h⟩)
  · exact .inr h
end L2
set_option Elab.async false
set_option linter.all false
set_option maxRecDepth 100000
set_option maxHeartbeats 4000000
namespace L2
open PySem PySem.Spec PyProof.Rows
section
variable {κ : Type} [DecidableEq κ]
def valV (kvs : List (κ × V)) (k : κ) : Option V := (kvs.find? fun kv => decide (kv.1 = k)).map (·.2)
def putK (kvs : List (κ × V)) (k : κ) (v : V) : List (κ × V) :=
  if (kvs.any fun kv => decide (kv.1 = k)) = true then kvs.map (fun kv => if kv.1 = k then (kv.1, v) else kv) else kvs ++ [(k, v)]
def dropK (kvs : List (κ × V)) (k : κ) : List (κ × V) := kvs.filter fun kv => decide (kv.1 ≠ k)
theorem valV_pos {p : κ × V} {r : List (κ × V)} {k : κ} (e : p.1 = k) : valV (p :: r) k = some p.2 := by simp [valV, List.find?_cons, e]
theorem valV_neg {p : κ × V} {r : List (κ × V)} {k : κ} (e : ¬ p.1 = k) : valV (p :: r) k = valV r k := by simp [valV, List.find?_cons, e]
theorem valV_any (k : κ) : ∀ kvs : List (κ × V), (kvs.any fun kv => decide (kv.1 = k)) = (valV kvs k).isSome
  | [] => rfl
  | p :: r => by
    rw [List.any_cons]
    by_cases e : p.1 = k
    · simp only [valV_pos e, decide_eq_true e, Bool.true_or, Option.isSome_some]
    · rw [valV_neg e, decide_eq_false e, Bool.false_or]; exact valV_any k r
theorem valV_map (k j : κ) (y : V) : ∀ kvs : List (κ × V), valV (kvs.map fun kv => if kv.1 = k then (kv.1, y) else kv) j = (valV kvs j).map fun x => if j = k then y else x
  | [] => rfl
  | p :: r => by
    have ih := valV_map k j y r
    rw [List.map_cons]
    by_cases h : p.1 = k
    · rw [if_pos h]
      by_cases e : p.1 = j
      · rw [valV_pos (p := (p.1, y)) e, valV_pos e, Option.map_some, if_pos (e.symm.trans h)]
      · rw [valV_neg (p := (p.1, y)) e, valV_neg e, ih]
    · rw [if_neg h]
      by_cases e : p.1 = j
      · rw [valV_pos (p := p) e, valV_pos e, Option.map_some, if_neg (fun z => h (e.trans z))]
      · rw [valV_neg (p := p) e, valV_neg e, ih]
theorem valV_snoc (k j : κ) (y : V) : ∀ kvs : List (κ × V), valV kvs k = none → valV (kvs ++ [(k, y)]) j = if j = k then some y else valV kvs j
  | [], _ => by
    by_cases e : k = j
    · rw [if_pos e.symm]; exact valV_pos (p := (k, y)) e
    · rw [if_neg (fun z => e z.symm)]; exact valV_neg (p := (k, y)) e
  | p :: r, hn => by
    rw [List.cons_append]
    have hk : ¬ p.1 = k := fun z => by rw [valV_pos z] at hn; cases hn
    rw [valV_neg hk] at hn
    have ih := valV_snoc k j y r hn
    by_cases e : p.1 = j
    · rw [valV_pos e, valV_pos e, if_neg (fun z => hk (e.trans z))]
    · rw [valV_neg e, valV_neg e, ih]
theorem valV_put (kvs : List (κ × V)) (k j : κ) (y : V) : valV (putK kvs k y) j = if j = k then some y else valV kvs j := by
  unfold putK
  by_cases a : (kvs.any fun kv => decide (kv.1 = k)) = true
  · rw [if_pos a, valV_map]
    rw [valV_any] at a
    by_cases e : j = k
    · obtain ⟨x, hx⟩ := Option.isSome_iff_exists.mp a
      rw [if_pos e, e, hx, Option.map_some, if_pos rfl]
    · rw [if_neg e]
      cases valV kvs j with
      | none => rfl
      | some x => rw [Option.map_some, if_neg e]
  · rw [if_neg a]
    refine valV_snoc k j y kvs ?_
    rw [valV_any] at a
    cases q : valV kvs k with
    | none => rfl
    | some x => rw [q] at a; exact (a rfl).elim
theorem length_putK (kvs : List (κ × V)) (k : κ) (v : V) : (putK kvs k v).length ≤ kvs.length + 1 := by
  unfold putK
  split
  · rw [List.length_map]; omega
  · rw [List.length_append, List.length_cons, List.length_nil]; omega
theorem putK_new {kvs : List (κ × V)} {k : κ} (v : V) (h : valV kvs k = none) : putK kvs k v = kvs ++ [(k, v)] := by
  unfold putK
  rw [valV_any, h]
  exact if_neg (by decide)
theorem RelO.isSome_eq {o : Option V} {u : Option Value} (r : RelO o u) : o.isSome = u.isSome := by
  cases o with
  | none => cases u with
    | none => rfl
    | some _ => exact (show False from r).elim
  | some _ => cases u with
    | none => exact (show False from r).elim
    | some _ => rfl
theorem RelO.getD {o : Option V} {u : Option Value} {d : V} {d' : Value} (r : RelO o u) (rd : RelV d d') : RelV (o.getD d) (u.getD d') := by
  cases o with
  | none => cases u with
    | none => exact rd
    | some _ => exact (show False from r).elim
  | some _ => cases u with
    | none => exact (show False from r).elim
    | some _ => exact r
theorem KV.val {kvs : List (κ × V)} {vs : List (κ × Value)} (r : KV kvs vs) (k : κ) : RelO (valV kvs k) (valueAt vs k) := by
  unfold KV at r
  induction r with
  | nil => exact True.intro
  | @cons p q ps qs h t ih =>
    obtain ⟨h1, h2⟩ := h
    by_cases e : p.1 = k
    · have e' : q.1 = k := h1.symm.trans e
      have b : valueAt (q :: qs) k = some q.2 := by simp [valueAt, List.find?_cons, e']
      rw [valV_pos e, b]; exact h2
    · have e' : ¬ q.1 = k := fun z => e (h1.trans z)
      have b : valueAt (q :: qs) k = valueAt qs k := by simp [valueAt, List.find?_cons, e']
      rw [valV_neg e, b]; exact ih
theorem KV.any {kvs : List (κ × V)} {vs : List (κ × Value)} (r : KV kvs vs) (k : κ) : (kvs.any fun kv => decide (kv.1 = k)) = vs.any fun kv => decide (kv.1 = k) := by
  unfold KV at r
  induction r with
  | nil => rfl
  | cons h t ih => rw [List.any_cons, List.any_cons, ih, h.1]
theorem KV.repl {kvs : List (κ × V)} {vs : List (κ × Value)} (r : KV kvs vs) (k : κ) {y : V} {u : Value} (ry : RelV y u) :
    KV (kvs.map fun kv => if kv.1 = k then (kv.1, y) else kv) (vs.map fun kv => if kv.1 = k then (kv.1, u) else kv) := by
  unfold KV at r ⊢
  induction r with
  | nil => exact .nil
  | @cons p q ps qs h t ih =>
    rw [List.map_cons, List.map_cons]
    refine .cons ?_ ih
    obtain ⟨h1, h2⟩ := h
    by_cases e : p.1 = k
    · rw [if_pos e, if_pos (h1.symm.trans e)]; exact ⟨h1, ry⟩
    · rw [if_neg e, if_neg (fun z => e (h1.trans z))]; exact ⟨h1, h2⟩
theorem KV.put {kvs : List (κ × V)} {vs : List (κ × Value)} (r : KV kvs vs) (k : κ) {y : V} {u : Value} (ry : RelV y u) : KV (putK kvs k y) (stored vs k u) := by
  unfold putK stored
  rw [r.any k]
  by_cases e : (vs.any fun kv => decide (kv.1 = k)) = true
  · rw [if_pos e, if_pos e]; exact r.repl k ry
  · rw [if_neg e, if_neg e]; exact Paired.snoc r ⟨rfl, ry⟩
theorem KV.drop {kvs : List (κ × V)} {vs : List (κ × Value)} (r : KV kvs vs) (k : κ) : KV (dropK kvs k) (without vs k) := by
  unfold KV at r ⊢
  unfold dropK without
  induction r with
  | nil => exact .nil
  | @cons p q ps qs h t ih =>
    obtain ⟨h1, h2⟩ := h
    rw [List.filter_cons, List.filter_cons]
    by_cases e : p.1 = k
    · have a : ¬ decide (p.1 ≠ k) = true := by simp [e]
      have b : ¬ decide (q.1 ≠ k) = true := by simp [h1.symm.trans e]
      rw [if_neg a, if_neg b]; exact ih
    · have e' : ¬ q.1 = k := fun z => e (h1.trans z)
      have a : decide (p.1 ≠ k) = true := by simp [e]
      have b : decide (q.1 ≠ k) = true := by simp [e']
      rw [if_pos a, if_pos b]; exact .cons ⟨h1, h2⟩ ih
theorem KV.keys {kvs : List (κ × V)} {vs : List (κ × Value)} (r : KV kvs vs) : kvs.map (·.1) = vs.map (·.1) := by
  unfold KV at r
  induction r with
  | nil => rfl
  | cons h t ih => rw [List.map_cons, List.map_cons, ih, h.1]
theorem KV.length {kvs : List (κ × V)} {vs : List (κ × Value)} (r : KV kvs vs) : kvs.length = vs.length := Paired.length r
end
theorem kV_is {P : Program} {w : World} {k : Key} {u : Value} (r : RelV (kV k) u) : (mixKind P w).is k u = true := by
  cases k with
  | inl i => obtain ⟨t, e⟩ := (show ∃ t, u = Value.int i t from r); subst e; exact mixKind_int P w i t
  | inr x => obtain ⟨t, e⟩ := (show ∃ t, u = Value.str x t from r); subst e; exact mixKind_str P w x t
theorem items_are {P : Program} {w : World} : ∀ {ks : List Key} {us : List Value}, Vals (ks.map kV) us → ItemsAre (mixKind P w) ks us
  | [], _, r => by rw [List.map_nil] at r; cases r; exact .nil
  | k :: ks, _, r => by
    rw [List.map_cons] at r
    cases r with
    | cons h t => exact .cons (kV_is h) (items_are t)
abbrev KT (H : Hp) : List (List Key × V) → List (List Key × Addr × Value) → Prop := Paired fun p q => p.1 = q.1 ∧ H q.2.1 = some (.tup (p.1.map kV)) ∧ RelV p.2 q.2.2
theorem KT.val {H : Hp} {kvs : List (List Key × V)} {xs : List (List Key × Addr × Value)} (r : KT H kvs xs) (k : List Key) : RelO (valV kvs k) ((atKey xs k).map (·.2)) := by
  induction r with
  | nil => exact True.intro
  | @cons p q ps qs h t ih =>
    obtain ⟨h1, _, h2⟩ := h
    by_cases e : p.1 = k
    · have e' : q.1 = k := h1.symm.trans e
      have b : atKey (q :: qs) k = some q.2 := by simp [atKey, List.find?_cons, e']
      rw [valV_pos e, b]; exact h2
    · have e' : ¬ q.1 = k := fun z => e (h1.trans z)
      have b : atKey (q :: qs) k = atKey qs k := by simp [atKey, List.find?_cons, e']
      rw [valV_neg e, b]; exact ih
theorem KT.repl {H : Hp} {kvs : List (List Key × V)} {xs : List (List Key × Addr × Value)} (r : KT H kvs xs) (k : List Key) {y : V} {u : Value} (ry : RelV y u) :
    KT H (kvs.map fun kv => if kv.1 = k then (kv.1, y) else kv) (xs.map (putAt k u)) := by
  induction r with
  | nil => exact .nil
  | @cons p q ps qs h t ih =>
    rw [List.map_cons, List.map_cons]
    refine .cons ?_ ih
    obtain ⟨h1, h2, h3⟩ := h
    unfold putAt
    by_cases e : p.1 = k
    · rw [if_pos e, if_pos (h1.symm.trans e)]; exact ⟨h1, h2, ry⟩
    · rw [if_neg e, if_neg (fun z => e (h1.trans z))]; exact ⟨h1, h2, h3⟩
theorem KT.put {H : Hp} {kvs : List (List Key × V)} {xs : List (List Key × Addr × Value)} (r : KT H kvs xs) (k : List Key) {b : Addr} {y : V} {u : Value} (hb : H b = some (.tup (k.map kV))) (ry : RelV y u) :
    KT H (putK kvs k y) (storedH xs k b u) := by
  have e : (kvs.any fun kv => decide (kv.1 = k)) = (atKey xs k).isSome := by
    rw [valV_any, (r.val k).isSome_eq, Option.isSome_map]
  unfold putK storedH
  rw [e]
  by_cases q : (atKey xs k).isSome = true
  · rw [if_pos q, if_pos q]; exact r.repl k ry
  · rw [if_neg q, if_neg q]; exact Paired.snoc r ⟨rfl, hb, ry⟩
theorem KT.keeps {H H' : Hp} {kvs : List (List Key × V)} {xs : List (List Key × Addr × Value)} (r : KT H kvs xs) (ht : ∀ b ys, H b = some (.tup ys) → H' b = some (.tup ys)) : KT H' kvs xs :=
  Paired.mapP r fun _ _ z => ⟨z.1, ht _ _ z.2.1, z.2.2⟩
section
variable {P : Program} {w : World} {H : Hp} {h : Heap} {a : Addr}
theorem rd_of {u : HO} (ok : HOk P w H h) (e : Rd H a u) : ObjOk P w H h a u := e.ok ok
theorem dk_rd {kvs : List (Key × V)} (ok : HOk P w H h) (e : Rd H a (.dK kvs)) : kvs.length ≤ sizeLine ∧ (a == sysModules) = false ∧ ∃ vs, KV kvs vs ∧ h.DictOf (mixKind P w) a vs :=
  show ObjOk P w H h a (.dK kvs) from rd_of ok e
theorem dk_of {kvs : List (Key × V)} (ok : HOk P w H h) (e : H a = some (.dK kvs)) : kvs.length ≤ sizeLine ∧ (a == sysModules) = false ∧ ∃ vs, KV kvs vs ∧ h.DictOf (mixKind P w) a vs := dk_rd ok (.inl e)
theorem key_of {ks : List Key} (ok : HOk P w H h) (e : H a = some (.tup (ks.map kV))) : (tupleKind (mixKind P w)).is h ks a := by
  obtain ⟨_, its, r, o, h1, h2, n, h3⟩ := (show ObjOk P w H h a (.tup (ks.map kV)) from ok a _ e)
  exact ⟨o, its.toArray, n, h1, h2, h3, by simpa using items_are r⟩
theorem dt_rd {kvs : List (List Key × V)} (ok : HOk P w H h) (e : Rd H a (.dT kvs)) : kvs.length ≤ sizeLine ∧ (a == sysModules) = false ∧
    ∃ xs, KT H kvs xs ∧ h.DictOfH (tupleKind (mixKind P w)) a xs := by
  obtain ⟨z, y, xs, r, o, es, ep, h1, h2, h3, h4, h5⟩ := (show ObjOk P w H h a (.dT kvs) from rd_of ok e)
  refine ⟨z, y, xs, r, o, es, ep, h1, h2, h3, h4, fun x hx => ?_, h5⟩
  have all : ∀ {l : List (List Key × V)} {m : List (List Key × Addr × Value)}, KT H l m → ∀ x ∈ m, (tupleKind (mixKind P w)).is h x.1 x.2.1 := by
    intro l m q
    induction q with
    | nil => intro x hx; exact nomatch hx
    | @cons p q ps qs hq t ih =>
      intro x hx
      rcases List.mem_cons.mp hx with e | hx
      · subst e
        exact key_of ok (by rw [← hq.1]; exact hq.2.1)
      · exact ih x hx
  exact all r x hx
theorem dt_of {kvs : List (List Key × V)} (ok : HOk P w H h) (e : H a = some (.dT kvs)) : kvs.length ≤ sizeLine ∧ (a == sysModules) = false ∧
    ∃ xs, KT H kvs xs ∧ h.DictOfH (tupleKind (mixKind P w)) a xs := dt_rd ok (.inl e)
end
def DGet (H : Hp) (a : Addr) (y : V) (r : Option V) : Prop :=
  (∃ kvs k, Rd H a (.dK kvs) ∧ y = kV k ∧ r = valV kvs k) ∨ ∃ kvs k b, Rd H a (.dT kvs) ∧ y = .ref b ∧ H b = some (.tup (k.map kV)) ∧ r = valV kvs k
def DPut (H : Hp) (a : Addr) (y v : V) (H' : Hp) : Prop :=
  (∃ kvs k, H a = some (.dK kvs) ∧ y = kV k ∧ kvs.length < sizeLine ∧ H' = upd H a (.dK (putK kvs k v))) ∨
  ∃ kvs k b, H a = some (.dT kvs) ∧ y = .ref b ∧ H b = some (.tup (k.map kV)) ∧ kvs.length < sizeLine ∧ H' = upd H a (.dT (putK kvs k v))
theorem DGet.k {H : Hp} {a : Addr} {kvs : List (Key × V)} {k : Key} (e : H a = some (.dK kvs)) : DGet H a (kV k) (valV kvs k) := .inl ⟨kvs, k, .inl e, rfl, rfl⟩
theorem DGet.t {H : Hp} {a b : Addr} {kvs : List (List Key × V)} {k : List Key} (e : H a = some (.dT kvs)) (eb : H b = some (.tup (k.map kV))) : DGet H a (.ref b) (valV kvs k) := .inr ⟨kvs, k, b, .inl e, rfl, eb, rfl⟩
theorem DPut.k {H : Hp} {a : Addr} {kvs : List (Key × V)} {k : Key} {v : V} (e : H a = some (.dK kvs)) (hl : kvs.length < sizeLine) : DPut H a (kV k) v (upd H a (.dK (putK kvs k v))) := .inl ⟨kvs, k, e, rfl, hl, rfl⟩
theorem DPut.t {H : Hp} {a b : Addr} {kvs : List (List Key × V)} {k : List Key} {v : V} (e : H a = some (.dT kvs)) (eb : H b = some (.tup (k.map kV))) (hl : kvs.length < sizeLine) :
    DPut H a (.ref b) v (upd H a (.dT (putK kvs k v))) := .inr ⟨kvs, k, b, e, rfl, eb, hl, rfl⟩
section
variable {X : Cx} {pins : List (Addr × Obj)} {σ : St} {H : Hp} {s : Shared} {a : Addr} {y v : V} {u r : Value} {o : Option V} {A : Around} {E : Value → Shared → Prop}
theorem Inv.big (I : Inv X pins σ H s) : sysModules < s.heap.objs.size := by
  have h : mainGlobals < s.heap.objs.size := (I.mod.glob.keeps I.bk).lt
  exact Nat.lt_trans (by decide) h
theorem d_getItem {Q : Value → Shared → Prop} (hu : A.units + 1 < cLine) (I : Inv X pins σ H s) (g : DGet H a y (some v)) (ry : RelV y u) (h : ∀ w' s', Inv X pins σ H s' → RelV v w' → Q w' s') :
    wpAny (model X.prog X.w) A (getItem (.ref a) u) Q E s := by
  rcases g with ⟨kvs, k, e, ey, l⟩ | ⟨kvs, k, b, e, ey, eb, l⟩
  · subst ey
    obtain ⟨z, hd, vs, rel, dd⟩ := dk_rd I.hok e
    obtain ⟨w', hw, rw'⟩ := RelO.some_of (v := v) (o := valueAt vs k) (by rw [l]; exact rel.val k)
    exact wpAny_getItem_of (kV_is ry) dd.mapOf hw (h w' _ (I.tok _) rw')
  · subst ey
    cases (show u = Value.ref b from ry)
    obtain ⟨z, hd, xs, rel, dd⟩ := dt_rd I.hok e
    obtain ⟨w', hw, rw'⟩ := RelO.some_of (v := v) (o := (atKey xs k).map (·.2)) (by rw [l]; exact rel.val k)
    obtain ⟨p, hp, hp2⟩ := Option.map_eq_some_iff.mp hw
    refine wpAny_getItem_heap (tupleKind_room_in1 hu) (key_of I.hok eb) dd hp ?_
    rw [hp2]
    exact h w' _ (I.tok _) rw'
theorem d_notIn {Q : Value → Shared → Prop} (hu : A.units + 1 < cLine) (I : Inv X pins σ H s) (g : DGet H a y o) (ry : RelV y u) (h : ∀ s', Inv X pins σ H s' → Q (.bool (!o.isSome)) s') :
    wpAny (model X.prog X.w) A (compareOp .NotIn u (.ref a)) Q E s := by
  rcases g with ⟨kvs, k, e, ey, l⟩ | ⟨kvs, k, b, e, ey, eb, l⟩
  · subst ey
    obtain ⟨z, hd, vs, rel, dd⟩ := dk_rd I.hok e
    refine wpAny_notIn_of (kV_is ry) hd dd.mapOf ?_
    rw [← (rel.val k).isSome_eq, ← l]
    exact h _ (I.tok _)
  · subst ey
    cases (show u = Value.ref b from ry)
    obtain ⟨z, hd, xs, rel, dd⟩ := dt_rd I.hok e
    refine wpAny_notIn_heap (tupleKind_room_in1 hu) (key_of I.hok eb) hd dd ?_
    have q := (rel.val k).isSome_eq
    rw [Option.isSome_map] at q
    rw [← q, ← l]
    exact h _ (I.tok _)
theorem d_write {h' : Heap} {t' : Nat} {ob : HO} (I : Inv X pins σ H s) (mu : Mut (H a)) (hs : Heap.SameBut a s.heap h') (he : ∃ q, h'.get? a = some q) (new : ObjOk X.prog X.w (upd H a ob) h' a ob) :
    Inv X pins σ (upd H a ob) { s with heap := h', toks := t' } :=
  I.write (x := a) (e := a) mu (.inl rfl) (fun b q hb z => (hs.2 b hb).trans z) he new
theorem dk_new {P : Program} {w : World} {H' : Hp} {h' : Heap} {kvs : List (Key × V)} {vs : List (Key × Value)} (z : kvs.length ≤ sizeLine) (hd : (a == sysModules) = false) (rel : KV kvs vs) (dd : h'.DictOf (mixKind P w) a vs) :
    ObjOk P w H' h' a (.dK kvs) := ⟨z, hd, vs, rel, dd⟩
theorem d_setItem {H' : Hp} {Q : Unit → Shared → Prop} (hu : A.units + 1 < cLine) (I : Inv X pins σ H s) (g : DPut H a y v H') (ry : RelV y u) (rv : RelV v r) (h : ∀ s', Inv X pins σ H' s' → Q () s') :
    wpAny (model X.prog X.w) A (setItem (.ref a) u r) Q E s := by
  rcases g with ⟨kvs, k, e, ey, l, eH⟩ | ⟨kvs, k, b, e, ey, eb, l, eH⟩
  · subst ey eH
    obtain ⟨z, hd, vs, rel, dd⟩ := dk_of I.hok e
    have hz : vs.length ≤ sizeLine := by rw [← rel.length]; exact z
    have hl : (putK kvs k v).length ≤ sizeLine := by have := length_putK kvs k v; omega
    refine wpAny_setItem_pairs (hsz := hz) (kV_is ry) dd fun h' dd' hs => h _ ?_
    have he : ∃ q, h'.get? a = some q := let ⟨q, _, _, hq, _⟩ := dd'; ⟨q, hq⟩
    exact d_write I (by rw [e]; exact True.intro) hs he (dk_new hl hd (rel.put k rv) dd')
  · subst ey eH
    cases (show u = Value.ref b from ry)
    obtain ⟨z, hd, xs, rel, dd⟩ := dt_of I.hok e
    have hz : xs.length ≤ sizeLine := by rw [← Paired.length rel]; exact z
    have hl : (putK kvs k v).length ≤ sizeLine := by have := length_putK kvs k v; omega
    refine wpAny_setItem_heap (hsz := hz) (tupleKind_room_in1 hu) (key_of I.hok eb) dd fun h' dd' hs => h _ ?_
    obtain ⟨q, es, ep, hq, h2, h3, h4, _, h5⟩ := dd'
    refine d_write I (by rw [e]; exact True.intro) hs ⟨q, hq⟩ ⟨hl, hd, _, (rel.put k eb rv).keeps fun c ys ec => ?_, q, es, ep, hq, h2, h3, h4, h5⟩
    rw [upd_ne (ne_of ec e (fun z => nomatch z))]
    exact ec
end
section
variable {X : Cx} {pins : List (Addr × Obj)} {σ : St} {H : Hp} {s : Shared} {a : Addr} {kvs : List (Key × V)} {k : Key} {u : Value} {A : Around} {E : Value → Shared → Prop}
end
def NoSl (i : Expr) : Prop := ∀ ov iv, subscripted i false ov iv = operate [ov, iv] (getItem ov iv)
theorem subD_of {prog : Program} {w : World} {A : Around} {E : Value → Shared → Prop} {s : Shared} {env : Env} {value slice : Expr} {pos : Pos} {T id : String} {Q : Value → Shared → Prop}
    (hl : typeLookup (.type T) "__getitem__" = pure (some (.builtin id))) (hs : NoSl slice)
    (h : wpAny (model prog w) A (eval value env) (fun o s₁ => wpAny (model prog w) A (eval slice env) (fun i s₂ => s₂.TypeIs o T ∧ wpAny (model prog w) A (getItem o i) Q E s₂) E s₁) E s) :
    wpAny (model prog w) A (eval (.Subscript value slice pos) env) Q E s := by
  refine Subscript_ (wpAny_mono h (fun o s₁ h₁ => wpAny_mono h₁ (fun i s₂ h₂ => ?_) fun _ _ x => x) fun _ _ x => x)
  obtain ⟨hT, h₂⟩ := h₂
  unfold subscriptTail
  refine wpAny_bind ?_
  rw [getitemInPython_of_ne hT.not_modules]
  refine wpAny_bind (wpAny_specialOf hT hl ?_)
  have fin : wpAny (model prog w) A (subscripted slice false o i) (fun r s₃ => wpAny (model prog w) A (letTemporaryGo value o r >>= fun _ => pure r) Q E s₃) E s₂ := by
    rw [hs o i]
    exact wpAny_operating (wpAny_mono h₂ (fun r s₃ h₃ => wpAny_bind (wpAny_letTemporaryGo (wpAny_pure h₃))) fun _ _ x => x)
  first
    | exact wpAny_pure (wpAny_bind fin)
    | exact wpAny_bind (wpAny_pure (wpAny_bind fin))
    | exact wpAny_bind fin
theorem dict_typeIs {X : Cx} {pins : List (Addr × Obj)} {σ : St} {H : Hp} {s : Shared} {a : Addr} {y : V} {o : Option V} (I : Inv X pins σ H s) (g : DGet H a y o) : s.TypeIs (.ref a) "dict" := by
  rcases g with ⟨kvs, k, e, _, _⟩ | ⟨kvs, k, b, e, _, _, _⟩
  · obtain ⟨_, _, vs, _, dd⟩ := dk_rd I.hok e
    exact dd.typeIs
  · obtain ⟨_, _, xs, _, dd⟩ := dt_rd I.hok e
    exact dd.typeIs
def tDGet (td ty : TE) : TE := fun σ H Q => td σ H fun x H1 => ty σ H1 fun y H2 => ∃ a v, x = .ref a ∧ DGet H2 a y (some v) ∧ Q v H2
def tDNotIn (ty td : TE) : TE := fun σ H Q => ty σ H fun y H1 => td σ H1 fun x H2 => ∃ a o, x = .ref a ∧ DGet H2 a y o ∧ Q (.bl (!o.isSome)) H2
def sDPut (td ty tv : TE) : TS := fun D σ H => tv σ H fun v H1 => td σ H1 fun x H2 => ty σ H2 fun y H3 => ∃ a H4, x = .ref a ∧ DPut H3 a y v H4 ∧ D.nx σ H4
section
variable {X : Cx} {o i e value : Expr} {pos pos' tpos : Pos} {td ty tv : TE}
theorem pe_dget (hu : X.A.units + 1 < cLine) (ho : PE X o td) (hi : PE X i ty) (hs : NoSl i) : PE X (.Subscript o i pos) (tDGet td ty) := by
  intro pins s σ H Q I h
  refine subD_of PySem.F.slot_dict_getitem.lookup hs (thn (ho pins s σ H _ I h) fun u s1 ⟨x, H1, I1, rx, q1⟩ => thn (hi pins s1 σ H1 _ I1 q1) fun iv s2 ⟨y, H2, I2, ry, a, v, ex, g, q2⟩ => ?_)
  subst ex
  obtain rfl : u = Value.ref a := rx
  exact ⟨dict_typeIs I2 g, d_getItem hu I2 g ry fun w' s3 I3 rw' => ⟨v, H2, I3, rw', q2⟩⟩
theorem pc_dnotin (hu : X.A.units + 1 < cLine) (hi : PE X i ty) (ho : PE X o td) : PC X .NotIn i o (tDNotIn ty td) := by
  intro pins s σ H Q I h
  refine thn (hi pins s σ H _ I h) fun iv s1 ⟨y, H1, I1, ry, q1⟩ => thn (ho pins s1 σ H1 _ I1 q1) fun u s2 ⟨x, H2, I2, rx, a, ov, ex, g, q2⟩ => ?_
  subst ex
  obtain rfl : u = Value.ref a := rx
  exact d_notIn hu I2 g ry fun s3 I3 => ⟨.bl (!ov.isSome), H2, I3, rfl, q2⟩
theorem ps_dput (hu : X.A.units + 1 < cLine) (ho : PE X o td) (hi : PE X i ty) (hv : PE X value tv) (hs : swapsWith value (some (.Subscript o i pos')) pos.line X.env = pure false) :
    PS X (.Assign [.Subscript o i pos'] value pos) (sDPut td ty tv) := by
  intro pins s σ H D I h
  refine wpAny_Assign_Subscript (thn (hv pins s σ H _ I h) fun r s1 ⟨v, H1, I1, rv, q1⟩ => thn (ho pins s1 σ H1 _ I1 q1) fun u s2 ⟨x, H2, I2, rx, q2⟩ => thn (hi pins s2 σ H2 _ I2 q2) fun iv s3 ⟨y, H3, I3, ry, a, H4, ex, g, q3⟩ => ?_) hs
  subst ex
  obtain rfl : u = Value.ref a := rx
  exact d_setItem hu I3 g ry rv fun s4 I4 => ⟨σ, H4, I4, q3⟩
end
theorem dt_empty {P : Program} {w : World} {H : Hp} (h : Heap) (hb : sysModules < h.objs.size) : ObjOk P w H (h.push { cls := .type "dict", data := .dict #[] }) h.objs.size (.dT []) :=
  ⟨Nat.zero_le _, beq_eq_false_iff_ne.mpr (Ne.symm (Nat.ne_of_lt hb)), [], .nil, _, #[], 0, Heap.get?_push_size _ rfl, ⟨rfl, rfl, rfl⟩, rfl, rfl, List.nodup_nil⟩
def tDNewT : TE := fun _ H Q => ∀ p, H p = none → Q (.ref p) (upd H p (.dT []))
section
variable {X : Cx} {pos : Pos}
theorem pe_dnewT : PE X (.Dict [] [] pos) tDNewT := fun pins s σ H Q I h =>
  wpAny_Dict_empty ⟨.ref s.heap.objs.size, _, I.laid (a := s.heap.objs.size) (o := .dT []) (t' := s.toks) (fun _ _ q => Heap.get?_push_of_some _ q) (Nat.le_refl _) (dt_empty s.heap I.big), rfl, h _ (I.hok.fresh (Nat.le_refl _))⟩
end
section
variable {X : Cx} {pins : List (Addr × Obj)} {σ : St} {H : Hp} {s : Shared} {a : Addr} {y d : V} {u r : Value} {o : Option V} {A : Around} {E : Value → Shared → Prop}
end
section
variable {X : Cx} {o e f : Expr} {apos cpos : Pos} {td ty tx : TE}
end
section
variable {X : Cx} {pins : List (Addr × Obj)} {σ : St} {H : Hp} {s : Shared} {a : Addr} {kvs : List (Key × V)} {A : Around} {E : Value → Shared → Prop}
end
section
variable {X : Cx} {pins : List (Addr × Obj)} {σ : St} {H : Hp} {s : Shared} {a : Addr} {y : V} {u : Value} {A : Around} {E : Value → Shared → Prop}
end
end L2
namespace L2
open PySem
def BB (n : Nat) (i : Int) : Prop := i.natAbs < 2 ^ n
def CMulB (i j : Int) : Prop := ∃ m n, m + n ≤ 100000000 ∧ ((BB m i ∧ BB n j) ∨ BB 64 i ∨ BB 64 j)
def CDivB (_ j : Int) : Prop := j ≠ 0 ∧ BB 9000 j
def rAddI : R2 := rI0 fun i j => .int (i + j)
def rSubI : R2 := rI0 fun i j => .int (i - j)
def rMulI : R2 := rI CMulB fun i j => .int (i * j)
def rDivI : R2 := rI CDivB fun i j => .int (i.fdiv j)
def rDivC : R2 := rI CDiv fun i j => .int (i / j)
def rModI : R2 := rI (fun _ j => 0 < j) fun i j => .int (i % j)
def rPowI : R2 := rI CPow fun i j => .int (i ^ j.toNat)
def rNegI : V → Hp → VK → Prop := rU fun i => .int (-i)
def rLtI : R2 := rI0 fun i j => .bl (decide (i < j))
def rLeI : R2 := rI0 fun i j => .bl (decide (i ≤ j))
def rGtI : R2 := rI0 fun i j => .bl (decide (j < i))
def rGeI : R2 := rI0 fun i j => .bl (decide (j ≤ i))
def cAbs : List V → Hp → VK → Prop := fun xs H Q => ∃ i, xs = [.int i] ∧ Q (.int (if i < 0 then -i else i)) H
def cLen (K : PySem.W.Frag) : List V → Hp → VK → Prop := fun xs H Q => ∃ p ys, xs = [.ref p] ∧ (SqL K H p ys ∨ SqT K H p ys) ∧ Q (.int ys.length) H
def isB (x : V) (H : Hp) (T : String) (b : Bool) : Prop := match x with
  | .int _ => (T = "int" ∧ b = true) ∨ (T = "bool" ∧ b = false)
  | .bl _ => T = "bool" ∧ b = true
  | .ref p => T = "tuple" ∧ b = true ∧ ∃ xs, H p = some (.tup xs)
  | _ => False
def cIsB : List V → Hp → VK → Prop := fun xs H Q => ∃ x T b, xs = [x, .ty T] ∧ isB x H T b ∧ Q (.bl b) H
theorem BB.mono {m n : Nat} {i : Int} (h : BB m i) (hm : m ≤ n) : BB n i := Nat.lt_of_lt_of_le h (Nat.pow_le_pow_right (by decide) hm)
theorem CMulB.l {i j : Int} (h : BB 64 i) : CMulB i j := ⟨0, 0, by decide, .inr (.inl h)⟩
theorem CMulB.r {i j : Int} (h : BB 64 j) : CMulB i j := ⟨0, 0, by decide, .inr (.inr h)⟩
theorem Same.tup {K : PySem.W.Frag} {H H' : Hp} {a : Addr} {xs : List V} (e : Same H H') (h : SqT K H a xs) : SqT K H' a xs := by
  rcases h with (h | ⟨o, h⟩) | h
  · exact .inl (.inl (e _ _ h))
  · exact .inl (.inr ⟨o, e _ _ h⟩)
  · exact .inr h
theorem Same.upd {H : Hp} {p : Addr} {o : HO} (h : H p = none) : Same H (upd H p o) := fun b u e => by
  rw [upd_ne (ne_of_none e h)]; exact e
theorem BB.of_le {n : Nat} {i j : Int} (h : BB n j) (hl : i.natAbs ≤ j.natAbs) : BB n i := Nat.lt_of_le_of_lt hl h
theorem BB.sub {n : Nat} {i j : Int} (hi : BB n i) (hj : BB n j) : BB (n + 1) (i - j) := by
  unfold BB at *
  rw [Nat.pow_succ]
  omega
theorem BB.gcd {n : Nat} {i j : Int} (hj : BB n j) (h0 : j ≠ 0) : BB n (Int.gcd i j : Nat) := by
  refine hj.of_le ?_
  rw [Int.natAbs_natCast]
  exact Int.gcd_le_natAbs_right _ h0
theorem CMulB.b {m n : Nat} {i j : Int} (hi : BB m i) (hj : BB n j) (h : m + n ≤ 100000000 := by decide) : CMulB i j := ⟨m, n, h, .inl ⟨hi, hj⟩⟩
def caught (σ : St) (caps : List Nat) : St := caps.map fun j => (σ[j]?).join
def CompRd (J : It) (σ : St) (caps : List Nat) (te : TE) (H1 : Hp) (fin : List V → Hp → Prop) : Prop :=
  ∃ (n : Nat) (W : Nat → List V → Hp → Prop), n ≤ sizeLine ∧ W 0 [] H1 ∧ ∀ i ys H2, i ≤ n → ys.length = i → W i ys H2 →
    (J.stop i H2 ∧ fin ys H2) ∨ (i < n ∧ J.go i H2 ∧ ∀ x H3, J.yld i H2 x H3 → te (some x :: caught σ caps) H3 fun y H4 => W (i + 1) (ys ++ [y]) H4)
def tComp (wi : TI) (caps : List Nat) (te : TE) : TE := fun σ H Q => wi σ H fun J H1 => CompRd J σ caps te H1 fun ys H2 => ∀ p, H2 p = none → Q (.ref p) (upd H2 p (.lst ys))
def Ite (K : PySem.W.Frag) (a : Addr) : It :=
  ⟨fun i H => ∃ xs x, SqL K H a xs ∧ xs[i]? = some x, fun i H v H' => ∃ p x, v = .ref p ∧ H p = none ∧ H' = upd H p (.tup [.int i, x]) ∧ ∀ xs, SqL K H a xs → xs[i]? = some x, fun i H => ∃ xs, SqL K H a xs ∧ xs.length ≤ i⟩
def iEnum (K : PySem.W.Frag) (tl : TE) : TI := fun σ H R => tl σ H fun x H1 => ∃ a, x = .ref a ∧ (∃ xs, SqL K H1 a xs) ∧ R (Ite K a) H1
theorem for_enum {K : PySem.W.Frag} {a : Addr} {xs : List V} {g : TG} {tb : TS} {D : Ends} {σ : St} {H : Hp} (Pv : Nat → St → Hp → Prop) (h0 : Pv 0 σ H) (hl : ∀ i σ H, i ≤ xs.length → Pv i σ H → SqL K H a xs)
    (hs : ∀ i x p σ H, xs[i]? = some x → Pv i σ H → H p = none → g (.ref p) σ (upd H p (.tup [.int i, x])) fun σ2 H2 => tb { D with nx := Pv (i + 1), ct := Pv (i + 1), bk := D.nx } σ2 H2) (hd : ∀ σ H, Pv xs.length σ H → D.nx σ H) :
    ∃ W : Nat → Nat → St → Hp → Prop, (∃ m, W 0 m σ H) ∧ ∀ i m σ H, W i m σ H →
      ((Ite K a).stop i H ∧ D.nx σ H) ∨ ((Ite K a).go i H ∧ ∃ N : St → Hp → Prop, (∀ σ' H', N σ' H' → ∃ m', m' < m ∧ W (i + 1) m' σ' H') ∧ ∀ x H', (Ite K a).yld i H x H' → g x σ H' fun σ2 H2 => tb { D with nx := N, ct := N, bk := D.nx } σ2 H2) := by
  refine ⟨fun i m σ H => m = xs.length - i ∧ i ≤ xs.length ∧ Pv i σ H, ⟨xs.length, by simp, Nat.zero_le _, h0⟩, ?_⟩
  rintro i m σ H ⟨rfl, hi, p⟩
  have q := hl i σ H hi p
  by_cases hlt : i < xs.length
  · refine .inr ⟨⟨xs, xs[i], q, by simp [hlt]⟩, Pv (i + 1), fun σ' H' p' => ⟨xs.length - (i + 1), by omega, rfl, hlt, p'⟩, fun x H' y => ?_⟩
    obtain ⟨pp, z, e1, e2, e3, y⟩ := y
    subst e1 e3
    exact hs i z pp σ _ (y xs q) p e2
  · have e : i = xs.length := by omega
    subst e
    exact .inl ⟨⟨xs, q, Nat.le_refl _⟩, hd σ H p⟩
theorem comp_list {K : PySem.W.Frag} {a : Addr} {xs : List V} {σ : St} {caps : List Nat} {te : TE} {H1 : Hp} {fin : List V → Hp → Prop} (W : Nat → List V → Hp → Prop) (hz : xs.length ≤ sizeLine) (h0 : W 0 [] H1) (hl : ∀ i ys H, i ≤ xs.length → W i ys H → SqL K H a xs)
    (hs : ∀ i x ys H, xs[i]? = some x → ys.length = i → W i ys H → te (some x :: caught σ caps) H fun y H4 => W (i + 1) (ys ++ [y]) H4) (hd : ∀ ys H, ys.length = xs.length → W xs.length ys H → fin ys H) : CompRd (Itl K a) σ caps te H1 fin := by
  refine ⟨xs.length, W, hz, h0, fun i ys H2 hi hy hw => ?_⟩
  have q := hl i ys H2 hi hw
  by_cases hlt : i < xs.length
  · refine .inr ⟨hlt, ⟨xs, xs[i], q, by simp [hlt]⟩, fun x H3 y => ?_⟩
    obtain ⟨e, y⟩ := y
    subst e
    exact hs i x ys _ (y xs q) hy hw
  · have e : i = xs.length := by omega
    subst e
    exact .inl ⟨⟨xs, q, Nat.le_refl _⟩, hd ys H2 hy hw⟩
theorem comp_range {lo : Int} {n : Nat} {σ : St} {caps : List Nat} {te : TE} {H1 : Hp} {fin : List V → Hp → Prop} (W : Nat → List V → Hp → Prop) (hz : n ≤ sizeLine) (h0 : W 0 [] H1)
    (hs : ∀ i ys H, i < n → ys.length = i → W i ys H → te (some (.int (lo + i)) :: caught σ caps) H fun y H4 => W (i + 1) (ys ++ [y]) H4) (hd : ∀ ys H, ys.length = n → W n ys H → fin ys H) : CompRd (Itr lo n) σ caps te H1 fin := by
  refine ⟨n, W, hz, h0, fun i ys H2 hi hy hw => ?_⟩
  by_cases hlt : i < n
  · refine .inr ⟨hlt, hlt, fun x H3 y => ?_⟩
    obtain ⟨e1, e2⟩ := y
    subst e1 e2
    exact hs i ys _ hlt hy hw
  · have e : i = n := by omega
    subst e
    exact .inl ⟨Nat.le_refl _, hd ys H2 hy hw⟩
def cList (K : PySem.W.Frag) : List V → Hp → VK → Prop := fun xs H Q => ∃ p ys, xs = [.ref p] ∧ (SqL K H p ys ∨ SqT K H p ys) ∧ ∀ l, H l = none → Q (.ref l) (upd H l (.lst ys))
theorem Same.put {H H' : Hp} {p : Addr} {o : HO} (s : Same H H') (h : H p = none) : Same H (L2.upd H' p o) := fun b u e => by
  rw [upd_ne (ne_of_none e h)]; exact s b u e
theorem SqT.off {K : PySem.W.Frag} {H : Hp} {p r : Addr} {xs ys zs : List V} (h : SqT K H p xs) (hr : H r = some (.lst ys)) : SqT K (upd H r (.lst zs)) p xs := by
  rcases h with (h | ⟨o, h⟩) | h
  · exact .inl (.inl (by rw [upd_ne (ne_of h hr (by intro z; cases z))]; exact h))
  · exact .inl (.inr ⟨o, by rw [upd_ne (ne_of h hr (by intro z; cases z))]; exact h⟩)
  · exact .inr h
end L2
namespace L2
open PySem PySem.Spec PyProof.Rows
theorem bt_int : bootBuiltins "int" = some (.type "int") := by decide +kernel
theorem bt_bool : bootBuiltins "bool" = some (.type "bool") := by decide +kernel
theorem bt_tuple : bootBuiltins "tuple" = some (.type "tuple") := by decide +kernel
theorem bt_list : bootBuiltins "list" = some (.type "list") := by decide +kernel
theorem bt_len : bootBuiltins "len" = some (.builtin "len") := by decide +kernel
theorem bt_isinstance : bootBuiltins "isinstance" = some (.builtin "isinstance") := by decide +kernel
theorem intBits_leB {n : Nat} {k : Int} (h : BB n k) : Builtin.Int.intBits k ≤ n := by
  unfold Builtin.Int.intBits
  split
  · exact Nat.zero_le _
  · rename_i h0
    have hp : k.natAbs ≠ 0 := by simpa using h0
    have h2 := (Nat.log2_lt hp).mpr h
    omega
theorem CMulB.ok {i j : Int} (h : CMulB i j) : IntMulOk i j := by
  obtain ⟨m, n, hz, ⟨h1, h2⟩ | h1 | h1⟩ := h
  · exact IntMulOk.of_le (intBits_leB h1) (intBits_leB h2) (by omega)
  · exact .of_left (intBits_leB h1)
  · exact .of_right (intBits_leB h1)
theorem noPyB {i j : Int} (h : BB 9000 j) : Builtin.divisionGoesByPylong i j = false := by
  refine PyProof.noPylong_of_log2 ?_
  by_cases h0 : j.natAbs = 0
  · rw [h0]; decide +kernel
  · exact (Nat.log2_lt h0).mpr h
section
variable {X : Cx}
theorem op_mulB : OpR X (binaryOp .Mult) rMulI := opI fun _ _ _ _ _ _ _ hc q => mul_int q hc.ok
theorem op_fdivB : OpR X (binaryOp .FloorDiv) rDivI := opI fun _ _ _ _ _ _ _ hc q => floordiv_int hc.1 q (.inl (noPyB hc.2))
theorem kit_ii (K : PySem.W.Frag) : PySem.W.kitOne K (.type "int") (.type "int") = some true := by rfl
theorem kit_ib (K : PySem.W.Frag) : PySem.W.kitOne K (.type "int") (.type "bool") = some false := by rfl
theorem kit_bb (K : PySem.W.Frag) : PySem.W.kitOne K (.type "bool") (.type "bool") = some true := by rfl
theorem kit_tt (K : PySem.W.Frag) : PySem.W.kitOne K (.type "tuple") (.type "tuple") = some true := by rfl
theorem call_isB : CallR X (.builtin "isinstance") cIsB := by
  intro pins s σ H xs us Q I r h
  obtain ⟨x, T, b, rfl, hb, q⟩ := h
  obtain ⟨u, c, rfl, ru, rc⟩ := vals2 r
  obtain rfl : c = Value.type T := rc
  have fin : ∀ tk, EP X pins σ Q (.bool b) { s with toks := tk } := fun tk => ⟨.bl b, H, I.tok _, rfl, q⟩
  cases x with
  | int i =>
    rcases hb with ⟨rfl, rfl⟩ | ⟨rfl, rfl⟩
    · exact isinst_ok I ru (.int i) (kit_ii _) fin
    · exact isinst_ok I ru (.int i) (kit_ib _) fin
  | bl i =>
    obtain ⟨rfl, rfl⟩ := hb
    exact isinst_ok I ru (.bl i) (kit_bb _) fin
  | ref p =>
    obtain ⟨rfl, rfl, xs, hp⟩ := hb
    exact isinst_ok I ru (.tup hp) (kit_tt _) fin
  | _ => exact (show False from hb).elim
end
end L2
namespace L2
open PySem PySem.Spec PyProof.Rows
def closOf (env : Env) : List (Str × NameKind) → List (Str × Addr) → List (Str × Addr)
  | [], cs => cs
  | (n, k) :: r, cs => closOf env r (if (k == NameKind.free) = true then (n, (env.cells.lookup n).getD 0) :: cs else cs)
theorem closureFor_eq {scope : Scope} {env : Env} (h : ∀ p ∈ scope.names, p.2 = .free → ∃ c, env.cells.lookup p.1 = some c) : closureFor scope env = pure (closOf env scope.names []) := by
  have go : ∀ (f : Str × NameKind → List (Str × Addr) → Sem (ForInStep (List (Str × Addr)))), (∀ n k cs, f (n, k) cs = if (k == NameKind.free) = true then (cellOf env n >>= fun a => pure (ForInStep.yield ((n, a) :: cs))) else pure (ForInStep.yield cs)) →
      ∀ (l : List (Str × NameKind)) (cs : List (Str × Addr)), (∀ p ∈ l, p.2 = .free → ∃ c, env.cells.lookup p.1 = some c) → (forIn l cs f : Sem _) = pure (closOf env l cs) := by
    intro f hf l
    induction l with
    | nil => intro cs _; rfl
    | cons p r ih =>
      intro cs hl
      obtain ⟨n, k⟩ := p
      have hr : ∀ p ∈ r, p.2 = .free → ∃ c, env.cells.lookup p.1 = some c := fun p hp => hl p (List.mem_cons_of_mem _ hp)
      rw [List.forIn_cons, hf]
      by_cases hk : (k == NameKind.free) = true
      · obtain ⟨c, hc⟩ := hl (n, k) List.mem_cons_self (by simpa using hk)
        have hc' : env.cells.lookup n = some c := hc
        have e : cellOf env n = pure c := by unfold cellOf; rw [hc']
        rw [if_pos hk, e, pure_bind, pure_bind]
        dsimp only
        rw [ih _ hr]
        have e2 : closOf env ((n, k) :: r) cs = closOf env r ((n, c) :: cs) := by
          show closOf env r (if (k == NameKind.free) = true then (n, (env.cells.lookup n).getD 0) :: cs else cs) = _
          rw [if_pos hk, hc']; rfl
        rw [e2]
      · rw [if_neg hk, pure_bind]
        dsimp only
        rw [ih _ hr]
        have e2 : closOf env ((n, k) :: r) cs = closOf env r cs := by
          show closOf env r (if (k == NameKind.free) = true then (n, (env.cells.lookup n).getD 0) :: cs else cs) = _
          rw [if_neg hk]
        rw [e2]
  unfold closureFor
  show (forIn scope.names [] _ >>= fun s => pure s) = _
  rw [go _ (fun n k cs => by rfl) scope.names [] h, pure_bind]
theorem closOf_all {env : Env} : ∀ {l : List (Str × NameKind)} {cs : List (Str × Addr)}, (∀ p ∈ l, p.2 = .free → ∃ c, env.cells.lookup p.1 = some c) → (∀ p ∈ cs, env.cells.lookup p.1 = some p.2) → ∀ p ∈ closOf env l cs, env.cells.lookup p.1 = some p.2
  | [], _, _, h, p, hp => h p hp
  | (n, k) :: r, cs, hl, h, p, hp => by
    refine closOf_all (l := r) (fun q hq => hl q (List.mem_cons_of_mem _ hq)) (fun q hq => ?_) p hp
    by_cases hk : (k == NameKind.free) = true
    · rw [if_pos hk] at hq
      rcases List.mem_cons.mp hq with rfl | hq
      · obtain ⟨c, hc⟩ := hl (n, k) List.mem_cons_self (by simpa using hk)
        have hc' : env.cells.lookup n = some c := hc
        show env.cells.lookup n = some ((env.cells.lookup n).getD 0)
        rw [hc']; rfl
      · exact h q hq
    · rw [if_neg hk] at hq
      exact h q hq
theorem closOf_mono {env : Env} {y : Str} : ∀ {l : List (Str × NameKind)} {cs : List (Str × Addr)}, y ∈ cs.map (·.1) → y ∈ (closOf env l cs).map (·.1)
  | [], _, h => h
  | (n, k) :: r, cs, h => by
    refine closOf_mono (l := r) ?_
    by_cases hk : (k == NameKind.free) = true
    · rw [if_pos hk]; exact List.mem_cons_of_mem _ h
    · rw [if_neg hk]; exact h
theorem closOf_has {env : Env} {y : Str} : ∀ {l : List (Str × NameKind)} {cs : List (Str × Addr)}, (y, NameKind.free) ∈ l → y ∈ (closOf env l cs).map (·.1)
  | [], _, h => nomatch h
  | (n, k) :: r, cs, h => by
    rcases List.mem_cons.mp h with e | h
    · cases e
      refine closOf_mono (l := r) ?_
      rw [if_pos (by rfl)]
      exact List.mem_cons_self
    · exact closOf_has (l := r) h
theorem lookup_of_key {α : Type} {y : Str} : ∀ {l : List (Str × α)}, y ∈ l.map (·.1) → ∃ c, l.lookup y = some c
  | [], h => nomatch h
  | (n, c) :: r, h => by
    cases hx : y == n with
    | true => exact ⟨c, by simp only [List.lookup_cons, hx]⟩
    | false =>
      have h' : y ∈ r.map (·.1) := by
        rcases List.mem_cons.mp h with e | h
        · have e' : y = n := e
          rw [e'] at hx; simp at hx
        · exact h
      obtain ⟨c', e⟩ := lookup_of_key h'
      exact ⟨c', by simp only [List.lookup_cons, hx]; exact e⟩
theorem relabel_cell {env : Env} (hk : env.scope.kind = .function) : ∀ {names : List (Str × NameKind)} {y : Str}, names.lookup y = some .free → env.kindOf y = some .cell →
    (names.map fun (n, k) => if (k == NameKind.free && env.scope.kind == .function && env.kindOf n == some .cell) then (n, NameKind.cell) else (n, k)).lookup y = some .cell
  | [], _, h, _ => by simp at h
  | (n, k) :: r, y, h, hc => by
    have ih := @relabel_cell env hk r y
    show List.lookup y ((if (k == NameKind.free && env.scope.kind == .function && env.kindOf n == some .cell) = true then (n, NameKind.cell) else (n, k)) :: _) = _
    cases hx : y == n with
    | true =>
      simp only [List.lookup_cons, hx] at h
      cases h
      have e : y = n := by simpa using hx
      subst e
      have ht : (NameKind.free == NameKind.free && env.scope.kind == .function && env.kindOf y == some .cell) = true := by rw [hk, hc]; rfl
      rw [if_pos ht]; simp only [List.lookup_cons, hx]
    | false =>
      simp only [List.lookup_cons, hx] at h
      by_cases hc' : (k == NameKind.free && env.scope.kind == .function && env.kindOf n == some .cell) = true
      · rw [if_pos hc']; simp only [List.lookup_cons, hx]; exact ih h hc
      · rw [if_neg hc']; simp only [List.lookup_cons, hx]; exact ih h hc
theorem relabel_of {env : Env} : ∀ {names : List (Str × NameKind)} {y : Str}, (∀ p ∈ names, p.2 ≠ .cell) →
    (∃ k, (names.map fun (n, k) => if (k == NameKind.free && env.scope.kind == .function && env.kindOf n == some .cell) then (n, NameKind.cell) else (n, k)).lookup y = some k ∧ (k = .cell ∨ k = .free)) → (y, NameKind.free) ∈ names
  | [], _, _, ⟨_, h, _⟩ => by simp at h
  | (n, k) :: r, y, hn, ⟨kk, h, hkk⟩ => by
    have h : List.lookup y ((if (k == NameKind.free && env.scope.kind == .function && env.kindOf n == some .cell) = true then (n, NameKind.cell) else (n, k)) :: r.map fun (n, k) => if (k == NameKind.free && env.scope.kind == .function && env.kindOf n == some .cell) then (n, NameKind.cell) else (n, k)) = some kk := h
    have ih := @relabel_of env r y fun p hp => hn p (List.mem_cons_of_mem _ hp)
    cases hx : y == n with
    | true =>
      have e : y = n := by simpa using hx
      subst e
      by_cases hc' : (k == NameKind.free && env.scope.kind == .function && env.kindOf y == some .cell) = true
      · have hf : k = .free := by
          rw [Bool.and_eq_true, Bool.and_eq_true] at hc'
          simpa using hc'.1.1
        rw [hf]; exact List.mem_cons_self
      · rw [if_neg hc'] at h
        simp only [List.lookup_cons, hx] at h
        have e2 : k = kk := Option.some.inj h
        subst e2
        rcases hkk with z | z
        · exact absurd z (hn (y, k) List.mem_cons_self)
        · rw [z]; exact List.mem_cons_self
    | false =>
      have h2 : (r.map fun (n, k) => if (k == NameKind.free && env.scope.kind == .function && env.kindOf n == some .cell) then (n, NameKind.cell) else (n, k)).lookup y = some kk := by
        by_cases hc' : (k == NameKind.free && env.scope.kind == .function && env.kindOf n == some .cell) = true
        · rw [if_pos hc'] at h; simp only [List.lookup_cons, hx] at h; exact h
        · rw [if_neg hc'] at h; simp only [List.lookup_cons, hx] at h; exact h
      exact List.mem_cons_of_mem _ (ih ⟨kk, h2, hkk⟩)
structure CompSt (FS scope : Scope) (N : List Str) (x : Str) (ys : List Str) (caps : List Nat) : Prop where
  ncell : ∀ y ∈ scope.names, y.2 ≠ .cell
  kind : scope.kind = .function
  names : ∀ y ∈ scope.names, y.2 = .local → scope.names.lookup y.1 = some .local
  loc : scope.names.lookup x = some .local
  fr : ∀ p ∈ scope.names, p.2 = .free → FS.names.lookup p.1 = some .cell
  fk : FS.kind = .function
  cap : ∀ p ∈ ys.zip caps, N[p.2]? = some p.1 ∧ scope.names.lookup p.1 = some .free
  len : ys.length = caps.length
  nd : (x :: ys).Nodup
abbrev clsOf (X : Cx) (scope : Scope) : List (Str × Addr) := closOf X.env scope.names []
def cxComp (X : Cx) (scope : Scope) (NY : List Str) (s : Shared) (H : Hp) (ex : List Addr) (pn : List (Addr × Obj)) : Cx :=
  { X with N := NY, s₀ := s, H₀ := H, env := compEnvC scope (clsOf X scope) s.heap.objs.size X.env, outer := X.stack, stack := X.stack, ex := ex, fn := fun _ => false, pn := pn, xe := fun _ _ => False }
section
variable {X : Cx} {pins : List (Addr × Obj)} {σ : St} {H : Hp} {s : Shared}
theorem Inv.adopt {D : Addr} {o : HO} (I : Inv X pins σ H s) (hn : H D = none) (hs : X.s₀.heap.objs.size ≤ D) (hL : D ≠ X.env.locals) (hc : ∀ x c, X.env.cells.lookup x = some c → c ≠ D) (hp : ∀ p ∈ X.pn ++ pins, p.1 ≠ D)
    (new : ObjOk X.prog X.w (upd H D o) s.heap D o) : Inv X pins σ (upd H D o) s := by
  have u : Un X.fs X.ex H (upd H D o) s.heap s.heap → True := fun _ => trivial
  refine ⟨I.ok, I.os, I.bare, ⟨I.base.keep, I.base.slot, fun b ob e n hx => ?_, I.base.there, fun b xs e => ?_, fun b ob xs e => ?_, fun b ps e => ?_⟩, I.loc, I.cell, ?_, fun x c e => ?_, fun p h => ?_, fun b ob e => ?_, I.len⟩
  · rw [upd_ne (Nat.ne_of_lt (Nat.lt_of_lt_of_le (Heap.lt_size e) hs))]; exact I.base.free b ob e n hx
  · have q := I.base.tups b xs e
    rw [upd_ne (ne_of_none q hn)]; exact q
  · have q := I.base.frzs b ob xs e
    rw [upd_ne (ne_of_none q hn)]; exact q
  · obtain ⟨more, q⟩ := I.base.tbls b ps e
    exact ⟨more, by rw [upd_ne (ne_of_none q hn)]; exact q⟩
  · rw [upd_ne (Ne.symm hL)]; exact I.free
  · rw [upd_ne (hc x c e)]; exact I.freeC x c e
  · obtain ⟨a1, a2, a3⟩ := I.pin p h
    exact ⟨a1, by rw [upd_ne (hp p h)]; exact a2, a3⟩
  · by_cases hb : b = D
    · subst hb; rw [upd_same] at e; cases e; exact new
    · rw [upd_ne hb] at e
      exact (I.hok b ob e).stay (fun c v _ q => q) (fun c q => by rw [upd_ne (ne_of_none q hn)]; exact q) fun c xs q => by rw [upd_ne (ne_of_none q hn)]; exact q
end
section
variable {X : Cx} {scope : Scope} {x : Str} {ys : List Str} {caps : List Nat}
theorem CompSt.cells {pins : List (Addr × Obj)} {σ : St} {H : Hp} {s : Shared} (S : CompSt X.env.scope scope X.N x ys caps) (I : Inv X pins σ H s) : ∀ p ∈ scope.names, p.2 = .free → ∃ c, X.env.cells.lookup p.1 = some c := fun p hp hf =>
  I.ok.has p.1 (.inl (S.fr p hp hf))
theorem CompSt.sub {pins : List (Addr × Obj)} {σ : St} {H : Hp} {s : Shared} (S : CompSt X.env.scope scope X.N x ys caps) (I : Inv X pins σ H s) {y : Str} {c : Addr} (e : (clsOf X scope).lookup y = some c) : X.env.cells.lookup y = some c :=
  closOf_all (S.cells I) (fun p hp => absurd hp (by simp)) (y, c) (PySem.mem_of_lookup e)
theorem Inv.enter {pins : List (Addr × Obj)} {σ : St} {H : Hp} {s : Shared} {h₁ : Heap} {ex : List Addr} {tk : Nat} {pl : List (Addr × Obj)} (S : CompSt X.env.scope scope X.N x ys caps) (hcalm : X.calm = true) (I : Inv X pins σ H s)
    (hn : h₁.Ns s.heap.objs.size (fun _ => none)) (keep : ∀ b o, s.heap.get? b = some o → h₁.get? b = some o)
    (hex : ∀ b ∈ ex, b < s.heap.objs.size ∧ b ∉ frs X.stack ∧ (∀ y c, X.env.cells.lookup y = some c → c ≠ b) ∧ X.base.get? b = none)
    (hpl : ∀ p ∈ pl, s.heap.get? p.1 = some p.2 ∧ H p.1 = none ∧ p.1 ∉ frs X.stack ∧ ∀ v, p.2.data ≠ .cell v) :
    Inv (cxComp X scope (x :: ys) s H ex (X.pn ++ pins)) pl (none :: caught σ caps) H { s with heap := h₁, toks := tk } := by
  have hL : s.heap.objs.size ≠ X.env.locals := Nat.ne_of_gt I.lt
  have hCn : ∀ b o, s.heap.get? b = some o → b ≠ s.heap.objs.size := fun b o e => Nat.ne_of_lt (Heap.lt_size e)
  have cellLt : ∀ y c, X.env.cells.lookup y = some c → c < s.heap.objs.size := fun y c e => by
    obtain ⟨v, z⟩ := I.cell y c e
    exact z.lt
  have cellUp : ∀ {c : Addr} {v : Option Value}, s.heap.IsCell c v → h₁.IsCell c v := fun {c v} ⟨o, ho, hd⟩ => ⟨o, keep c o ho, hd⟩
  refine ⟨⟨I.ok.mod, S.kind, I.ok.glob, I.ok.blt, Nat.le_refl _, fun y z c h1 h2 => I.ok.inj y z c (S.sub I h1) (S.sub I h2), fun y hy => ?_, fun y c hf _ => ?_, fun _ => I.ok.hd hcalm, I.ok.frames, .inl rfl, fun b hb => ?_, I.bs, Nat.le_trans I.ok.bsz I.sz, fun b o e hb => ?_, fun b hb => (hex b hb).2.1, I.stack, I.stkFree⟩,
    rfl, I.bare, Un.kept keep, ⟨_, hn, fun i y v e1 e2 e3 => ?_⟩, fun y c e => ?_, I.hok.fresh (Nat.le_refl _), fun y c e => I.freeC y c (S.sub I e), fun p hp => ?_, I.hok.kept keep, ?_⟩
  · have hy' : (y, NameKind.free) ∈ scope.names := relabel_of (env := X.env) S.ncell (by
      rcases hy with hy | hy
      · exact ⟨_, hy, .inl rfl⟩
      · exact ⟨_, hy, .inr rfl⟩)
    exact lookup_of_key (closOf_has hy')
  · exact absurd (show false = true from hf) Bool.false_ne_true
  · exact ⟨Nat.ne_of_lt (hex b hb).1, fun y c e => (hex b hb).2.2.1 y c (S.sub I e)⟩
  · have z := (hex b hb).2.2.2
    have e' : X.base.get? b = some o := e
    rw [z] at e'; cases e'
  · cases i with
    | zero => cases e2
    | succ i =>
      have e1' : (x :: ys)[i + 1]? = some y := e1
      have e1 : ys[i]? = some y := by simpa using e1'
      have e2 : (caught σ caps)[i]? = some (some v) := by simpa using e2
      obtain ⟨j, hj, hv⟩ : ∃ j, caps[i]? = some j ∧ σ[j]? = some (some v) := by
        unfold caught at e2
        rw [List.getElem?_map] at e2
        cases q : caps[i]? with
        | none => rw [q] at e2; cases e2
        | some j =>
          rw [q] at e2
          have e3 : (σ[j]?).join = some v := Option.some.inj e2
          cases q2 : σ[j]? with
          | none => rw [q2] at e3; cases e3
          | some w' => rw [q2] at e3; exact ⟨j, rfl, by rw [show w' = some v from e3] at q2; exact q2⟩
      have hz : (y, j) ∈ ys.zip caps := List.mem_of_getElem? (i := i) (by rw [List.getElem?_zip_eq_some]; exact ⟨e1, hj⟩)
      obtain ⟨hN, hf⟩ := S.cap (y, j) hz
      have hcellX : X.env.kindOf y = some .cell := S.fr (y, .free) (PySem.mem_of_lookup hf) rfl
      obtain ⟨m, hm, hl⟩ := I.loc
      obtain ⟨u, r, l⟩ := hl j y v hN hv (.inr (.inl hcellX))
      refine ⟨u, r, ?_⟩
      rcases l with ⟨hk, _⟩ | ⟨_, c, hc, hcell⟩
      · rw [hcellX] at hk; cases hk
      · obtain ⟨c', hc'⟩ := lookup_of_key (closOf_has (env := X.env) (cs := []) (PySem.mem_of_lookup hf))
        have := S.sub I hc'
        rw [hc] at this
        cases this
        exact .inr ⟨.inl (relabel_cell S.fk hf hcellX), c, hc', cellUp hcell⟩
  · obtain ⟨v, z⟩ := I.cell y c (S.sub I e)
    exact ⟨v, cellUp z⟩
  · rcases List.mem_append.mp hp with hp | hp
    · obtain ⟨a1, a2, a3, a4, a5⟩ := I.pin p hp
      exact ⟨keep _ _ a1, a2, hCn _ _ a1, fun z => (List.mem_cons.mp (I.stkSub p.1 z)).elim a3 a4, a5⟩
    · obtain ⟨a1, a2, a4, a5⟩ := hpl p hp
      exact ⟨keep _ _ a1, a2, hCn _ _ a1, a4, a5⟩
  · show (none :: caught σ caps).length = (x :: ys).length
    rw [List.length_cons, List.length_cons, caught, List.length_map, S.len]
end
section
variable {X : Cx} {scope : Scope} {x : Str} {ys : List Str} {caps : List Nat} {elt iter : Expr} {te : TE} {px pos : Pos}
theorem nxE {α : Type} {t : Sem α} {Q Q' : α → Shared → Prop} {M : Model} {A : Around} {F E : Value → Shared → Prop} {s : Shared} (hF : F = fun _ _ => False) (h : wpAny M A t Q F s) (hQ : ∀ a s, Q a s → Q' a s) : wpAny M A t Q' E s :=
  wpAny_mono h hQ fun e s' z => by
    rw [hF] at z
    exact z.elim
abbrev lstO (its : List Value) (n : Nat) : Obj := { cls := .type "list", data := .seq its.toArray n }
theorem comp_run {pins : List (Addr × Obj)} {σ : St} {H2 : Hp} {s2 : Shared} {J : It} {fp : List Addr} {it : Addr} {tn : Nat → Heap → Prop} {E : Value → Shared → Prop} {fin : List V → Hp → Prop} {RR : Value → Addr → Result → Shared → Prop}
    (hcalm : X.calm = true) (S : CompSt X.env.scope scope X.N x ys caps) (he : ∀ s H ex pn, PE (cxComp X scope (x :: ys) s H ex pn) elt te)
    (I2 : Inv X pins σ H2 s2) (T : Turn X.prog X.w X.K (.Name x px) J fp it tn) (st2 : tn 0 s2.heap) (f2 : ∀ b ∈ fp, FpOk X pins H2 b) (rd : CompRd J σ caps te H2 fin)
    (hRR : ∀ (C : Addr) (ysV : List V) (its : List Value) (n : Nat) (H8 : Hp) (s8 : Shared) (m : Str → Option Value), C = s2.heap.objs.size + 1 → Inv X pins σ H8 s8 → H8 s2.heap.objs.size = none → H8 C = none → Vals ysV its → ysV.length ≤ sizeLine →
      s8.heap.get? s2.heap.objs.size = some (lstO its n) → s8.heap.Ns C m → fin ysV H8 → RR (.ref s2.heap.objs.size) C (.ok .next) s8) :
    wpAny (model X.prog X.w) X.A (newList []) (fun acc s₃ => wpAny (model X.prog X.w) X.A (newFunctionEnv scope X.env.globals (clsOf X scope) [] X.env.qual none .none (some X.env)) (fun cenv s₄ =>
      codeAny (model X.prog X.w) X.A (.compStart (.ListComp elt [⟨.Name x px, iter, [], 0⟩] scope pos) 0 (.ref it) acc { cenv with scope := relabel scope X.env }) (RR acc cenv.locals) s₄) E s₃) E s2 := by
  obtain ⟨n0, W, hn0, w0, turn⟩ := rd
  refine wpAny_newObj_type (wpAny_newFunctionEnv S.ncell (by intro y hy; simp at hy) (fun h₁ hns hsb => ?_) S.kind)
  dsimp only at hns hsb ⊢
  generalize hg3 : s2.heap.push { cls := .type "list", dict := none, data := .seq ([] : List Value).toArray } = g3 at hns hsb ⊢
  have hC : g3.objs.size = s2.heap.objs.size + 1 := by rw [← hg3, Heap.size_push]
  have up3 : ∀ b o, s2.heap.get? b = some o → g3.get? b = some o := fun b o e => hg3 ▸ Heap.get?_push_of_some _ e
  have I3 : Inv X pins σ H2 { s2 with heap := g3 } := I2.kept (t' := s2.toks) up3
  have keep : ∀ b o, g3.get? b = some o → h₁.get? b = some o := fun b o e => hsb.extBut b o (Nat.ne_of_lt (Heap.lt_size e)) (Heap.get?_push_of_some _ e)
  have objD : g3.get? s2.heap.objs.size = some (lstO [] 0) := hg3 ▸ Heap.get?_push_size _ rfl
  have hDL : s2.heap.objs.size ≠ X.env.locals := Nat.ne_of_gt I2.lt
  have hDfs : s2.heap.objs.size ∉ X.fs := I2.nofs (Nat.le_refl _)
  have hDst : s2.heap.objs.size ∉ frs X.stack := fun z => (List.mem_cons.mp (I2.stkSub _ z)).elim hDL hDfs
  have hDc : ∀ y c, X.env.cells.lookup y = some c → c ≠ s2.heap.objs.size := fun y c e => by
    obtain ⟨v, z⟩ := I2.cell y c e
    exact Nat.ne_of_lt z.lt
  have hDp : ∀ p ∈ X.pn ++ pins, p.1 ≠ s2.heap.objs.size := fun p hp => Nat.ne_of_lt (Heap.lt_size (I2.pin p hp).1)
  have hfl : ∀ b ∈ fp, b < s2.heap.objs.size := fun b hb => by
    obtain ⟨o, e, _⟩ := T.obj _ _ st2 b hb
    exact Heap.lt_size e
  have hbz : X.base.objs.size ≤ X.s₀.heap.objs.size := I2.ok.bsz
  have hch : ∀ b ∈ s2.heap.objs.size :: fp, (b ∈ X.ex ∨ X.s₀.heap.objs.size ≤ b) ∧ b ≠ X.env.locals ∧ (∀ y c, X.env.cells.lookup y = some c → c ≠ b) ∧ ∀ p ∈ X.pn ++ pins, p.1 ≠ b := fun b hb => by
    rcases List.mem_cons.mp hb with rfl | hb
    · exact ⟨.inr I2.sz, hDL, hDc, hDp⟩
    · obtain ⟨a1, a2, a3, a4, a5, a6⟩ := f2 b hb
      exact ⟨a4, a2, a5, a6⟩
  have hex : ∀ b ∈ s2.heap.objs.size :: fp, b < g3.objs.size ∧ b ∉ frs X.stack ∧ (∀ y c, X.env.cells.lookup y = some c → c ≠ b) ∧ X.base.get? b = none := fun b hb => by
    have hst : b ∉ frs X.stack := by
      rcases List.mem_cons.mp hb with rfl | hb
      · exact hDst
      · obtain ⟨a1, a2, a3, a4, a5, a6⟩ := f2 b hb
        exact fun z => (List.mem_cons.mp (I2.stkSub _ z)).elim a2 a3
    have hlt : b < g3.objs.size := by
      rw [hC]
      rcases List.mem_cons.mp hb with rfl | hb
      · exact Nat.lt_succ_self _
      · exact Nat.lt_succ_of_lt (hfl b hb)
    refine ⟨hlt, hst, (hch b hb).2.2.1, ?_⟩
    cases q : X.base.get? b with
    | none => rfl
    | some o =>
      rcases (hch b hb).1 with z | z
      · exact absurd z (I2.ok.noex b o q)
      · exact absurd (Nat.lt_of_lt_of_le (Heap.lt_size q) (Nat.le_trans hbz z)) (Nat.lt_irrefl _)
  have hD2 : H2 s2.heap.objs.size = none := I2.hok.fresh (Nat.le_refl _)
  have I4 : Inv (cxComp X scope (x :: ys) { s2 with heap := g3 } H2 (s2.heap.objs.size :: fp) (X.pn ++ pins)) [(s2.heap.objs.size, lstO [] 0)] (none :: caught σ caps) H2 { s2 with heap := h₁, toks := s2.toks + ([] : List (Str × Value)).length } :=
    Inv.enter S hcalm I3 hns keep hex fun p hp => by
      have e : p = (s2.heap.objs.size, lstO [] 0) := by simpa using hp
      subst e
      exact ⟨objD, hD2, hDst, fun v z => nomatch z⟩
  have st4 : tn 0 h₁ := T.keep _ _ _ st2 fun b hb o e => keep b o (up3 b o e)
  generalize hY : cxComp X scope (x :: ys) { s2 with heap := g3 } H2 (s2.heap.objs.size :: fp) (X.pn ++ pins) = Y at I4
  have yP : Y.prog = X.prog := by rw [← hY]; rfl
  have yW : Y.w = X.w := by rw [← hY]; rfl
  have yK : Y.K = X.K := by rw [← hY]; rfl
  have yA : Y.A = X.A := by rw [← hY]; rfl
  have yC : Y.calm = true := by rw [← hY]; exact hcalm
  have yX : Y.xe = fun _ _ => False := by rw [← hY]; rfl
  have yN : Y.N = x :: ys := by rw [← hY]; rfl
  have yE : Y.env = compEnvC scope (clsOf X scope) g3.objs.size X.env := by rw [← hY]; rfl
  have yex : Y.ex = s2.heap.objs.size :: fp := by rw [← hY]; rfl
  have ypn : Y.pn = X.pn ++ pins := by rw [← hY]; rfl
  have yfs : Y.fs = frs X.stack := by rw [← hY]; rfl
  have ybase : ∀ {pl σ' H' s'}, Inv Y pl σ' H' s' → Un (frs X.stack) (s2.heap.objs.size :: fp) H2 H' g3 s'.heap ∧ s'.os = s2.os := by
    intro pl σ' H' s' I
    rw [← hY] at I
    exact ⟨I.base, I.os⟩
  have yhe : PE Y elt te := by rw [← hY]; exact he _ _ _ _
  have ycl : ∀ y c, Y.env.cells.lookup y = some c → X.env.cells.lookup y = some c := fun y c e => by
    rw [yE] at e
    exact S.sub I2 e
  have yfp : ∀ {H' : Hp} {o : Obj}, (∀ b ∈ fp, H' b = none) → ∀ b ∈ fp, FpOk Y [(s2.heap.objs.size, o)] H' b := fun {H' o} hn b hb => by
    obtain ⟨a1, a2, a3, a4, a5, a6⟩ := f2 b hb
    refine ⟨hn b hb, ?_, ?_, ?_, fun y c e => a5 y c (ycl y c e), fun p hp => ?_⟩
    · rw [yE]; exact Nat.ne_of_lt (hex b (List.mem_cons_of_mem _ hb)).1
    · rw [yfs]; exact (hex b (List.mem_cons_of_mem _ hb)).2.1
    · rw [yex]; exact .inl (List.mem_cons_of_mem _ hb)
    · rw [ypn] at hp
      rcases List.mem_append.mp hp with hp | hp
      · exact a6 p hp
      · have e : p = (s2.heap.objs.size, o) := by simpa using hp
        subst e
        exact Nat.ne_of_gt (hfl b hb)
  have loop : ∀ s₃ : Shared, s₃ = { s2 with heap := h₁, toks := s2.toks + ([] : List (Str × Value)).length } →
      codeAny (model X.prog X.w) X.A (.compLoop (.ListComp elt [⟨.Name x px, iter, [], 0⟩] scope pos) 0 (.ref it) (.ref s2.heap.objs.size) (compEnvC scope (clsOf X scope) g3.objs.size X.env)) (RR (.ref s2.heap.objs.size) g3.objs.size) s₃ := by
    rintro s₃ rfl
    refine codeAny_loop rfl (fun k s' => ∃ i ysV its cnt H' o, k = n0 + 1 - i ∧ Inv Y [(s2.heap.objs.size, lstO its cnt)] (o :: caught σ caps) H' s' ∧ tn i s'.heap ∧ (∀ b ∈ fp, H' b = none) ∧ Vals ysV its ∧ ysV.length = i ∧ i ≤ n0 ∧ W i ysV H') ?_ (n0 + 1)
      ⟨0, [], [], 0, H2, none, rfl, I4, st4, fun b hb => (f2 b hb).1, .nil, rfl, Nat.zero_le _, w0⟩
    rintro k s' ⟨i, ysV, its, cnt, H', o, rfl, I', tni, frn, vv, hlen, hin, hw⟩
    show wpAny _ _ ((compTurn (.ListComp elt [⟨.Name x px, iter, [], 0⟩] scope pos) 0 (.ref it) (.ref s2.heap.objs.size) (compEnvC scope (clsOf X scope) g3.objs.size X.env)).onRaise (fun x => do noteFrame x (compEnvC scope (clsOf X scope) g3.objs.size X.env); theTreesLotGoes x)) _ _ s'
    refine wpAny_noted ?_
    rw [compTurn_list1]
    have fpok := yfp (o := lstO its cnt) frn
    rcases turn i ysV H' hin hlen hw with ⟨stop, hfin⟩ | ⟨hlt, go, step⟩
    · refine wpAny_bind (wpAny_standAt (wpAny_bind (thn (Q := fun r s1 => r = none ∧ Inv Y [(s2.heap.objs.size, lstO its cnt)] (o :: caught σ caps) H' s1) ?_ fun r s1 ⟨hr, I1⟩ => ?_)))
      · have := T.done Y yP yW yK yC i _ s' _ H' (notedBy (model X.prog X.w) X.A (compEnvC scope (clsOf X scope) g3.objs.size X.env) fun e s' => RR (.ref s2.heap.objs.size) g3.objs.size (.error e) s') I' fpok tni stop
        rw [yA] at this
        exact this
      · subst hr
        refine wpAny_pure ?_
        obtain ⟨ub, uo⟩ := ybase I1
        obtain ⟨m, hm, _⟩ := I1.loc
        obtain ⟨p1, p2, _⟩ := I1.pin (s2.heap.objs.size, lstO its cnt) (List.mem_append_right _ List.mem_cons_self)
        have hok : HOk X.prog X.w H' s1.heap := by have := I1.hok; rw [yP, yW] at this; exact this
        have hCf := I1.free
        rw [yE] at hm hCf
        refine hRR g3.objs.size ysV its cnt H' s1 m hC (I3.call' uo ub hok I1.bare hch) p2 hCf vv (by omega) p1 hm hfin
    · refine wpAny_bind (wpAny_standAt (wpAny_bind (thn (Q := fun r s1 => ∃ u, r = some u ∧ wpAny (model X.prog X.w) X.A (letOwnedTupleGo (.Name x px) (.ref it) u) (fun _ s5 => ∃ x H5, Inv Y [(s2.heap.objs.size, lstO its cnt)] (o :: caught σ caps) H5 s5 ∧ RelV x u ∧ J.yld i H' x H5 ∧ tn (i + 1) s5.heap ∧ ∀ b ∈ fp, H5 b = none)
          (notedBy (model X.prog X.w) X.A (compEnvC scope (clsOf X scope) g3.objs.size X.env) fun e s' => RR (.ref s2.heap.objs.size) g3.objs.size (.error e) s') s1) ?_ fun r s1 ⟨u, hr, h4⟩ => ?_)))
      · have := T.item Y yP yW yK yC i _ s' _ H' (notedBy (model X.prog X.w) X.A (compEnvC scope (clsOf X scope) g3.objs.size X.env) fun e s' => RR (.ref s2.heap.objs.size) g3.objs.size (.error e) s') I' fpok tni go
        rw [yA] at this
        exact this
      · subst hr
        refine wpAny_bind (thn h4 fun _ s5 ⟨xv, H5, I5, r5, y5, st5, fr5⟩ => ?_)
        have I5' := I5.pinned (yfp fr5) (T.obj _ _ st5)
        have hloc : Y.env.scope.names.lookup x = some .local := by rw [yE]; exact lookup_relabel_local S.loc
        have sto := fun (Q : Unit → Shared → Prop) (k : ∀ s6, Inv Y _ ((o :: caught σ caps).set 0 (some xv)) H5 s6 → Q () s6) => store_ok (M := model X.prog X.w) (A := X.A) (E := notedBy (model X.prog X.w) X.A (compEnvC scope (clsOf X scope) g3.objs.size X.env) fun e s' => RR (.ref s2.heap.objs.size) g3.objs.size (.error e) s') (i := 0) (x := x) I5' (by rw [yN]; exact S.nd) (by rw [yN]; rfl) (.inl hloc) r5 k (.inr hloc)
        rw [yE] at sto
        refine wpAny_bind (wpAny_assign_Name (sto _ fun s6 I6 => ?_))
        have ev := yhe _ s6 _ H5 _ I6 (step xv H5 y5)
        rw [yP, yW, yA, yE] at ev
        refine wpAny_bind (wpAny_bind (nxE yX ev fun yv s7 ⟨y, H7, I7, r7, w7⟩ => ?_))
        obtain ⟨zD, hD7, hDl7, hDf7, _⟩ := I7.pin (s2.heap.objs.size, lstO its cnt) (List.mem_append_right _ (List.mem_append_left _ List.mem_cons_self))
        have hil := vv.length
        refine wpAny_bind (append_at zD (fun h8 sb8 d8 => wpAny_pure (wpAny_pure ⟨rfl, ?_⟩)) (by rw [List.size_toArray]; omega))
        have I7' : Inv Y [] (some xv :: caught σ caps) H7 s7 := I7.pins_of fun p hp => nomatch hp
        have I8 : Inv Y [] (some xv :: caught σ caps) H7 { s7 with heap := h8 } := I7'.turned (t' := s7.toks) (fun b ob hb e => (sb8.2 b hb).trans e) hD7 hDl7 (.inl (by rw [yex]; exact List.mem_cons_self)) (fun y c e => hDc y c (ycl y c e)) (fun p hp => by
          rw [ypn, List.append_nil] at hp
          exact hDp p hp)
        have I9 : Inv Y [(s2.heap.objs.size, lstO (its ++ [yv]) (cnt + 1))] (some xv :: caught σ caps) H7 { s7 with heap := h8 } := I8.pins_of fun p hp => by
          have e : p = (s2.heap.objs.size, lstO (its ++ [yv]) (cnt + 1)) := by simpa using hp
          subst e
          refine ⟨?_, hD7, hDl7, hDf7, fun v z => nomatch z⟩
          show h8.get? s2.heap.objs.size = some { cls := .type "list", data := .seq (its ++ [yv]).toArray (cnt + 1) }
          rw [d8, List.push_toArray]
        refine ⟨n0 + 1 - (i + 1), by omega, i + 1, ysV ++ [y], its ++ [yv], cnt + 1, H7, some xv, rfl, I9, ?_, ?_, vv.append (.cons r7 .nil), by rw [List.length_append, hlen]; rfl, hlt, w7⟩
        · refine T.keep _ _ _ st5 fun b hb ob e => (sb8.2 b (Nat.ne_of_lt (hfl b hb))).trans ?_
          exact (I7.pin (b, ob) (List.mem_append_right _ (List.mem_append_right _ (mem_pinsAt hb e)))).1
        · intro b hb
          obtain ⟨ob, e, _⟩ := T.obj _ _ st5 b hb
          exact (I7.pin (b, ob) (List.mem_append_right _ (List.mem_append_right _ (mem_pinsAt hb e)))).2.1
  exact codeAny_compStart_list (loop _ rfl) (T.self _ 0 _ _ _ st4 (loop _ rfl))
theorem pe_comp {wi : TI} {FS : Scope} {N : List Str} (S0 : CompSt FS scope N x ys caps) (hFS : X.env.scope = FS) (hN0 : X.N = N) (hcalm : X.calm = true) (hi : PI X (.Name x px) iter wi) (he : ∀ s H ex pn, PE (cxComp X scope (x :: ys) s H ex pn) elt te)
    (hs : ∀ v, foldedSetIterable iter X.env v = pure v := by intro _; rfl) : PE X (.ListComp elt [⟨.Name x px, iter, [], 0⟩] scope pos) (tComp wi caps te) := by
  have S : CompSt X.env.scope scope X.N x ys caps := by rw [hFS, hN0]; exact S0
  intro pins s σ H Q I h
  rw [eval_ListComp]
  refine wpAny_comprehension_free (use := none) rfl hs (closureFor_eq (S.cells I)) S.kind S.names (thn (hi pins s σ H _ I h) fun v s1 h1 => thn h1 fun itv s2 h2 => ?_)
  obtain ⟨it, fp, tn, J, H2, rfl, I2, T, st2, f2, rd⟩ := h2
  refine comp_run (RR := fun acc C => compPost (model X.prog X.w) X.A X.xe none (EP X pins σ Q) acc C) hcalm S he I2 T st2 f2 rd ?_
  intro C ysV its n H8 s8 m hC I8 hD hC8 vv hz oD hn fin
  refine ⟨m, hn, fun h' sb => ?_⟩
  have sz := I2.sz
  have lt := I2.lt
  have ap : ∀ b : Addr, b < s2.heap.objs.size → b ≠ C ∧ C ≠ b := fun b hb => by
    subst hC
    exact ⟨Nat.ne_of_lt (Nat.lt_succ_of_lt hb), Nat.ne_of_gt (Nat.lt_succ_of_lt hb)⟩
  have szC : X.s₀.heap.objs.size ≤ C := by subst hC; exact Nat.le_succ_of_le sz
  have DC : s2.heap.objs.size ≠ C := by subst hC; exact Nat.ne_of_lt (Nat.lt_succ_self _)
  have cl : ∀ y c, X.env.cells.lookup y = some c → c < s2.heap.objs.size := fun y c e => by
    obtain ⟨w', z⟩ := I2.cell y c e
    exact z.lt
  have pl : ∀ p ∈ X.pn ++ pins, p.1 < s2.heap.objs.size := fun p hp => Heap.lt_size (I2.pin p hp).1
  have I9 : Inv X pins σ H8 { s8 with heap := h' } := I8.turned (t' := s8.toks) (fun b o hb e => (sb.2 b hb).trans e) hC8 (ap _ lt).2 (.inr szC) (fun y c e => (ap c (cl y c e)).1) (fun p hp => (ap p.1 (pl p hp)).1)
  have oD' : h'.get? s2.heap.objs.size = some (lstO its n) := (sb.2 _ DC).trans oD
  exact ⟨.ref s2.heap.objs.size, upd H8 s2.heap.objs.size (.lst ysV), I9.adopt hD sz (Nat.ne_of_gt lt) (fun y c e => Nat.ne_of_lt (cl y c e)) (fun p hp => Nat.ne_of_lt (pl p hp)) ⟨hz, its, n, vv, oD'⟩, rfl, fin _ hD⟩
theorem ps_setComp {wi : TI} {FS : Scope} {N : List Str} {i : Nat} {y : Str} {py spos : Pos} (S0 : CompSt FS scope N x ys caps) (hFS : X.env.scope = FS) (hN0 : X.N = N) (hcalm : X.calm = true) (hN : X.N.Nodup) (hy : X.N[i]? = some y) (hl : Loc X.env.scope y) (hi : PI X (.Name x px) iter wi) (he : ∀ s H ex pn, PE (cxComp X scope (x :: ys) s H ex pn) elt te)
    (hsw : swapsWith (.ListComp elt [⟨.Name x px, iter, [], 0⟩] scope pos) (some (.Name y py)) spos.line X.env = pure true := by rfl)
    (hs : ∀ v, foldedSetIterable iter X.env v = pure v := by intro _; rfl) (hf : X.fn y = true ∨ X.env.scope.names.lookup y = some .local := by first | exact .inl rfl | exact .inr rfl | assumption) :
    PS X (.Assign [.Name y py] (.ListComp elt [⟨.Name x px, iter, [], 0⟩] scope pos) spos) (tAsg (tComp wi caps te) (gName i)) := by
  have S : CompSt X.env.scope scope X.N x ys caps := by rw [hFS, hN0]; exact S0
  intro pins s σ H D I h
  rw [exec_Assign_Name_used _ _ _ _ hsw]
  refine wpAny_bind (wpAny_standAt (wpAny_bind ?_))
  show wpAny _ X.A (do let _ ← comprehension (.ListComp elt [⟨.Name x px, iter, [], 0⟩] scope pos) scope X.env _ (newList []) false (eval iter X.env) (some (assign (.Name y py) X.env))) _ _ s
  refine wpAny_bind (wpAny_mono (wpAny_comprehension_free (use := some (assign (.Name y py) X.env)) (Q := fun _ s' => SP X pins D .next s') rfl hs (closureFor_eq (S.cells I)) S.kind S.names
    (thn (hi pins s σ H _ I h) fun v s1 h1 => thn h1 fun itv s2 h2 => ?_)) (fun _ s' hq => wpAny_pure (wpAny_pure hq)) fun _ _ e => e)
  obtain ⟨it, fp, tn, J, H2, rfl, I2, T, st2, f2, rd⟩ := h2
  refine comp_run (RR := fun acc C => compPost (model X.prog X.w) X.A X.xe (some (assign (.Name y py) X.env)) (fun _ s' => SP X pins D .next s') acc C) hcalm S he I2 T st2 f2 rd ?_
  intro C ysV its n H8 s8 m hC I8 hD hC8 vv hz oD hn fin
  have sz := I2.sz
  have lt := I2.lt
  have ap : ∀ b : Addr, b < s2.heap.objs.size → b ≠ C ∧ C ≠ b := fun b hb => by
    subst hC
    exact ⟨Nat.ne_of_lt (Nat.lt_succ_of_lt hb), Nat.ne_of_gt (Nat.lt_succ_of_lt hb)⟩
  have szC : X.s₀.heap.objs.size ≤ C := by subst hC; exact Nat.le_succ_of_le sz
  have DC : C ≠ s2.heap.objs.size := by subst hC; exact Nat.ne_of_gt (Nat.lt_succ_self _)
  have cl : ∀ y c, X.env.cells.lookup y = some c → c < s2.heap.objs.size := fun y c e => by
    obtain ⟨w', z⟩ := I2.cell y c e
    exact z.lt
  have pl : ∀ p ∈ X.pn ++ pins, p.1 < s2.heap.objs.size := fun p hp => Heap.lt_size (I2.pin p hp).1
  have I9 : Inv X pins σ (upd H8 s2.heap.objs.size (.lst ysV)) s8 := I8.adopt hD sz (Nat.ne_of_gt lt) (fun y c e => Nat.ne_of_lt (cl y c e)) (fun p hp => Nat.ne_of_lt (pl p hp)) ⟨hz, its, n, vv, oD⟩
  show wpAny (model X.prog X.w) X.A (assign (.Name y py) X.env (.ref s2.heap.objs.size)) _ _ s8
  refine wpAny_assign_Name (store_ok2 (v := .ref s2.heap.objs.size) I9 hN hy hl rfl (fun s9 I10 ⟨a, sa, ha⟩ => ?_) hf)
  have hCa : C ≠ a := by
    rcases ha with rfl | e
    · exact (ap _ lt).2
    · exact (ap _ (cl _ _ e)).2
  refine ⟨m, hn.sameBut sa hCa, fun h' sb => ⟨_, _, I10.turned (t' := s9.toks) (fun b o hb e => (sb.2 b hb).trans e) ?_ (ap _ lt).2 (.inr szC) (fun y c e => (ap c (cl y c e)).1) (fun p hp => (ap p.1 (pl p hp)).1), fin _ hD⟩⟩
  rw [upd_ne DC]
  exact hC8
end
end L2
namespace L2
open PySem PySem.Spec PyProof.Rows
theorem bt_enumerate : bootBuiltins "enumerate" = some (.type "enumerate") := by decide +kernel
section
variable {X : Cx} {pins : List (Addr × Obj)} {σ : St} {H : Hp} {s : Shared} {h' : Heap}
theorem Inv.turnedL {t' : Nat} {ch : List Addr} (I : Inv X pins σ H s) (k : ∀ b o, b ∉ ch → s.heap.get? b = some o → h'.get? b = some o) (hf : ∀ b ∈ ch, FpOk X pins H b) : Inv X pins σ H { s with heap := h', toks := t' } := by
  have nit : ∀ b u, H b = some u → b ∉ ch := fun b u e z => by rw [(hf b z).1] at e; cases e
  refine I.step (g' := s.gens) (d' := s.drawn) (ch := ch) (fun b hb => ?_) (fun b o _ _ hc e _ => k b o hc e) (fun b o _ _ hc e _ => ⟨o.slots, k b o hc e⟩) (fun _ _ _ _ n => n)
    (fun b o hc e => ⟨o, k b o hc e⟩) (fun _ _ e => e) (fun _ _ _ e => e) (fun b ps e => ⟨#[], by rw [e]; simp⟩) (fun m hm => ?_) (fun b u e => ?_) I.bare
  · obtain ⟨a1, a2, a3, a4, a5, a6⟩ := hf b hb
    exact ⟨a4, a2, a5, a6⟩
  · obtain ⟨o, es, ep, ho, r⟩ := hm
    exact ⟨o, es, ep, k _ o (fun z => (hf _ z).2.1 rfl) ho, r⟩
  · refine (I.hok b u e).stay (fun c v hc q => k c v ?_ q) (fun _ q => q) fun _ _ q => q
    rcases hc with z | z
    · rw [z]; exact nit b u e
    · exact nit c _ z
end
theorem turn_enum {P : Program} {w : World} {K : PySem.W.Frag} {elts : List Expr} {k : Nat} {tp : Pos} (a e it : Addr) (hne : e ≠ it) :
    Turn P w K (.Tuple elts k tp) (Ite K a) [e, it] e (fun i h => (∃ old, IsEnum h e it i old) ∧ h.IsListIter it a i) where
  mem := by simp
  obj := fun i h st b hb => by
    obtain ⟨⟨old, he⟩, hit⟩ := st
    have z : b = e ∨ b = it := by simpa using hb
    rcases z with rfl | rfl
    · exact ⟨_, he, fun v z => by
        have z' : Data.fields _ = Data.cell v := z
        cases z'⟩
    · obtain ⟨o, e, c, d⟩ := hit
      exact ⟨o, e, fun v z => by rw [d] at z; cases z⟩
  keep := fun i h h' st k => by
    obtain ⟨⟨old, he⟩, hit⟩ := st
    exact ⟨⟨old, k e (by simp) _ he⟩, hit.at fun o q => k it (by simp) o q⟩
  item := by
    intro X hP hw hK hc i pins s σ H E I hf st hg
    subst hP hw hK
    obtain ⟨xs, x, hq, hx⟩ := hg
    obtain ⟨its, rv, p, hz⟩ := I.list hq
    obtain ⟨u, hu, ru⟩ := rv.get hx
    obtain ⟨⟨old, he⟩, hit⟩ := st
    refine wpAny_pyNext_enum_item he hit p.isList (x := u) (by simpa using hu) hne fun h1 out hit1 tup sz kp => ⟨_, rfl, ?_⟩
    refine wpAny_letOwnedTupleGo_enum (s := { s with heap := h1, toks := s.toks + 1 }) out fun h2 en sb => ?_
    have hel : e < s.heap.objs.size := Heap.lt_size he
    have hTe : s.heap.objs.size ≠ e := Nat.ne_of_gt hel
    have sb' : Heap.SameBut e h1 h2 := sb
    have I1 : Inv X pins σ H { s with heap := h2, toks := s.toks + 1 } := I.turnedL (ch := [e, it]) (fun b o hb q => by
      have hb' : b ≠ e ∧ b ≠ it := by simpa using hb
      exact (sb'.2 b hb'.1).trans (kp b o hb'.1 hb'.2 q)) hf
    have hTn : H s.heap.objs.size = none := I.hok.fresh (Nat.le_refl _)
    have tup2 : h2.get? s.heap.objs.size = some { cls := .type "tuple", data := .seq #[.int i s.toks, u] } := (sb'.2 _ hTe).trans tup
    have I2 : Inv X pins σ (upd H s.heap.objs.size (.tup [.int i, x])) { s with heap := h2, toks := s.toks + 1 } := I1.adopt hTn I.sz (Nat.ne_of_gt I.lt) (fun y c q => by
      obtain ⟨v, z⟩ := I.cell y c q
      exact Nat.ne_of_lt z.lt) (fun q hq => Nat.ne_of_lt (Heap.lt_size (I.pin q hq).1)) ⟨by show 2 ≤ sizeLine; decide, [.int i s.toks, u], .cons ⟨_, rfl⟩ (.cons ru .nil), ⟨_, tup2, rfl, _, rfl⟩⟩
    refine ⟨.ref s.heap.objs.size, _, I2, rfl, ⟨_, x, rfl, hTn, rfl, fun ys hy => by rw [I.list_inj hy hq]; exact hx⟩, ⟨⟨_, by have := en; exact_mod_cast this⟩, ?_⟩, fun b hb => ?_⟩
    · obtain ⟨o, q, r⟩ := hit1
      exact ⟨o, (sb'.2 it (Ne.symm hne)).trans q, r⟩
    · have hb0 := (hf b hb).1
      have z : b = e ∨ b = it := by simpa using hb
      have hlt : b < s.heap.objs.size := by
        rcases z with rfl | rfl
        · exact hel
        · obtain ⟨o, q, _⟩ := hit
          exact Heap.lt_size q
      rw [upd_ne (Nat.ne_of_lt hlt)]
      exact hb0
  done := by
    intro X hP hw hK hc i pins s σ H E I hf st hg
    subst hP hw hK
    obtain ⟨xs, hq, hx⟩ := hg
    obtain ⟨its, rv, p, hz⟩ := I.list hq
    obtain ⟨⟨old, he⟩, hit⟩ := st
    obtain ⟨f0, f1, f2, f3, f4, f5⟩ := hf it (by simp)
    have hl := rv.length
    exact wpAny_pyNext_enum_end (I.ok.hd hc) he hit p.isList (by simp; omega) fun h' eb => ⟨rfl, I.turned (t' := s.toks) (fun b o hb e => eb b o hb e) f0 f1 f3 f4 f5⟩
  self := fun _ _ _ _ _ st h => by
    obtain ⟨⟨old, he⟩, hit⟩ := st
    exact wpAny_pyIter_enum he h
section
variable {X : Cx}
theorem pi_enum {elts : List Expr} {k : Nat} {tp : Pos} {a : Expr} {tl : TE} {p pos : Pos} (hg : Gl X "enumerate") (hm : X.mg "enumerate" = none) (hl : PE X a tl) (hs : starEach [a] X.env = [(false, eval a X.env)] := by rfl) : PI X (.Tuple elts k tp) (.Call (.Name "enumerate" p) [a] [] pos) (iEnum X.K tl) := by
  intro pins s σ H R I h
  have hA : PA X [a] (tCons tl tNil) := pa_cons hl pa_nil (by rw [hs]; rfl)
  refine Call_ (ld_blt I hg hm bt_enumerate (PyProof.Rows.callWith_type1 (thn (hA pos pins s σ H (fun vs H1 => ∃ x, vs = [x] ∧ ∃ a, x = .ref a ∧ (∃ xs, SqL X.K H1 a xs) ∧ R (Ite X.K a) H1) I ?_) fun us s1 ⟨vs, H1, I1, r1, q1⟩ => ?_) hs rfl))
  · show tl σ H fun x H1 => ∃ y, [x] = [y] ∧ _
    have e : (fun (x : V) (H1 : Hp) => ∃ y, [x] = [y] ∧ ∃ a, y = V.ref a ∧ (∃ xs, SqL X.K H1 a xs) ∧ R (Ite X.K a) H1) = fun x H1 => ∃ a, x = V.ref a ∧ (∃ xs, SqL X.K H1 a xs) ∧ R (Ite X.K a) H1 := by
      funext x H1
      exact propext ⟨fun ⟨y, e, r⟩ => by cases e; exact r, fun r => ⟨x, rfl, r⟩⟩
    have h' : tl σ H fun x H1 => ∃ a, x = V.ref a ∧ (∃ xs, SqL X.K H1 a xs) ∧ R (Ite X.K a) H1 := h
    rw [← e] at h'
    exact h'
  · obtain ⟨x, e1, b, e2, ⟨xs, hq⟩, q⟩ := q1
    subst e1 e2
    obtain ⟨u, rfl, ru⟩ := vals1 r1
    cases ru
    obtain ⟨its, rv, pl, hz⟩ := I1.list hq
    refine call_enumerate_list pl.isList fun h1 he hit hsz hk => ?_
    refine wpAny_pyIter_enum he ?_
    have I2 : Inv X pins σ H1 { s1 with heap := h1 } := I1.kept (t' := s1.toks) hk
    refine ⟨s1.heap.objs.size + 1, [s1.heap.objs.size + 1, s1.heap.objs.size], _, Ite X.K b, H1, rfl, I2, turn_enum b _ _ (Nat.succ_ne_self _), ⟨⟨_, he⟩, hit⟩, fun c hc => ?_, q⟩
    have z : c = s1.heap.objs.size + 1 ∨ c = s1.heap.objs.size := by simpa using hc
    have hle : s1.heap.objs.size ≤ c := by rcases z with rfl | rfl <;> omega
    exact I1.fpOk hle (I1.hok.fresh hle)
theorem eqAt_ints {A : Around} {s : Shared} {i j : Int} {u v : Value} (r1 : RelV (.int i) u) (r2 : RelV (.int j) v) : SeqAt.EqAt A s u v (i == j) := by
  obtain ⟨t, rfl⟩ := r1
  obtain ⟨t', rfl⟩ := r2
  exact fun prog w E Q hq => wpAny_eqBool_int hq
theorem all_eq_ints : ∀ (ns ms : List Int), ((List.range (min ns.length ms.length)).all (fun j => ns.getD j 0 == ms.getD j 0) && ns.length == ms.length) = decide (ns = ms) := by
  intro ns ms
  rw [Bool.eq_iff_iff, decide_eq_true_eq, Bool.and_eq_true, List.all_eq_true, beq_iff_eq]
  constructor
  · rintro ⟨h1, h2⟩
    refine List.ext_getElem h2 fun i hi hj => ?_
    have := h1 i (List.mem_range.mpr (by omega))
    rw [List.getD_eq_getElem?_getD, List.getD_eq_getElem?_getD, List.getElem?_eq_getElem hi, List.getElem?_eq_getElem hj] at this
    simpa using this
  · rintro rfl
    exact ⟨fun j _ => by simp, rfl⟩
end
end L2
namespace L2
open PySem PySem.Spec PyProof.Rows
def TrP (PO : Obj → Prop) (h base : Heap) (e : Addr) (c a0 fl : Value) : Prop :=
  ∃ oe vs T oT ts, h.get? e = some oe ∧ PO oe ∧ oe.cls = c ∧ vs[0]? = some a0 ∧ oe.data = .fields vs ∧ vs[1]? = some (.ref T) ∧ base.get? T = none ∧ T ≠ e ∧ h.get? T = some oT ∧ oT.data = .fields ts ∧ ts[3]? = some fl
def Stb (PO : Obj → Prop) : Prop := ∀ o f, PO o → PO (Obj.mapFields f o)
def tbObj (head : Value) (L : Addr) (pl : List Value) : Obj := { cls := .type "traceback", dict := none, data := .fields ([head, .ref L, .none, rawInt L, .none] ++ (if pl.isEmpty then List.replicate 6 Value.none else pl)).toArray }
section
variable {M : Model} {A : Around} {E : Value → Shared → Prop} {s : Shared} {PO : Obj → Prop} {base : Heap} {env : Env} {outer : List Env} {L e : Addr} {a0 : Value}
theorem nof_ne {h : Heap} {b x : Addr} {o ox : Obj} {vs : Array Value} (hx : h.get? x = some ox) (hd : ox.data = .fields vs) (hb : h.get? b = some o) (hn : ∀ vs, o.data ≠ .fields vs) : b ≠ x := fun z => by
  subst z
  rw [hx] at hb
  exact hn vs (by rw [← Option.some.inj hb]; exact hd)
theorem entryP (hP : Stb PO) {oe : Obj} {vs : Array Value} {head : Value} {hadNext : Bool} {Q : Unit → Shared → Prop} (fr : A.frames = some (env :: outer)) (fl : s.heap.FunFrames base (env :: outer)) (ef : env.frame = some L) (ge : s.heap.get? e = some oe) (po : PO oe)
    (kb : base.StaysIn s.heap) (ne : base.get? e = none) (dd : oe.data = .fields vs) (sz : 1 < vs.size) (v0 : vs[0]? = some a0)
    (k : ∀ h', base.StaysIn h' → h'.FunFrames base (env :: outer) → TrP PO h' base e oe.cls a0 (rawInt L) → s.heap.UpToSlots h' → Q () { s with heap := h' }) :
    wpAny M A (frameOf env >>= fun a => entryPlaceOf L hadNext >>= fun pl => EntryCells.newEntry head a .none (rawInt L) .none pl >>= fun b => setField (.ref e) 1 b) Q E s := by
  have off : e ∉ (env :: outer).filterMap (·.frame) := fun hm => by
    obtain ⟨_, o, ho, hn⟩ := fl.mem hm
    exact nof_ne ge dd ho hn rfl
  refine wpAny_bind (wpAny_frameOf_fun fr fl ef fun h1 q1 => wpAny_bind (wpAny_entryPlaceOf fun pl hpl => ?_))
  unfold EntryCells.newEntry newFields
  refine wpAny_bind (wpAny_newObj_type ?_ (hpl.sizeOk5 _ _ _ _ _))
  have e1 : h1.get? e = some oe := (q1.2.1 e off).trans ge
  have b1 : base.StaysIn h1 := fun b o hb => (q1.2.1 b fun hm => by rw [(fl.mem hm).1] at hb; cases hb).trans (kb b o hb)
  have e2 := Heap.get?_push_of_some (h := h1) (tbObj head L pl) e1
  have Te : h1.objs.size ≠ e := Nat.ne_of_gt (Heap.lt_size e1)
  have d3 := Obj.data_mapFields dd (·.setIfInBounds 1 (Value.ref h1.objs.size))
  have e3 := Heap.get?_update_self (Obj.mapFields (·.setIfInBounds 1 (Value.ref h1.objs.size))) e2 (Obj.isFreed_of_fields d3)
  have T3 := (Heap.get?_update_other (h1.push (tbObj head L pl)) (Obj.mapFields (·.setIfInBounds 1 (Value.ref h1.objs.size))) (Ne.symm Te)).trans (Heap.get?_push_size h1 rfl)
  have keep : ∀ b o, b ≠ e → h1.get? b = some o → ((h1.push (tbObj head L pl)).update e (Obj.mapFields (·.setIfInBounds 1 (Value.ref h1.objs.size)))).get? b = some o := fun b o hb q => by
    rw [Heap.get?_update_other _ _ (Ne.symm hb)]; exact Heap.get?_push_of_some _ q
  refine wpAny_setField e2 dd sz (k _ (fun b o hb => keep b o (fun z => by rw [z, ne] at hb; cases hb) (b1 b o hb)) (fl.of_keeps fun b o hb hn => ?_) ?_ fun b o hb hn => ?_)
  · obtain ⟨sl, hs⟩ := q1.2.2 b o hb
    exact ⟨_, keep b _ (nof_ne ge dd hb hn) hs, rfl⟩
  · refine ⟨_, _, h1.objs.size, _, _, e3, hP _ _ po, Obj.cls_mapFields _ _, by rw [Array.getElem?_setIfInBounds_ne (by decide)]; exact v0, d3, by simp [sz], b1.fresh, Te, T3, rfl, ?_⟩
    first
      | (simp; done)
      | (rcases hpl with rfl | ⟨_, _, _, _, _, _, _, rfl⟩ <;> simp)
  · obtain ⟨sl, hs⟩ := q1.2.2 b o hb
    exact ⟨sl, keep b _ (nof_ne ge dd hb hn) hs⟩
theorem noteFirstP (hP : Stb PO) {oe : Obj} {vs : Array Value} {Q : Unit → Shared → Prop} (fr : A.frames = some (env :: outer)) (fl : s.heap.FunFrames base (env :: outer)) (ef : env.frame = some L) (ge : s.heap.get? e = some oe) (po : PO oe)
    (kb : base.StaysIn s.heap) (ne : base.get? e = none) (dd : oe.data = .fields vs) (v1 : vs[1]? = some .none) (v0 : vs[0]? = some a0)
    (k : ∀ h', base.StaysIn h' → h'.FunFrames base (env :: outer) → TrP PO h' base e oe.cls a0 (rawInt L) → s.heap.UpToSlots h' → Q () { s with heap := h' }) : wpAny M A (noteFrame (.ref e) env) Q E s := by
  unfold noteFrame
  simp only [ef]
  refine wpAny_bind (wpAny_field ge dd v1 ?_)
  rw [if_neg (by decide)]
  exact entryP hP fr fl ef ge po kb ne dd (Array.getElem?_eq_some_iff.mp v1).1 v0 k
theorem noteNextP (hP : Stb PO) {c : Value} {Q : Unit → Shared → Prop} (fr : A.frames = some (env :: outer)) (fl : s.heap.FunFrames base (env :: outer)) (ef : env.frame = some L) (tr : TrP PO s.heap base e c a0 .none) (kb : base.StaysIn s.heap) (ne : base.get? e = none)
    (k : ∀ h', base.StaysIn h' → h'.FunFrames base (env :: outer) → TrP PO h' base e c a0 (rawInt L) → s.heap.UpToSlots h' → Q () { s with heap := h' }) : wpAny M A (noteFrame (.ref e) env) Q E s := by
  obtain ⟨oe, vs, T, oT, ts, ge, po, rfl, v0, dd, v1, nT, Te, gT, dT, t3⟩ := tr
  unfold noteFrame
  simp only [ef]
  refine wpAny_bind (wpAny_field ge dd v1 ?_)
  rw [if_pos (by simp)]
  refine wpAny_bind (wpAny_field gT dT t3 ?_)
  rw [if_neg (by simp [rawInt])]
  refine wpAny_bind (wpAny_setField gT dT (Array.getElem?_eq_some_iff.mp t3).1 ?_)
  have ot : ∀ b, b ≠ T → (s.heap.update T (Obj.mapFields (·.setIfInBounds 3 Value.none))).get? b = s.heap.get? b := fun b hb => Heap.get?_update_other _ _ (Ne.symm hb)
  exact entryP (s := { s with heap := s.heap.update T (Obj.mapFields (·.setIfInBounds 3 Value.none)) }) hP fr (fl.of_keeps fun b o hb hn => ⟨o, (ot b (nof_ne gT dT hb hn)).trans hb, rfl⟩) ef ((ot e (Ne.symm Te)).trans ge) po
    (fun b o hb => (ot b fun z => by rw [z, nT] at hb; cases hb).trans (kb b o hb)) ne dd (Array.getElem?_eq_some_iff.mp v1).1 v0
    fun h' x1 x2 x3 x4 => k h' x1 x2 x3 fun b o hb hn => x4 b o ((ot b (nof_ne gT dT hb hn)).trans hb) hn
theorem flightP {c fl : Value} {l : List Env} {Q : Unit → Shared → Prop} (kb : base.StaysIn s.heap) (ff : s.heap.FunFrames base l) (tr : TrP PO s.heap base e c a0 fl)
    (k : ∀ h', base.StaysIn h' → h'.FunFrames base l → TrP PO h' base e c a0 .none → s.heap.UpToSlots h' → Q () { s with heap := h' }) : wpAny M A (setFlight (.ref e) none) Q E s := by
  obtain ⟨oe, vs, T, oT, ts, ge, po, ec, v0, dd, v1, nT, Te, gT, dT, t3⟩ := tr
  have s3 : 3 < ts.size := (Array.getElem?_eq_some_iff.mp t3).1
  have ot : ∀ b, b ≠ T → (s.heap.update T (Obj.mapFields (·.setIfInBounds 3 ((none : Option Addr).elim Value.none fun f => rawInt f)))).get? b = s.heap.get? b := fun b hb => Heap.get?_update_other _ _ (Ne.symm hb)
  unfold setFlight
  refine wpAny_bind (wpAny_field ge dd v1 ?_)
  rw [if_pos (by simp)]
  refine wpAny_setField gT dT s3 (k _ (fun b o hb => (ot b fun z => by rw [z, nT] at hb; cases hb).trans (kb b o hb)) (ff.of_keeps fun b o hb hn => ⟨o, (ot b (nof_ne gT dT hb hn)).trans hb, rfl⟩) ?_ fun b o hb hn => ⟨o.slots, (ot b (nof_ne gT dT hb hn)).trans hb⟩)
  exact ⟨oe, vs, T, _, _, (ot e (Ne.symm Te)).trans ge, po, ec, v0, dd, v1, nT, Te, Heap.get?_update_self _ gT (Obj.isFreed_of_fields (Obj.data_mapFields dT _)), Obj.data_mapFields dT _, by simp [s3]⟩
end
end L2
namespace L2
open PySem PySem.Spec PyProof.Rows
theorem ObjOk.got {P : Program} {w : World} {H : Hp} {h : Heap} {a : Addr} {o : HO} (x : ObjOk P w H h a o) : ∃ ob, h.get? a = some ob := by
  cases o with
  | lst xs => obtain ⟨_, _, _, _, e⟩ := x; exact ⟨_, e⟩
  | tup xs => obtain ⟨_, _, _, ob, e, _⟩ := x; exact ⟨ob, e⟩
  | dK kvs => obtain ⟨_, _, _, _, ob, _, _, e, _⟩ := x; exact ⟨ob, e⟩
  | dT kvs => obtain ⟨_, _, _, _, ob, _, _, e, _⟩ := x; exact ⟨ob, e⟩
  | set S n => obtain ⟨ob, _, _, _, e, _⟩ := x; exact ⟨ob, e⟩
  | ins C dx fs => obtain ⟨_, _, _, e, _⟩ := x; exact ⟨_, e⟩
  | own y => obtain ⟨ob, e⟩ := x; exact ⟨ob, e⟩
  | xd fs => obtain ⟨_, ⟨ob, _, _, e, _⟩, _⟩ := x; exact ⟨ob, e⟩
  | rng lo hi => obtain ⟨_, _, _, e⟩ := x; exact ⟨_, e⟩
  | frz ob u => obtain ⟨e, _⟩ := x; exact ⟨ob, e⟩
  | tbl ps => exact ⟨_, show h.get? a = some _ from x⟩
  | met f y => exact ⟨_, show h.get? a = some _ from x⟩
  | ext φ => obtain ⟨_, ⟨ob, e⟩, _⟩ := x; exact ⟨ob, e⟩
theorem HOk.byB {P : Program} {w : World} {H : Hp} {h h' B : Heap} (x : HOk P w H h) (c : ∀ b o, H b = some o → ∃ ob, h.get? b = some ob ∧ B.get? b = some ob) (st : B.StaysIn h') : HOk P w H h' := fun a o e =>
  (x a o e).stay (fun b u hb q => by
    have key : ∀ o', H b = some o' → h'.get? b = some u := fun o' eo => by
      obtain ⟨ob, e1, e2⟩ := c b o' eo
      rw [q] at e1
      rw [Option.some.inj e1]
      exact st b ob e2
    rcases hb with z | z
    · exact key o (z ▸ e)
    · exact key _ z) (fun _ q => q) fun _ _ q => q
theorem Un.byB {fs : List Addr} {H H' : Hp} {h h1 h2 B : Heap} (U : Un fs [] H H' h h1) (c2 : ∀ b ob, h.get? b = some ob → H b = none → b ∉ fs → B.get? b = some ob) (c3 : ∀ b ob, h.get? b = some ob → b ∉ fs → ∃ ob', B.get? b = some ob')
    (st : B.StaysIn h2) (up : h1.UpToSlots h2) (hf : ∀ b ∈ fs, ∃ o, h1.get? b = some o ∧ ∀ vs, o.data ≠ .fields vs) : Un fs [] H H' h h2 where
  keep := fun b o e n hb _ => st b o (c2 b o e n hb)
  slot := fun b o e n hb hx => by
    obtain ⟨sl, q⟩ := U.slot b o e n hb hx
    obtain ⟨o', q', d⟩ := hf b hb
    rw [q] at q'
    have q2 := Option.some.inj q'
    subst q2
    obtain ⟨sl', z⟩ := up b _ q d
    exact ⟨sl', z⟩
  free := U.free
  there := fun b o e hx => by
    by_cases hb : b ∈ fs
    · obtain ⟨o', q', d⟩ := hf b hb
      obtain ⟨sl, z⟩ := up b o' q' d
      exact ⟨_, z⟩
    · obtain ⟨o', z⟩ := c3 b o e hb
      exact ⟨o', st b o' z⟩
  tups := U.tups
  frzs := U.frzs
  tbls := U.tbls
def FlyW (od : Option Addr) (base : Heap) (l : List Env) (e : Addr) (c a0 : Value) (h : Heap) : Prop := base.StaysIn h ∧ base.get? e = none ∧ h.FunFrames base l ∧ TrP (fun o => o.dict = od) h base e c a0 .none
def FlyH (od : Option Addr) (base : Heap) (l : List Env) (e : Addr) (c a0 : Value) (L : Addr) (h : Heap) : Prop := base.StaysIn h ∧ base.get? e = none ∧ h.FunFrames base l ∧ TrP (fun o => o.dict = od) h base e c a0 (rawInt L)
theorem stb_dict (od : Option Addr) : Stb (fun o => o.dict = od) := fun o f h => by
  obtain ⟨c, d, dt, sl⟩ := o
  cases dt <;> exact h
theorem FlyW.first {od : Option Addr} {base h : Heap} {l : List Env} {e : Addr} {c a0 : Value} (x : FlyW od base l e c a0 h) : ∃ oe vs, h.get? e = some oe ∧ oe.cls = c ∧ oe.dict = od ∧ oe.data = .fields vs :=
  let ⟨_, _, _, oe, vs, _, _, _, ge, po, ec, _, dd, _⟩ := x; ⟨oe, vs, ge, ec, po, dd⟩
section
variable {M : Model} {A : Around} {E : Value → Shared → Prop} {s : Shared} {base : Heap} {env : Env} {outer : List Env} {L e : Addr} {c a0 : Value} {od : Option Addr}
theorem leaves_onD {Q : Unit → Shared → Prop} (fr : A.frames = some (env :: outer)) (ef : env.frame = some L) (fl : FlyW od base (env :: outer) e c a0 s.heap) (hQ : ∀ h', FlyW od base outer e c a0 h' → s.heap.UpToSlots h' → Q () { s with heap := h' }) : wpAny M A (leaving env (.ref e)) Q E s := by
  obtain ⟨f1, f2, f3, f4⟩ := fl
  unfold leaving
  refine wpAny_bind (noteNextP (stb_dict od) fr f3 ef f4 f1 f2 fun h1 x1 x2 x3 x4 => ?_)
  exact flightP (s := { s with heap := h1 }) x1 x2 x3 fun h2 y1 y2 y3 y4 => hQ h2 ⟨y1, f2, y2.2.2, y3⟩ (x4.trans y4)
theorem leaves_firstD {Q : Unit → Shared → Prop} {oe : Obj} {vs : Array Value} (fr : A.frames = some (env :: outer)) (ef : env.frame = some L) (kb : base.StaysIn s.heap) (fl : s.heap.FunFrames base (env :: outer)) (ne : base.get? e = none) (ge : s.heap.get? e = some oe) (dd : oe.data = .fields vs) (v1 : vs[1]? = some .none) (v0 : vs[0]? = some a0)
    (hQ : ∀ h', FlyW oe.dict base outer e oe.cls a0 h' → s.heap.UpToSlots h' → Q () { s with heap := h' }) : wpAny M A (leaving env (.ref e)) Q E s := by
  unfold leaving
  refine wpAny_bind (noteFirstP (stb_dict oe.dict) fr fl ef ge rfl kb ne dd v1 v0 fun h1 x1 x2 x3 x4 => ?_)
  exact flightP (s := { s with heap := h1 }) x1 x2 x3 fun h2 y1 y2 y3 y4 => hQ h2 ⟨y1, ne, y2.2.2, y3⟩ (x4.trans y4)
theorem looks_onD {Q : Unit → Shared → Prop} (fr : A.frames = some (env :: outer)) (ef : env.frame = some L) (fl : FlyW od base (env :: outer) e c a0 s.heap) (hQ : ∀ h', FlyH od base (env :: outer) e c a0 L h' → s.heap.UpToSlots h' → Q () { s with heap := h' }) : wpAny M A (noteFrame (.ref e) env) Q E s :=
  noteNextP (stb_dict od) fr fl.2.2.1 ef fl.2.2.2 fl.1 fl.2.1 fun h1 x1 x2 x3 x4 => hQ h1 ⟨x1, fl.2.1, x2, x3⟩ x4
theorem landsD {l : List Env} {Q : Unit → Shared → Prop} (fl : FlyH od base l e c a0 L s.heap) (hQ : ∀ h', FlyW od base l e c a0 h' → s.heap.UpToSlots h' → Q () { s with heap := h' }) : wpAny M A (setFlight (.ref e) none) Q E s :=
  flightP fl.1 fl.2.2.1 fl.2.2.2 fun h1 x1 x2 x3 x4 => hQ h1 ⟨x1, fl.2.1, x2, x3⟩ x4
theorem lands_againD {l : List Env} {Q : Unit → Shared → Prop} (fl : FlyW od base l e c a0 s.heap) (hQ : ∀ h', FlyW od base l e c a0 h' → s.heap.UpToSlots h' → Q () { s with heap := h' }) : wpAny M A (setFlight (.ref e) none) Q E s :=
  flightP fl.1 fl.2.2.1 fl.2.2.2 fun h1 x1 x2 x3 x4 => hQ h1 ⟨x1, fl.2.1, x2, x3⟩ x4
end
structure Fly (P : Program) (w : World) (outer : List Env) (H : Hp) (s : Shared) (cls : Value) (od : Option Addr) (a : Addr) (H' : Hp) (B : Heap) (s' : Shared) : Prop where
  os : s'.os = s.os
  bare : AllBare s'.gens
  un : Un (frs outer) [] H H' s.heap s'.heap
  hok : HOk P w H' s'.heap
  fr : H' a = none
  nw : s.heap.get? a = none
  fl : ∃ a0, FlyW od B outer a cls a0 s'.heap
  c1 : ∀ b o, H' b = some o → ∃ ob, s'.heap.get? b = some ob ∧ B.get? b = some ob
  c2 : ∀ b ob, s.heap.get? b = some ob → H b = none → b ∉ frs outer → B.get? b = some ob
  c3 : ∀ b ob, s.heap.get? b = some ob → b ∉ frs outer → ∃ ob', B.get? b = some ob'
def CXF (P : Program) (w : World) : CXT := fun outer H s E e s' => ∃ a cls od H' B, e = .ref a ∧ Fly P w outer H s cls od a H' B s' ∧ E cls od H'
theorem passN {X : Cx} {P : Program} {w : World} : Passes (CXF P w) X E0 := fun _ _ _ _ _ _ _ ⟨_, _, _, _, _, _, _, q⟩ => q.elim
section
variable {X : Cx} {pins : List (Addr × Obj)} {σ : St} {H H' : Hp} {s s' : Shared} {cls : Value} {od : Option Addr} {a : Addr} {B : Heap}
theorem Inv.newer (I : Inv X pins σ H s) (hex : X.ex = []) {b : Addr} (h : s.heap.get? b = none) : X.s₀.heap.get? b = none := by
  cases q : X.s₀.heap.get? b with
  | none => rfl
  | some o =>
    obtain ⟨o', z⟩ := I.base.there b o q (by rw [hex]; simp)
    rw [h] at z; cases z
theorem Inv.offStack (I : Inv X pins σ H s) {b : Addr} {ob : Obj} (e : X.s₀.heap.get? b = some ob) (hb : b ∉ X.fs) : b ∉ frs X.stack := fun z => by
  rcases List.mem_cons.mp (I.stkSub b z) with z | z
  · exact absurd (Nat.lt_of_lt_of_le (Heap.lt_size e) I.ok.above) (by rw [z]; exact Nat.lt_irrefl _)
  · exact hb z
theorem Fly.inv (I : Inv X pins σ H s) (F : Fly X.prog X.w X.stack H s cls od a H' B s') {h2 : Heap} (st : B.StaysIn h2) (up : s'.heap.UpToSlots h2) : Inv X pins σ H' { s' with heap := h2 } := by
  obtain ⟨a0, fl⟩ := F.fl
  refine I.call' (s' := { s' with heap := h2 }) (ch := []) F.os (F.un.byB F.c2 F.c3 st up fun b hb => ?_) (F.hok.byB F.c1 st) F.bare (fun b z => absurd z (by simp))
  obtain ⟨_, o, ho, hd⟩ := fl.2.2.1.mem hb
  exact ⟨o, ho, hd⟩
theorem Fly.on {E : Value → Shared → Prop} {M : Model} (I : Inv X pins σ H s) (hex : X.ex = []) (hst : X.stack = X.env :: X.outer) (hfr : X.env.frame = some X.env.locals) (F : Fly X.prog X.w X.stack H s cls od a H' B s') :
    wpAny M X.A (leaving X.env (.ref a)) (fun _ s2 => Fly X.prog X.w X.outer X.H₀ X.s₀ cls od a H' B s2) E s' := by
  obtain ⟨a0, fl⟩ := F.fl
  have fl' := fl
  rw [hst] at fl'
  have hA : X.A.frames = some (X.env :: X.outer) := by rw [I.ok.frames, hst]
  refine leaves_onD hA hfr fl' fun h2 fl2 up => ?_
  have J : Inv X pins σ H' { s' with heap := h2 } := F.inv I fl2.1 up
  have b0 : Un X.fs [] X.H₀ H' X.s₀.heap h2 := by have := J.base; rw [hex] at this; exact this
  refine ⟨J.os, J.bare, b0, J.hok, F.fr, I.newer hex F.nw, ⟨a0, fl2⟩, fun b o e => ?_, fun b ob e n hb => ?_, fun b ob e hb => ?_⟩
  · obtain ⟨ob, _, e2⟩ := F.c1 b o e
    exact ⟨ob, fl2.1 b ob e2, e2⟩
  · exact F.c2 b ob (I.base.keep b ob e n hb (by rw [hex]; simp)) (I.base.free b ob e n (by rw [hex]; simp)) (I.offStack e hb)
  · obtain ⟨o', e'⟩ := I.base.there b ob e (by rw [hex]; simp)
    exact F.c3 b o' e' (I.offStack e hb)
theorem Fly.first {E : Value → Shared → Prop} {M : Model} {oe : Obj} {vs : Array Value} {a0 : Value} (I : Inv X pins σ H s) (hex : X.ex = []) (hst : X.stack = X.env :: X.outer) (hfr : X.env.frame = some X.env.locals) (ge : s.heap.get? a = some oe) (oc : oe.cls = cls) (hd : oe.data = .fields vs) (v1 : vs[1]? = some .none) (v0 : vs[0]? = some a0) (hH : H a = none) (nw : X.s₀.heap.get? a = none) :
    wpAny M X.A (leaving X.env (.ref a)) (fun _ s2 => ∃ B, Fly X.prog X.w X.outer X.H₀ X.s₀ cls oe.dict a H B s2) E s := by
  have hA : X.A.frames = some (X.env :: X.outer) := by rw [I.ok.frames, hst]
  have stk := I.stack
  have hin : ∀ env ∈ X.stack, ∀ b, env.frame = some b → b ∈ a :: frs X.stack := fun env he b hb => List.mem_cons_of_mem _ (List.mem_filterMap.mpr ⟨env, he, hb⟩)
  have hl := PySem.W.funFrames_hide stk hin
  have off : ∀ b, b ≠ a → b ∉ frs X.stack → b ∉ a :: frs X.stack := fun b h1 h2 z => by
    rcases List.mem_cons.mp z with z | z
    · exact h1 z
    · exact h2 z
  have c1 : ∀ b o, H b = some o → ∃ ob, s.heap.get? b = some ob ∧ (PySem.W.hideAll s.heap (a :: frs X.stack)).get? b = some ob := fun b o e => by
    obtain ⟨ob, e1⟩ := (I.hok b o e).got
    refine ⟨ob, e1, PySem.W.hideAll_get _ e1 (off b (fun z => by rw [z, hH] at e; cases e) fun z => ?_)⟩
    have := I.stkFree b z
    rw [e] at this; cases this
  have c2 : ∀ b ob, X.s₀.heap.get? b = some ob → X.H₀ b = none → b ∉ X.fs → (PySem.W.hideAll s.heap (a :: frs X.stack)).get? b = some ob := fun b ob e n hb =>
    PySem.W.hideAll_get _ (I.base.keep b ob e n hb (by rw [hex]; simp)) (off b (fun z => by rw [z, nw] at e; cases e) (I.offStack e hb))
  have c3 : ∀ b ob, X.s₀.heap.get? b = some ob → b ∉ X.fs → ∃ ob', (PySem.W.hideAll s.heap (a :: frs X.stack)).get? b = some ob' := fun b ob e hb => by
    obtain ⟨o', e'⟩ := I.base.there b ob e (by rw [hex]; simp)
    exact ⟨o', PySem.W.hideAll_get _ e' (off b (fun z => by rw [z, nw] at e; cases e) (I.offStack e hb))⟩
  have b0 : Un X.fs [] X.H₀ H X.s₀.heap s.heap := by have := I.base; rw [hex] at this; exact this
  have hl2 : s.heap.FunFrames (PySem.W.hideAll s.heap (a :: frs X.stack)) (X.env :: X.outer) := by
    generalize PySem.W.hideAll s.heap (a :: frs X.stack) = G at hl ⊢
    rw [hst] at hl
    exact hl
  refine leaves_firstD (base := PySem.W.hideAll s.heap (a :: frs X.stack)) hA hfr (fun b o q => PySem.W.of_hideAll _ q) hl2 (PySem.W.hideAll_none _ List.mem_cons_self) ge hd v1 v0 fun h2 fl up => ?_
  have un : Un X.fs [] X.H₀ H X.s₀.heap h2 := b0.byB c2 c3 fl.1 up fun b hb => by
    obtain ⟨_, o, ho, hd⟩ := I.funs.mem hb
    exact ⟨o, ho, hd⟩
  refine ⟨_, I.os, I.bare, un, I.hok.byB c1 fl.1, hH, nw, ⟨a0, by rw [← oc]; exact fl⟩, fun b o e => ?_, c2, c3⟩
  obtain ⟨ob, _, e2⟩ := c1 b o e
  exact ⟨ob, fl.1 b ob e2, e2⟩
end
section
variable {P : Program} {w : World} {K : PySem.W.Frag} {mg : Str → Option Value} {base : Heap} {N ps : List Str} {qual : Str} {scope : Scope} {f : Addr} {cd : Value} {A : Around} {outer : List Env} {s : Shared} {H : Hp} {E : XK}
theorem passF : Passes (CXF P w) (cxOf (CXF P w) P w K mg base N qual scope f cd A outer s H E) E := fun pins σ H1 s1 e s' I ⟨a, cls, od, H', B, he, F, q⟩ => by
  subst he
  exact wpAny_mono (Fly.on (E := fun e' s2 => CXF P w outer H s E e' s2) (M := model P w) I rfl rfl rfl F) (fun _ s2 F2 => ⟨a, cls, od, H', B, rfl, F2, q⟩) fun _ _ z => z
theorem Fun.okX {x : Str} {st : Stmt} {fd : FuncData} {k : Nat} {sp : Sp} (F : Fun K x qual st f fd) (S : FnScope N ps (defScope st)) (len : ∀ vs H Q E, sp vs H Q E → vs.length = ps.length)
    (hbody : ∀ (cdv : Value) (A : Around) (outer : List Env) (s : Shared) (H : Hp) (vs : List V) (Q : VK) (E : XK), Room k (A.deeper (envOfC qual (defScope st) s.heap.objs.size f cdv)) → sp vs H Q E →
      ∃ t, PSs (cxOf (CXF P w) P w K mg base N qual (defScope st) f cdv A outer s H E) (defBody st) t ∧ t { nx := fun _ H' => Q .non H', rt := Q } (start N vs) H) : FnOk P w K mg base (CXF P w) (k + 1) f fd ps sp := by
  obtain ⟨oc, od, kV, doc, pm, an, cdv, ct, osl, rfl, lk, hcd⟩ := F.ex
  exact fn_of lk hcd S len fun A outer s H vs Q E hr hsp => hbody cdv A outer s H vs Q E hr hsp
end
def excD (a : Addr) (c : Value) (od : Option Addr) : HO := .ext fun h => ∃ o, h.get? a = some o ∧ o.cls = c ∧ o.dict = od ∧ ∃ vs, o.data = .fields vs
abbrev Cx.inx (X : Cx) (a : Addr) : Cx := { X with A := X.A.mark (some (.ref a)), calm := false }
section
variable {X : Cx} {pins : List (Addr × Obj)} {σ : St} {H H' : Hp} {s s' : Shared} {cls : Value} {od : Option Addr} {a : Addr} {B : Heap}
theorem Inv.inx (I : Inv X pins σ H s) (a : Addr) : Inv (X.inx a) pins σ H s :=
  ⟨⟨I.ok.mod, I.ok.kind, I.ok.glob, I.ok.blt, I.ok.above, I.ok.inj, I.ok.has, I.ok.cab, (fun z => nomatch z), I.ok.frames, I.ok.stk, I.ok.exf, I.ok.bs, I.ok.bsz, I.ok.noex, I.ok.exfs, I.ok.funs, I.ok.frf⟩, I.os, I.bare, I.base, I.loc, I.cell, I.free, I.freeC, I.pin, I.hok, I.len⟩
theorem Inv.back (J : Inv ((X.inx a).nox) pins σ H s) (ok : X.Ok) : Inv X pins σ H s := ⟨ok, J.os, J.bare, J.base, J.loc, J.cell, J.free, J.freeC, J.pin, J.hok, J.len⟩
theorem Inv.adoptE {D : Addr} {o : HO} (I : Inv X pins σ H s) (hn : H D = none) (hs : X.s₀.heap.get? D = none) (hL : D ≠ X.env.locals) (hc : ∀ x c, X.env.cells.lookup x = some c → c ≠ D) (hp : ∀ p ∈ X.pn ++ pins, p.1 ≠ D)
    (new : ObjOk X.prog X.w (upd H D o) s.heap D o) : Inv X pins σ (upd H D o) s := by
  have old : ∀ b u, H b = some u → upd H D o b = some u := fun b u q => by rw [upd_ne (ne_of_none q hn)]; exact q
  refine ⟨I.ok, I.os, I.bare, ⟨I.base.keep, I.base.slot, fun b ob e n hx => ?_, I.base.there, fun b xs e => old _ _ (I.base.tups b xs e), fun b ob xs e => old _ _ (I.base.frzs b ob xs e), fun b ps e => ?_⟩, I.loc, I.cell, ?_, fun x c e => ?_, fun p h => ?_, fun b ob e => ?_, I.len⟩
  · have hb : b ≠ D := fun z => by rw [z, hs] at e; cases e
    rw [upd_ne hb]; exact I.base.free b ob e n hx
  · obtain ⟨more, q⟩ := I.base.tbls b ps e
    exact ⟨more, old _ _ q⟩
  · rw [upd_ne (Ne.symm hL)]; exact I.free
  · rw [upd_ne (hc x c e)]; exact I.freeC x c e
  · obtain ⟨a1, a2, a3⟩ := I.pin p h
    exact ⟨a1, by rw [upd_ne (hp p h)]; exact a2, a3⟩
  · by_cases hb : b = D
    · subst hb; rw [upd_same] at e; cases e; exact new
    · rw [upd_ne hb] at e
      exact (I.hok b ob e).stay (fun c v _ q => q) (fun c q => old _ _ q) fun c xs q => old _ _ q
theorem gone_ok {M : Model} {A : Around} {E : Value → Shared → Prop} {i : Nat} {x : Str} {pos : Pos} {Q : Unit → Shared → Prop} (I : Inv X pins σ H s) (hN : X.N.Nodup) (hi : X.N[i]? = some x) (hk : X.env.scope.names.lookup x = some .local)
    (h : ∀ s', Inv X pins (σ.set i none) H s' → Q () s') : wpAny M A (do bindName X.env x .none; unbindBehindTheSuite X.env x pos) Q E s := by
  obtain ⟨m, hn, hl⟩ := id I.loc
  have hp : (X.env.scope.kind == .class || (X.env.scope.kind == .module && X.env.locals != X.env.globals)) = false := by rw [I.ok.kind]; rfl
  refine wpAny_nameGoes_keeps hk hn hp fun h' v hn' hs => h _ ?_
  obtain ⟨oL, _, _, hoL, _⟩ := id hn
  have older : ∀ b o, X.s₀.heap.get? b = some o → b ≠ X.env.locals := fun b o e => Nat.ne_of_lt (Nat.lt_of_lt_of_le (Heap.lt_size e) I.ok.above)
  refine ⟨I.ok, I.os, I.bare, ⟨fun b o e n hb hx => (hs.2 b (older b o e)).trans (I.base.keep b o e n hb hx), fun b o e n hb hx => ?_, I.base.free, fun b o e hx => ?_, I.base.tups, I.base.frzs, I.base.tbls⟩, ⟨_, hn', fun j y v' e1 e2 e3 => ?_⟩, fun y c e => ?_, I.free, I.freeC, fun p hp => ?_, fun b ob e => ?_, by simpa using I.len⟩
  · obtain ⟨sl, e1⟩ := I.base.slot b o e n hb hx
    exact ⟨sl, (hs.2 b (older b o e)).trans e1⟩
  · obtain ⟨o', e1⟩ := I.base.there b o e hx
    exact ⟨o', (hs.2 b (older b o e)).trans e1⟩
  · by_cases hj : j = i
    · subst hj
      rw [List.getElem?_set] at e2
      split at e2
      · split at e2 <;> cases e2
      · exact absurd rfl ‹_›
    · rw [List.getElem?_set_ne (Ne.symm hj)] at e2
      obtain ⟨u', r', q⟩ := hl j y v' e1 e2 e3
      refine ⟨u', r', ?_⟩
      rcases q with ⟨k, e⟩ | ⟨k, c, e, z⟩
      · have ne : y ≠ x := fun e => hj (nodup_ix hN e1 (e ▸ hi))
        exact .inl ⟨k, by simp [ne, e]⟩
      · exact .inr ⟨k, c, e, z.sameBut hs (I.cne y c e)⟩
  · obtain ⟨w', z⟩ := I.cell y c e
    exact ⟨w', z.sameBut hs (I.cne y c e)⟩
  · obtain ⟨e, n, ne, nf, d⟩ := I.pin p hp
    exact ⟨(hs.2 p.1 ne).trans e, n, ne, nf, d⟩
  · refine (I.hok b ob e).stay (fun c w' hc q => (hs.2 c ?_).trans q) (fun _ q => q) fun _ _ q => q
    intro z
    subst z
    rcases hc with z | z
    · rw [← z, I.free] at e; cases e
    · rw [I.free] at z; cases z
end
def PEx (X : Cx) (e : Expr) (te : XK → TE) : Prop :=
  ∀ (pins : List (Addr × Obj)) (s : Shared) (σ : St) (H : Hp) (Q : VK) (E : XK) (xe : Value → Shared → Prop), Inv X pins σ H s → te E σ H Q →
    (∀ H1 s1 e1 s', Inv X pins σ H1 s1 → CXF X.prog X.w X.stack H1 s1 E e1 s' → xe e1 s') → wpAny (model X.prog X.w) X.A (eval e X.env) (EP X pins σ Q) xe s
section
variable {X : Cx} {k : Nat} {f C : Addr} {fd : FuncData} {ps : List Str} {sp : Sp} {dvs : List V} {ds : List Value} {x m : Str} {p pos apos : Pos} {e o : Expr} {es : List Expr} {ta : TE} {t : TA}
theorem run_fnX {pins : List (Addr × Obj)} {σ : St} {H : Hp} {s : Shared} {Q : VK} {E : XK} {xe : Value → Shared → Prop} {us : List Value} {vs : List V} (F : FnOk X.prog X.w X.K X.mg X.base (CXF X.prog X.w) k f fd ps sp) (hr : Room k X.A) (hb : Binds X.K fd ps [])
    (I : Inv X pins σ H s) (r : Vals vs us) (h : sp vs H Q E) (hx : ∀ e1 s', CXF X.prog X.w X.stack H s E e1 s' → xe e1 s') : wpAny (model X.prog X.w) X.A (call (.ref f) us) (EP X pins σ Q) xe s := by
  have hl : (us ++ []).length = ps.length := by rw [List.append_nil, ← r.length]; exact F.len _ _ _ _ h
  have bt := hb s us I.kIn hl
  rw [List.append_nil] at bt
  refine wpAny_call (codeAny_mono (F.run X.A X.stack s H ⟨us, []⟩ us vs Q E hr I.env0 bt r h) fun res s' hq => ?_)
  cases res with
  | error e => exact hx e s' hq
  | ok fl =>
    cases fl with
    | ret u => exact I.after hq
    | next => exact False.elim hq
    | brk => exact False.elim hq
    | cont => exact False.elim hq
theorem pex_call (F : FnOk X.prog X.w X.K X.mg X.base (CXF X.prog X.w) k f fd ps sp) (hr : Room k X.A) (hg : Gl X x) (hm : X.mg x = some (.ref f)) (hk : PySem.W.keepIn X.K (.ref f) = true) (hb : Binds X.K fd ps [])
    (ha : PA X.nox (e :: es) t) (hdb : (x == ("__debug__" : Str)) = false := by decide) (he : starEach (e :: es) X.env = (false, eval e X.env) :: starEach es X.env := by rfl) (hpl : (backTo pos (starEach es X.env)).any (·.1) = false := by rfl) :
    PEx X (.Call (.Name x p) (e :: es) [] pos) (fun E => tCall sp [] E t) := by
  intro pins s σ H Q E xe I h hx
  refine wpAny_Call_Name_kw (ld_glob I hg hm ?_ hdb)
  refine PySem.W.callWith_K (h₀ := X.base) I.ok.mod.kin hk (wpAny_mono (ha pos pins s σ H _ (I.wish _) h) (fun us s1 ⟨vs, H1, I1, r, q⟩ => ⟨I1.kIn, ?_⟩) fun _ _ z => z.elim) he hpl
  have q' : sp (vs ++ []) H1 Q E := q
  rw [List.append_nil] at q'
  exact run_fnX F hr hb I1.unwish r q' fun e1 s' z => hx H1 s1 e1 s' I1.unwish z
end
def tTry (te : XK → TE) (c0 : Value) (j : Nat) (ts : TS) : TS := fun D σ H => te (fun cls od H2 => cls = c0 ∧ ∀ a, H2 a = none → ts { nx := fun σ' H' => D.nx (σ'.set j none) H', rt := fun _ _ => False } (σ.set j (some (.ref a))) (upd H2 a (excD a c0 od))) σ H fun _ H2 => D.nx σ H2
theorem ps_try {X : Cx} {te : XK → TE} {ts : TS} {c c0 : Value} {cx n : Str} {j : Nat} {e : Expr} {s0 : Stmt} {suite : List Stmt} {p1 np hp tp : Pos} (he : PEx X e te) (hs : ∀ a, PSs ((X.inx a).nox) (s0 :: suite) ts)
    (hst : X.stack = X.env :: X.outer) (hfr : X.env.frame = some X.env.locals) (hex : X.ex = []) (hg : Gl X cx) (hm : X.mg cx = some c) (hmt : PySem.W.exmOne X.K c0 c = some true) (hN : X.N.Nodup) (hj : X.N[j]? = some n) (hn : X.env.scope.names.lookup n = some .local)
    (hdb : (cx == ("__debug__" : Str)) = false := by decide) (hsw : swapsWith e none p1.line X.env = pure false := by rfl) :
    PS X (.Try [.Expr e p1] [.ExceptHandler (some (.Name cx np)) (some n) (s0 :: suite) hp] [] [] tp) (tTry te c0 j ts) := by
  intro pins s σ H D I h
  refine wpAny_Try_except (wpAny_execs_cons (wpAny_Expr_any (wpAny_mono (he pins s σ H _ _ _ I h fun H1 s1 e1 s' I1 z => ?_) (fun v s1 ⟨y, H1, I1, r1, q1⟩ => wpAny_execs_nil (wpAny_execs_nil ⟨σ, H1, I1, q1⟩)) fun _ _ z => z) I.quiet hsw))
  obtain ⟨a, cls, od, H', B, e0, F, ec, q⟩ := z
  subst e0 ec
  obtain ⟨a0, fl⟩ := F.fl
  have fl' := fl
  rw [hst] at fl'
  have hA : X.A.frames = some (X.env :: X.outer) := by rw [I.ok.frames, hst]
  refine looks_onD hA hfr fl' fun h4 held up4 => landsD (s := { s' with heap := h4 }) held fun h5 fl5 up5 => ?_
  have I5 : Inv X pins σ H' { s' with heap := h5 } := F.inv I1 fl5.1 (up4.trans up5)
  obtain ⟨ob, _, hob, hobc, _, _⟩ := fl5.first
  have LT : PySem.W.Looks (model X.prog X.w) h5 (typeOf (.ref a)) cls := hobc ▸ (PySem.W.Looks.ld hob).andThen .now
  refine wpAny_handleBy_cons (codeAny_handlers_test (ld_glob (X := X.inx a) (I5.inx a) hg hm ((PySem.W.exm_one I5.kIn LT hmt).here (codeAny_handlers_suite_as ?_)) hdb)) (by intro z; cases z)
  refine lands_againD (s := { s' with heap := h5 }) fl5 fun h6 fl6 up6 => ?_
  have I6 : Inv X pins σ H' { s' with heap := h6 } := F.inv I1 fl6.1 ((up4.trans up5).trans up6)
  obtain ⟨oe, vs, hoe, hoc, hdc, hod⟩ := fl6.first
  have nL : a ≠ X.env.locals := fun z => by
    obtain ⟨_, ⟨oL, _, _, e1, _⟩, _⟩ := I1.loc
    rw [← z, F.nw] at e1; cases e1
  have nC : ∀ y c, X.env.cells.lookup y = some c → c ≠ a := fun y c e1 z => by
    obtain ⟨_, oc, e2, _⟩ := I1.cell y c e1
    rw [z, F.nw] at e2; cases e2
  have nP : ∀ p ∈ X.pn ++ pins, p.1 ≠ a := fun p hp z => by
    have e1 := (I1.pin p hp).1
    rw [z, F.nw] at e1; cases e1
  have I7 : Inv X pins σ (upd H' a (excD a cls od)) { s' with heap := h6 } := I6.adoptE F.fr (I1.newer hex F.nw) nL nC nP ⟨⟨oe, hoe, hoc, hdc, vs, hod⟩, ⟨oe, hoe⟩, fun g1 g2 ⟨o, e1, r⟩ kp => ⟨o, kp o e1, r⟩⟩
  refine store_ok I7 hN hj (.inl hn) (v := .ref a) (u := .ref a) rfl (fun s8 I8 => ?_) (.inr hn)
  refine wpAny_mono (hs a pins s8 _ _ _ (I8.inx a |>.wish _) (q a F.fr)) (fun fl9 s9 z => ?_) fun _ _ z => z.elim
  cases fl9 with
  | next =>
    obtain ⟨σ', H9, I9, q9⟩ := z
    exact gone_ok (I9.back I.ok) hN hj hn fun s10 I10 => ⟨_, _, I10, q9⟩
  | ret v => obtain ⟨_, _, _, _, _, z⟩ := z; exact z.elim
  | brk => obtain ⟨_, _, _, z⟩ := z; exact z.elim
  | cont => obtain ⟨_, _, _, z⟩ := z; exact z.elim
end L2
namespace L2
open PySem PySem.Spec PyProof.Rows
def gadr (K : PySem.W.Frag) (x : Str) : Addr := match PySem.W.nsIn K mainGlobals x with
  | some (some (.ref C)) => C
  | _ => 0
theorem gadr_of {K : PySem.W.Frag} {x : Str} {C : Addr} (h : PySem.W.nsIn K mainGlobals x = some (some (.ref C))) : gadr K x = C := by unfold gadr; rw [h]
def ExcAt (a C : Addr) (h : Heap) : Prop := ∃ o, h.get? a = some o ∧ o.cls = .ref C ∧ ∃ vs, o.data = .fields vs
def KX (K : PySem.W.Frag) (C : Addr) : Prop := ∀ a, PySem.W.KitX K (.ref a) (.ref C) (ExcAt a C)
def isE (K : PySem.W.Frag) (C : Addr) (H : Hp) (y : V) (b : Bool) : Prop :=
  (∃ D, y = .ref D ∧ PySem.W.kitOne K (.ref C) (.ref D) = some b) ∨ (∃ T, y = .ty T ∧ PySem.W.kitOne K (.ref C) (.type T) = some b) ∨ (∃ p Ds, y = .ref p ∧ H p = some (.tup (List.map V.ref Ds)) ∧ PySem.W.kitAny K (.ref C) (List.map Value.ref Ds) = some b)
def cIsE (K : PySem.W.Frag) : List V → Hp → VK → Prop := fun xs H Q => ∃ a C od y b, xs = [.ref a, y] ∧ H a = some (excD a (.ref C) od) ∧ KX K C ∧ isE K C H y b ∧ Q (.bl b) H
structure XT (K : PySem.W.Frag) (R : Str) (others : List Str) : Prop where
  any : PySem.W.kitAny K (.ref (gadr K R)) (others.map fun x => .ref (gadr K x)) = some false
  val : PySem.W.kitOne K (.ref (gadr K R)) (.type "ValueError") = some true
  kx : KX K (gadr K R)
theorem XT.own {K : PySem.W.Frag} {R : Str} {others : List Str} (_ : XT K R others) : PySem.W.kitOne K (.ref (gadr K R)) (.ref (gadr K R)) = some true := by
  unfold PySem.W.kitOne; rw [if_pos (by simp)]
section
variable {X : Cx}
theorem ExcAt.of {pins : List (Addr × Obj)} {σ : St} {H : Hp} {s : Shared} {a C : Addr} (I : Inv X pins σ H s) {od : Option Addr} (h : H a = some (excD a (.ref C) od)) : ExcAt a C s.heap := let ⟨o, e1, e2, _, e3⟩ := (I.hok a _ h).1; ⟨o, e1, e2, e3⟩
theorem tup_of {pins : List (Addr × Obj)} {σ : St} {H : Hp} {s : Shared} {p : Addr} {Ds : List Addr} (I : Inv X pins σ H s) (h : H p = some (.tup (List.map V.ref Ds))) : ∃ o n, s.heap.get? p = some o ∧ o.cls = .type "tuple" ∧ o.data = .seq (List.map Value.ref Ds).toArray n := by
  obtain ⟨_, its, r, o, e, c, n, d⟩ := I.hok p _ h
  have key : ∀ (Ds : List Addr) (its : List Value), Vals (List.map V.ref Ds) its → its = List.map Value.ref Ds := by
    intro Ds
    induction Ds with
    | nil => intro its r; cases r; rfl
    | cons D r' ih =>
      intro its r
      cases r with
      | cons q t =>
        have q' : _ = Value.ref D := q
        rw [q', ih _ t]; rfl
  have := key Ds its r
  subst this
  exact ⟨o, n, e, c, d⟩
theorem call_isE : CallR X (.builtin "isinstance") (cIsE X.K) := by
  intro pins s σ H xs us Q I r h
  obtain ⟨a, C, od, y, b, rfl, hH, kx, hb, q⟩ := h
  obtain ⟨u, c, rfl, ru, rc⟩ := vals2 r
  obtain rfl : u = Value.ref a := ru
  have at_ := ExcAt.of I hH
  have fin : ∀ tk, EP X pins σ Q (.bool b) { s with toks := tk } := fun tk => ⟨.bl b, H, I.tok _, rfl, q⟩
  rcases hb with ⟨D, rfl, e⟩ | ⟨T, rfl, e⟩ | ⟨p, Ds, rfl, hp, e⟩
  · obtain rfl : c = Value.ref D := rc
    exact PySem.W.kia_one (kx a) I.kIn at_ e (fun z => nomatch z) fin
  · obtain rfl : c = Value.type T := rc
    exact PySem.W.kia_one (kx a) I.kIn at_ e (fun z => nomatch z) fin
  · obtain rfl : c = Value.ref p := rc
    obtain ⟨⟨oc, od, dt, sl⟩, n, e1, e2, e3⟩ := tup_of I hp
    dsimp only at e2 e3
    subst e2 e3
    exact PySem.W.kia_tup (kx a) I.kIn at_ e1 e (fun z => nomatch z) fin
end
theorem sub_of {K : PySem.W.Frag} {M : Model} {h : Heap} {a C : Addr} {T : Value} {b : Bool} (X : K.In h) (at_ : ExcAt a C h) (e : PySem.W.mroIn K C T = some b) : PySem.W.Looks M h (isInstance (.ref a) T) b := by
  obtain ⟨o, e1, e2, _⟩ := at_
  have L0 : PySem.W.Looks M h (typeOf (.ref a)) (.ref C) := e2 ▸ (PySem.W.Looks.ld e1).andThen .now
  exact L0.andThen (PySem.W.looks_mroIn X e)
section
open PySem.W Builtin Builtin.ObjectAttr Builtin.Getset_descriptor
theorem exc_classget {prog : Program} {w : World} {A : Around} {s : Shared} {K : Frag} {x C : Addr} {R : Result → Shared → Prop} {tp : Value} (X : K.In s.heap) (at_ : ExcAt x C s.heap) (hm : mroIn K C (.type "object") = some true) (h : R (.ok (.ret (.ref C))) s) :
    codeAny (model prog w) A (.call (.builtin "getset_descriptor.__get__") ⟨[.builtin "object.__class__", .ref x, tp], []⟩) R s := by
  obtain ⟨o, e1, e2, vs, e3⟩ := at_
  obtain ⟨hh, g, dr, t, os⟩ := s
  have L0 : Looks (model prog w) hh (typeOf (.ref x)) (.ref C) := e2 ▸ (Looks.ld e1).andThen .now
  have L1 := looks_mroIn (M := model prog w) X hm
  refine codeAny_call_builtin KF.slot_gs.plain KF.entry_gs (KF.slot_gs.check _ _ _ _ _ _ _ _ KF.type_class (KF.args_gs _ _ _) ?_)
  unfold Builtin.«getset_descriptor.__get__» descrGet; rw [dga_obj]
  refine wpAny_bind (wpAny_pure ?_)
  unfold descrGetter descrCheckInstance descrNameAndClass isInstance; simp only [KF.owner_class]
  repeat lk
  refine ⟨Code.quiet_builtin _ (by decide +kernel), codeAny_builtin KF.entry_class ?_⟩; unfold Builtin.«object.__class__» shownTypeOf
  repeat lk
  exact h
theorem exc_class {prog : Program} {w : World} {A : Around} {E : Value → Shared → Prop} {s : Shared} {K : Frag} {x C : Addr} {Q : Option Value → Shared → Prop}
    (hga : findIn K (.ref C) "__getattribute__" = some (some (.builtin "BaseException.__getattribute__"))) (hgh : findIn K (.ref C) "__getattr__" = some none) (hcl : findIn K (.ref C) "__class__" = some (some (.builtin "object.__class__")))
    (hn : specialIn K (.builtin "object.__class__") "__get__" = some (some (.builtin "getset_descriptor.__get__"))) (htk : takesIn K (.builtin "object.__class__") = some true) (hm : mroIn K C (.type "object") = some true) (hb : mroIn K C (.type "BaseException") = some true)
    (X : K.In s.heap) (at_ : ExcAt x C s.heap) (h : Q (some (.ref C)) { s with toks := s.toks + 1 }) : wpAny (model prog w) A (getAttr? (.ref x) "__class__") Q E s := by
  obtain ⟨o, e1, e2, vs, e3⟩ := id at_
  obtain ⟨hh, g, dr, t, os⟩ := s
  have L0 : Looks (model prog w) hh (typeOf (.ref x)) (.ref C) := e2 ▸ (Looks.ld e1).andThen .now
  have L1 := looks_findIn (M := model prog w) X hga
  have L2 := looks_findIn (M := model prog w) X hgh
  have L3 := looks_findIn (M := model prog w) X hcl
  have L4 := looks_specialIn (M := model prog w) X hn
  have L5 := looks_takesIn (M := model prog w) X htk
  have L6 : Looks (model prog w) hh (isInstance (.ref x) (.type "BaseException")) true := sub_of X at_ hb
  have LD : Looks (model prog w) hh (dataDescriptor? (some (.builtin "object.__class__")) (some (.builtin "getset_descriptor.__get__"))) (some (.builtin "getset_descriptor.__get__", .builtin "object.__class__")) := L5.andThen .now
  have LF : Looks (model prog w) hh (find (.ref x) (.ref C) "__class__") (.bind (.builtin "getset_descriptor.__get__") (.builtin "object.__class__")) := L3.andThen (L4.andThen (LD.andThen (Looks.tag .now)))
  have bnd := PySem.F.attr_ValueError.ga.bind (.ref x)
  have hne : (Value.builtin "BaseException.__getattribute__" == Value.builtin "object.__getattribute__") = false := by decide +kernel
  have hk : builtinKind "BaseException.__getattribute__" = some .slot := by decide +kernel
  have hsp : splitId "BaseException.__getattribute__" = some ("BaseException", "__getattribute__") := by decide +kernel
  unfold getAttr? getAttrBy? getAttrBy
  refine wpAny_bind (wpAny_mkText (wpAny_bind (wpAny_attempt (wpAny_holding (wpAny_bind (L0.at (wpAny_bind (L1.at ?_))))))))
  dsimp only
  rw [hne, Bool.and_false, if_neg Bool.false_ne_true]
  unfold getAttrByItsOwn hookBefore
  rw [if_pos (show onTheHeap (Value.ref C) = true from rfl)]
  refine wpAny_bind (L2.at (wpAny_bind (wpAny_attempt (wpAny_holding ?_))))
  unfold callGetattribute boundAndCalled
  rw [Bool.false_and, if_neg Bool.false_ne_true, bnd]
  refine wpAny_bind (wpAny_pure (wpAny_call (codeAny_call_builtin PySem.F.attr_ValueError.ga.plain PySem.F.entry_bexc_ga ?_)))
  have ha := PySem.F.args_bexc_ga (.ref x) (.str "__class__" t)
  show wpAny _ _ (checkBuiltinCall _ ⟨[.ref x, .str "__class__" t], []⟩) _ _ _
  simp only [checkBuiltinCall, hk, hsp]
  refine wpAny_bind (L6.at ?_)
  repeat (first | lk | wp_step)
  show wpAny _ _ (run (.call (.builtin "getset_descriptor.__get__") ⟨[.builtin "object.__class__", .ref x, .ref C], []⟩) none) _ _ _
  refine wpAny_run (exc_classget X at_ hm ?_)
  repeat (first | lk | wp_step)
  exact h
end
theorem kitx_exc {K : PySem.W.Frag} {a C : Addr} (hga : PySem.W.findIn K (.ref C) "__getattribute__" = some (some (.builtin "BaseException.__getattribute__"))) (hgh : PySem.W.findIn K (.ref C) "__getattr__" = some none) (hcl : PySem.W.findIn K (.ref C) "__class__" = some (some (.builtin "object.__class__")))
    (hn : PySem.W.specialIn K (.builtin "object.__class__") "__get__" = some (some (.builtin "getset_descriptor.__get__"))) (htk : PySem.W.takesIn K (.builtin "object.__class__") = some true) (hm : PySem.W.mroIn K C (.type "object") = some true) (hb : PySem.W.mroIn K C (.type "BaseException") = some true) :
    PySem.W.KitX K (.ref a) (.ref C) (ExcAt a C) := by
  obtain ⟨cd, hc, _⟩ := Option.bind_eq_some_iff.mp hm
  have key : ∃ c d sl, K.lookup C = some ⟨c, d, .cls cd, sl⟩ := by
    unfold PySem.W.clsIn at hc
    split at hc
    · rename_i c' d' cd' sl' ho
      have := Option.some.inj hc
      subst this
      exact ⟨_, _, _, ho⟩
    · cases hc
  obtain ⟨c, d, sl, ho⟩ := key
  refine ⟨fun M h X p => ?_, fun M h X p => ?_, fun h tp dd its n sl' X e => ?_, fun X p q => exc_class hga hgh hcl hn htk hm hb X p q⟩
  · obtain ⟨o, e1, e2, _⟩ := p
    exact e2 ▸ (PySem.W.Looks.ld e1).andThen .now
  · intro A' Q' E' s' k q
    unfold isType loadHead
    exact wpAny_bind (wpAny_loadPart (k _ _ (X _ _ ho)) (wpAny_pure q))
  · refine Bool.eq_false_iff.mpr fun q => ?_
    have z : C = tp := Value.ref.inj (beq_iff_eq.mp q)
    subst z
    cases (X _ _ ho).symm.trans e
end L2
namespace L2
theorem bt_ValueError : PySem.bootBuiltins "ValueError" = some (.type "ValueError") := by decide +kernel
end L2
namespace L2
open PySem PySem.Spec PyProof.Rows Builtin Builtin.ObjectAttr
def vTail : List Value := [.type "ValueError", .type "Exception", .type "BaseException", .type "object"]
def onlyVal : List Value → Bool
  | .ref _ :: r => onlyVal r
  | l => l == vTail
def excOver (K : PySem.W.Frag) (C : Addr) : Bool := (PySem.W.clsIn K C).any fun cd => onlyVal cd.mro
theorem refuse_val (self : Value) : ∀ {l : List Value}, onlyVal l = true → refuseLoop self "__setattr__" l = pure ()
  | .ref c :: r, e => by rw [refuseLoop_ref]; exact refuse_val self (l := r) e
  | [], e => by simp [onlyVal, vTail] at e
  | .type n :: r, e => by
    have : (Value.type n :: r) = vTail := beq_iff_eq.mp e
    rw [this]; exact PySem.F.store_ValueError.passes self
  | .none :: r, e => by have : (Value.none :: r) = vTail := beq_iff_eq.mp e; cases this
  | .bool b :: r, e => by have : (Value.bool b :: r) = vTail := beq_iff_eq.mp e; cases this
  | .int i t :: r, e => by have : (Value.int i t :: r) = vTail := beq_iff_eq.mp e; cases this
  | .float x t :: r, e => by have : (Value.float x t :: r) = vTail := beq_iff_eq.mp e; cases this
  | .str x t :: r, e => by have : (Value.str x t :: r) = vTail := beq_iff_eq.mp e; cases this
  | .builtin b :: r, e => by have : (Value.builtin b :: r) = vTail := beq_iff_eq.mp e; cases this
theorem val_has : ∀ {l : List Value}, onlyVal l = true → l.contains (.type "object") = true ∧ l.isEmpty = false
  | .ref c :: r, e => ⟨by rw [List.contains_cons, (val_has (l := r) e).1, Bool.or_true], rfl⟩
  | [], e => by simp [onlyVal, vTail] at e
  | .type n :: r, e => by
    have : (Value.type n :: r) = vTail := beq_iff_eq.mp e
    rw [this]; exact ⟨by decide, rfl⟩
section
variable {prog : Program} {w : World} {A : Around} {E : Value → Shared → Prop} {s : Shared} {K : PySem.W.Frag} {e C : Addr} {name : Str} {v : Value}
theorem osaX {ox : Obj} {od : Option Obj} {tk : Tok} {R : Result → Shared → Prop} (X : K.In s.heap) (J : PySem.W.InstAt s.heap e ox C od) (ho : excOver K C = true) (ht : PySem.W.findIn K (.ref C) name = some none)
    (h : wpAny (model prog w) A.in1 (storeInOwnDict (.ref e) (.ref C) (.str name tk) name v false) (fun fin s' => match fin with | .done f => R (.ok f) s' | .again c' => c'.quiet = true ∧ codeAny (model prog w) A c' R s') (fun x s' => R (.error x) s') s) :
    codeAny (model prog w) A (.call (.builtin "object.__setattr__") ⟨[.ref e, .str name tk, v], []⟩) R s := by
  obtain ⟨cd, hc, hv⟩ := PySem.W.any_some ho
  obtain ⟨v1, v2⟩ := val_has hv
  have sub : PySem.W.Looks (model prog w) s.heap (isInstance (.ref e) (.type "object")) true := J.type.andThen (PySem.W.looks_mroIn X (by unfold PySem.W.mroIn; rw [hc, Option.bind_some, if_neg (by rw [v2]; decide), v1]))
  have F := PySem.F.store_object
  refine codeAny_call_builtin F.slot.plain F.entry (@PySem.W.check_slot (model prog w) _ _ s "object.__setattr__" "object" "__setattr__" (.ref e) [.str name tk, v] [] _ F.kind F.split sub (F.args _ _ _) ?_)
  rw [PySem.W.osa_eq, refuse_eq]
  refine wpAny_bind (wpAny_bind (J.type.here (wpAny_bind (((PySem.W.looks_clsIn X hc).andThen .now : PySem.W.Looks (model prog w) s.heap (mroOf (.ref C)) cd.mro).here ?_))))
  rw [refuse_val _ hv]
  refine wpAny_pure (wpAny_bind (J.type.here (wpAny_bind ((PySem.W.looks_findIn X ht).here (wpAny_bind (wpAny_pure ?_))))))
  exact h
theorem setX_new {oe : Obj} {vs : Array Value} {Q : Unit → Shared → Prop} (X : K.In s.heap) (ge : s.heap.get? e = some oe) (oc : oe.cls = .ref C) (dd : oe.data = .fields vs) (dn : oe.dict = none)
    (hs : PySem.W.findIn K (.ref C) "__setattr__" = some (some (.builtin "object.__setattr__"))) (ho : excOver K C = true) (ht : PySem.W.findIn K (.ref C) name = some none) (hh : PySem.W.hasDictIn K C = true)
    (h : ∀ h', (∀ b o, b ≠ e → s.heap.get? b = some o → h'.get? b = some o) → h'.get? e = some { oe with dict := some s.heap.objs.size } → h'.Ns1 s.heap.objs.size (fun y => if y = name then some v else none) → Q () { s with heap := h', toks := s.toks + 2 }) :
    wpAny (model prog w) A (setAttr (.ref e) name v) Q E s := by
  have J : PySem.W.InstAt s.heap e oe C none := ⟨ge, oc, by unfold PySem.W.notCls; rw [dd], by rw [dn]; trivial⟩
  refine PySem.W.set_plain X J hs (osaX (s := { s with toks := s.toks + 1 }) X J ho ht ?_)
  obtain ⟨cd, hc, hd'⟩ := PySem.W.any_some hh
  refine wpAny_bind (wpAny_pure (wpAny_bind (wpAny_bind (wpAny_loadPart ge ?_))))
  obtain ⟨c0, d0, dt, sl⟩ := oe
  dsimp only at oc dd dn
  subst oc dd dn
  have ne : e ≠ s.heap.objs.size := Nat.ne_of_lt (Heap.lt_size ge)
  have e1 := Heap.get?_push_of_some (h := s.heap) ({ cls := .type "dict", data := .dict #[] } : Obj) ge
  refine wpAny_bind (PySem.W.Looks.here (s := { s with toks := s.toks + 1 }) (PySem.W.looks_clsIn X hc) ?_)
  rw [hd']
  refine wpAny_bind (wpAny_alloc' (wpAny_bind (wpAny_update' e1 (wpAny_pure ?_))))
  have gd : ((s.heap.push { cls := .type "dict", data := .dict #[] }).update e fun o => { o with dict := some s.heap.objs.size }).get? s.heap.objs.size = some { cls := .type "dict", data := .dict #[] } := (Heap.get?_update_ne _ _ _ _ ne.symm).trans (Heap.get?_push_at rfl rfl)
  have nd : ((s.heap.push { cls := .type "dict", data := .dict #[] }).update e fun o => { o with dict := some s.heap.objs.size }).Ns s.heap.objs.size (fun _ => none) := ⟨_, #[], _, gd, rfl, (fun x hx => absurd hx (by simp)), fun _ => rfl⟩
  show wpAny _ _ (storeInDict s.heap.objs.size _ name v) _ _ _
  unfold storeInDict newKeyGuard
  refine wpAny_bind (wpAny_pure (wpAny_bind (wpAny_nsSet1 (Heap.Ns1.of_empty nd) fun h2 n2 s2 => ?_)))
  obtain ⟨oD, esD, epD, hoD, hdD, hcD⟩ := n2.count (Within.cons name v Within.nil)
  refine wpAny_bind (wpAny_lookBehind hoD (by rw [hdD]; exact pastItsLine_dict (Nat.le_trans hcD (by rw [List.length_cons, List.length_nil, sizeLine_eq]; omega))) ?_)
  refine wpAny_pure (h h2 (fun b o hb q => (s2.2 b (Nat.ne_of_lt (Heap.lt_size q))).trans ((Heap.get?_update_ne _ _ _ _ hb).trans (Heap.get?_push_of_some _ q))) ((s2.2 e ne).trans (Heap.get?_update_self _ e1 rfl)) ?_)
  exact n2
theorem setX_more {oe : Obj} {vs : Array Value} {dx : Addr} {mA : Str → Option Value} {ns : List Str} {Q : Unit → Shared → Prop} (X : K.In s.heap) (ge : s.heap.get? e = some oe) (oc : oe.cls = .ref C) (dd : oe.data = .fields vs) (dn : oe.dict = some dx) (nsx : s.heap.Ns1 dx mA) (hw : Within mA ns) (hsz : ns.length < 1000)
    (hs : PySem.W.findIn K (.ref C) "__setattr__" = some (some (.builtin "object.__setattr__"))) (ho : excOver K C = true) (ht : PySem.W.findIn K (.ref C) name = some none) (hh : PySem.W.hasDictIn K C = true)
    (h : ∀ h', Heap.SameBut dx s.heap h' → h'.Ns1 dx (fun y => if y = name then some v else mA y) → Q () { s with heap := h', toks := s.toks + 2 }) :
    wpAny (model prog w) A (setAttr (.ref e) name v) Q E s := by
  obtain ⟨od, _, _, hod, _⟩ := id nsx
  have J : PySem.W.InstAt s.heap e oe C (some od) := ⟨ge, oc, by unfold PySem.W.notCls; rw [dd], by rw [dn]; exact hod⟩
  refine PySem.W.set_plain X J hs (osaX (s := { s with toks := s.toks + 1 }) X J ho ht ?_)
  obtain ⟨cd, hc, hd'⟩ := PySem.W.any_some hh
  refine wpAny_bind (wpAny_pure (wpAny_bind (wpAny_bind (wpAny_loadPart ge ?_))))
  obtain ⟨c0, d0, dt, sl⟩ := oe
  dsimp only at oc dd dn
  subst oc dd dn
  refine wpAny_bind (PySem.W.Looks.here (s := { s with toks := s.toks + 1 }) (PySem.W.looks_clsIn X hc) ?_)
  rw [hd']
  refine wpAny_pure (a := some dx) ?_
  show wpAny _ _ (storeInDict dx _ name v) _ _ _
  unfold storeInDict newKeyGuard
  refine wpAny_bind (wpAny_pure (wpAny_bind (wpAny_nsSet1 (s := { s with toks := s.toks + 1 }) nsx fun h2 n2 s2 => ?_)))
  obtain ⟨oD, esD, epD, hoD, hdD, hcD⟩ := n2.count (Within.cons name v hw)
  refine wpAny_bind (wpAny_lookBehind hoD (by rw [hdD]; exact pastItsLine_dict (Nat.le_trans hcD (by rw [List.length_cons, sizeLine_eq]; omega))) ?_)
  exact wpAny_pure (h h2 s2 n2)
end
end L2
namespace L2
open PySem PySem.Spec PyProof.Rows
section
open PySem.W Builtin Builtin.ObjectAttr Builtin.Getset_descriptor
theorem getX {prog : Program} {w : World} {A : Around} {E : Value → Shared → Prop} {s : Shared} {K : Frag} {x C dx : Addr} {oe : Obj} {vs : Array Value} {mA : Str → Option Value} {name : Str} {v : Value} {expr : Bool} {Q : Value → Shared → Prop}
    (hga : findIn K (.ref C) "__getattribute__" = some (some (.builtin "BaseException.__getattribute__"))) (hgh : findIn K (.ref C) "__getattr__" = some none) (hh : hasDictIn K C = true) (ha : findIn K (.ref C) name = some none) (hb : mroIn K C (.type "BaseException") = some true)
    (X : K.In s.heap) (ge : s.heap.get? x = some oe) (oc : oe.cls = .ref C) (dd : oe.data = .fields vs) (dn : oe.dict = some dx) (nsx : s.heap.Ns1 dx mA) (hv : mA name = some v) (hv' : handedIn v = true) (h : Q v { s with toks := s.toks + 1 }) : wpAny (model prog w) A (getAttr (.ref x) name expr) Q E s := by
  obtain ⟨od, hod, hl⟩ := lookIn_ns nsx
  have J : InstAt s.heap x oe C (some od) := ⟨ge, oc, by unfold notCls; rw [dd], by rw [dn]; exact hod⟩
  obtain ⟨hp, g, d, t, os⟩ := s
  have L0 : Looks (model prog w) hp (typeOf (.ref x)) (.ref C) := J.type
  have L1 := looks_findIn (M := model prog w) X hga
  have L2 := looks_findIn (M := model prog w) X hgh
  have L6 : Looks (model prog w) hp (isInstance (.ref x) (.type "BaseException")) true := sub_of X ⟨oe, ge, oc, vs, dd⟩ hb
  have LF : Looks (model prog w) hp (find (.ref x) (.ref C) name) (.value v) := looks_find X J (findObj_own hh ha rfl (by rw [hl, hv]))
  have bnd := PySem.F.attr_ValueError.ga.bind (.ref x)
  have hne : (Value.builtin "BaseException.__getattribute__" == Value.builtin "object.__getattribute__") = false := by decide +kernel
  have hk : builtinKind "BaseException.__getattribute__" = some .slot := by decide +kernel
  have hsp : splitId "BaseException.__getattribute__" = some ("BaseException", "__getattribute__") := by decide +kernel
  unfold getAttr getAttrBy
  refine wpAny_bind (wpAny_mkText (wpAny_holding (wpAny_bind (L0.at (wpAny_bind (L1.at ?_))))))
  dsimp only
  rw [hne, Bool.and_false, if_neg Bool.false_ne_true]
  unfold getAttrByItsOwn hookBefore
  rw [if_pos (show onTheHeap (Value.ref C) = true from rfl)]
  refine wpAny_bind (L2.at (wpAny_bind (wpAny_attempt (wpAny_holding ?_))))
  unfold callGetattribute boundAndCalled
  rw [show (expr && onTheHeap (Value.builtin "BaseException.__getattribute__")) = false by cases expr <;> rfl, if_neg Bool.false_ne_true, bnd]
  refine wpAny_bind (wpAny_pure (wpAny_call (codeAny_call_builtin PySem.F.attr_ValueError.ga.plain PySem.F.entry_bexc_ga ?_)))
  have hargs := PySem.F.args_bexc_ga (.ref x) (.str name t)
  show wpAny _ _ (checkBuiltinCall _ ⟨[.ref x, .str name t], []⟩) _ _ _
  simp only [checkBuiltinCall, hk, hsp]
  refine wpAny_bind (L6.at ?_)
  repeat (first | lk | wp_step)
  show wpAny _ _ (handedOut v) _ _ _
  rw [handedOut_of hv']
  exact wpAny_pure h
end
end L2
namespace L2
open PySem PySem.Spec PyProof.Rows
def excI (K : PySem.W.Frag) (C : Addr) (bmB : List Value) (newId : String) : Bool := match K.lookup C with
  | some ⟨.type "type", _, .cls cd, sl⟩ => (match cd.mro, sl.toList with
    | .ref D :: bm, [_, _, _, _, some (.builtin n), _] => D == C && n == newId && !cd.hasDel && PySem.W.tailIn K bmB bm
    | _, _ => false)
  | _ => false
theorem excI_obj {K : PySem.W.Frag} {h : Heap} {C : Addr} {bmB : List Value} {newId : String} (X : K.In h) (q : excI K C bmB newId = true) : ∃ bm N' nm qn bs hdct sn sub ab col dd k0 k1 k2 k3 k5, h.get? C = some (excClassObj nm qn C N' bs bm hdct sn sub ab col dd k0 k1 k2 k3 k5 newId) ∧ OwnTail h bmB bm := by
  unfold excI at q
  split at q
  · rename_i dd cd sl ho
    split at q
    · rename_i D bm k0 k1 k2 k3 n k5 hm hs
      rw [Bool.and_eq_true, Bool.and_eq_true, Bool.and_eq_true, beq_iff_eq, beq_iff_eq, Bool.not_eq_true'] at q
      obtain ⟨⟨⟨e1, e2⟩, hdel⟩, ht⟩ := q
      subst e1 e2
      obtain ⟨nm, bs, mro, ns, qn, hd, sn, sub, ab, col, del⟩ := cd
      dsimp only at hm hdel
      subst hm hdel
      have es : sl = #[k0, k1, k2, k3, some (.builtin n), k5] := by
        cases sl with | mk l => simp only at hs; rw [hs]
      subst es
      exact ⟨bm, ns, nm, qn, bs, hd, sn, sub, ab, col, dd, k0, k1, k2, k3, k5, X _ _ ho, PySem.W.tail_of_in X ht⟩
    · cases q
  · cases q
section
variable {prog : Program} {w : World} {A : Around} {E : Value → Shared → Prop} {s : Shared} {K : PySem.W.Frag} {nm qn : Str} {C N' fI : Addr} {bs bm bmB bmN : List Value} {hdct : Bool} {sn : List Str} {sub : List Value} {ab : Bool} {col : Option Bool} {dd : Option Addr} {k0 k1 k2 k3 k5 : Option Value} {B Bn newId nid initId inN : String} {rest : List Value}
theorem typeCallX {Q : Fin → Shared → Prop} (Fn : ExcBaseFacts Bn newId inN bmN) (hBn : bmB.contains (.type Bn) = true) (FB : ExcBaseFacts B nid initId bmB) (T : OwnTail s.heap bmB bm) (hC : s.heap.get? C = some (excClassObj nm qn C N' bs bm hdct sn sub ab col dd k0 k1 k2 k3 k5 newId)) (X : K.In s.heap)
    (hi : PySem.W.findIn K (.ref C) "__init__" = some (some (.ref fI))) (hf : PySem.W.typeIn K (.ref fI) = some (.type "function")) (hz : rest.length ≤ sizeLine)
    (hq : ∀ h1 e, Heap.MadeExcOf s.heap h1 e (.ref C) rest → wpAny (model prog w) A (call (.ref fI) (.ref e :: rest)) (fun r s' => r = .none ∧ Q (.done (.ret (.ref e))) s') E { s with heap := h1 }) :
    wpAny (model prog w) A (Builtin.«type.__call__» ⟨.ref C :: rest, []⟩) Q E s := by
  obtain ⟨h, g, d, t, os⟩ := s
  repeat (first
    | with_reducible refine wpAny_madeBy_exc hC ?_
    | with_reducible refine wpAny_loadPart_at hC ?_
    | wp_step)
  refine codeAny_call_builtin_code (Code.quiet_builtin _ Fn.quiet) (wpAny_check_new_subU Fn hBn T hC (codeAny_exc_new_subU Fn hBn FB T hC ?_ hz))
  show wpAny _ _ _ _ _ _
  have kp : ∀ b o, h.get? b = some o → ((h.push { cls := .type "tuple", data := .seq rest.toArray }).push { cls := .ref C, data := .fields #[.ref h.objs.size, .none, .none, .none, .bool false, .none] }).get? b = some o := fun b o q => Heap.get?_push_of_some _ (Heap.get?_push_of_some _ q)
  have C1 := kp _ _ hC
  have X1 := X.keeps kp
  have ge : ((h.push { cls := .type "tuple", data := .seq rest.toArray }).push { cls := .ref C, data := .fields #[.ref h.objs.size, .none, .none, .none, .bool false, .none] }).get? (h.objs.size + 1) = some { cls := .ref C, data := .fields #[.ref h.objs.size, .none, .none, .none, .bool false, .none] } := by heap_get
  have cc : (Value.ref C :: bm).contains (.ref C) = true := by simp
  unfold isInstance
  repeat (first
    | (with_reducible refine wpAny_isSubtype_exc C1 ?_; rw [cc])
    | with_reducible refine wpAny_loadPart_at ge ?_
    | wp_step)
  refine PySem.W.Looks.here (s := ⟨_, g, d, t, os⟩) (PySem.W.looks_findIn X1 hi) (wpAny_holding (wpAny_bind (PySem.W.Looks.here (s := ⟨_, g, d, t, os⟩) (PySem.W.bind_fn X1 _ hf) (wpAny_bind ?_))))
  refine wpAny_mono (hq _ (h.objs.size + 1) ⟨kp, Heap.get?_none_of_le (Nat.le_succ _), h.objs.size, ge, Heap.get?_none_of_le (Nat.le_refl _), Heap.get?_push_of_some _ (Heap.get?_push_at rfl rfl)⟩) (fun r s' hr => ?_) fun _ _ x => x
  obtain ⟨rfl, hQ⟩ := hr
  wp_walk
  exact hQ
theorem callX {Q : Value → Shared → Prop} (Fn : ExcBaseFacts Bn newId inN bmN) (hBn : bmB.contains (.type Bn) = true) (FB : ExcBaseFacts B nid initId bmB) (T : OwnTail s.heap bmB bm) (hC : s.heap.get? C = some (excClassObj nm qn C N' bs bm hdct sn sub ab col dd k0 k1 k2 k3 k5 newId)) (X : K.In s.heap)
    (hi : PySem.W.findIn K (.ref C) "__init__" = some (some (.ref fI))) (hf : PySem.W.typeIn K (.ref fI) = some (.type "function")) (hz : rest.length ≤ sizeLine)
    (hq : ∀ h1 e, Heap.MadeExcOf s.heap h1 e (.ref C) rest → wpAny (model prog w) (A.under (.builtin "type.__call__" ⟨.ref C :: rest, []⟩)) (call (.ref fI) (.ref e :: rest)) (fun r s' => r = .none ∧ Q (.ref e) s') E { s with heap := h1 }) :
    wpAny (model prog w) A (call (.ref C) rest) Q E s := by
  obtain ⟨h, g, d, t, os⟩ := s
  have f1 := tc_lookup
  have f2 := tc_bind (.ref C)
  have tT : (⟨h, g, d, t, os⟩ : Shared).TypeIs (.ref C) "type" := ⟨_, hC, rfl⟩
  refine wpAny_call (codeAny_of_tree (show wpAny _ _ (callAny (.ref C) _) _ _ _ from ?_))
  repeat (any_goals (first | with_reducible refine wpAny_loadPart_at hC ?_ | assumption | wp_step))
  refine ⟨rfl, codeAny_call_builtin_at (Code.quiet_builtin _ (by decide +kernel)) entry_typeCall (wpAny_check_type_call_sub hC (typeCallX (s := ⟨h, g, d, t, os⟩) Fn hBn FB T hC X hi hf hz fun h1 e hm => ?_))⟩
  exact hq h1 e hm
end
end L2
namespace L2
open PySem PySem.Spec PyProof.Rows
def excF (e : Addr) (c : Value) (od : Option Addr) (vs : Array Value) : HO := .ext fun h => ∃ o, h.get? e = some o ∧ o.cls = c ∧ o.dict = od ∧ o.data = .fields vs
def dctX (dx : Addr) (fs : List (Str × V)) : HO := .ext fun h => ∃ mA, h.Ns1 dx mA ∧ (∀ g, RelO (fs.lookup g) (mA g)) ∧ Within mA (fs.map (·.1))
structure XCl (K : PySem.W.Frag) (C : Addr) (f : Str) : Prop where
  sa : PySem.W.findIn K (.ref C) "__setattr__" = some (some (.builtin "object.__setattr__"))
  ov : excOver K C = true
  no : PySem.W.findIn K (.ref C) f = some none
  hd : PySem.W.hasDictIn K C = true
def sFldX (K : PySem.W.Frag) (ta tv : TE) (f : Str) : TS := fun D σ H => tv σ H fun v H1 => ta σ H1 fun x H2 => ∃ e C vs, x = .ref e ∧ XCl K C f ∧
  ((H2 e = some (excF e (.ref C) none vs) ∧ ∀ dx, H2 dx = none → dx ≠ e → D.nx σ (upd (upd H2 e (excF e (.ref C) (some dx) vs)) dx (dctX dx [(f, v)]))) ∨
   ∃ dx fs, H2 e = some (excF e (.ref C) (some dx) vs) ∧ H2 dx = some (dctX dx fs) ∧ fs.length < 900 ∧ D.nx σ (upd H2 dx (dctX dx ((f, v) :: fs))))
theorem look_cons {f g : Str} {y : V} {fs : List (Str × V)} : ((f, y) :: fs).lookup g = if g = f then some y else fs.lookup g := by
  rw [List.lookup_cons]
  by_cases q : g = f
  · subst q; simp
  · rw [if_neg q, show (g == f) = false by simpa using q]
section
variable {X : Cx} {o value : Expr} {f : Str} {ta tv : TE} {pos pos' : Pos}
theorem excF_ok {P : Program} {w : World} {H : Hp} {h : Heap} {e : Addr} {c : Value} {od : Option Addr} {vs : Array Value} {ob : Obj} (ge : h.get? e = some ob) (oc : ob.cls = c) (dn : ob.dict = od) (dd : ob.data = .fields vs) : ObjOk P w H h e (excF e c od vs) :=
  ⟨⟨ob, ge, oc, dn, dd⟩, ⟨ob, ge⟩, fun _ _ ⟨q, e1, r⟩ kp => ⟨q, kp q e1, r⟩⟩
theorem dctX_ok {P : Program} {w : World} {H : Hp} {h : Heap} {dx : Addr} {fs : List (Str × V)} {mA : Str → Option Value} (n : h.Ns1 dx mA) (r : ∀ g, RelO (fs.lookup g) (mA g)) (wi : Within mA (fs.map (·.1))) : ObjOk P w H h dx (dctX dx fs) :=
  ⟨⟨mA, n, r, wi⟩, let ⟨od, _, _, e1, _⟩ := n; ⟨od, e1⟩, fun _ _ ⟨m, ⟨od, es, ep, e1, c⟩, q⟩ kp => ⟨m, ⟨od, es, ep, kp od e1, c⟩, q⟩⟩
theorem ps_fldX (ha : PE X o ta) (hv : PE X value tv) (hs : swapsWith value (some (.Attribute o f pos')) pos.line X.env = pure false) : PS X (.Assign [.Attribute o f pos'] value pos) (sFldX X.K ta tv f) := by
  intro pins s σ H D I h
  refine plainObj_wpAny_Assign_Attribute (thn (hv pins s σ H _ I h) fun u s1 ⟨y, H1, I1, ry, q⟩ => thn (ha pins s1 σ H1 _ I1 q) fun ov s2 ⟨x, H2, I2, rx, e, C, vs, ex, xc, alt⟩ => ?_) hs
  subst ex
  obtain rfl : ov = Value.ref e := rx
  rcases alt with ⟨he, k⟩ | ⟨dx, fs, he, hdx, fl, k⟩
  · obtain ⟨ob, ge, oc, dn, dd⟩ := (I2.hok e _ he).1
    have fr : H2 s2.heap.objs.size = none := I2.hok.fresh (Nat.le_refl _)
    have ne : s2.heap.objs.size ≠ e := Nat.ne_of_gt (Heap.lt_size ge)
    refine setX_new I2.kIn ge oc dd dn xc.sa xc.ov xc.no xc.hd fun h' kb ge' n' => ⟨σ, _, ?_, k _ fr ne⟩
    have J := I2.write (x := e) (e := e) (o := excF e (.ref C) (some s2.heap.objs.size) vs) (h' := h') (t' := s2.toks + 2) (by rw [he]; trivial) (.inl rfl) (fun b q hb z => kb b q hb z) ⟨_, ge'⟩ (excF_ok ge' oc rfl dd)
    refine J.adoptE (by rw [upd_ne ne]; exact fr) ?_ (Nat.ne_of_gt I2.lt) (fun x c hc z => ?_) (fun p hp z => ?_) (dctX_ok n' (fun g => ?_) ?_)
    · cases q0 : X.s₀.heap.get? s2.heap.objs.size with
      | none => rfl
      | some oo => exact absurd (Heap.lt_size q0) (Nat.not_lt.mpr I2.sz)
    · obtain ⟨_, oc', e2, _⟩ := I2.cell x c hc
      exact absurd (Heap.lt_size e2) (by rw [z]; exact Nat.lt_irrefl _)
    · have e1 := (I2.pin p hp).1
      exact absurd (Heap.lt_size e1) (by rw [z]; exact Nat.lt_irrefl _)
    · rw [look_cons]
      by_cases q : g = f
      · rw [if_pos q, if_pos q]; exact ry
      · rw [if_neg q, if_neg q]; trivial
    · intro g hg
      by_cases q : g = f
      · rw [q]; exact List.mem_cons_self
      · exact absurd (if_neg q) hg
  · obtain ⟨ob, ge, oc, dn, dd⟩ := (I2.hok e _ he).1
    obtain ⟨mA, n, r, wi⟩ := (I2.hok dx _ hdx).1
    refine setX_more I2.kIn ge oc dd dn n wi (by rw [List.length_map]; omega) xc.sa xc.ov xc.no xc.hd fun h' sb n' => ⟨σ, _, ?_, k⟩
    refine I2.write (x := dx) (e := dx) (h' := h') (t' := s2.toks + 2) (by rw [hdx]; trivial) (.inl rfl) (fun b q hb z => (sb.2 b hb).trans z) (let ⟨od, _, _, e1, _⟩ := n'; ⟨od, e1⟩) (dctX_ok n' (fun g => ?_) ?_)
    · rw [look_cons]
      by_cases q : g = f
      · rw [if_pos q, if_pos q]; exact ry
      · rw [if_neg q, if_neg q]; exact r g
    · intro g hg
      by_cases q : g = f
      · rw [q]; exact List.mem_cons_self
      · exact List.mem_cons_of_mem _ (wi g fun z => hg (by show (if g = f then some u else mA g) = none; rw [if_neg q]; exact z))
end
end L2
namespace L2
open PySem PySem.Spec PyProof.Rows
structure XCg (K : PySem.W.Frag) (C : Addr) (f : Str) : Prop where
  ga : PySem.W.findIn K (.ref C) "__getattribute__" = some (some (.builtin "BaseException.__getattribute__"))
  gh : PySem.W.findIn K (.ref C) "__getattr__" = some none
  hd : PySem.W.hasDictIn K C = true
  no : PySem.W.findIn K (.ref C) f = some none
  mr : PySem.W.mroIn K C (.type "BaseException") = some true
def ExcW (H : Hp) (e C dx : Addr) : Prop := (∃ vs, H e = some (excF e (.ref C) (some dx) vs)) ∨ H e = some (excD e (.ref C) (some dx))
def tFldX (K : PySem.W.Frag) (ta : TE) (f : Str) : TE := fun σ H Q => ta σ H fun x H1 => ∃ e C dx fs v, x = .ref e ∧ XCg K C f ∧ ExcW H1 e C dx ∧ H1 dx = some (dctX dx fs) ∧ fs.lookup f = some v ∧ Q v H1
section
variable {X : Cx} {e : Expr} {f : Str} {ta : TE} {pos : Pos}
theorem pe_fldX (he : PE X e ta) (hb : attributeBase e f X.env (eval e X.env) = eval e X.env) : PE X (.Attribute e f pos) (tFldX X.K ta f) := by
  intro pins s σ H Q I h
  refine attr_of hb (thn (he pins s σ H _ I h) fun u s1 ⟨x, H1, I1, rx, a, C, dx, fs, v, ex, xc, ew, hdx, l, q⟩ => ?_)
  subst ex
  obtain rfl : u = Value.ref a := rx
  obtain ⟨ob, vs, ge, oc, dn, dd⟩ : ∃ ob vs, s1.heap.get? a = some ob ∧ ob.cls = .ref C ∧ ob.dict = some dx ∧ ob.data = .fields vs := by
    rcases ew with ⟨vs, ew⟩ | ew
    · obtain ⟨ob, z⟩ := (I1.hok a _ ew).1
      exact ⟨ob, vs, z⟩
    · obtain ⟨ob, z1, z2, z3, vs, z4⟩ := (I1.hok a _ ew).1
      exact ⟨ob, vs, z1, z2, z3, z4⟩
  obtain ⟨mA, n, r, _⟩ := (I1.hok dx _ hdx).1
  obtain ⟨w', hw, rw'⟩ := RelO.some_of (v := v) (o := mA f) (by rw [← l]; exact r f)
  exact getX xc.ga xc.gh xc.hd xc.no xc.mr I1.kIn ge oc dd dn n hw (handed_of rw') ⟨v, H1, I1.tok _, rw', q⟩
end
end L2
namespace L2
open PySem PySem.Spec PyProof.Rows
structure MkE (K : PySem.W.Frag) (C f : Addr) : Prop where
  ex : excI K C vTail "ValueError.__new__" = true
  init : PySem.W.findIn K (.ref C) "__init__" = some (some (.ref f))
  fn : PySem.W.typeIn K (.ref f) = some (.type "function")
  kp : PySem.W.keepIn K (.ref C) = true
section
variable {X : Cx} {k : Nat} {f C : Addr} {fd : FuncData} {ps : List Str} {sp : Sp} {pins : List (Addr × Obj)} {σ : St} {H : Hp} {s : Shared} {us : List Value} {vs : List V}
theorem Inv.madeE {h1 : Heap} {e : Addr} {ws : Array Value} (I : Inv X pins σ H s) (hex : X.ex = []) (hm : Heap.MadeExcOf s.heap h1 e (.ref C) us) : ∃ ws a0, H e = none ∧ ws[0]? = some a0 ∧ ws[1]? = some .none ∧ Inv X pins σ (upd H e (excF e (.ref C) none ws)) { s with heap := h1 } := by
  obtain ⟨t, ge, _, _⟩ := hm.there
  have J : Inv X pins σ H { s with heap := h1 } := I.kept (t' := s.toks) hm.keeps
  have fr : H e = none := by
    cases q : H e with
    | none => rfl
    | some o =>
      obtain ⟨ob, e1⟩ := (I.hok e o q).got
      rw [hm.new] at e1; cases e1
  refine ⟨_, _, fr, rfl, rfl, J.adoptE fr (I.newer hex hm.new) (fun z => ?_) (fun x c hc z => ?_) (fun p hp z => ?_) (excF_ok ge rfl rfl rfl)⟩
  · obtain ⟨_, ⟨oL, _, _, e1, _⟩, _⟩ := I.loc
    rw [← z, hm.new] at e1; cases e1
  · obtain ⟨_, oc, e2, _⟩ := I.cell x c hc
    rw [z, hm.new] at e2; cases e2
  · have e1 := (I.pin p hp).1
    rw [z, hm.new] at e1; cases e1
theorem run_makeE {Q : VK} {R : Addr → Array Value → VK} (M : MkE X.K C f) (F : FnOk X.prog X.w X.K X.mg X.base CX0 k f fd ps sp) (hr : Room (k + 1) X.A) (hb : Binds X.K fd ps []) (hex : X.ex = []) (I : Inv X pins σ H s) (r : Vals vs us) (hz : vs.length ≤ sizeLine)
    (h : ∀ e ws a0, H e = none → ws[0]? = some a0 → ws[1]? = some .none → sp (.ref e :: vs) (upd H e (excF e (.ref C) none ws)) (R e ws) E0)
    (hk : ∀ e ws a0 v H2, X.s₀.heap.get? e = none → ws[0]? = some a0 → ws[1]? = some .none → R e ws v H2 → v = .non ∧ Q (.ref e) H2) : wpAny (model X.prog X.w) X.A (call (.ref C) us) (EP X pins σ Q) X.xe s := by
  obtain ⟨bm, N', nm, qn, bs, hdct, sn, sub, ab, col, dd, k0, k1, k2, k3, k5, hC, T⟩ := excI_obj I.kIn M.ex
  refine callX (K := X.K) PySem.F.excBase_ValueError (by decide +kernel) PySem.F.excBase_ValueError T hC I.kIn M.init M.fn (by rw [← r.length]; exact hz) fun h1 e hm => ?_
  obtain ⟨ws, a0, fr, w0, w1, J⟩ := I.madeE (ws := #[]) hex hm
  have hq := h e ws a0 fr w0 w1
  have r2 : Vals (V.ref e :: vs) (Value.ref e :: us) := .cons rfl r
  have hl : (Value.ref e :: us ++ []).length = ps.length := by
    have z := r2.length
    rw [F.len _ _ _ _ hq] at z
    rw [List.append_nil]
    exact z.symm
  have bt := hb _ (Value.ref e :: us) J.kIn hl
  rw [List.append_nil] at bt
  refine wpAny_call (codeAny_mono (F.run _ X.stack _ _ ⟨Value.ref e :: us, []⟩ (Value.ref e :: us) _ _ E0 (hr.make C us []) (J.env0.make C us []) bt r2 hq) fun res s' hq' => ?_)
  cases res with
  | error x => exact pass0 pins σ _ _ x s' J hq'
  | ok fl =>
    cases fl with
    | ret u =>
      obtain ⟨v, H', I3, rv, q2⟩ := J.after hq'
      obtain ⟨ev, q3⟩ := hk e ws a0 v H' (I.newer hex hm.new) w0 w1 q2
      subst ev
      exact ⟨rv, ⟨V.ref e, H', I3, rfl, q3⟩⟩
    | next => exact False.elim hq'
    | brk => exact False.elim hq'
    | cont => exact False.elim hq'
end
end L2
namespace L2
open PySem PySem.Spec PyProof.Rows
section
variable {M : Model} {A : Around} {E : Value → Shared → Prop} {s : Shared} {env : Env} {nm qn : Str} {C N' : Addr} {bs bm : List Value} {hdct : Bool} {sn : List Str} {sub : List Value} {ab : Bool} {col : Option Bool} {dd : Option Addr} {k0 k1 k2 k3 k5 : Option Value} {newId : String}
theorem raiseE_stmt {x : Sem Value} {Q : Flow → Shared → Prop} (hB : bm.contains (.type "BaseException") = true) (hh : A.handled = none)
    (h : wpAny M A x (fun v s1 => ∃ e oe vs, v = .ref e ∧ s1.heap.get? C = some (excClassObj nm qn C N' bs bm hdct sn sub ab col dd k0 k1 k2 k3 k5 newId) ∧ s1.heap.get? e = some oe ∧ oe.cls = .ref C ∧ oe.data = .fields vs ∧ vs[1]? = some .none ∧ E (.ref e) s1) E s) : wpAny M A (raiseStmt env (some x) none) Q E s := by
  have cB : (Value.ref C :: bm).contains (.type "BaseException") = true := by rw [List.contains_cons, hB, Bool.or_true]
  unfold raiseStmt
  refine wpAny_bind (wpAny_mono h (fun v s1 q => ?_) fun _ _ x => x)
  obtain ⟨e, ⟨c0, d0, dt, sl⟩, vs, rfl, hC, ge, oc, od, v1, hE⟩ := q
  dsimp only at oc od
  subst oc od
  obtain ⟨hp, g, d, tk, os⟩ := s1
  repeat (first
    | with_reducible refine wpAny_loadPart_at ge ?_
    | (with_reducible refine wpAny_isSubtype_exc hC ?_; rw [cB])
    | with_reducible refine wpAny_loadPart_at hC ?_
    | wp_step)
  rw [v1]
  refine wpAny_pure ?_
  rw [if_neg (by decide)]
  exact wpAny_pure (wpAny_raiseNew_none hh hE)
end
end L2
namespace L2
open PySem PySem.Spec PyProof.Rows
def delH (H : Hp) (e : Addr) : Hp := fun b => if b = e then none else H b
theorem delH_same {H : Hp} {e : Addr} : delH H e e = none := if_pos rfl
theorem delH_ne {H : Hp} {e b : Addr} (h : b ≠ e) : delH H e b = H b := if_neg h
theorem delH_none {H : Hp} {e b : Addr} (h : H b = none) : delH H e b = none := by
  by_cases q : b = e
  · rw [q]; exact delH_same
  · rw [delH_ne q]; exact h
def tRaiseE (E : XK) (C : Addr) (sp : Sp) (t : TA) : TS := fun _ σ H => t σ H fun vs H1 => vs.length ≤ sizeLine ∧ ∀ e ws a0, H1 e = none → ws[0]? = some a0 → ws[1]? = some .none → sp (.ref e :: vs) (upd H1 e (excF e (.ref C) none ws)) (fun v H2 => v = .non ∧ ∃ od, H2 e = some (excF e (.ref C) od ws) ∧ E (.ref C) od (delH H2 e)) E0
theorem Inv.drop {X : Cx} {pins : List (Addr × Obj)} {σ : St} {H : Hp} {s : Shared} {e : Addr} {φ : Heap → Prop} (I : Inv X pins σ H s) (hs : X.s₀.heap.get? e = none) (he : H e = some (.ext φ)) : Inv X pins σ (delH H e) s := by
  have old : ∀ b u, H b = some u → (∀ ψ, u ≠ .ext ψ) → delH H e b = some u := fun b u q n => by
    rw [delH_ne fun z => ?_]
    · exact q
    · rw [z, he] at q
      exact n φ (Option.some.inj q).symm
  refine ⟨I.ok, I.os, I.bare, ⟨I.base.keep, I.base.slot, fun b ob e1 n hx => delH_none (I.base.free b ob e1 n hx), I.base.there, fun b xs e1 => old _ _ (I.base.tups b xs e1) (fun _ z => nomatch z), fun b ob xs e1 => old _ _ (I.base.frzs b ob xs e1) (fun _ z => nomatch z), fun b ps e1 => ?_⟩, I.loc, I.cell, delH_none I.free, fun x c e1 => delH_none (I.freeC x c e1), fun p h => ?_, fun b ob e1 => ?_, I.len⟩
  · obtain ⟨more, q⟩ := I.base.tbls b ps e1
    exact ⟨more, old _ _ q (fun _ z => nomatch z)⟩
  · obtain ⟨a1, a2, a3⟩ := I.pin p h
    exact ⟨a1, delH_none a2, a3⟩
  · have nb : b ≠ e := fun z => by rw [z, delH_same] at e1; cases e1
    rw [delH_ne nb] at e1
    exact (I.hok b ob e1).stay (fun c v _ q => q) (fun c q => old _ _ q (fun _ z => nomatch z)) fun c xs q => old _ _ q (fun _ z => nomatch z)
section
variable {P : Program} {w : World} {K : PySem.W.Frag} {mg : Str → Option Value} {base : Heap} {N ps : List Str} {qual : Str} {scope : Scope} {f : Addr} {cd : Value} {A : Around} {outer : List Env} {s : Shared} {H : Hp} {E : XK}
theorem ps_raiseE {x : Str} {C fI : Addr} {fdI : FuncData} {psI : List Str} {sp : Sp} {k : Nat} {np cpos pos : Pos} {e₀ : Expr} {rest : List Expr} {ta : TA}
    (M : MkE K C fI) (F : FnOk P w K mg base CX0 k fI fdI psI sp) (hr : Room (k + 1) (cxOf (CXF P w) P w K mg base N qual scope f cd A outer s H E).A)
    (hg : Gl (cxOf (CXF P w) P w K mg base N qual scope f cd A outer s H E) x) (hm : mg x = some (.ref C)) (hb : Binds K fdI psI [])
    (ha : PA (cxOf (CXF P w) P w K mg base N qual scope f cd A outer s H E) (e₀ :: rest) ta)
    (he : starEach (e₀ :: rest) (cxOf (CXF P w) P w K mg base N qual scope f cd A outer s H E).env = (false, eval e₀ (cxOf (CXF P w) P w K mg base N qual scope f cd A outer s H E).env) :: starEach rest (cxOf (CXF P w) P w K mg base N qual scope f cd A outer s H E).env := by rfl)
    (hpl : (backTo cpos (starEach rest (cxOf (CXF P w) P w K mg base N qual scope f cd A outer s H E).env)).any (·.1) = false := by rfl) (hdb : (x == ("__debug__" : Str)) = false := by decide) :
    PS (cxOf (CXF P w) P w K mg base N qual scope f cd A outer s H E) (.Raise (some (.Call (.Name x np) (e₀ :: rest) [] cpos)) none pos) (tRaiseE E C sp ta) := by
  intro pins s1 σ H1 D I h
  obtain ⟨bm, N', nm, qn, bs, hdct, sn, sub, ab, col, dd, k0, k1, k2, k3, k5, hC, T⟩ := excI_obj (h := base) I.mod.kin M.ex
  rw [arm_exec_Raise]
  refine wpAny_bind (wpAny_standAt (raiseE_stmt (C := C) (nm := nm) (qn := qn) (N' := N') (bs := bs) (bm := bm) (hdct := hdct) (sn := sn) (sub := sub) (ab := ab) (col := col) (dd := dd) (k0 := k0) (k1 := k1) (k2 := k2) (k3 := k3) (k5 := k5) (newId := "ValueError.__new__") (T.hasType PySem.F.excBase_ValueError.hasBase) (I.ok.hd rfl) (wpAny_bind (wpAny_mono (Q := EP (cxOf (CXF P w) P w K mg base N qual scope f cd A outer s H E) pins σ (fun v H2 => ∃ e od ws a0, v = .ref e ∧ s.heap.get? e = none ∧ ws[0]? = some a0 ∧ ws[1]? = some Value.none ∧ H2 e = some (excF e (.ref C) od ws) ∧ E (.ref C) od (delH H2 e))) ?_ (fun v s3 h3 => wpAny_bind (wpAny_standAt (wpAny_pure ?_))) fun _ _ z => z))))
  · refine wpAny_Call_Name_kw (ld_glob I hg hm ?_ hdb)
    refine PySem.W.callWith_K (h₀ := base) I.ok.mod.kin M.kp (thn (ha cpos pins s1 σ H1 _ I h) fun us s2 ⟨vs, H2, I2, r, hz, q⟩ => ⟨I2.kIn, run_makeE M F hr hb rfl I2 r hz q fun e ws a0 v H3 nw w0 w1 z => ?_⟩) he hpl
    obtain ⟨ev, od, hE, q⟩ := z
    exact ⟨ev, e, od, ws, a0, rfl, nw, w0, w1, hE, q⟩
  · obtain ⟨v', H2, I2, rv, e, od, ws, a0, ev, nw, w0, w1, hE, q⟩ := h3
    subst ev
    obtain rfl : v = Value.ref e := rv
    obtain ⟨oe, ge, oc, od', dd'⟩ := (I2.hok e _ hE).1
    subst od'
    refine ⟨e, oe, ws, rfl, I2.bk _ _ hC, ge, oc, dd', w1, ?_⟩
    exact wpAny_mono (Fly.first (E := fun e' s2 => CXF P w outer H s E e' s2) (M := model P w) (I2.drop nw hE) rfl rfl rfl ge oc dd' w1 w0 delH_same nw) (fun _ s4 ⟨B, F⟩ => ⟨e, _, _, delH H2 e, B, rfl, F, q⟩) fun _ _ z => z
end
end L2
namespace L2
open PySem PySem.Spec PyProof.Rows
end L2
namespace L2
open PySem PySem.Spec PyProof.Rows
structure ExK (K : PySem.W.Frag) (R : Str) (fs : List Str) : Prop where
  put : ∀ f, f ∈ fs → XCl K (gadr K R) f
  get : ∀ f, f ∈ fs → XCg K (gadr K R) f
theorem ExK.of {K : PySem.W.Frag} {R : Str} {C : Addr} {fs : List Str} (e : gadr K R = C) (sa : PySem.W.findIn K (.ref C) "__setattr__" = some (some (.builtin "object.__setattr__"))) (ov : excOver K C = true) (hd : PySem.W.hasDictIn K C = true)
    (ga : PySem.W.findIn K (.ref C) "__getattribute__" = some (some (.builtin "BaseException.__getattribute__"))) (gh : PySem.W.findIn K (.ref C) "__getattr__" = some none) (mr : PySem.W.mroIn K C (.type "BaseException") = some true) (no : ∀ f, f ∈ fs → PySem.W.findIn K (.ref C) f = some none) : ExK K R fs := by
  subst e
  exact ⟨fun f hf => ⟨sa, ov, no f hf, hd⟩, fun f hf => ⟨ga, gh, hd, no f hf, mr⟩⟩
section
variable {K : PySem.W.Frag} {C P : Addr} {dX dP : Option Addr} {cdX cdP : ClassData} {slX slP : Array (Option Value)} {rX : List Value} {j0 j1 j2 j3 j5 : Option Value}
theorem excOver_of (e1 : K.lookup C = some ⟨.type "type", dX, .cls cdX, slX⟩) (e8 : onlyVal cdX.mro = true) : excOver K C = true := by
  unfold excOver PySem.W.clsIn
  rw [e1]
  exact e8
theorem excI_of (e1 : K.lookup C = some ⟨.type "type", dX, .cls cdX, slX⟩) (e2 : cdX.mro = .ref C :: .ref P :: rX) (e3 : slX.toList = [j0, j1, j2, j3, some (.builtin "ValueError.__new__"), j5]) (e4 : cdX.hasDel = false) (e5 : K.lookup P = some ⟨.type "type", dP, .cls cdP, slP⟩) (e6 : cdP.mro = .ref P :: rX)
    (e7 : PySem.W.excIn K P vTail "ValueError.__new__" = true) : excI K C vTail "ValueError.__new__" = true := by
  have key : PySem.W.tailIn K vTail rX = true ∧ PySem.W.nsOkIn K cdP.ns = true ∧ (PySem.W.nsIn K cdP.ns "__init__" == some none) = true := by
    unfold PySem.W.excIn at e7
    split at e7
    · rename_i dd cd sl ho
      rw [e5] at ho
      cases ho
      split at e7
      · rename_i D bm _ _ _ _ n _ hm hs
        rw [e6] at hm
        cases hm
        simp only [Bool.and_eq_true] at e7
        obtain ⟨⟨⟨_, z1⟩, z2⟩, z3⟩ := e7
        exact ⟨z1, z2, z3⟩
      · cases e7
    · cases e7
  have ht : PySem.W.tailIn K vTail (.ref P :: rX) = true := by
    unfold PySem.W.tailIn
    dsimp only
    rw [e5]
    dsimp only
    rw [key.1, key.2.1, key.2.2]
    simp
  unfold excI
  split
  · rename_i dd cd sl ho
    rw [e1] at ho
    cases ho
    rw [e2, e3]
    dsimp only
    rw [ht, e4]
    simp
  · rename_i hno
    exact (hno _ _ _ e1).elim
end
end L2
namespace L2
open PySem PySem.Spec PyProof.Rows
def REq (K : PySem.W.Frag) (H : Hp) (D : V → V → Bool → Prop) (x y : V) (b : Bool) : Prop := ∃ a c xs ys, x = .ref a ∧ y = .ref c ∧
  ((SqL K H a xs ∧ SqL K H c ys ∧ ((xs.length ≠ ys.length ∧ b = false) ∨ (xs.length = ys.length ∧ ∃ e : Nat → Bool, (∀ (j : Nat) x' y', xs[j]? = some x' → ys[j]? = some y' → D x' y' (e j)) ∧ b = (List.range xs.length).all e))) ∨
   (SqT K H a xs ∧ SqT K H c ys ∧ ∃ e : Nat → Bool, (∀ (j : Nat) x' y', xs[j]? = some x' → ys[j]? = some y' → D x' y' (e j)) ∧ b = ((List.range (min xs.length ys.length)).all e && xs.length == ys.length)))
def DEq (K : PySem.W.Frag) (H : Hp) : Nat → V → V → Bool → Prop
  | 0, x, y, b => (x = y ∧ (∃ a, x = .ref a) ∧ b = true) ∨ ∃ i j, x = .int i ∧ y = .int j ∧ b = (i == j)
  | n + 1, x, y, b => ((x = y ∧ (∃ a, x = .ref a) ∧ b = true) ∨ ∃ i j, x = .int i ∧ y = .int j ∧ b = (i == j)) ∨ (x ≠ y ∧ REq K H (DEq K H n) x y b)
def rEqD (K : PySem.W.Frag) (n : Nat) : R2 := fun x y H Q => ∃ b, REq K H (DEq K H n) x y b ∧ Q (.bl b) H
theorem Vals.ix {xs : List V} {us : List Value} (r : Vals xs us) {j : Nat} (h : j < us.toArray.size) : ∃ x, xs[j]? = some x ∧ RelV x us.toArray[j] := by
  have hl := r.length
  have h1 : j < us.length := by simpa using h
  have h2 : j < xs.length := by omega
  obtain ⟨u, e, q⟩ := r.get (i := j) (x := xs[j]) (List.getElem?_eq_getElem h2)
  refine ⟨xs[j], List.getElem?_eq_getElem h2, ?_⟩
  have e2 : us.toArray[j] = u := by
    obtain ⟨_, z⟩ := List.getElem?_eq_some_iff.mp e
    simpa using z
  rw [e2]; exact q
section
variable {X : Cx} {pins : List (Addr × Obj)} {σ : St} {H : Hp} {s : Shared}
theorem rc_of {A : Around} {D : V → V → Bool → Prop} (I : Inv X pins σ H s) (hu : A.units < cLine) (hD : ∀ x y u v b, RelV x u → RelV y v → D x y b → SeqAt.EqAt A.in1 s u v b) {x y : V} {u v : Value} {b : Bool} (rx : RelV x u) (ry : RelV y v) (h : REq X.K H D x y b) : SeqAt.RcAt A s u v b := by
  obtain ⟨a, c, xs, ys, rfl, rfl, h⟩ := h
  cases rx
  cases ry
  rcases h with ⟨ha, hc, h⟩ | ⟨ha, hc, e, he, rfl⟩
  · obtain ⟨i1, r1, p1, _⟩ := I.list ha
    obtain ⟨i2, r2, p2, _⟩ := I.list hc
    have l1 := r1.length
    have l2 := r2.length
    rcases h with ⟨hn, rfl⟩ | ⟨hl, e, he, rfl⟩
    · exact SeqAt.RcAt.lists_lengths p1.isList p2.isList (by rw [List.size_toArray, List.size_toArray]; simp; omega) hu
    · have q := SeqAt.RcAt.lists (e := e) p1.isList p2.isList (by rw [List.size_toArray, List.size_toArray]; omega) hu fun j h1 h2 => by
        obtain ⟨x', ex, rx'⟩ := r1.ix h1
        obtain ⟨y', ey, ry'⟩ := r2.ix h2
        exact hD _ _ _ _ _ rx' ry' (he j x' y' ex ey)
      rw [List.size_toArray, ← l1] at q
      exact q
  · obtain ⟨i1, r1, p1, _⟩ := I.tuple ha
    obtain ⟨i2, r2, p2, _⟩ := I.tuple hc
    have l1 := r1.length
    have l2 := r2.length
    have q := SeqAt.RcAt.tuples (e := e) p1 p2 hu fun j h1 h2 => by
      obtain ⟨x', ex, rx'⟩ := r1.ix h1
      obtain ⟨y', ey, ry'⟩ := r2.ix h2
      exact hD _ _ _ _ _ rx' ry' (he j x' y' ex ey)
    rw [List.size_toArray, List.size_toArray, ← l1, ← l2] at q
    exact q
theorem eq_leaf {A : Around} {x y : V} {u v : Value} {b : Bool} (rx : RelV x u) (ry : RelV y v) (h : (x = y ∧ (∃ a, x = .ref a) ∧ b = true) ∨ ∃ i j, x = .int i ∧ y = .int j ∧ b = (i == j)) : SeqAt.EqAt A s u v b := by
  rcases h with ⟨rfl, ⟨a, rfl⟩, rfl⟩ | ⟨i, j, rfl, rfl, rfl⟩
  · cases rx
    cases ry
    exact SeqAt.EqAt.same _
  · exact eqAt_ints rx ry
theorem eq_of_deq (I : Inv X pins σ H s) : ∀ (n : Nat) (A : Around), A.units + n < cLine → ∀ x y u v b, RelV x u → RelV y v → DEq X.K H n x y b → SeqAt.EqAt A s u v b
  | 0, _, _, _, _, _, _, _, rx, ry, h => eq_leaf rx ry h
  | n + 1, A, hu, x, y, u, v, b, rx, ry, h => by
    rcases h with h | ⟨hne, h⟩
    · exact eq_leaf rx ry h
    · have q := rc_of I (A := A) (by omega) (fun x y u v b rx ry d => eq_of_deq I n A.in1 (by show A.units + 1 + n < cLine; omega) x y u v b rx ry d) rx ry h
      obtain ⟨a, c, xs, ys, rfl, rfl, _⟩ := h
      cases rx
      cases ry
      exact SeqAt.EqAt.of_refs (fun z => hne (by rw [z])) q
end
section
variable {X : Cx}
theorem op_eqD (n : Nat) (hu : X.A.units + (n + 1) < cLine) : OpR X (compareOp .Eq) (rEqD X.K n) := by
  intro pins s σ H x y v u Q I rx ry h
  obtain ⟨b, h, q⟩ := h
  exact rc_of I (A := X.A) (by omega) (eq_of_deq I n X.A.in1 (by show X.A.units + 1 + n < cLine; omega)) rx ry h _ _ _ _ ⟨.bl b, H, I, rfl, q⟩
end
theorem REq.ints {K : PySem.W.Frag} {H : Hp} {n : Nat} {a c : Addr} {ns ms : List Int} (h1 : SqL K H a (List.map V.int ns)) (h2 : SqL K H c (List.map V.int ms)) : REq K H (DEq K H n) (.ref a) (.ref c) (decide (ns = ms)) := by
  refine ⟨a, c, _, _, rfl, rfl, .inl ⟨h1, h2, ?_⟩⟩
  by_cases hl : ns.length = ms.length
  · refine .inr ⟨by simp [hl], fun j => ns.getD j 0 == ms.getD j 0, fun j x y ex ey => ?_, ?_⟩
    · rw [List.getElem?_map] at ex ey
      cases e1 : ns[j]? with
      | none => rw [e1] at ex; cases ex
      | some i1 =>
        cases e2 : ms[j]? with
        | none => rw [e2] at ey; cases ey
        | some i2 =>
          rw [e1] at ex
          rw [e2] at ey
          have x1 := Option.some.inj ex
          have y1 := Option.some.inj ey
          have leaf : (x = y ∧ (∃ a, x = V.ref a) ∧ (ns.getD j 0 == ms.getD j 0) = true) ∨ ∃ i k, x = V.int i ∧ y = V.int k ∧ (ns.getD j 0 == ms.getD j 0) = (i == k) := .inr ⟨i1, i2, x1.symm, y1.symm, by rw [List.getD_eq_getElem?_getD, List.getD_eq_getElem?_getD, e1, e2]; rfl⟩
          cases n with
          | zero => exact leaf
          | succ n => exact .inl leaf
    · have := all_eq_ints ns ms
      rw [List.length_map, ← this, hl, Nat.min_self]
      simp
  · exact .inl ⟨by simpa using hl, decide_eq_false fun z => hl (by rw [z])⟩
def rCatA : R2 := fun x y H Q => ∃ a b xs ys, x = .ref a ∧ y = .ref b ∧ H a = some (.tup xs) ∧ H b = some (.tup ys) ∧ xs.length + ys.length ≤ sizeLine ∧ ∀ p H', Same H H' → H' p = some (.tup (xs ++ ys)) → Q (.ref p) H'
def rSlA : V → Option Int → Option Int → Hp → VK → Prop := fun x lo hi H Q => ∃ a xs, x = .ref a ∧ H a = some (.tup xs) ∧ ∀ p H', Same H H' → H' p = some (.tup (cutV xs lo hi)) → Q (.ref p) H'
section
variable {X : Cx}
theorem op_catA : OpR X (binaryOp .Add) rCatA := by
  intro pins s σ H x y v u Q I rx ry h
  obtain ⟨a, b, xs, ys, rfl, rfl, ha, hb, hz, q⟩ := h
  by_cases hx : xs = []
  · subst hx
    cases rx
    cases ry
    obtain ⟨i1, r1, p1, _⟩ := I.tuple (SqT.of ha)
    obtain ⟨i2, r2, p2, _⟩ := I.tuple (SqT.of hb)
    have e1 : i1 = [] := by cases r1; rfl
    subst e1
    obtain ⟨⟨cls, dd, data, sl⟩, ho, hc, n, hd⟩ := id p1
    obtain ⟨⟨cls2, dd2, data2, sl2⟩, ho2, hc2, n2, hd2⟩ := id p2
    simp only at hc hd hc2 hd2
    subst hc hd hc2 hd2
    exact concat_meets ⟨_, ho, rfl⟩ ⟨_, ho2, rfl⟩ noFill_tuple_add seq_tuple_add PySem.F.slot_tuple_add PySem.F.entry_tuple_add (PySem.F.args_tuple_add_2 _ _) (tuple_addW0 a b _ _ n n2 dd dd2 sl sl2 (by simp)) ⟨ho, ho2, ⟨.ref b, H, I, rfl, q b H (Same.refl H) hb⟩⟩
  · refine op_catT pins s σ H _ _ v u Q I rx ry ⟨a, b, xs, ys, rfl, rfl, SqT.of ha, SqT.of hb, hx, hz, fun e => ?_, fun _ p hp => q p _ (Same.upd hp) upd_same⟩
    subst e
    exact q a H (Same.refl H) (by rw [List.append_nil]; exact ha)
end
end L2
namespace L2
open PySem PySem.Spec PyProof.Rows
theorem bt_reversed : bootBuiltins "reversed" = some (.type "reversed") := by decide +kernel
section
variable {prog : Program} {w : World} {A : Around} {E : Value → Shared → Prop} {s : Shared}
open HT in
theorem slice_whole {t sl : Addr} {items : Array Value} {vl vu : Value} {lo hi : Option Int} {Q : Value → Shared → Prop} (ht : IsTup s.heap t items) (hs : s.heap.IsSliceOf sl vl vu .none) (pl : IsPart vl lo) (pu : IsPart vu hi)
    (hw : sIx items.size 0 lo = 0 ∧ sIx items.size items.size hi = items.size) (h : Q (.ref t) s) : wpAny (model prog w) A (getItem (.ref t) (.ref sl)) Q E s := by
  obtain ⟨os, hos, hcs, hds⟩ := id hs
  have hTs : s.TypeIs (.ref sl) "slice" := ⟨os, hos, hcs⟩
  unfold getItem
  try with_reducible refine wpAny_holding ?_
  first | refine wpAny_bind (wpAny_pure ?_) | skip
  refine wpAny_bind (wpAny_sequenceKey ht.typeIs (by decide) ?_)
  refine wpAny_bind (wpAny_callSpecial?_slot (name := Str.ofString "__getitem__") ht.typeIs PyProof.Rows.slot_tuple_getitem
    (wpAny_call_entry PyProof.Rows.slot_tuple_getitem ht.typeIs entry_tuple_getitem ?_ (args_tuple_getitem _ _)))
  show wpAny _ _ (Builtin.Tuple.tupleItemsOf (.ref t) >>= _) _ _ s
  refine wpAny_bind (tupleItemsOf_ ht ?_)
  refine wpAny_bind (wpAny_typeOf hTs ?_)
  rw [if_pos (by decide)]
  refine wpAny_bind (sliceApplied_gen hs pl pu ?_)
  have yes : ((((sIx items.size 0 lo : Nat) : Int) == 0 && (1 : Int) == 1 && (sIx items.size items.size hi - sIx items.size 0 lo) == items.size) = true) := by
    rw [hw.1, hw.2]; simp
  show wpAny _ _ (if (((sIx items.size 0 lo : Nat) : Int) == 0 && (1 : Int) == 1 && (sIx items.size items.size hi - sIx items.size 0 lo) == items.size) = true then _ else _) _ _ s
  rw [if_pos yes]
  unfold Builtin.Tuple.tupleIsExact
  refine wpAny_bind (wpAny_bind (wpAny_typeOf ht.typeIs (wpAny_pure ?_)))
  rw [if_pos (by decide)]
  first
    | exact wpAny_bind (wpAny_rule (wpAny_pure ⟨_, rfl, wpAny_pure h⟩))
    | exact wpAny_bind (wpAny_rule (wpAny_bind (wpAny_pure (wpAny_pure ⟨_, rfl, wpAny_pure h⟩))))
    | exact wpAny_bind (wpAny_rule (wpAny_pure h))
end
section
variable {X : Cx}
theorem cutV_whole {xs : List V} {lo hi : Option Int} (h : HT.sIx xs.length 0 lo = 0 ∧ HT.sIx xs.length xs.length hi = xs.length) : cutV xs lo hi = xs := by
  unfold cutV
  rw [h.1, h.2, List.drop_zero, Nat.sub_zero, List.take_length]
theorem sl_tupA : SlR X rSlA := by
  intro pins s σ H x v vl vu lo hi sl Q I rx hs pl pu h
  obtain ⟨a, xs, rfl, hx, q⟩ := h
  by_cases hw : HT.sIx xs.length 0 lo = 0 ∧ HT.sIx xs.length xs.length hi = xs.length
  · cases rx
    obtain ⟨its, r, ht, hz⟩ := I.tuple (SqT.of hx)
    have hlen : its.toArray.size = xs.length := by rw [List.size_toArray]; exact r.length.symm
    refine ⟨"tuple", _, PyProof.Rows.slot_tuple_getitem.lookup, ht.typeIs, ?_⟩
    exact slice_whole ht hs pl pu (by rw [hlen]; exact hw) ⟨.ref a, H, I, rfl, q a H (Same.refl H) (by rw [cutV_whole hw]; exact hx)⟩
  · exact sl_tup pins s σ H _ v vl vu lo hi sl Q I rx hs pl pu ⟨a, xs, rfl, SqT.of hx, hw, fun p hp => q p _ (Same.upd hp) upd_same⟩
end
def Itv (K : PySem.W.Frag) (a : Addr) (n : Nat) : It :=
  ⟨fun i H => i < n ∧ ∃ xs, SqL K H a xs ∧ xs.length = n, fun i H v H' => H' = H ∧ ∀ xs, SqL K H a xs → xs[n - 1 - i]? = some v, fun i _ => n ≤ i⟩
def iRev (K : PySem.W.Frag) (tl : TE) : TI := fun σ H R => tl σ H fun x H1 => ∃ a xs, x = .ref a ∧ SqL K H1 a xs ∧ R (Itv K a xs.length) H1
theorem turn_rev {P : Program} {w : World} {K : PySem.W.Frag} {tg : Expr} (a it : Addr) (n : Nat) : Turn P w K tg (Itv K a n) [it] it (fun i h => i ≤ n ∧ h.IsRevIter it a ((n : Int) - 1 - (i : Int))) where
  mem := by simp
  obj := fun i h st b hb => by
    obtain ⟨_, o, e, c, d⟩ := st
    have z : b = it := by simpa using hb
    subst z
    exact ⟨o, e, fun v z => by rw [d] at z; cases z⟩
  keep := fun i h h' st k => ⟨st.1, st.2.at fun o q => k it (by simp) o q⟩
  item := by
    intro X hP hw hK hc i pins s σ H E I hf st hg
    subst hP hw hK
    obtain ⟨hi, xs, hq, hn⟩ := hg
    obtain ⟨its, rv, p, hz⟩ := I.list hq
    have hl := rv.length
    obtain ⟨f0, f1, f2, f3, f4, f5⟩ := hf it (by simp)
    have e1 : (n : Int) - 1 - (i : Int) = ((n - 1 - i : Nat) : Int) := by omega
    have hit := st.2
    rw [e1] at hit
    have hlt : n - 1 - i < xs.length := by omega
    obtain ⟨u, hu, ru⟩ := rv.get (List.getElem?_eq_getElem hlt)
    refine wpAny_pyNext_rev_item hit p.isList (x := u) (by simpa using hu) fun h' hit' sb => ⟨_, rfl, ?_⟩
    obtain ⟨o', ho', hc', hd'⟩ := id hit'
    refine go_of ho' hc' hd' (by decide +kernel) ?_
    have e2 : ((n - 1 - i : Nat) : Int) - 1 = (n : Int) - 1 - ((i + 1 : Nat) : Int) := by omega
    rw [e2] at hit'
    exact ⟨_, H, I.turned (t' := s.toks) (fun b o hb e => (sb.2 b hb).trans e) f0 f1 f3 f4 f5, ru, ⟨rfl, fun ys hy => by rw [I.list_inj hy hq]; exact List.getElem?_eq_getElem hlt⟩, ⟨hi, hit'⟩, fun b hb => by
      have z : b = it := by simpa using hb
      rw [z]; exact f0⟩
  done := by
    intro X hP hw hK hc i pins s σ H E I hf st hg
    subst hP hw hK
    obtain ⟨f0, f1, f2, f3, f4, f5⟩ := hf it (by simp)
    have e1 : (n : Int) - 1 - (i : Int) = -1 := by
      have := st.1
      have h2 : n ≤ i := hg
      omega
    have hit := st.2
    rw [e1] at hit
    exact wpAny_pyNext_rev_end (I.ok.hd hc) hit fun h' eb => ⟨rfl, I.turned (t' := s.toks) (fun b o hb e => eb b o hb e) f0 f1 f3 f4 f5⟩
  self := fun _ _ _ _ _ st h => wpAny_pyIter_revIter st.2 h
section
variable {X : Cx}
theorem pi_rev {tg : Expr} {a : Expr} {tl : TE} {p pos : Pos} (hg : Gl X "reversed") (hm : X.mg "reversed" = none) (hl : PE X a tl) (hs : starEach [a] X.env = [(false, eval a X.env)] := by rfl) : PI X tg (.Call (.Name "reversed" p) [a] [] pos) (iRev X.K tl) := by
  intro pins s σ H R I h
  have hA : PA X [a] (tCons tl tNil) := pa_cons hl pa_nil (by rw [hs]; rfl)
  refine Call_ (ld_blt I hg hm bt_reversed (PyProof.Rows.callWith_type1 (thn (hA pos pins s σ H (fun vs H1 => ∃ x, vs = [x] ∧ ∃ a xs, x = .ref a ∧ SqL X.K H1 a xs ∧ R (Itv X.K a xs.length) H1) I ?_) fun us s1 ⟨vs, H1, I1, r1, q1⟩ => ?_) hs rfl))
  · show tl σ H fun x H1 => ∃ y, [x] = [y] ∧ _
    have e : (fun (x : V) (H1 : Hp) => ∃ y, [x] = [y] ∧ ∃ a xs, y = V.ref a ∧ SqL X.K H1 a xs ∧ R (Itv X.K a xs.length) H1) = fun x H1 => ∃ a xs, x = V.ref a ∧ SqL X.K H1 a xs ∧ R (Itv X.K a xs.length) H1 := by
      funext x H1
      exact propext ⟨fun ⟨y, e, r⟩ => by cases e; exact r, fun r => ⟨x, rfl, r⟩⟩
    have h' : tl σ H fun x H1 => ∃ a xs, x = V.ref a ∧ SqL X.K H1 a xs ∧ R (Itv X.K a xs.length) H1 := h
    rw [← e] at h'
    exact h'
  · obtain ⟨x, e1, b, xs, e2, hq, q⟩ := q1
    subst e1 e2
    obtain ⟨u, rfl, ru⟩ := vals1 r1
    cases ru
    obtain ⟨its, rv, pl, hz⟩ := I1.list hq
    have hl := rv.length
    refine call_reversed_list pl.isList ?_
    have hit : (s1.heap.push (revObj b (((its.toArray.size : Nat) : Int) - 1))).IsRevIter s1.heap.objs.size b ((xs.length : Int) - 1 - ((0 : Nat) : Int)) := ⟨_, Heap.get?_push_size _ rfl, rfl, by
      show Data.fields #[.ref b, rawInt (((its.toArray.size : Nat) : Int) - 1)] = _
      rw [List.size_toArray, ← hl]; simp⟩
    refine wpAny_pyIter_revIter (s := { s1 with heap := s1.heap.push (revObj b (((its.toArray.size : Nat) : Int) - 1)) }) hit ?_
    refine ⟨s1.heap.objs.size, [s1.heap.objs.size], _, Itv X.K b xs.length, H1, rfl, I1.kept (t' := s1.toks) fun c o e => Heap.get?_push_of_some _ e, turn_rev b _ _, ⟨Nat.zero_le _, hit⟩, fun c hc => ?_, q⟩
    have z : c = s1.heap.objs.size := by simpa using hc
    exact I1.fpOk (Nat.le_of_eq z.symm) (I1.hok.fresh (Nat.le_of_eq z.symm))
end
theorem for_rev {K : PySem.W.Frag} {a : Addr} {xs : List V} {g : TG} {tb : TS} {D : Ends} {σ : St} {H : Hp} (Pv : Nat → St → Hp → Prop) (h0 : Pv 0 σ H) (hl : ∀ i σ H, i ≤ xs.length → Pv i σ H → SqL K H a xs)
    (hs : ∀ i x σ H, i < xs.length → xs[xs.length - 1 - i]? = some x → Pv i σ H → g x σ H fun σ2 H2 => tb { D with nx := Pv (i + 1), ct := Pv (i + 1), bk := D.nx } σ2 H2) (hd : ∀ σ H, Pv xs.length σ H → D.nx σ H) :
    ∃ W : Nat → Nat → St → Hp → Prop, (∃ m, W 0 m σ H) ∧ ∀ i m σ H, W i m σ H →
      ((Itv K a xs.length).stop i H ∧ D.nx σ H) ∨ ((Itv K a xs.length).go i H ∧ ∃ N : St → Hp → Prop, (∀ σ' H', N σ' H' → ∃ m', m' < m ∧ W (i + 1) m' σ' H') ∧ ∀ x H', (Itv K a xs.length).yld i H x H' → g x σ H' fun σ2 H2 => tb { D with nx := N, ct := N, bk := D.nx } σ2 H2) := by
  refine ⟨fun i m σ H => m = xs.length - i ∧ i ≤ xs.length ∧ Pv i σ H, ⟨xs.length, by simp, Nat.zero_le _, h0⟩, ?_⟩
  rintro i m σ H ⟨rfl, hi, p⟩
  have q := hl i σ H hi p
  by_cases hlt : i < xs.length
  · refine .inr ⟨⟨hlt, xs, q, rfl⟩, Pv (i + 1), fun σ' H' p' => ⟨xs.length - (i + 1), by omega, rfl, hlt, p'⟩, fun x H' y => ?_⟩
    obtain ⟨e, y⟩ := y
    subst e
    exact hs i x σ _ hlt (y xs q) p
  · have e : i = xs.length := by omega
    subst e
    exact .inl ⟨Nat.le_refl _, hd σ H p⟩
end L2
namespace L2
open PySem PySem.Spec PyProof.Rows
def CompRdI (J : It) (σ : St) (caps : List Nat) (tt : TT) (te : TE) (H1 : Hp) (fin : List V → Hp → Prop) : Prop :=
  ∃ (n : Nat) (W : Nat → List V → Hp → Prop), n ≤ sizeLine ∧ W 0 [] H1 ∧ ∀ i ys H2, i ≤ n → ys.length ≤ i → W i ys H2 →
    (J.stop i H2 ∧ fin ys H2) ∨ (i < n ∧ J.go i H2 ∧ ∀ x H3, J.yld i H2 x H3 → tt (some x :: caught σ caps) H3 fun b H4 => if b = true then te (some x :: caught σ caps) H4 fun y H5 => W (i + 1) (ys ++ [y]) H5 else W (i + 1) ys H4)
def tCompI (wi : TI) (caps : List Nat) (tt : TT) (te : TE) : TE := fun σ H Q => wi σ H fun J H1 => CompRdI J σ caps tt te H1 fun ys H2 => ∀ p, H2 p = none → Q (.ref p) (upd H2 p (.lst ys))
section
variable {X : Cx} {scope : Scope} {x : Str} {ys : List Str} {caps : List Nat} {elt iter tst : Expr} {te : TE} {tt : TT} {px pos : Pos}
theorem compI_run {pins : List (Addr × Obj)} {σ : St} {H2 : Hp} {s2 : Shared} {J : It} {fp : List Addr} {it : Addr} {tn : Nat → Heap → Prop} {E : Value → Shared → Prop} {fin : List V → Hp → Prop} {RR : Value → Addr → Result → Shared → Prop}
    (hcalm : X.calm = true) (S : CompSt X.env.scope scope X.N x ys caps) (hT : ∀ s H ex pn, PT (cxComp X scope (x :: ys) s H ex pn) tst tt) (he : ∀ s H ex pn, PE (cxComp X scope (x :: ys) s H ex pn) elt te)
    (I2 : Inv X pins σ H2 s2) (T : Turn X.prog X.w X.K (.Name x px) J fp it tn) (st2 : tn 0 s2.heap) (f2 : ∀ b ∈ fp, FpOk X pins H2 b) (rd : CompRdI J σ caps tt te H2 fin)
    (hRR : ∀ (C : Addr) (ysV : List V) (its : List Value) (n : Nat) (H8 : Hp) (s8 : Shared) (m : Str → Option Value), C = s2.heap.objs.size + 1 → Inv X pins σ H8 s8 → H8 s2.heap.objs.size = none → H8 C = none → Vals ysV its → ysV.length ≤ sizeLine →
      s8.heap.get? s2.heap.objs.size = some (lstO its n) → s8.heap.Ns C m → fin ysV H8 → RR (.ref s2.heap.objs.size) C (.ok .next) s8) :
    wpAny (model X.prog X.w) X.A (newList []) (fun acc s₃ => wpAny (model X.prog X.w) X.A (newFunctionEnv scope X.env.globals (clsOf X scope) [] X.env.qual none .none (some X.env)) (fun cenv s₄ =>
      codeAny (model X.prog X.w) X.A (.compStart (.ListComp elt [⟨.Name x px, iter, [tst], 0⟩] scope pos) 0 (.ref it) acc { cenv with scope := relabel scope X.env }) (RR acc cenv.locals) s₄) E s₃) E s2 := by
  obtain ⟨n0, W, hn0, w0, turn⟩ := rd
  refine wpAny_newObj_type (wpAny_newFunctionEnv S.ncell (by intro y hy; simp at hy) (fun h₁ hns hsb => ?_) S.kind)
  dsimp only at hns hsb ⊢
  generalize hg3 : s2.heap.push { cls := .type "list", dict := none, data := .seq ([] : List Value).toArray } = g3 at hns hsb ⊢
  have hC : g3.objs.size = s2.heap.objs.size + 1 := by rw [← hg3, Heap.size_push]
  have up3 : ∀ b o, s2.heap.get? b = some o → g3.get? b = some o := fun b o e => hg3 ▸ Heap.get?_push_of_some _ e
  have I3 : Inv X pins σ H2 { s2 with heap := g3 } := I2.kept (t' := s2.toks) up3
  have keep : ∀ b o, g3.get? b = some o → h₁.get? b = some o := fun b o e => hsb.extBut b o (Nat.ne_of_lt (Heap.lt_size e)) (Heap.get?_push_of_some _ e)
  have objD : g3.get? s2.heap.objs.size = some (lstO [] 0) := hg3 ▸ Heap.get?_push_size _ rfl
  have hDL : s2.heap.objs.size ≠ X.env.locals := Nat.ne_of_gt I2.lt
  have hDfs : s2.heap.objs.size ∉ X.fs := I2.nofs (Nat.le_refl _)
  have hDst : s2.heap.objs.size ∉ frs X.stack := fun z => (List.mem_cons.mp (I2.stkSub _ z)).elim hDL hDfs
  have hDc : ∀ y c, X.env.cells.lookup y = some c → c ≠ s2.heap.objs.size := fun y c e => by
    obtain ⟨v, z⟩ := I2.cell y c e
    exact Nat.ne_of_lt z.lt
  have hDp : ∀ p ∈ X.pn ++ pins, p.1 ≠ s2.heap.objs.size := fun p hp => Nat.ne_of_lt (Heap.lt_size (I2.pin p hp).1)
  have hfl : ∀ b ∈ fp, b < s2.heap.objs.size := fun b hb => by
    obtain ⟨o, e, _⟩ := T.obj _ _ st2 b hb
    exact Heap.lt_size e
  have hbz : X.base.objs.size ≤ X.s₀.heap.objs.size := I2.ok.bsz
  have hch : ∀ b ∈ s2.heap.objs.size :: fp, (b ∈ X.ex ∨ X.s₀.heap.objs.size ≤ b) ∧ b ≠ X.env.locals ∧ (∀ y c, X.env.cells.lookup y = some c → c ≠ b) ∧ ∀ p ∈ X.pn ++ pins, p.1 ≠ b := fun b hb => by
    rcases List.mem_cons.mp hb with rfl | hb
    · exact ⟨.inr I2.sz, hDL, hDc, hDp⟩
    · obtain ⟨a1, a2, a3, a4, a5, a6⟩ := f2 b hb
      exact ⟨a4, a2, a5, a6⟩
  have hex : ∀ b ∈ s2.heap.objs.size :: fp, b < g3.objs.size ∧ b ∉ frs X.stack ∧ (∀ y c, X.env.cells.lookup y = some c → c ≠ b) ∧ X.base.get? b = none := fun b hb => by
    have hst : b ∉ frs X.stack := by
      rcases List.mem_cons.mp hb with rfl | hb
      · exact hDst
      · obtain ⟨a1, a2, a3, a4, a5, a6⟩ := f2 b hb
        exact fun z => (List.mem_cons.mp (I2.stkSub _ z)).elim a2 a3
    have hlt : b < g3.objs.size := by
      rw [hC]
      rcases List.mem_cons.mp hb with rfl | hb
      · exact Nat.lt_succ_self _
      · exact Nat.lt_succ_of_lt (hfl b hb)
    refine ⟨hlt, hst, (hch b hb).2.2.1, ?_⟩
    cases q : X.base.get? b with
    | none => rfl
    | some o =>
      rcases (hch b hb).1 with z | z
      · exact absurd z (I2.ok.noex b o q)
      · exact absurd (Nat.lt_of_lt_of_le (Heap.lt_size q) (Nat.le_trans hbz z)) (Nat.lt_irrefl _)
  have hD2 : H2 s2.heap.objs.size = none := I2.hok.fresh (Nat.le_refl _)
  have I4 : Inv (cxComp X scope (x :: ys) { s2 with heap := g3 } H2 (s2.heap.objs.size :: fp) (X.pn ++ pins)) [(s2.heap.objs.size, lstO [] 0)] (none :: caught σ caps) H2 { s2 with heap := h₁, toks := s2.toks + ([] : List (Str × Value)).length } :=
    Inv.enter S hcalm I3 hns keep hex fun p hp => by
      have e : p = (s2.heap.objs.size, lstO [] 0) := by simpa using hp
      subst e
      exact ⟨objD, hD2, hDst, fun v z => nomatch z⟩
  have st4 : tn 0 h₁ := T.keep _ _ _ st2 fun b hb o e => keep b o (up3 b o e)
  generalize hY : cxComp X scope (x :: ys) { s2 with heap := g3 } H2 (s2.heap.objs.size :: fp) (X.pn ++ pins) = Y at I4
  have yP : Y.prog = X.prog := by rw [← hY]; rfl
  have yW : Y.w = X.w := by rw [← hY]; rfl
  have yK : Y.K = X.K := by rw [← hY]; rfl
  have yA : Y.A = X.A := by rw [← hY]; rfl
  have yC : Y.calm = true := by rw [← hY]; exact hcalm
  have yX : Y.xe = fun _ _ => False := by rw [← hY]; rfl
  have yN : Y.N = x :: ys := by rw [← hY]; rfl
  have yE : Y.env = compEnvC scope (clsOf X scope) g3.objs.size X.env := by rw [← hY]; rfl
  have yex : Y.ex = s2.heap.objs.size :: fp := by rw [← hY]; rfl
  have ypn : Y.pn = X.pn ++ pins := by rw [← hY]; rfl
  have yfs : Y.fs = frs X.stack := by rw [← hY]; rfl
  have ybase : ∀ {pl σ' H' s'}, Inv Y pl σ' H' s' → Un (frs X.stack) (s2.heap.objs.size :: fp) H2 H' g3 s'.heap ∧ s'.os = s2.os := by
    intro pl σ' H' s' I
    rw [← hY] at I
    exact ⟨I.base, I.os⟩
  have yhe : PE Y elt te := by rw [← hY]; exact he _ _ _ _
  have yht : PT Y tst tt := by rw [← hY]; exact hT _ _ _ _
  have ycl : ∀ y c, Y.env.cells.lookup y = some c → X.env.cells.lookup y = some c := fun y c e => by
    rw [yE] at e
    exact S.sub I2 e
  have yfp : ∀ {H' : Hp} {o : Obj}, (∀ b ∈ fp, H' b = none) → ∀ b ∈ fp, FpOk Y [(s2.heap.objs.size, o)] H' b := fun {H' o} hn b hb => by
    obtain ⟨a1, a2, a3, a4, a5, a6⟩ := f2 b hb
    refine ⟨hn b hb, ?_, ?_, ?_, fun y c e => a5 y c (ycl y c e), fun p hp => ?_⟩
    · rw [yE]; exact Nat.ne_of_lt (hex b (List.mem_cons_of_mem _ hb)).1
    · rw [yfs]; exact (hex b (List.mem_cons_of_mem _ hb)).2.1
    · rw [yex]; exact .inl (List.mem_cons_of_mem _ hb)
    · rw [ypn] at hp
      rcases List.mem_append.mp hp with hp | hp
      · exact a6 p hp
      · have e : p = (s2.heap.objs.size, o) := by simpa using hp
        subst e
        exact Nat.ne_of_gt (hfl b hb)
  have loop : ∀ s₃ : Shared, s₃ = { s2 with heap := h₁, toks := s2.toks + ([] : List (Str × Value)).length } →
      codeAny (model X.prog X.w) X.A (.compLoop (.ListComp elt [⟨.Name x px, iter, [tst], 0⟩] scope pos) 0 (.ref it) (.ref s2.heap.objs.size) (compEnvC scope (clsOf X scope) g3.objs.size X.env)) (RR (.ref s2.heap.objs.size) g3.objs.size) s₃ := by
    rintro s₃ rfl
    refine codeAny_loop rfl (fun k s' => ∃ i ysV its cnt H' o, k = n0 + 1 - i ∧ Inv Y [(s2.heap.objs.size, lstO its cnt)] (o :: caught σ caps) H' s' ∧ tn i s'.heap ∧ (∀ b ∈ fp, H' b = none) ∧ Vals ysV its ∧ ysV.length ≤ i ∧ i ≤ n0 ∧ W i ysV H') ?_ (n0 + 1)
      ⟨0, [], [], 0, H2, none, rfl, I4, st4, fun b hb => (f2 b hb).1, .nil, Nat.le_refl _, Nat.zero_le _, w0⟩
    rintro k s' ⟨i, ysV, its, cnt, H', o, rfl, I', tni, frn, vv, hlen, hin, hw⟩
    show wpAny _ _ ((compTurn (.ListComp elt [⟨.Name x px, iter, [tst], 0⟩] scope pos) 0 (.ref it) (.ref s2.heap.objs.size) (compEnvC scope (clsOf X scope) g3.objs.size X.env)).onRaise (fun x => do noteFrame x (compEnvC scope (clsOf X scope) g3.objs.size X.env); theTreesLotGoes x)) _ _ s'
    refine wpAny_noted ?_
    rw [compTurn_list]
    have fpok := yfp (o := lstO its cnt) frn
    rcases turn i ysV H' hin hlen hw with ⟨stop, hfin⟩ | ⟨hlt, go, step⟩
    · refine wpAny_bind (wpAny_standAt (wpAny_bind (thn (Q := fun r s1 => r = none ∧ Inv Y [(s2.heap.objs.size, lstO its cnt)] (o :: caught σ caps) H' s1) ?_ fun r s1 ⟨hr, I1⟩ => ?_)))
      · have := T.done Y yP yW yK yC i _ s' _ H' (notedBy (model X.prog X.w) X.A (compEnvC scope (clsOf X scope) g3.objs.size X.env) fun e s' => RR (.ref s2.heap.objs.size) g3.objs.size (.error e) s') I' fpok tni stop
        rw [yA] at this
        exact this
      · subst hr
        refine wpAny_pure ?_
        obtain ⟨ub, uo⟩ := ybase I1
        obtain ⟨m, hm, _⟩ := I1.loc
        obtain ⟨p1, p2, _⟩ := I1.pin (s2.heap.objs.size, lstO its cnt) (List.mem_append_right _ List.mem_cons_self)
        have hok : HOk X.prog X.w H' s1.heap := by have := I1.hok; rw [yP, yW] at this; exact this
        have hCf := I1.free
        rw [yE] at hm hCf
        refine hRR g3.objs.size ysV its cnt H' s1 m hC (I3.call' uo ub hok I1.bare hch) p2 hCf vv (by omega) p1 hm hfin
    · refine wpAny_bind (wpAny_standAt (wpAny_bind (thn (Q := fun r s1 => ∃ u, r = some u ∧ wpAny (model X.prog X.w) X.A (letOwnedTupleGo (.Name x px) (.ref it) u) (fun _ s5 => ∃ x H5, Inv Y [(s2.heap.objs.size, lstO its cnt)] (o :: caught σ caps) H5 s5 ∧ RelV x u ∧ J.yld i H' x H5 ∧ tn (i + 1) s5.heap ∧ ∀ b ∈ fp, H5 b = none)
          (notedBy (model X.prog X.w) X.A (compEnvC scope (clsOf X scope) g3.objs.size X.env) fun e s' => RR (.ref s2.heap.objs.size) g3.objs.size (.error e) s') s1) ?_ fun r s1 ⟨u, hr, h4⟩ => ?_)))
      · have := T.item Y yP yW yK yC i _ s' _ H' (notedBy (model X.prog X.w) X.A (compEnvC scope (clsOf X scope) g3.objs.size X.env) fun e s' => RR (.ref s2.heap.objs.size) g3.objs.size (.error e) s') I' fpok tni go
        rw [yA] at this
        exact this
      · subst hr
        refine wpAny_bind (thn h4 fun _ s5 ⟨xv, H5, I5, r5, y5, st5, fr5⟩ => ?_)
        have I5' := I5.pinned (yfp fr5) (T.obj _ _ st5)
        have hloc : Y.env.scope.names.lookup x = some .local := by rw [yE]; exact lookup_relabel_local S.loc
        have sto := fun (Q : Unit → Shared → Prop) (k : ∀ s6, Inv Y _ ((o :: caught σ caps).set 0 (some xv)) H5 s6 → Q () s6) => store_ok (M := model X.prog X.w) (A := X.A) (E := notedBy (model X.prog X.w) X.A (compEnvC scope (clsOf X scope) g3.objs.size X.env) fun e s' => RR (.ref s2.heap.objs.size) g3.objs.size (.error e) s') (i := 0) (x := x) I5' (by rw [yN]; exact S.nd) (by rw [yN]; rfl) (.inl hloc) r5 k (.inr hloc)
        rw [yE] at sto
        refine wpAny_bind (wpAny_assign_Name (sto _ fun s6 I6 => ?_))
        have tv := yht _ s6 _ H5 _ I6 (step xv H5 y5)
        rw [yP, yW, yA, yE] at tv
        refine wpAny_bind (wpAny_tests_one (nxE yX tv fun ok s6' ⟨H6, I6', w6⟩ => ?_))
        have hil := vv.length
        cases ok with
        | false =>
          rw [if_neg Bool.false_ne_true] at w6
          rw [if_neg Bool.false_ne_true]
          obtain ⟨zD, hD7, hDl7, hDf7, _⟩ := I6'.pin (s2.heap.objs.size, lstO its cnt) (List.mem_append_right _ (List.mem_append_left _ List.mem_cons_self))
          have I9 : Inv Y [(s2.heap.objs.size, lstO its cnt)] (some xv :: caught σ caps) H6 s6' := I6'.pins_of fun p hp => by
            have e : p = (s2.heap.objs.size, lstO its cnt) := by simpa using hp
            subst e
            exact ⟨zD, hD7, hDl7, hDf7, (fun v z => nomatch z)⟩
          refine wpAny_pure ⟨rfl, n0 + 1 - (i + 1), by omega, i + 1, ysV, its, cnt, H6, some xv, rfl, I9, ?_, ?_, vv, by omega, hlt, w6⟩
          · refine T.keep _ _ _ st5 fun b hb ob e => ?_
            exact (I6'.pin (b, ob) (List.mem_append_right _ (List.mem_append_right _ (mem_pinsAt hb e)))).1
          · intro b hb
            obtain ⟨ob, e, _⟩ := T.obj _ _ st5 b hb
            exact (I6'.pin (b, ob) (List.mem_append_right _ (List.mem_append_right _ (mem_pinsAt hb e)))).2.1
        | true =>
          rw [if_pos rfl] at w6
          rw [if_pos rfl]
          have ev := yhe _ s6' _ H6 _ I6' w6
          rw [yP, yW, yA, yE] at ev
          refine wpAny_bind (wpAny_bind (nxE yX ev fun yv s7 ⟨y, H7, I7, r7, w7⟩ => ?_))
          obtain ⟨zD, hD7, hDl7, hDf7, _⟩ := I7.pin (s2.heap.objs.size, lstO its cnt) (List.mem_append_right _ (List.mem_append_left _ List.mem_cons_self))
          refine wpAny_bind (append_at zD (fun h8 sb8 d8 => wpAny_pure (wpAny_pure ⟨rfl, ?_⟩)) (by rw [List.size_toArray]; omega))
          have I7' : Inv Y [] (some xv :: caught σ caps) H7 s7 := I7.pins_of fun p hp => nomatch hp
          have I8 : Inv Y [] (some xv :: caught σ caps) H7 { s7 with heap := h8 } := I7'.turned (t' := s7.toks) (fun b ob hb e => (sb8.2 b hb).trans e) hD7 hDl7 (.inl (by rw [yex]; exact List.mem_cons_self)) (fun y c e => hDc y c (ycl y c e)) (fun p hp => by
            rw [ypn, List.append_nil] at hp
            exact hDp p hp)
          have I9 : Inv Y [(s2.heap.objs.size, lstO (its ++ [yv]) (cnt + 1))] (some xv :: caught σ caps) H7 { s7 with heap := h8 } := I8.pins_of fun p hp => by
            have e : p = (s2.heap.objs.size, lstO (its ++ [yv]) (cnt + 1)) := by simpa using hp
            subst e
            refine ⟨?_, hD7, hDl7, hDf7, fun v z => nomatch z⟩
            show h8.get? s2.heap.objs.size = some { cls := .type "list", data := .seq (its ++ [yv]).toArray (cnt + 1) }
            rw [d8, List.push_toArray]
          refine ⟨n0 + 1 - (i + 1), by omega, i + 1, ysV ++ [y], its ++ [yv], cnt + 1, H7, some xv, rfl, I9, ?_, ?_, vv.append (.cons r7 .nil), by rw [List.length_append]; show ysV.length + 1 ≤ i + 1; omega, hlt, w7⟩
          · refine T.keep _ _ _ st5 fun b hb ob e => (sb8.2 b (Nat.ne_of_lt (hfl b hb))).trans ?_
            exact (I7.pin (b, ob) (List.mem_append_right _ (List.mem_append_right _ (mem_pinsAt hb e)))).1
          · intro b hb
            obtain ⟨ob, e, _⟩ := T.obj _ _ st5 b hb
            exact (I7.pin (b, ob) (List.mem_append_right _ (List.mem_append_right _ (mem_pinsAt hb e)))).2.1
  exact codeAny_compStart_list (loop _ rfl) (T.self _ 0 _ _ _ st4 (loop _ rfl))
theorem ps_setCompI {wi : TI} {FS : Scope} {N : List Str} {i : Nat} {y : Str} {py spos : Pos} (S0 : CompSt FS scope N x ys caps) (hFS : X.env.scope = FS) (hN0 : X.N = N) (hcalm : X.calm = true) (hN : X.N.Nodup) (hy : X.N[i]? = some y) (hl : Loc X.env.scope y) (hi : PI X (.Name x px) iter wi) (hT : ∀ s H ex pn, PT (cxComp X scope (x :: ys) s H ex pn) tst tt) (he : ∀ s H ex pn, PE (cxComp X scope (x :: ys) s H ex pn) elt te)
    (hsw : swapsWith (.ListComp elt [⟨.Name x px, iter, [tst], 0⟩] scope pos) (some (.Name y py)) spos.line X.env = pure true := by rfl)
    (hs : ∀ v, foldedSetIterable iter X.env v = pure v := by intro _; rfl) (hf : X.fn y = true ∨ X.env.scope.names.lookup y = some .local := by first | exact .inl rfl | exact .inr rfl | assumption) :
    PS X (.Assign [.Name y py] (.ListComp elt [⟨.Name x px, iter, [tst], 0⟩] scope pos) spos) (tAsg (tCompI wi caps tt te) (gName i)) := by
  have S : CompSt X.env.scope scope X.N x ys caps := by rw [hFS, hN0]; exact S0
  intro pins s σ H D I h
  rw [exec_Assign_Name_used _ _ _ _ hsw]
  refine wpAny_bind (wpAny_standAt (wpAny_bind ?_))
  show wpAny _ X.A (do let _ ← comprehension (.ListComp elt [⟨.Name x px, iter, [tst], 0⟩] scope pos) scope X.env _ (newList []) false (eval iter X.env) (some (assign (.Name y py) X.env))) _ _ s
  refine wpAny_bind (wpAny_mono (wpAny_comprehension_free (use := some (assign (.Name y py) X.env)) (Q := fun _ s' => SP X pins D .next s') rfl hs (closureFor_eq (S.cells I)) S.kind S.names
    (thn (hi pins s σ H _ I h) fun v s1 h1 => thn h1 fun itv s2 h2 => ?_)) (fun _ s' hq => wpAny_pure (wpAny_pure hq)) fun _ _ e => e)
  obtain ⟨it, fp, tn, J, H2, rfl, I2, T, st2, f2, rd⟩ := h2
  refine compI_run (RR := fun acc C => compPost (model X.prog X.w) X.A X.xe (some (assign (.Name y py) X.env)) (fun _ s' => SP X pins D .next s') acc C) hcalm S hT he I2 T st2 f2 rd ?_
  intro C ysV its n H8 s8 m hC I8 hD hC8 vv hz oD hn fin
  have sz := I2.sz
  have lt := I2.lt
  have ap : ∀ b : Addr, b < s2.heap.objs.size → b ≠ C ∧ C ≠ b := fun b hb => by
    subst hC
    exact ⟨Nat.ne_of_lt (Nat.lt_succ_of_lt hb), Nat.ne_of_gt (Nat.lt_succ_of_lt hb)⟩
  have szC : X.s₀.heap.objs.size ≤ C := by subst hC; exact Nat.le_succ_of_le sz
  have DC : C ≠ s2.heap.objs.size := by subst hC; exact Nat.ne_of_gt (Nat.lt_succ_self _)
  have cl : ∀ y c, X.env.cells.lookup y = some c → c < s2.heap.objs.size := fun y c e => by
    obtain ⟨w', z⟩ := I2.cell y c e
    exact z.lt
  have pl : ∀ p ∈ X.pn ++ pins, p.1 < s2.heap.objs.size := fun p hp => Heap.lt_size (I2.pin p hp).1
  have I9 : Inv X pins σ (upd H8 s2.heap.objs.size (.lst ysV)) s8 := I8.adopt hD sz (Nat.ne_of_gt lt) (fun y c e => Nat.ne_of_lt (cl y c e)) (fun p hp => Nat.ne_of_lt (pl p hp)) ⟨hz, its, n, vv, oD⟩
  show wpAny (model X.prog X.w) X.A (assign (.Name y py) X.env (.ref s2.heap.objs.size)) _ _ s8
  refine wpAny_assign_Name (store_ok2 (v := .ref s2.heap.objs.size) I9 hN hy hl rfl (fun s9 I10 ⟨a, sa, ha⟩ => ?_) hf)
  have hCa : C ≠ a := by
    rcases ha with rfl | e
    · exact (ap _ lt).2
    · exact (ap _ (cl _ _ e)).2
  refine ⟨m, hn.sameBut sa hCa, fun h' sb => ⟨_, _, I10.turned (t' := s9.toks) (fun b o hb e => (sb.2 b hb).trans e) ?_ (ap _ lt).2 (.inr szC) (fun y c e => (ap c (cl y c e)).1) (fun p hp => (ap p.1 (pl p hp)).1), fin _ hD⟩⟩
  rw [upd_ne DC]
  exact hC8
end
end L2
namespace L2
open PySem PySem.Spec PyProof.Rows
def cLenT : List V → Hp → VK → Prop := fun xs H Q => ∃ p kvs, xs = [.ref p] ∧ H p = some (.dT kvs) ∧ Q (.int (kvs.length : Nat)) H
theorem len_any {prog : Program} {w : World} {d : Addr} (hd : (d == sysModules) = false) : MeetsIn prog w (Builtin.«dict.__len__» ⟨[.ref d], []⟩) (fun _ R s => ∃ o es ep, s.heap.get? d = some o ∧ o.data = .dict es ep ∧ R (.ok (.ret (.int (es.size : Nat) s.toks))) { s with toks := s.toks + 1 }) :=
  .of_wp fun A R s ⟨o, es, ep, ho, hdat, h⟩ => by
    show wpAny _ _ (dictSize d >>= _) _ _ s; unfold dictSize
    refine wpAny_bind (wpAny_bind (wpAny_dictEntries ho hdat (wpAny_pure ?_)))
    show wpAny _ _ (Builtin.Dict.pendingCount d >>= _) _ _ s; refine wpAny_bind (wpAny_pendingCount_other hd ?_)
    refine wpAny_ret_mkInt ?_; rw [Nat.add_zero]; exact h
section
variable {X : Cx}
theorem call_lenT : CallR X (.builtin "len") cLenT := by
  intro pins s σ H xs us Q I r h
  obtain ⟨p, kvs, rfl, hp, q⟩ := h
  obtain ⟨u, rfl, ru⟩ := vals1 r
  cases ru
  obtain ⟨z, hd, ys, rel, o, es, ep, ho, hc, hdat, he, _⟩ := dt_of I.hok hp
  have hT : s.TypeIs (.ref p) "dict" := ⟨o, ho, hc.1⟩
  have sz : es.size = kvs.length := by rw [size_of_entries he]; exact (Paired.length rel).symm
  have hz : (es.size : Int) < 2 ^ 63 := by rw [sz]; rw [sizeLine_eq] at z; omega
  refine Calls.call_function_entry kind_len plain_len entry_len (args_len1 _) ?_
  unfold Builtin.«len»
  refine wpAny_bind (m := oneArg "len" _) (wpAny_pure ?_)
  refine wpAny_bind (m := callSpecial? (.ref p) (Str.ofString "__len__")) (wpAny_callSpecial?_slot (name := Str.ofString "__len__") hT F.slot_dict_len (call_meetsIn F.slot_dict_len hT F.entry_dict_len (F.args_dict_len_1 _) (len_any hd) ⟨o, es, ep, ho, hdat, ?_⟩))
  show wpAny _ _ _ _ _ { s with toks := s.toks + 1 }
  refine wpAny_bind (wpAny_holding (wpAny_pure (wpAny_bind (wpAny_letGo ?_))))
  show wpAny _ _ (if ((es.size : Nat) : Int) < 0 then _ else _) _ _ _; rw [if_neg (by omega)]
  show wpAny _ _ (if ((es.size : Nat) : Int) ≥ 2 ^ 63 then _ else _) _ _ _; rw [if_neg (by omega)]
  refine wpAny_bind (wpAny_mkInt (wpAny_pure ⟨_, rfl, ?_⟩))
  exact ⟨.int (kvs.length : Nat), H, (I.tok _).tok _, ⟨_, by rw [sz]⟩, q⟩
def isB2 (x : V) (H : Hp) (T : String) (b : Bool) : Prop := isB x H T b ∨ (∃ p xs, x = .ref p ∧ H p = some (.lst xs) ∧ T = "list" ∧ b = true)
def cIsB2 : List V → Hp → VK → Prop := fun xs H Q => ∃ x T b, xs = [x, .ty T] ∧ isB2 x H T b ∧ Q (.bl b) H
theorem kit_ll (K : PySem.W.Frag) : PySem.W.kitOne K (.type "list") (.type "list") = some true := by rfl
theorem call_isB2 : CallR X (.builtin "isinstance") cIsB2 := by
  intro pins s σ H xs us Q I r h
  obtain ⟨x, T, b, rfl, hb, q⟩ := h
  rcases hb with hb | ⟨p, ys, rfl, hp, rfl, rfl⟩
  · exact call_isB pins s σ H _ us Q I r ⟨x, T, b, rfl, hb, q⟩
  · obtain ⟨u, c, rfl, ru, rc⟩ := vals2 r
    obtain rfl : c = Value.type "list" := rc
    exact isinst_ok I ru (.lst hp) (kit_ll _) fun tk => ⟨.bl true, H, I.tok _, rfl, q⟩
end
section
variable {prog : Program} {w : World} {A : Around} {E : Value → Shared → Prop} {s : Shared}
variable {R : Result → Shared → Prop} {I : Addr} {fp wr : List Addr} {G : Array GenState → Array GenState → Prop} {n : Nat} {P : Nat → Value → Prop} {St : Nat → Shared → Prop}
end
section
variable {X : Cx}
end
end L2
namespace L2
open PySem PySem.Spec PyProof.Rows
structure TabK (K : PySem.W.Frag) : Prop where
  cl : Cls K (gadr K "Table")
  nM : NoAttr K (gadr K "Table") "many"
  nC : NoAttr K (gadr K "Table") "cells"
def cTuple (K : PySem.W.Frag) : List V → Hp → VK → Prop := fun xs H Q => ∃ p ys, xs = [.ref p] ∧ ((SqL K H p ys ∧ ∀ l, H l = none → Q (.ref l) (upd H l (.tup ys))) ∨ (SqT K H p ys ∧ Q (.ref p) H))
theorem comp_rangeI {lo : Int} {n : Nat} {σ : St} {caps : List Nat} {tt : TT} {te : TE} {H1 : Hp} {fin : List V → Hp → Prop} (W : Nat → List V → Hp → Prop) (hz : n ≤ sizeLine) (h0 : W 0 [] H1)
    (hs : ∀ i ys H, i < n → ys.length ≤ i → W i ys H → tt (some (.int (lo + i)) :: caught σ caps) H fun b H4 => if b = true then te (some (.int (lo + i)) :: caught σ caps) H4 fun y H5 => W (i + 1) (ys ++ [y]) H5 else W (i + 1) ys H4)
    (hd : ∀ ys H, W n ys H → fin ys H) : CompRdI (Itr lo n) σ caps tt te H1 fin := by
  refine ⟨n, W, hz, h0, fun i ys H2 hi hy hw => ?_⟩
  by_cases hlt : i < n
  · refine .inr ⟨hlt, hlt, fun x H3 y => ?_⟩
    obtain ⟨e1, e2⟩ := y
    subst e1 e2
    exact hs i ys _ hlt hy hw
  · have e : i = n := by omega
    subst e
    exact .inl ⟨Nat.le_refl _, hd ys H2 hw⟩
end L2
namespace L2
open PySem PySem.Spec PyProof.Rows
def rngL (n : Nat) : List Int := (List.range n).map Int.ofNat
theorem rngL_get {n k : Nat} (h : k < n) : (rngL n)[k]? = some (k : Int) := by
  unfold rngL; rw [List.getElem?_map, List.getElem?_range h]; rfl
theorem rngL_length (n : Nat) : (rngL n).length = n := by unfold rngL; rw [List.length_map, List.length_range]
def tLRng (ta : TE) : TE := fun σ H Q => ta σ H fun x H1 => ∃ n : Nat, x = .int n ∧ n ≤ 10000 ∧ ∀ p, H1 p = none → Q (.ref p) (upd H1 p (.lst (List.map V.int (rngL n))))
theorem vals_of_get : ∀ {xs : List V} {us : List Value}, xs.length = us.length → (∀ (i : Nat) (x : V) (u : Value), xs[i]? = some x → us[i]? = some u → RelV x u) → Vals xs us
  | [], [], _, _ => .nil
  | [], _ :: _, h, _ => by simp at h
  | _ :: _, [], h, _ => by simp at h
  | x :: xs, u :: us, h, k => .cons (k 0 x u rfl rfl) (vals_of_get (by simpa using h) fun i x u h1 h2 => k (i + 1) x u (by simpa using h1) (by simpa using h2))
section
variable {X : Cx}
theorem pe_lrng {a : Expr} {tl : TE} {p1 p2 pos1 pos2 : Pos} (hg1 : Gl X "list") (hm1 : X.mg "list" = none) (hg2 : Gl X "range") (hm2 : X.mg "range" = none) (hc : X.calm = true) (hl : PE X a tl)
    (hs1 : starEach [.Call (.Name "range" p2) [a] [] pos2] X.env = [(false, eval (.Call (.Name "range" p2) [a] [] pos2) X.env)] := by rfl) (hs2 : starEach [a] X.env = [(false, eval a X.env)] := by rfl) :
    PE X (.Call (.Name "list" p1) [.Call (.Name "range" p2) [a] [] pos2] [] pos1) (tLRng tl) := by
  intro pins s σ H Q I h
  have hA : PA X [a] (tCons tl tNil) := pa_cons hl pa_nil (by rw [hs2]; rfl)
  refine Call_ (ld_blt I hg1 hm1 bt_list (PyProof.Rows.callWith_type1 (spliced_more ?_ (by rw [hs1]; rfl)) hs1 rfl))
  refine Call_ (ld_blt I hg2 hm2 boot_range (PyProof.Rows.callWith_type1 (thn (hA pos2 pins s σ H (fun vs H1 => ∃ x, vs = [x] ∧ ∃ n : Nat, x = .int n ∧ n ≤ 10000 ∧ ∀ p, H1 p = none → Q (.ref p) (upd H1 p (.lst (List.map V.int (rngL n))))) I ?_) fun us s1 ⟨vs, H1, I1, r1, q1⟩ => ?_) hs2 rfl))
  · show tl σ H fun x H1 => ∃ y, [x] = [y] ∧ _
    have e : (fun (x : V) (H1 : Hp) => ∃ y, [x] = [y] ∧ ∃ n : Nat, y = V.int n ∧ n ≤ 10000 ∧ ∀ p, H1 p = none → Q (.ref p) (upd H1 p (.lst (List.map V.int (rngL n))))) = fun x H1 => ∃ n : Nat, x = V.int n ∧ n ≤ 10000 ∧ ∀ p, H1 p = none → Q (.ref p) (upd H1 p (.lst (List.map V.int (rngL n)))) := by
      funext x H1
      exact propext ⟨fun ⟨y, e, r⟩ => by cases e; exact r, fun r => ⟨x, rfl, r⟩⟩
    have h' : tl σ H fun x H1 => ∃ n : Nat, x = V.int n ∧ n ≤ 10000 ∧ ∀ p, H1 p = none → Q (.ref p) (upd H1 p (.lst (List.map V.int (rngL n)))) := h
    rw [← e] at h'
    exact h'
  · obtain ⟨x, e1, n, e2, hn, q⟩ := q1
    subst e1 e2
    obtain ⟨u, rfl, ru⟩ := vals1 r1
    obtain ⟨t, rfl⟩ := ru
    refine call_range_1 (spliced_none ?_)
    have hz : Builtin.Range.rangeSize 0 (n : Int) 1 = (n : Int) := by rw [rangeSize_one]; split <;> omega
    refine call_list_range (I1.ok.hd hc) (IsRange.new ..) (small_one (by decide) (by decide) (by omega) (by omega)) hz (by omega) fun h2 tk acc c' hk hS hacc => ?_
    have kp : ∀ c o, s1.heap.get? c = some o → h2.get? c = some o := fun c o e => hk c o (Heap.get?_push_of_some _ e)
    have gsz : (s1.heap.push { cls := .type "range", data := .fields #[.int 0 s1.toks, .int (n : Int) t, .int 1 (s1.toks + 1)] }).objs.size = s1.heap.objs.size + 1 := Heap.size_push ..
    have lt : s1.heap.objs.size ≤ (s1.heap.push { cls := .type "range", data := .fields #[.int 0 s1.toks, .int (n : Int) t, .int 1 (s1.toks + 1)] }).objs.size := by rw [gsz]; exact Nat.le_succ _
    refine ⟨.ref _, _, I1.laid (t' := tk) (o := .lst (List.map V.int (rngL n))) kp lt ⟨by rw [List.length_map, rngL_length, sizeLine_eq]; omega, acc.toList, c', vals_of_get (by rw [List.length_map, rngL_length, Array.length_toList, hacc.1]) fun i x u h1 h3 => ?_, by simpa using hS⟩, rfl, q _ (I1.hok.fresh lt)⟩
    have hi : i < n := by
      have := (List.getElem?_eq_some_iff.mp h1).1
      rwa [List.length_map, rngL_length] at this
    rw [List.getElem?_map, rngL_get hi] at h1
    cases h1
    obtain ⟨tk', e⟩ := hacc.2 i u (by simpa using h3)
    rw [e]
    exact ⟨tk', by simp⟩
end
end L2
namespace L2
open PySem PySem.Spec PyProof.Rows
section
variable {prog : Program} {w : World} {K : Type} [DecidableEq K] {knd : HeapKind prog w K} {A : Around} {E : Value → Shared → Prop} {s : Shared}
end
theorem KT.mem {H : Hp} {kvs : List (List Key × V)} {xs : List (List Key × Addr × Value)} (r : KT H kvs xs) : ∀ x ∈ xs, ∃ p ∈ kvs, p.1 = x.1 ∧ RelV p.2 x.2.2 := by
  induction r with
  | nil => intro x hx; exact nomatch hx
  | @cons p q ps qs hq t ih =>
    intro x hx
    rcases List.mem_cons.mp hx with e | hx
    · subst e; exact ⟨p, List.mem_cons_self .., hq.1, hq.2.2⟩
    · obtain ⟨p', m, e⟩ := ih x hx
      exact ⟨p', List.mem_cons_of_mem _ m, e⟩
section
variable {X : Cx}
end
end L2
namespace L2
open PySem PySem.Spec PyProof.Rows
theorem Vals.ints : ∀ {ns : List Int} {us : List Value}, Vals (List.map V.int ns) us → ∃ xs : List (Int × Tok), us = xs.map (fun p => Value.int p.1 p.2) ∧ xs.map (·.1) = ns
  | [], _, h => by cases h; exact ⟨[], rfl, rfl⟩
  | n :: ns, _, h => by
    cases h with
    | cons r t =>
      obtain ⟨tk, rfl⟩ := r
      obtain ⟨xs, e1, e2⟩ := Vals.ints t
      exact ⟨(n, tk) :: xs, by rw [e1]; rfl, by rw [List.map_cons, e2]⟩
section
variable {X : Cx}
end
end L2
namespace L2
open PySem PySem.Spec PyProof.Rows
section
variable {X : Cx}
end
end L2
namespace L2
open PySem PySem.Spec PyProof.Rows
def rIsN : R2 := fun x y H Q => y = .non ∧ Q (.bl (decide (x = .non))) H
section
variable {X : Cx}
end
end L2
namespace L2
open PySem PySem.Spec PyProof.Rows
def rIndexT (_ : PySem.W.Frag) : V → List V → Hp → VK → Prop := fun x vs H Q => ∃ l xs b f1 f2 j, x = .ref l ∧ vs = [.ref b] ∧ H l = some (.lst xs) ∧ H b = some (.tup [.int f1, .int f2]) ∧ j < xs.length ∧
  (∀ (m : Nat) v, xs[m]? = some v → ∃ p g1 g2, v = .ref p ∧ H p = some (.tup [.int g1, .int g2]) ∧ (m < j → ¬ (g1 = f1 ∧ g2 = f2)) ∧ (m = j → g1 = f1 ∧ g2 = f2)) ∧ Q (.int (j : Nat)) H
def eqTu (H : Hp) (f1 f2 : Int) : Value → Bool
  | .ref a => match H a with
    | some (.tup [.int x, .int y]) => decide (x = f1) && decide (y = f2)
    | _ => false
  | _ => false
theorem eqTu_at {H : Hp} {f1 f2 x y : Int} {a : Addr} (h : H a = some (.tup [.int x, .int y])) : eqTu H f1 f2 (.ref a) = (decide (x = f1) && decide (y = f2)) := by
  show (match H a with | some (.tup [.int x, .int y]) => decide (x = f1) && decide (y = f2) | _ => false) = _
  rw [h]
section
variable {X : Cx}
theorem deq_pair {H : Hp} {p b : Addr} {x y f1 f2 : Int} (hp : H p = some (.tup [.int x, .int y])) (hb : H b = some (.tup [.int f1, .int f2])) : DEq X.K H 1 (.ref p) (.ref b) (decide (x = f1) && decide (y = f2)) := by
  by_cases e : p = b
  · subst e
    rw [hp] at hb
    have e2 := Option.some.inj hb
    simp only [HO.tup.injEq, List.cons.injEq, V.int.injEq, and_true] at e2
    refine .inl (.inl ⟨rfl, ⟨p, rfl⟩, ?_⟩)
    rw [decide_eq_true e2.1, decide_eq_true e2.2]; rfl
  · refine .inr ⟨fun z => e (by injection z), p, b, _, _, rfl, rfl, .inr ⟨SqT.of hp, SqT.of hb, fun j => if j = 0 then decide (x = f1) else decide (y = f2), fun j x' y' h1 h2 => ?_, ?_⟩⟩
    · match j, h1, h2 with
      | 0, h1, h2 =>
        simp at h1 h2; subst h1 h2
        exact .inr ⟨x, f1, rfl, rfl, by simp [Bool.beq_eq_decide_eq]⟩
      | 1, h1, h2 =>
        simp at h1 h2; subst h1 h2
        exact .inr ⟨y, f2, rfl, rfl, by simp [Bool.beq_eq_decide_eq]⟩
      | n + 2, h1, _ => simp at h1
    · show _ = ((List.range 2).all _ && true)
      simp [List.range_succ]
theorem mt_indexT (hu : X.A.units + 64 < cLine) : MtM X "list.index" (rIndexT X.K) := by
  intro pins s σ H x vs v us Q I rx rv h
  obtain ⟨l, xs, b, f1, f2, j, rfl, rfl, hH, hb, hj, hx, q⟩ := h
  cases rx
  obtain ⟨u, rfl, ru⟩ := rv.one
  obtain ⟨z, its, c, r, hl, e⟩ := I.lstM hH
  have len := r.length
  have at_ : ∀ m (hm : m < its.toArray.size), ∃ p g1 g2, its.toArray[m] = .ref p ∧ RelV (.ref p) (.ref p) ∧ H p = some (.tup [.int g1, .int g2]) ∧ (m < j → ¬ (g1 = f1 ∧ g2 = f2)) ∧ (m = j → g1 = f1 ∧ g2 = f2) := fun m hm => by
    have h1 : m < its.length := by simpa using hm
    have h2 : m < xs.length := by omega
    obtain ⟨p, g1, g2, e1, e2, e3, e4⟩ := hx m xs[m] (List.getElem?_eq_getElem h2)
    obtain ⟨w, e5, e6⟩ := r.get (i := m) (x := .ref p) (by rw [List.getElem?_eq_getElem h2, e1])
    cases e6
    refine ⟨p, g1, g2, ?_, rfl, e2, e3, e4⟩
    obtain ⟨_, e7⟩ := List.getElem?_eq_some_iff.mp e5
    simpa using e7
  refine call_meets F.slot_list_index ⟨_, e, rfl⟩ F.entry_list_index (F.args_list_index_2 _ _) (SeqAt.list_indexAt l its.toArray c none #[] u (eqTu H f1 f2) j (by rw [List.size_toArray]; omega) (by rw [sizeLine_eq] at z; omega) ?_ fun m hm hmj => ?_) ⟨e, fun y hy => ?_, ?_⟩
  · obtain ⟨p, g1, g2, e1, _, e2, _, e4⟩ := at_ j (by rw [List.size_toArray]; omega)
    obtain ⟨e5, e6⟩ := e4 rfl
    rw [e1, eqTu_at e2, decide_eq_true e5, decide_eq_true e6]; rfl
  · obtain ⟨p, g1, g2, e1, _, e2, e3, _⟩ := at_ m hm
    rw [e1, eqTu_at e2]
    have := e3 hmj
    by_cases z1 : g1 = f1
    · by_cases z2 : g2 = f2
      · exact absurd ⟨z1, z2⟩ this
      · rw [decide_eq_false z2, Bool.and_false]
    · rw [decide_eq_false z1]; rfl
  · obtain ⟨m, hm, e1⟩ := Array.getElem_of_mem hy
    obtain ⟨p, g1, g2, e2, e3, e4, _⟩ := at_ m hm
    rw [← e1, e2, eqTu_at e4]
    exact eq_of_deq I 1 _ (by show X.A.units + 1 + 1 < cLine; omega) _ _ _ _ _ e3 ru (deq_pair e4 hb)
  · exact ⟨.int (j : Nat), H, I.tok _, ⟨_, rfl⟩, q⟩
end
end L2
namespace L2
open PySem PySem.Spec PySem.Calls PyProof.Rows PySem.W PySem.W.X in
theorem walk_x {q : Program} {loose : List Str} {XP : (Str → Option Value) → Heap → Prop} {K : Params → PySem.W.Frag} {as : List Addr} {n t : Nat} {r : PySem.W.RowW} {d : DefRec} {kwd : List (Str × Expr)} {run : Value → List Value → Sem Value}
    (e : ∀ P, as = (K P).map (·.1)) (W : PySem.W.WalkO q loose XP (fun w h => (K w.params).In h) r d kwd run) : WalkX q loose XP (obsZ as) (valZ K n t) r d kwd run :=
  fun w s₀ s₁ mg mb G y a o pm cd doc dV kV h1 h2 h3 h4 h5 h6 args vals as' L h7 h8 h9 h10 h11 =>
    W w s₀ s₁ mg mb G (InK.keeps w _ _ (z_facts e y).2.1 L.keeps) a o pm cd doc dV kV h1 h2 h3 h4 h5 h6 args vals as' h7 h8 h9 h10 h11
end L2

set_option Elab.async false
set_option maxRecDepth 100000
set_option maxHeartbeats 4000000
set_option linter.all false
namespace My
open PySem L2
theorem atI_map {ns : List Int} {k : Int} (h0 : 0 ≤ k) (h : k < (ns.length : Int)) : atI (List.map V.int ns) k = some (.int (ns.getD k.toNat 0)) := by
  have hk : k.toNat < ns.length := by omega
  have e := atI_nat (xs := List.map V.int ns) (j := k.toNat) (v := V.int (ns.getD k.toNat 0)) (by
    rw [List.getElem?_map, List.getElem?_eq_getElem hk, List.getD_eq_getElem?_getD, List.getElem?_eq_getElem hk]; rfl)
  rwa [Int.toNat_of_nonneg h0] at e
theorem atI0 {α : Type} {a : α} {l : List α} : atI (a :: l) 0 = some a := atI_nat (j := 0) rfl
theorem atI1 {α : Type} {a b : α} {l : List α} : atI (a :: b :: l) 1 = some b := atI_nat (j := 1) rfl
theorem atI2 {α : Type} {a b c : α} {l : List α} : atI (a :: b :: c :: l) 2 = some c := atI_nat (j := 2) rfl
structure Lo (t b x y : Int) : Prop where
  pos : 0 < y
  cop : Int.gcd x y = 1
  eq : x * b = t * y
  bx : x.natAbs ≤ t.natAbs
  by_ : y.natAbs ≤ b.natAbs
def FrsAt (K : PySem.W.Frag) (H : Hp) : List Addr → List (Int × Int) → Prop
  | [], [] => True
  | p :: ps, f :: fs => SqT K H p [.int f.1, .int f.2] ∧ FrsAt K H ps fs
  | _, _ => False
theorem FrsAt.same {K : PySem.W.Frag} {H H' : Hp} (s : Same H H') : ∀ {ps : List Addr} {fs : List (Int × Int)}, FrsAt K H ps fs → FrsAt K H' ps fs
  | [], [], _ => trivial
  | _ :: _, _ :: _, h => ⟨s.tup h.1, h.2.same s⟩
  | [], _ :: _, h => h.elim
  | _ :: _, [], h => h.elim
theorem FrsAt.length {K : PySem.W.Frag} {H : Hp} : ∀ {ps : List Addr} {fs : List (Int × Int)}, FrsAt K H ps fs → ps.length = fs.length
  | [], [], _ => rfl
  | _ :: _, _ :: _, h => by rw [List.length_cons, List.length_cons, h.2.length]
  | [], _ :: _, h => h.elim
  | _ :: _, [], h => h.elim
theorem FrsAt.get {K : PySem.W.Frag} {H : Hp} : ∀ {ps : List Addr} {fs : List (Int × Int)} {i : Nat} {p : Addr}, FrsAt K H ps fs → ps[i]? = some p → ∃ f, fs[i]? = some f ∧ SqT K H p [.int f.1, .int f.2]
  | [], [], _, _, _, e => by simp at e
  | _ :: _, f :: _, 0, _, h, e => by simp at e; subst e; exact ⟨f, rfl, h.1⟩
  | _ :: _, _ :: _, i + 1, _, h, e => by
    obtain ⟨f, e1, e2⟩ := h.2.get (i := i) (by simpa using e)
    exact ⟨f, by simpa using e1, e2⟩
  | [], _ :: _, _, _, h, _ => h.elim
  | _ :: _, [], _, _, h, _ => h.elim
theorem FrsAt.set {K : PySem.W.Frag} {H : Hp} {q : Addr} {g : Int × Int} (hq : SqT K H q [.int g.1, .int g.2]) : ∀ {ps : List Addr} {fs : List (Int × Int)} (i : Nat), FrsAt K H ps fs → FrsAt K H (ps.set i q) (fs.set i g)
  | [], [], _, _ => trivial
  | _ :: _, _ :: _, 0, h => ⟨hq, h.2⟩
  | _ :: _, _ :: _, i + 1, h => ⟨h.1, FrsAt.set hq i h.2⟩
  | [], _ :: _, _, h => h.elim
  | _ :: _, [], _, h => h.elim
theorem FrsAt.take {K : PySem.W.Frag} {H : Hp} : ∀ {ps : List Addr} {fs : List (Int × Int)} (i : Nat), FrsAt K H ps fs → FrsAt K H (ps.take i) (fs.take i)
  | [], [], i, _ => by simp [FrsAt]
  | _ :: _, _ :: _, 0, _ => trivial
  | _ :: _, _ :: _, i + 1, h => ⟨h.1, h.2.take i⟩
  | [], _ :: _, _, h => h.elim
  | _ :: _, [], _, h => h.elim
theorem FrsAt.drop {K : PySem.W.Frag} {H : Hp} : ∀ {ps : List Addr} {fs : List (Int × Int)} (i : Nat), FrsAt K H ps fs → FrsAt K H (ps.drop i) (fs.drop i)
  | [], [], i, _ => by simp [FrsAt]
  | _ :: _, _ :: _, 0, h => h
  | _ :: _, _ :: _, i + 1, h => h.2.drop i
  | [], _ :: _, _, h => h.elim
  | _ :: _, [], _, h => h.elim
theorem FrsAt.off {K : PySem.W.Frag} {H : Hp} {r : Addr} {ys zs : List V} (hr : H r = some (.lst ys)) : ∀ {ps : List Addr} {fs : List (Int × Int)}, FrsAt K H ps fs → FrsAt K (upd H r (.lst zs)) ps fs
  | [], [], _ => trivial
  | _ :: _, _ :: _, h => ⟨h.1.off hr, h.2.off hr⟩
  | [], _ :: _, h => h.elim
  | _ :: _, [], h => h.elim
theorem take_snoc {α : Type} {l : List α} {i : Nat} {x : α} (h : l[i]? = some x) : l.take (i + 1) = l.take i ++ [x] := by
  rw [List.take_succ, h]; rfl
theorem low_unique {x y p q : Int} (e : x * q = p * y) (h1 : Int.gcd x y = 1) (h2 : Int.gcd p q = 1) (hy : 0 < y) (hq : 0 < q) : x = p ∧ y = q := by
  have d1 : y ∣ q := Int.natAbs_dvd_natAbs.mp (Nat.Coprime.dvd_of_dvd_mul_left (m := x.natAbs) (Nat.Coprime.symm h1) (by rw [← Int.natAbs_mul]; exact Int.natAbs_dvd_natAbs.mpr ⟨p, by rw [e, Int.mul_comm]⟩))
  have d2 : q ∣ y := Int.natAbs_dvd_natAbs.mp (Nat.Coprime.dvd_of_dvd_mul_left (m := p.natAbs) (Nat.Coprime.symm h2) (by rw [← Int.natAbs_mul]; exact Int.natAbs_dvd_natAbs.mpr ⟨x, by rw [← e, Int.mul_comm]⟩))
  have e2 : y = q := Int.dvd_antisymm (by omega) (by omega) d1 d2
  refine ⟨?_, e2⟩
  rw [e2] at e
  exact Int.eq_of_mul_eq_mul_right (by omega) e
def Two (K : PySem.W.Frag) (H : Hp) (p q : Addr) (a b c d : Int) : Prop := SqT K H p [.int a, .int b] ∧ SqT K H q [.int c, .int d] ∧ BB 4000 a ∧ BB 4000 b ∧ BB 4000 c ∧ BB 4000 d ∧ 0 < b ∧ 0 < d
def tv (q : List Nat) : List V := q.map fun n : Nat => V.int (n : Int)
def tk (q : List Nat) : List Key := q.map fun n : Nat => (Sum.inl (n : Int) : Key)
theorem tv_tk (q : List Nat) : (tk q).map kV = tv q := by
  unfold tk tv
  rw [List.map_map]
  exact List.map_congr_left fun n _ => rfl
theorem tv_app (a b : List Nat) : tv (a ++ b) = tv a ++ tv b := List.map_append
theorem tv_len (q : List Nat) : (tv q).length = q.length := List.length_map _
theorem tv_get {q : List Nat} {i : Nat} {x : V} (h : (tv q)[i]? = some x) : ∃ n, q[i]? = some n ∧ x = .int (n : Nat) := by
  unfold tv at h
  rw [List.getElem?_map] at h
  cases e : q[i]? with
  | none => rw [e] at h; cases h
  | some n => rw [e] at h; exact ⟨n, rfl, (Option.some.inj h).symm⟩
theorem tv_at {q : List Nat} {i n : Nat} (h : q[i]? = some n) : (tv q)[i]? = some (.int (n : Nat)) := by
  unfold tv; rw [List.getElem?_map, h]; rfl
theorem tk_inj : ∀ {a b : List Nat}, tk a = tk b → a = b
  | [], [], _ => rfl
  | [], _ :: _, h => by simp [tk] at h
  | _ :: _, [], h => by simp [tk] at h
  | x :: a, y :: b, h => by
    simp only [tk, List.map_cons, List.cons.injEq, Sum.inl.injEq] at h
    have h1 : x = y := by have := h.1; omega
    rw [h1, tk_inj (a := a) (b := b) h.2]
def ordR : List Nat → List (List Nat)
  | [] => [[]]
  | s :: rs => (ordR rs).flatMap fun b => (List.range s).map fun c => b ++ [c]
def digs : List Nat → Nat → List Nat
  | [], _ => []
  | s :: rs, n => digs rs (n / s) ++ [n % s]
def prodR : List Nat → Nat
  | [] => 1
  | s :: rs => prodR rs * s
theorem range_mul (s : Nat) : ∀ m : Nat, List.range (m * s) = (List.range m).flatMap fun i => (List.range s).map fun c => i * s + c
  | 0 => by simp
  | m + 1 => by
    rw [Nat.succ_mul, List.range_add, List.range_succ, List.flatMap_append, range_mul s m]
    simp
theorem ordR_eq : ∀ rs : List Nat, (∀ s ∈ rs, 1 ≤ s) → ordR rs = (List.range (prodR rs)).map (digs rs)
  | [], _ => by simp [ordR, prodR, digs]
  | s :: rs, h => by
    have hs : 1 ≤ s := h s (List.mem_cons_self ..)
    have hr := ordR_eq rs fun t ht => h t (List.mem_cons_of_mem _ ht)
    show (ordR rs).flatMap _ = (List.range (prodR rs * s)).map (digs (s :: rs))
    rw [hr, range_mul, List.map_flatMap, List.flatMap_map]
    congr 1
    funext i
    rw [List.map_map]
    refine List.map_congr_left fun c hc => ?_
    have hc' : c < s := List.mem_range.mp hc
    show digs rs i ++ [c] = digs rs ((i * s + c) / s) ++ [(i * s + c) % s]
    rw [Nat.mul_comm i s, Nat.mul_add_div (by omega), Nat.div_eq_of_lt hc', Nat.mul_add_mod, Nat.mod_eq_of_lt hc', Nat.add_zero]
theorem ordR_length (rs : List Nat) (h : ∀ s ∈ rs, 1 ≤ s) : (ordR rs).length = prodR rs := by rw [ordR_eq rs h, List.length_map, List.length_range]
theorem prodR_le : ∀ rs : List Nat, (∀ s ∈ rs, s ≤ 6) → prodR rs ≤ 6 ^ rs.length
  | [], _ => Nat.le_refl _
  | s :: rs, h => by
    show prodR rs * s ≤ 6 ^ (rs.length + 1)
    rw [Nat.pow_succ]
    exact Nat.mul_le_mul (prodR_le rs fun t ht => h t (List.mem_cons_of_mem _ ht)) (h s (List.mem_cons_self ..))
theorem ordR_len_each : ∀ (rs : List Nat) (q : List Nat), q ∈ ordR rs → q.length = rs.length
  | [], q, h => by simp [ordR] at h; subst h; rfl
  | s :: rs, q, h => by
    simp only [ordR, List.mem_flatMap, List.mem_map] at h
    obtain ⟨b, hb, c, _, rfl⟩ := h
    simp [ordR_len_each rs b hb]
theorem ordR_nodup : ∀ rs : List Nat, (ordR rs).Nodup
  | [] => by simp [ordR]
  | s :: rs => by
    show List.Nodup ((ordR rs).flatMap _)
    unfold List.Nodup
    rw [List.pairwise_flatMap]
    refine ⟨fun b _ => ?_, (ordR_nodup rs).imp fun {a b} hab x hx y hy e => ?_⟩
    · rw [List.pairwise_map]
      exact List.nodup_range.imp fun {c d} hcd e => hcd (by simpa using e)
    · obtain ⟨c, _, rfl⟩ := List.mem_map.mp hx
      obtain ⟨d, _, rfl⟩ := List.mem_map.mp hy
      have := (List.append_inj' e rfl).1
      exact hab this
structure Sz (ns : List Nat) : Prop where
  len : ns.length ≤ 3
  ge : ∀ n ∈ ns, 1 ≤ n
  le : ∀ n ∈ ns, n ≤ 6
theorem Sz.rev {ns : List Nat} (h : Sz ns) : Sz ns.reverse := ⟨by rw [List.length_reverse]; exact h.len, fun n hn => h.ge n (List.mem_reverse.mp hn), fun n hn => h.le n (List.mem_reverse.mp hn)⟩
theorem Sz.take {ns : List Nat} (h : Sz ns) (i : Nat) : Sz (ns.take i) := ⟨by have := h.len; rw [List.length_take]; omega, fun n hn => h.ge n (List.mem_of_mem_take hn), fun n hn => h.le n (List.mem_of_mem_take hn)⟩
theorem Sz.many {ns : List Nat} (h : Sz ns) : prodR ns ≤ 216 := Nat.le_trans (prodR_le ns h.le) (Nat.le_trans (Nat.pow_le_pow_right (by decide) h.len) (by decide))
theorem Sz.ord {ns : List Nat} (h : Sz ns) : (ordR ns).length ≤ 216 := by rw [ordR_length ns h.ge]; exact h.many
def wo {α : Type} (h : Nat) (q : List α) : List α := q.take h ++ q.drop (h + 1)
theorem Sz.wo {ns : List Nat} (s : Sz ns) (h : Nat) : Sz (wo h ns) := by
  have hm : ∀ n ∈ My.wo h ns, n ∈ ns := fun n hn => by
    rcases List.mem_append.mp hn with z | z
    · exact List.mem_of_mem_take z
    · exact List.mem_of_mem_drop z
  refine ⟨?_, fun n hn => s.ge n (hm n hn), fun n hn => s.le n (hm n hn)⟩
  have := s.len
  unfold My.wo
  rw [List.length_append, List.length_take, List.length_drop]
  omega
theorem wo_tv (h : Nat) (q : List Nat) : wo h (tv q) = tv (wo h q) := by
  unfold wo tv
  rw [List.map_append, List.map_take, List.map_drop]
theorem wo_back {α : Type} {h : Nat} {q : List α} (hl : h < q.length) (x : α) : (wo h q).take h ++ x :: (wo h q).drop h = q.set h x := by
  have h1 : (q.take h).length = h := by rw [List.length_take]; omega
  unfold wo
  rw [List.take_append, List.drop_append, h1, Nat.sub_self, List.take_zero, List.drop_zero, List.append_nil, List.drop_eq_nil_of_le (by omega), List.nil_append, List.take_of_length_le (by omega), List.set_eq_take_append_cons_drop, if_pos hl]
def Ps (H : Hp) (xs : List V) (qs : List (List Nat)) : Prop := xs.length = qs.length ∧ ∀ (i : Nat) (q : List Nat), qs[i]? = some q → ∃ a : Addr, xs[i]? = some (V.ref a) ∧ H a = some (.tup (tv q))
def KeepT (H H' : Hp) : Prop := ∀ a xs, H a = some (.tup xs) → H' a = some (.tup xs)
theorem keepT_same {H H' : Hp} (s : Same H H') : KeepT H H' := fun a xs h => s a _ h
theorem keepT_lst {H : Hp} {l : Addr} {xs : List V} {o : HO} (h : H l = some (.lst xs)) : KeepT H (upd H l o) := fun a ys e => by
  rw [upd_ne (ne_of e h (by intro z; cases z))]; exact e
theorem KeepT.trans {H H' H'' : Hp} (a : KeepT H H') (b : KeepT H' H'') : KeepT H H'' := fun c xs h => b c xs (a c xs h)
theorem Ps.keep {H H' : Hp} {xs : List V} {qs : List (List Nat)} (p : Ps H xs qs) (k : KeepT H H') : Ps H' xs qs := ⟨p.1, fun i q e => let ⟨a, h1, h2⟩ := p.2 i q e; ⟨a, h1, k a _ h2⟩⟩
theorem Ps.same {H H' : Hp} {xs : List V} {qs : List (List Nat)} (p : Ps H xs qs) (s : Same H H') : Ps H' xs qs := p.keep (keepT_same s)
theorem Ps.nil {H : Hp} : Ps H [] [] := ⟨rfl, fun i q e => by simp at e⟩
theorem Ps.app {H : Hp} {xs ys : List V} {qs rs : List (List Nat)} (p : Ps H xs qs) (r : Ps H ys rs) : Ps H (xs ++ ys) (qs ++ rs) := by
  refine ⟨by rw [List.length_append, List.length_append, p.1, r.1], fun i q e => ?_⟩
  by_cases hi : i < qs.length
  · rw [List.getElem?_append_left hi] at e
    rw [List.getElem?_append_left (by rw [p.1]; exact hi)]
    exact p.2 i q e
  · rw [List.getElem?_append_right (by omega)] at e
    rw [List.getElem?_append_right (by rw [p.1]; omega), p.1]
    exact r.2 _ q e
theorem Ps.one {H : Hp} {a : Addr} {q : List Nat} (h : H a = some (.tup (tv q))) : Ps H [.ref a] [q] := by
  refine ⟨rfl, fun i q' e => ?_⟩
  cases i with
  | zero => simp at e; subst e; exact ⟨a, rfl, h⟩
  | succ i => simp at e
theorem Ps.get {H : Hp} {xs : List V} {qs : List (List Nat)} {i : Nat} {x : V} (p : Ps H xs qs) (h : xs[i]? = some x) : ∃ q a, qs[i]? = some q ∧ x = .ref a ∧ H a = some (.tup (tv q)) := by
  have hl : i < qs.length := by rw [← p.1]; exact (List.getElem?_eq_some_iff.mp h).1
  obtain ⟨a, e1, e2⟩ := p.2 i qs[i] (List.getElem?_eq_getElem hl)
  rw [h] at e1
  exact ⟨qs[i], a, List.getElem?_eq_getElem hl, Option.some.inj e1, e2⟩
theorem Ps.at {H : Hp} {xs : List V} {qs : List (List Nat)} {i : Nat} (p : Ps H xs qs) (h : i < qs.length) : ∃ q a, qs[i]? = some q ∧ xs[i]? = some (.ref a) ∧ H a = some (.tup (tv q)) := by
  obtain ⟨a, e1, e2⟩ := p.2 i qs[i] (List.getElem?_eq_getElem h)
  exact ⟨qs[i], a, List.getElem?_eq_getElem h, e1, e2⟩
theorem Ps.rev {H : Hp} {xs : List V} {qs : List (List Nat)} (p : Ps H xs qs) : Ps H xs.reverse qs.reverse := by
  refine ⟨by rw [List.length_reverse, List.length_reverse, p.1], fun i q e => ?_⟩
  have hi : i < qs.length := by have := (List.getElem?_eq_some_iff.mp e).1; rwa [List.length_reverse] at this
  rw [List.getElem?_reverse hi] at e
  rw [List.getElem?_reverse (by rw [p.1]; exact hi), p.1]
  exact p.2 _ q e
theorem small {n : Nat} (h : n ≤ 216) : n ≤ sizeLine := by rw [sizeLine_eq]; omega
theorem small' {n : Nat} (h : n ≤ 216) : n < sizeLine := by rw [sizeLine_eq]; omega
theorem drop_cons_of {α : Type} {l : List α} {i : Nat} {x : α} (h : l[i]? = some x) : l.drop i = x :: l.drop (i + 1) := by
  obtain ⟨hl, e⟩ := List.getElem?_eq_some_iff.mp h
  rw [List.drop_eq_getElem_cons hl, e]
theorem bb6 {n : Nat} (h : n ≤ 6) : BB 3 (n : Int) := by unfold BB; omega
theorem cut_to {xs : List V} {h : Nat} : cutV xs none (some (h : Int)) = xs.take h := by
  unfold cutV
  rw [HT.sIx_none, HT.sIx_nat, List.drop_zero, Nat.sub_zero]
  by_cases e : h ≤ xs.length
  · rw [Nat.min_eq_left e]
  · rw [Nat.min_eq_right (by omega), List.take_length, List.take_of_length_le (by omega)]
theorem cut_from {xs : List V} {h : Nat} : cutV xs (some (h : Int)) none = xs.drop h := by
  unfold cutV
  rw [HT.sIx_none, HT.sIx_nat]
  by_cases e : h ≤ xs.length
  · rw [Nat.min_eq_left e, List.take_of_length_le (by rw [List.length_drop]; omega)]
  · rw [Nat.min_eq_right (by omega), List.drop_eq_nil_of_le (Nat.le_refl _), List.drop_eq_nil_of_le (by omega)]; simp
theorem cut_len (xs : List V) (lo hi : Option Int) : (cutV xs lo hi).length ≤ xs.length := cutV_length xs lo hi
theorem nodup_take {α : Type} {l : List α} {i : Nat} {x : α} (h : l.Nodup) (e : l[i]? = some x) : x ∉ l.take i := by
  intro hm
  have h2 : (l.take (i + 1)).Nodup := (List.take_sublist (i + 1) l).nodup h
  have et : l.take (i + 1) = l.take i ++ [x] := by rw [List.take_add_one, e]; rfl
  rw [et, List.nodup_append] at h2
  exact h2.2.2 x hm x (List.mem_singleton_self x) rfl
def Cells (H : Hp) (kvs : List (List Key × V)) (cont : List Nat → List V) (q : List Nat) : Prop := ∃ l, valV kvs (tk q) = some (.ref l) ∧ H l = some (.lst (cont q))
theorem Cells.same {H H' : Hp} {kvs : List (List Key × V)} {cont : List Nat → List V} {q : List Nat} (c : Cells H kvs cont q) (s : Same H H') : Cells H' kvs cont q := let ⟨l, h1, h2⟩ := c; ⟨l, h1, s _ _ h2⟩
def FrT (H : Hp) (xs : List V) : Prop := ∀ v ∈ xs, ∃ a x y, v = .ref a ∧ H a = some (.tup [.int x, .int y])
theorem FrT.keep {H H' : Hp} {xs : List V} (f : FrT H xs) (k : KeepT H H') : FrT H' xs := fun v hv => let ⟨a, x, y, e, h⟩ := f v hv; ⟨a, x, y, e, k _ _ h⟩
theorem FrT.same {H H' : Hp} {xs : List V} (f : FrT H xs) (s : Same H H') : FrT H' xs := f.keep (keepT_same s)
theorem prodR_pos : ∀ rs : List Nat, (∀ s ∈ rs, 1 ≤ s) → 0 < prodR rs
  | [], _ => Nat.one_pos
  | s :: rs, h => Nat.mul_pos (prodR_pos rs fun t ht => h t (List.mem_cons_of_mem _ ht)) (h s (List.mem_cons_self ..))
theorem valV_mem {kvs : List (List Key × V)} {k : List Key} {v : V} (h : valV kvs k = some v) : ∃ p ∈ kvs, p.1 = k ∧ p.2 = v := by
  unfold valV at h
  obtain ⟨p, hp, e⟩ := Option.map_eq_some_iff.mp h
  exact ⟨p, List.mem_of_find?_eq_some hp, by have := List.find?_some hp; simpa using this, e⟩
theorem ordR_lt : ∀ (rs q : List Nat), q ∈ ordR rs → ∀ (i n c : Nat), rs.reverse[i]? = some n → q[i]? = some c → c < n
  | [], q, h => by intro i n c e; simp at e
  | s :: rs, q, h => by
    simp only [ordR, List.mem_flatMap, List.mem_map, List.mem_range] at h
    obtain ⟨b, hb, x, hx, rfl⟩ := h
    intro i n c e1 e2
    have hl := ordR_len_each rs b hb
    rw [List.reverse_cons] at e1
    by_cases hi : i < rs.length
    · rw [List.getElem?_append_left (by rw [List.length_reverse]; exact hi)] at e1
      rw [List.getElem?_append_left (by rw [hl]; exact hi)] at e2
      exact ordR_lt rs b hb i n c e1 e2
    · rw [List.getElem?_append_right (by rw [List.length_reverse]; omega), List.length_reverse] at e1
      rw [List.getElem?_append_right (by rw [hl]; omega), hl] at e2
      cases e3 : i - rs.length with
      | zero => rw [e3] at e1 e2; simp at e1 e2; omega
      | succ k => rw [e3] at e1; simp at e1
noncomputable def only (S : Addr → Prop) (H : Hp) : Hp := open Classical in fun b => if S b then H b else none
def Kc (H : Hp) (kvs : List (List Key × V)) (cont : List Nat → List V) (qs : List (List Nat)) : Prop := kvs.length = qs.length ∧ ∀ (i : Nat) (q : List Nat), qs[i]? = some q → ∃ l, kvs[i]? = some (tk q, V.ref l) ∧ H l = some (.lst (cont q))
theorem valV_at : ∀ {kvs : List (List Key × V)}, (kvs.map (·.1)).Nodup → ∀ (i : Nat) {k : List Key} {v : V}, kvs[i]? = some (k, v) → valV kvs k = some v
  | [], _, i, k, v, h => by simp at h
  | p :: kvs, nd, i, k, v, h => by
    rw [List.map_cons, List.nodup_cons] at nd
    cases i with
    | zero =>
      simp at h; subst h
      exact valV_pos rfl
    | succ i =>
      simp at h
      have hm : k ∈ kvs.map (·.1) := List.mem_map.mpr ⟨_, List.mem_of_getElem? h, rfl⟩
      rw [valV_neg (fun e => nd.1 (by rw [e]; exact hm))]
      exact valV_at nd.2 i h
theorem Kc.keys {H : Hp} {kvs : List (List Key × V)} {cont : List Nat → List V} {qs : List (List Nat)} (h : Kc H kvs cont qs) : kvs.map (·.1) = qs.map tk := by
  refine List.ext_getElem? fun i => ?_
  rw [List.getElem?_map, List.getElem?_map]
  cases e : qs[i]? with
  | none =>
    have : kvs[i]? = none := by
      rw [List.getElem?_eq_none_iff] at e ⊢
      rw [h.1]; exact e
    rw [this]; rfl
  | some q =>
    obtain ⟨l, e1, _⟩ := h.2 i q e
    rw [e1]; rfl
theorem Kc.cells {H : Hp} {kvs : List (List Key × V)} {cont : List Nat → List V} {qs : List (List Nat)} (h : Kc H kvs cont qs) (nd : qs.Nodup) : ∀ q ∈ qs, Cells H kvs cont q := by
  intro q hq
  obtain ⟨i, hi, e⟩ := List.getElem_of_mem hq
  obtain ⟨l, e1, e2⟩ := h.2 i q (by rw [List.getElem?_eq_getElem hi, e])
  refine ⟨l, valV_at ?_ i e1, e2⟩
  rw [h.keys]
  unfold List.Nodup
  rw [List.pairwise_map]
  exact nd.imp fun hab e => hab (tk_inj e)
theorem Kc.same {H H' : Hp} {kvs : List (List Key × V)} {cont : List Nat → List V} {qs : List (List Nat)} (h : Kc H kvs cont qs) (s : Same H H') : Kc H' kvs cont qs := ⟨h.1, fun i q e => let ⟨l, e1, e2⟩ := h.2 i q e; ⟨l, e1, s _ _ e2⟩⟩
theorem Kc.snoc {H : Hp} {kvs : List (List Key × V)} {cont : List Nat → List V} {qs : List (List Nat)} {b : List Nat} {l : Addr} {i : Nat} (h : Kc H kvs cont (qs.take i)) (hb : qs[i]? = some b) (hl : H l = some (.lst (cont b))) : Kc H (kvs ++ [(tk b, .ref l)]) cont (qs.take (i + 1)) := by
  rw [take_snoc hb]
  refine ⟨by rw [List.length_append, List.length_append, h.1]; rfl, fun j q e => ?_⟩
  by_cases hj : j < (qs.take i).length
  · rw [List.getElem?_append_left hj] at e
    rw [List.getElem?_append_left (by rw [h.1]; exact hj)]
    exact h.2 j q e
  · rw [List.getElem?_append_right (by omega)] at e
    rw [List.getElem?_append_right (by rw [h.1]; omega), h.1]
    cases z : j - (qs.take i).length with
    | zero => rw [z] at e; simp at e; subst e; exact ⟨l, rfl, hl⟩
    | succ n => rw [z] at e; simp at e
theorem Kc.new {H : Hp} {kvs : List (List Key × V)} {cont : List Nat → List V} {qs : List (List Nat)} {b : List Nat} {i : Nat} (h : Kc H kvs cont (qs.take i)) (nd : qs.Nodup) (hb : qs[i]? = some b) : valV kvs (tk b) = none := by
  cases e : valV kvs (tk b) with
  | none => rfl
  | some v =>
    obtain ⟨p, hp, e1, _⟩ := valV_mem e
    have hm : tk b ∈ kvs.map (·.1) := List.mem_map.mpr ⟨p, hp, e1⟩
    rw [h.keys] at hm
    obtain ⟨q, hq, eq⟩ := List.mem_map.mp hm
    rw [tk_inj eq] at hq
    exact absurd hq (nodup_take nd hb)
theorem Kc.off {H H' : Hp} {kvs : List (List Key × V)} {cont : List Nat → List V} {qs : List (List Nat)} (h : Kc H kvs cont qs) (k : ∀ b xs, H b = some (.lst xs) → H' b = some (.lst xs)) : Kc H' kvs cont qs := ⟨h.1, fun i q e => let ⟨l, e1, e2⟩ := h.2 i q e; ⟨l, e1, k _ _ e2⟩⟩
theorem Kc.cong {H : Hp} {kvs : List (List Key × V)} {cont cont' : List Nat → List V} {qs : List (List Nat)} (h : Kc H kvs cont qs) (k : ∀ q ∈ qs, cont' q = cont q) : Kc H kvs cont' qs := ⟨h.1, fun i q e => let ⟨l, e1, e2⟩ := h.2 i q e; ⟨l, e1, by rw [k q (List.mem_of_getElem? e)]; exact e2⟩⟩
def SEq (H : Hp) (P : Nat → St → Prop) : Nat → St → Hp → Prop := fun i σ H5 => H5 = H ∧ P i σ
def UF (H : Hp) (sc : Int) (xs : List V) (us : List Int) : Prop := xs.length = us.length ∧ ∀ (i : Nat) (u : Int), us[i]? = some u → ∃ a x y, xs[i]? = some (.ref a) ∧ H a = some (.tup [.int x, .int y]) ∧ Lo u sc x y ∧ BB 300 u
theorem UF.keep {H H' : Hp} {sc : Int} {xs : List V} {us : List Int} (f : UF H sc xs us) (k : KeepT H H') : UF H' sc xs us := ⟨f.1, fun i u e => let ⟨a, x, y, h1, h2, h3⟩ := f.2 i u e; ⟨a, x, y, h1, k _ _ h2, h3⟩⟩
theorem UF.same {H H' : Hp} {sc : Int} {xs : List V} {us : List Int} (f : UF H sc xs us) (s : Same H H') : UF H' sc xs us := f.keep (keepT_same s)
theorem UF.nil {H : Hp} {sc : Int} : UF H sc [] [] := ⟨rfl, fun i u e => by simp at e⟩
theorem UF.snoc {H : Hp} {sc : Int} {xs : List V} {us : List Int} {a : Addr} {u x y : Int} (f : UF H sc xs us) (h : H a = some (.tup [.int x, .int y])) (lo : Lo u sc x y) (b : BB 300 u) : UF H sc (xs ++ [.ref a]) (us ++ [u]) := by
  refine ⟨by rw [List.length_append, List.length_append, f.1]; rfl, fun i v e => ?_⟩
  by_cases hi : i < us.length
  · rw [List.getElem?_append_left hi] at e
    rw [List.getElem?_append_left (by rw [f.1]; exact hi)]
    exact f.2 i v e
  · rw [List.getElem?_append_right (by omega)] at e
    rw [List.getElem?_append_right (by rw [f.1]; omega), f.1]
    cases z : i - us.length with
    | zero => rw [z] at e; simp at e; subst e; exact ⟨a, x, y, rfl, h, lo, b⟩
    | succ n => rw [z] at e; simp at e
theorem UF.get {H : Hp} {sc : Int} {xs : List V} {us : List Int} {i : Nat} {v : V} (f : UF H sc xs us) (h : xs[i]? = some v) : ∃ u a x y, us[i]? = some u ∧ v = .ref a ∧ H a = some (.tup [.int x, .int y]) ∧ Lo u sc x y ∧ BB 300 u := by
  have hl : i < us.length := by rw [← f.1]; exact (List.getElem?_eq_some_iff.mp h).1
  obtain ⟨a, x, y, h1, h2, h3, h4⟩ := f.2 i us[i] (List.getElem?_eq_getElem hl)
  rw [h] at h1
  exact ⟨us[i], a, x, y, List.getElem?_eq_getElem hl, Option.some.inj h1, h2, h3, h4⟩
theorem lo_lt {u1 u2 sc x1 y1 x2 y2 : Int} (h1 : Lo u1 sc x1 y1) (h2 : Lo u2 sc x2 y2) (hs : 0 < sc) : x1 * y2 < x2 * y1 ↔ u1 < u2 := by
  have yy : 0 < y1 * y2 := Int.mul_pos h1.pos h2.pos
  have e1 : x1 * y2 * sc = u1 * (y1 * y2) := by
    have : x1 * y2 * sc = x1 * sc * y2 := by ac_rfl
    rw [this, h1.eq, Int.mul_assoc]
  have e2 : x2 * y1 * sc = u2 * (y1 * y2) := by
    have : x2 * y1 * sc = x2 * sc * y1 := by ac_rfl
    rw [this, h2.eq]; ac_rfl
  constructor
  · intro h
    have := Int.mul_lt_mul_of_pos_right h hs
    rw [e1, e2] at this
    exact Int.lt_of_mul_lt_mul_right this (by omega)
  · intro h
    have := Int.mul_lt_mul_of_pos_right h yy
    rw [← e1, ← e2] at this
    exact Int.lt_of_mul_lt_mul_right this (by omega)
theorem lo_eq {u1 u2 sc x1 y1 x2 y2 : Int} (h1 : Lo u1 sc x1 y1) (h2 : Lo u2 sc x2 y2) (hs : 0 < sc) : (x1 = x2 ∧ y1 = y2) ↔ u1 = u2 := by
  constructor
  · rintro ⟨rfl, rfl⟩
    have e := h1.eq.symm.trans h2.eq
    exact Int.eq_of_mul_eq_mul_right (Int.ne_of_gt h1.pos) e
  · rintro rfl
    refine low_unique ?_ h1.cop h2.cop h1.pos h2.pos
    apply Int.eq_of_mul_eq_mul_right (Int.ne_of_gt hs)
    have a1 : x1 * y2 * sc = x1 * sc * y2 := by ac_rfl
    have a2 : x2 * y1 * sc = x2 * sc * y1 := by ac_rfl
    rw [a1, a2, h1.eq, h2.eq]; ac_rfl
def FM (l : List Int) (m : Int) (j : Nat) : Prop := l[j]? = some m ∧ (∀ (k : Nat) v, l[k]? = some v → v ≤ m) ∧ ∀ k, k < j → l[k]? ≠ some m
theorem FM.uniq {l : List Int} {m m' : Int} {j j' : Nat} (h : FM l m j) (h' : FM l m' j') : m = m' ∧ j = j' := by
  have e : m = m' := by
    have a := h.2.1 j' m' h'.1
    have b := h'.2.1 j m h.1
    omega
  subst e
  refine ⟨rfl, ?_⟩
  rcases Nat.lt_trichotomy j j' with z | z | z
  · exact absurd h.1 (h'.2.2 j z)
  · exact z
  · exact absurd h'.1 (h.2.2 j' z)
def hereL (un : List Nat → List Int) (q : List Nat) (h n : Nat) : List Int := (List.range n).map fun c => (un (q.set h c)).getD h 0
theorem hereL_get {un : List Nat → List Int} {q : List Nat} {h n c : Nat} (hc : c < n) : (hereL un q h n)[c]? = some ((un (q.set h c)).getD h 0) := by
  unfold hereL; rw [List.getElem?_map, List.getElem?_range hc]; rfl
theorem hereL_len {un : List Nat → List Int} {q : List Nat} {h n : Nat} : (hereL un q h n).length = n := by unfold hereL; rw [List.length_map, List.length_range]
def NoOff (un : List Nat → List Int) (q ns : List Nat) (i : Nat) : Prop := ∀ h n, h < i → ns[h]? = some n → ∀ m j, FM (hereL un q h n) m j → ¬ (un q).getD h 0 < m
def Off (un : List Nat → List Int) (q ns : List Nat) : Option (Nat × Nat) → Prop
  | none => NoOff un q ns ns.length
  | some (h, c) => ∃ n m, ns[h]? = some n ∧ FM (hereL un q h n) m c ∧ (un q).getD h 0 < m ∧ NoOff un q ns h
theorem NoOff.succ {un : List Nat → List Int} {q ns : List Nat} {i n : Nat} {m : Int} {j : Nat} (h : NoOff un q ns i) (hn : ns[i]? = some n) (fm : FM (hereL un q i n) m j) (hm : ¬ (un q).getD i 0 < m) : NoOff un q ns (i + 1) := by
  intro h' n' hl e m' j' fm'
  by_cases z : h' < i
  · exact h h' n' z e m' j' fm'
  · have : h' = i := by omega
    subst this
    rw [hn] at e
    obtain rfl := Option.some.inj e
    obtain ⟨rfl, _⟩ := fm.uniq fm'
    exact hm
theorem Off.uniq {un : List Nat → List Int} {q ns : List Nat} : ∀ {o o' : Option (Nat × Nat)}, Off un q ns o → Off un q ns o' → o = o'
  | none, none, _, _ => rfl
  | none, some (h, c), a, ⟨n, m, e1, e2, e3, _⟩ => absurd e3 (a h n (List.getElem?_eq_some_iff.mp e1).1 e1 m c e2)
  | some (h, c), none, ⟨n, m, e1, e2, e3, _⟩, a => absurd e3 (a h n (List.getElem?_eq_some_iff.mp e1).1 e1 m c e2)
  | some (h, c), some (h', c'), ⟨n, m, e1, e2, e3, e4⟩, ⟨n', m', f1, f2, f3, f4⟩ => by
    rcases Nat.lt_trichotomy h h' with z | z | z
    · exact absurd e3 (f4 h n z e1 m c e2)
    · subst z
      rw [e1] at f1
      obtain rfl := Option.some.inj f1
      obtain ⟨_, rfl⟩ := e2.uniq f2
      rfl
    · exact absurd f3 (e4 h' n' z f1 m' c' f2)
def OffV (H : Hp) (v : V) : Option (Nat × Nat) → Prop
  | none => v = .non
  | some (h, c) => ∃ a, v = .ref a ∧ H a = some (.tup [.int (h : Nat), .int (c : Nat)])
theorem OffV.same {H H' : Hp} {v : V} {o : Option (Nat × Nat)} (h : OffV H v o) (s : Same H H') : OffV H' v o := by
  cases o with
  | none => exact h
  | some p => obtain ⟨a, e1, e2⟩ := h; exact ⟨a, e1, s _ _ e2⟩
theorem mem_ordR : ∀ (rs q : List Nat), q.length = rs.length → (∀ (i n c : Nat), rs.reverse[i]? = some n → q[i]? = some c → c < n) → q ∈ ordR rs
  | [], q, hl, _ => by
    have : q = [] := List.eq_nil_of_length_eq_zero hl
    subst this; simp [ordR]
  | s :: rs, q, hl, h => by
    rw [List.length_cons] at hl
    have hlt : rs.length < q.length := by omega
    have hq : q[rs.length]? = some q[rs.length] := List.getElem?_eq_getElem hlt
    have e : q = q.take rs.length ++ [q[rs.length]] := by
      have := take_snoc hq
      rw [List.take_of_length_le (by omega)] at this
      exact this
    have hb : q.take rs.length ∈ ordR rs := by
      refine mem_ordR rs _ (by rw [List.length_take]; omega) fun i n c e1 e2 => ?_
      have hi : i < rs.length := by have := (List.getElem?_eq_some_iff.mp e1).1; rwa [List.length_reverse] at this
      refine h i n c ?_ ?_
      · rw [List.reverse_cons, List.getElem?_append_left (by rw [List.length_reverse]; exact hi)]; exact e1
      · rw [List.getElem?_take_of_lt hi] at e2; exact e2
    have hc : q[rs.length] < s := by
      refine h rs.length s _ ?_ hq
      rw [List.reverse_cons, List.getElem?_append_right (by rw [List.length_reverse]; omega), List.length_reverse, Nat.sub_self]; rfl
    simp only [ordR, List.mem_flatMap, List.mem_map, List.mem_range]
    exact ⟨_, hb, _, hc, e.symm⟩
theorem ordR_set {ns q : List Nat} {i n c : Nat} (hq : q ∈ ordR ns.reverse) (hn : ns[i]? = some n) (hc : c < n) : q.set i c ∈ ordR ns.reverse := by
  refine mem_ordR _ _ (by rw [List.length_set]; exact ordR_len_each _ q hq) fun j n' c' e1 e2 => ?_
  rw [List.reverse_reverse] at e1
  by_cases hj : j = i
  · subst hj
    rw [hn] at e1
    obtain rfl := Option.some.inj e1
    have hl : j < q.length := by
      have := (List.getElem?_eq_some_iff.mp e2).1
      rwa [List.length_set] at this
    rw [List.getElem?_set_self hl] at e2
    obtain rfl := Option.some.inj e2
    exact hc
  · rw [List.getElem?_set_ne (by omega)] at e2
    exact ordR_lt _ q hq j n' c' (by rw [List.reverse_reverse]; exact e1) e2
theorem set_parts {q : List Nat} {i c : Nat} (h : i < q.length) : (tv q).take i ++ [V.int (c : Nat)] ++ (tv q).drop (i + 1) = tv (q.set i c) := by
  unfold tv
  rw [List.map_set, List.set_eq_take_append_cons_drop, if_pos (by rw [List.length_map]; exact h), List.append_assoc]; rfl
def bd (ns : List Nat) (zs : List Int) (i : Nat) : Bool := decide (zs.getD i 0 < 0) || decide ((ns.getD i 0 : Int) ≤ zs.getD i 0)
def bads (ns : List Nat) (zs : List Int) : Nat → List Nat
  | 0 => []
  | i + 1 => bads ns zs i ++ (if bd ns zs i = true then [i] else [])
theorem bads_lt {ns : List Nat} {zs : List Int} : ∀ {n i : Nat}, i ∈ bads ns zs n → i < n ∧ bd ns zs i = true
  | 0, i, h => nomatch h
  | n + 1, i, h => by
    rcases List.mem_append.mp h with q | q
    · have := bads_lt q; exact ⟨by omega, this.2⟩
    · by_cases e : bd ns zs n = true
      · rw [if_pos e] at q
        rw [List.mem_singleton.mp q]; exact ⟨by omega, e⟩
      · rw [if_neg e] at q; exact nomatch q
theorem bads_nil {ns : List Nat} {zs : List Int} : ∀ {n : Nat}, bads ns zs n = [] → ∀ i, i < n → bd ns zs i = false
  | 0, _, i, h => absurd h (Nat.not_lt_zero _)
  | n + 1, e, i, h => by
    have e1 := (List.append_eq_nil_iff.mp e).1
    have e2 := (List.append_eq_nil_iff.mp e).2
    by_cases q : i = n
    · subst q
      by_cases z : bd ns zs i = true
      · rw [if_pos z] at e2; cases e2
      · exact Bool.eq_false_iff.mpr z
    · exact bads_nil e1 i (by omega)
theorem bads_head {ns : List Nat} {zs : List Int} {b : Nat} {r : List Nat} : ∀ {n : Nat}, bads ns zs n = b :: r → ∀ i, i < b → bd ns zs i = false
  | 0, e, i, h => nomatch e
  | n + 1, e, i, h => by
    have e' : bads ns zs n ++ (if bd ns zs n = true then [n] else []) = b :: r := e
    cases q : bads ns zs n with
    | nil =>
      rw [q, List.nil_append] at e'
      by_cases z : bd ns zs n = true
      · rw [if_pos z] at e'
        injection e' with e1
        exact bads_nil q i (by omega)
      · rw [if_neg z] at e'; cases e'
    | cons b' r' =>
      rw [q] at e'
      injection e' with e1
      subst e1
      exact bads_head q i h
theorem bd_nat {ns : List Nat} {zs : List Int} (hl : zs.length = ns.length) (g : ∀ i, i < ns.length → bd ns zs i = false) : zs = (zs.map Int.toNat).map (fun n : Nat => (n : Int)) ∧ zs.map Int.toNat ∈ ordR ns.reverse := by
  have key : ∀ i (h : i < zs.length), 0 ≤ zs[i] ∧ zs[i] < (ns.getD i 0 : Int) := fun i h => by
    have z := g i (by omega)
    unfold bd at z
    rw [List.getD_eq_getElem?_getD, List.getElem?_eq_getElem h, Option.getD_some] at z
    rw [Bool.or_eq_false_iff, decide_eq_false_iff_not, decide_eq_false_iff_not] at z
    omega
  refine ⟨?_, mem_ordR _ _ (by rw [List.length_map, List.length_reverse]; exact hl) fun i n c e1 e2 => ?_⟩
  · rw [List.map_map]
    refine (List.ext_getElem (by rw [List.length_map]) fun i h1 h2 => ?_)
    rw [List.getElem_map]
    show _ = (((zs[i]).toNat : Nat) : Int)
    rw [Int.toNat_of_nonneg (key i h1).1]
  · rw [List.reverse_reverse] at e1
    rw [List.getElem?_map] at e2
    cases q : zs[i]? with
    | none => rw [q] at e2; cases e2
    | some z =>
      rw [q] at e2
      obtain ⟨hi, ez⟩ := List.getElem?_eq_some_iff.mp q
      have k := key i hi
      rw [List.getD_eq_getElem?_getD, e1, Option.getD_some] at k
      have : z.toNat = c := Option.some.inj e2
      rw [ez] at k
      omega
theorem ints_at {zs : List Int} {i : Nat} (h : i < zs.length) : atI (List.map V.int zs) (i : Int) = some (.int (zs.getD i 0)) := by
  refine atI_nat ?_
  rw [List.getElem?_map, List.getElem?_eq_getElem h, List.getD_eq_getElem?_getD, List.getElem?_eq_getElem h]
  rfl
theorem tv_atD {ns : List Nat} {i : Nat} (h : i < ns.length) : atI (tv ns) (i : Int) = some (.int (ns.getD i 0 : Nat)) := by
  refine atI_nat (tv_at ?_)
  rw [List.getElem?_eq_getElem h, List.getD_eq_getElem?_getD, List.getElem?_eq_getElem h]
  rfl
theorem tv_iv (q : List Nat) : tv q = List.map V.int (q.map fun n : Nat => (n : Int)) := by
  unfold tv
  rw [List.map_map]
  rfl
def noC (dx : Addr) (h c : Int) : HO := dctX dx [("choice", .int c), ("hand", .int h)]
theorem cutE (ns : List Int) (lo hi : Option Int) : ∃ es : List Int, cutV (List.map V.int ns) lo hi = List.map V.int es ∧ es.length ≤ ns.length := by
  refine ⟨(ns.drop (HT.sIx (List.map V.int ns).length 0 lo)).take (HT.sIx (List.map V.int ns).length (List.map V.int ns).length hi - HT.sIx (List.map V.int ns).length 0 lo), ?_, ?_⟩
  · unfold cutV
    rw [List.map_take, List.map_drop]
  · rw [List.length_take, List.length_drop]; omega
theorem get_int {es : List Int} {i : Nat} {x : V} (h : (List.map V.int es)[i]? = some x) : ∃ z, x = .int z := by
  rw [List.getElem?_map] at h
  cases q : es[i]? with
  | none => rw [q] at h; cases h
  | some z => rw [q] at h; exact ⟨z, (Option.some.inj h).symm⟩
theorem bd_of {ns q : List Nat} (hq : q ∈ ordR ns.reverse) : (q.map fun n : Nat => (n : Int)).length = ns.length ∧ (∀ i, i < ns.length → bd ns (q.map fun n : Nat => (n : Int)) i = false) ∧ (q.map fun n : Nat => (n : Int)).map Int.toNat = q := by
  have hql : q.length = ns.length := by rw [ordR_len_each _ q hq, List.length_reverse]
  refine ⟨by rw [List.length_map]; exact hql, fun i hi => ?_, ?_⟩
  · have h1 : q[i]? = some (q[i]'(by omega)) := List.getElem?_eq_getElem (by omega)
    have h2 : ns[i]? = some ns[i] := List.getElem?_eq_getElem hi
    have := ordR_lt _ q hq i _ _ (by rw [List.reverse_reverse]; exact h2) h1
    unfold bd
    rw [List.getD_eq_getElem?_getD, List.getElem?_map, h1, List.getD_eq_getElem?_getD, h2, Option.map_some, Option.getD_some, Option.getD_some, decide_eq_false (by omega), decide_eq_false (by omega)]
    rfl
  · rw [List.map_map]
    exact (List.map_congr_left fun n _ => Int.toNat_natCast n).trans (List.map_id _)

def N_l_cell_at : List PySem.Str := ["_law_script", "_law_k"]
def sp_l_cell_at (K : PySem.W.Frag) : Sp := fun vs H Q _ => ∃ a ns k, vs = [.ref a, .int k] ∧ SqL K H a (List.map V.int ns) ∧ 0 ≤ k ∧ Q (.int (ns.getD k.toNat 0)) H
def t_l_cell_at (K : PySem.W.Frag) : TS := (tSeq (tIfS (tTest (tOp rLtI (tVar 1) (tCB (cLen K) (tCons (tVar 0) tNil)))) (tRet (tOp (rIxL K) (tVar 0) (tVar 1))) tNext) (tRet (tC (.int 0))))
theorem len_l_cell_at {K vs H Q E} (h : sp_l_cell_at K vs H Q E) : vs.length = 2 := by obtain ⟨a, ns, b, rfl, _⟩ := h; rfl
theorem rd_l_cell_at {K vs H Q E} (h : sp_l_cell_at K vs H Q E) : t_l_cell_at K { nx := fun _ H' => Q .non H', rt := Q } (start N_l_cell_at vs) H := by
  obtain ⟨a, ns, k, rfl, hS, hk, q⟩ := h
  rw [show start N_l_cell_at [V.ref a, V.int k] = [some (.ref a), some (.int k)] from rfl]
  simp only [t_l_cell_at, tSeq, tAsg, gName, tVar, tC, tOp, tUn, rI0, rI, rU, rAddI, rSubI, rMulI, rDivI, rDivC, rModI, rPowI, rNegI, rLtI, rLeI, rGtI, rGeI, rEq, rNe, scal, tRet, tIfS, tTest, tB, tNot, tNext, tCall, tCons, tNil, tTup, tLst, tCB, cAbs, cLen, cIsB, tSl, tPart, tNoPart, rSlL, rIxL, rIxT, tAndV, tOrV, tAnd, tOr, tNotV, tPar, tNever, gTup, gCons, gNil, List.getElem?_cons_zero, List.getElem?_cons_succ, List.set_cons_zero, List.set_cons_succ, Option.some.injEq, exists_eq_left', exists_eq_left, V.int.injEq, V.ref.injEq, V.bl.injEq, V.ty.injEq, List.cons.injEq, and_true, true_and, List.append_nil, exists_and_left, decide_eq_true_eq, List.cons_append, List.nil_append, and_assoc]
  refine ⟨_, .inl hS, ite2 (fun hl => ?_) (fun hl => ?_)⟩
  · rw [List.length_map] at hl
    exact ⟨_, hS, _, atI_map hk hl, q⟩
  · rw [List.length_map] at hl
    rw [List.getD_eq_getElem?_getD, List.getElem?_eq_none (by omega)] at q
    exact q
def N_l_sizes : List PySem.Str := ["_law_script", "_law_sizes_here", "_law_k"]
def sp_l_sizes (K : PySem.W.Frag) : Sp := fun vs H Q _ => ∃ a ns, vs = [.ref a] ∧ SqL K H a (List.map V.int ns) ∧ ∀ l ms H', Same H H' → H l = none → H' l = some (.lst (tv ms)) → Sz ms → 2 ≤ ms.length → Q (.ref l) H'
def iv_l_sizes (a : Addr) (H : Hp) : Nat → St → Hp → Prop := fun i σ H3 => ∃ l ms o, σ = [some (.ref a), some (.ref l), o] ∧ Same H H3 ∧ H l = none ∧ H3 l = some (.lst (tv ms)) ∧ ms.length = i ∧ (∀ n ∈ ms, 1 ≤ n) ∧ (∀ n ∈ ms, n ≤ 6)
def t_l_sizes_b1 (K : PySem.W.Frag) : TS := (tDrop (tBM K "list" rAppend (tVar 1) (tCons (tOp rAddI (tC (.int 1)) (tOp rModI (tCall (sp_l_cell_at K) [] E0 (tCons (tVar 0) (tCons (tOp rAddI (tC (.int 1)) (tVar 2)) tNil))) (tC (.int 6)))) tNil)))
def t_l_sizes (K : PySem.W.Frag) : TS := (tSeq (tAsg (tLst tNil) (gName 1)) (tSeq (tFor (iRng1 (tCons (tOp rAddI (tC (.int 2)) (tOp rModI (tCall (sp_l_cell_at K) [] E0 (tCons (tVar 0) (tCons (tC (.int 0)) tNil))) (tC (.int 2)))) tNil)) (gName 2) (t_l_sizes_b1 K)) (tRet (tVar 1))))
theorem len_l_sizes {K vs H Q E} (h : sp_l_sizes K vs H Q E) : vs.length = 1 := by obtain ⟨l, ns, rfl, _⟩ := h; rfl
theorem rd_l_sizes {K vs H Q E} (h : sp_l_sizes K vs H Q E) : t_l_sizes K { nx := fun _ H' => Q .non H', rt := Q } (start N_l_sizes vs) H := by
  obtain ⟨a, ns, rfl, hS, q⟩ := h
  rw [show start N_l_sizes [V.ref a] = [some (.ref a), none, none] from rfl]
  simp only [t_l_sizes, tFor, iRng1, tSeq, tAsg, gName, tVar, tC, tOp, tUn, rI0, rI, rU, rAddI, rSubI, rMulI, rDivI, rDivC, rModI, rPowI, rNegI, rLtI, rLeI, rGtI, rGeI, rEq, rNe, scal, tRet, tIfS, tTest, tB, tNot, tNext, tCall, tCons, tNil, tTup, tLst, tCB, cAbs, cLen, cIsB, tSl, tPart, tNoPart, rSlL, rIxL, rIxT, tAndV, tOrV, tAnd, tOr, tNotV, tPar, tNever, gTup, gCons, gNil, List.getElem?_cons_zero, List.getElem?_cons_succ, List.set_cons_zero, List.set_cons_succ, Option.some.injEq, exists_eq_left', exists_eq_left, V.int.injEq, V.ref.injEq, V.bl.injEq, V.ty.injEq, List.cons.injEq, and_true, true_and, List.append_nil, exists_and_left, decide_eq_true_eq, List.cons_append, List.nil_append, and_assoc]
  refine ⟨by show 0 ≤ sizeLine; exact Nat.zero_le _, fun l hl => ?_⟩
  have s1 : Same H (upd H l (.lst [])) := Same.upd hl
  refine ⟨a, ns, 0, rfl, s1.seq hS, Int.le_refl _, _, rfl, ⟨by decide, ?_⟩⟩
  have e1 := Int.emod_nonneg (ns.getD (0 : Int).toNat 0) (show (2 : Int) ≠ 0 by decide)
  have e2 := Int.emod_lt_of_pos (ns.getD (0 : Int).toNat 0) (show (0 : Int) < 2 by decide)
  refine ⟨by omega, by omega, for_range (lo := 0) (g := gName 2) (D := { nx := tRet (tVar 1) { nx := fun _ H' => Q .non H', rt := Q }, rt := Q }) (iv_l_sizes a H) ?_ ?_ ?_⟩
  · exact ⟨l, [], none, rfl, s1, hl, upd_same, rfl, fun n h => (nomatch h), fun n h => (nomatch h)⟩
  · rintro i σ H3 hi ⟨l, ms, o, rfl, s3, hl, hL, hm, g1, g2⟩
    simp only [t_l_sizes_b1, tDrop, tBM, Int.zero_add, tSeq, tAsg, gName, tVar, tC, tOp, tUn, rI0, rI, rU, rAddI, rSubI, rMulI, rDivI, rDivC, rModI, rPowI, rNegI, rLtI, rLeI, rGtI, rGeI, rEq, rNe, scal, tRet, tIfS, tTest, tB, tNot, tNext, tCall, tCons, tNil, tTup, tLst, tCB, cAbs, cLen, cIsB, tSl, tPart, tNoPart, rSlL, rIxL, rIxT, tAndV, tOrV, tAnd, tOr, tNotV, tPar, tNever, gTup, gCons, gNil, List.getElem?_cons_zero, List.getElem?_cons_succ, List.set_cons_zero, List.set_cons_succ, Option.some.injEq, exists_eq_left', exists_eq_left, V.int.injEq, V.ref.injEq, V.bl.injEq, V.ty.injEq, List.cons.injEq, and_true, true_and, List.append_nil, exists_and_left, decide_eq_true_eq, List.cons_append, List.nil_append, and_assoc]
    refine ⟨.inl ⟨rfl, _, SqL.of hL⟩, a, ns, 1 + (i : Int), rfl, s3.seq hS, by omega, ?_⟩
    generalize ns.getD (1 + (i : Int)).toNat 0 = z
    have e3 := Int.emod_nonneg z (show (6 : Int) ≠ 0 by decide)
    have e4 := Int.emod_lt_of_pos z (show (0 : Int) < 6 by decide)
    refine ⟨_, rfl, by decide, l, _, _, rfl, rfl, hL, ?_, ?_⟩
    · rw [tv_len]
      exact small' (by omega)
    · refine ⟨l, ms ++ [(1 + z % 6).toNat], _, rfl, s3.put hl, hl, ?_, by rw [List.length_append, hm]; rfl, ?_, ?_⟩
      · rw [upd_same, tv_app]
        show some (HO.lst (tv ms ++ [V.int (1 + z % 6)])) = some (HO.lst (tv ms ++ [V.int ((1 + z % 6).toNat : Int)]))
        rw [Int.toNat_of_nonneg (by omega)]
      · intro n hn
        rcases List.mem_append.mp hn with h | h
        · exact g1 n h
        · rw [List.mem_singleton.mp h]; omega
      · intro n hn
        rcases List.mem_append.mp hn with h | h
        · exact g2 n h
        · rw [List.mem_singleton.mp h]; omega
  · rintro σ H3 ⟨l, ms, o, rfl, s3, hl, hL, hm, g1, g2⟩
    simp only [tSeq, tAsg, gName, tVar, tC, tOp, tUn, rI0, rI, rU, rAddI, rSubI, rMulI, rDivI, rDivC, rModI, rPowI, rNegI, rLtI, rLeI, rGtI, rGeI, rEq, rNe, scal, tRet, tIfS, tTest, tB, tNot, tNext, tCall, tCons, tNil, tTup, tLst, tCB, cAbs, cLen, cIsB, tSl, tPart, tNoPart, rSlL, rIxL, rIxT, tAndV, tOrV, tAnd, tOr, tNotV, tPar, tNever, gTup, gCons, gNil, List.getElem?_cons_zero, List.getElem?_cons_succ, List.set_cons_zero, List.set_cons_succ, Option.some.injEq, exists_eq_left', exists_eq_left, V.int.injEq, V.ref.injEq, V.bl.injEq, V.ty.injEq, List.cons.injEq, and_true, true_and, List.append_nil, exists_and_left, decide_eq_true_eq, List.cons_append, List.nil_append, and_assoc]
    exact q l ms H3 s3 hl hL ⟨by omega, g1, g2⟩ (by omega)
def N_l_play : List PySem.Str := ["_law_sizes_here", "_law_number", "_law_found", "_law_size"]
def sp_l_play (K : PySem.W.Frag) : Sp := fun vs H Q _ => ∃ l ns k, vs = [.ref l, .int (k : Nat)] ∧ SqL K H l (tv ns) ∧ Sz ns ∧ ∀ p H', Same H H' → H' p = some (.tup (tv (digs ns.reverse k))) → Q (.ref p) H'
def iv_l_play (l : Addr) (H : Hp) (ns : List Nat) (k : Nat) : Nat → St → Hp → Prop := fun i σ H3 => ∃ n a x o, σ = [some (.ref l), some (.int (n : Nat)), some (.ref a), o] ∧ Same H H3 ∧ H3 a = some (.tup (tv x)) ∧ x.length = i ∧ digs (ns.reverse.drop i) n ++ x = digs ns.reverse k
def t_l_play_b1 (K : PySem.W.Frag) : TS := (tSeq (tAsg (tOp rCatA (tTup (tCons (tOp rModI (tVar 1) (tVar 3)) tNil)) (tVar 2)) (gName 2)) (tAsg (tOp rDivI (tVar 1) (tVar 3)) (gName 1)))
def t_l_play (K : PySem.W.Frag) : TS := (tSeq (tAsg (tTup tNil) (gName 2)) (tSeq (tFor (iRev K (tVar 0)) (gName 3) (t_l_play_b1 K)) (tRet (tVar 2))))
theorem len_l_play {K vs H Q E} (h : sp_l_play K vs H Q E) : vs.length = 2 := by obtain ⟨l, ns, k, rfl, _⟩ := h; rfl
theorem rd_l_play {K vs H Q E} (h : sp_l_play K vs H Q E) : t_l_play K { nx := fun _ H' => Q .non H', rt := Q } (start N_l_play vs) H := by
  obtain ⟨l, ns, k, rfl, hS, sz, q⟩ := h
  rw [show start N_l_play [V.ref l, V.int k] = [some (.ref l), some (.int k), none, none] from rfl]
  simp only [t_l_play, tFor, iRev, tSeq, tAsg, gName, tVar, tC, tOp, tUn, rI0, rI, rU, rAddI, rSubI, rMulI, rDivI, rDivC, rModI, rPowI, rNegI, rLtI, rLeI, rGtI, rGeI, rEq, rNe, scal, tRet, tIfS, tTest, tB, tNot, tNext, tCall, tCons, tNil, tTup, tLst, tCB, cAbs, cLen, cIsB, tSl, tPart, tNoPart, rSlL, rIxL, rIxT, tAndV, tOrV, tAnd, tOr, tNotV, tPar, tNever, gTup, gCons, gNil, List.getElem?_cons_zero, List.getElem?_cons_succ, List.set_cons_zero, List.set_cons_succ, Option.some.injEq, exists_eq_left', exists_eq_left, V.int.injEq, V.ref.injEq, V.bl.injEq, V.ty.injEq, List.cons.injEq, and_true, true_and, List.append_nil, exists_and_left, decide_eq_true_eq, List.cons_append, List.nil_append, and_assoc]
  refine ⟨by show 0 ≤ sizeLine; exact Nat.zero_le _, fun a ha => ?_⟩
  have s1 : Same H (upd H a (.tup [])) := Same.upd ha
  refine ⟨_, s1.seq hS, for_rev (K := K) (a := l) (xs := tv ns) (g := gName 3) (D := { nx := tRet (tVar 2) { nx := fun _ H' => Q .non H', rt := Q }, rt := Q }) (iv_l_play l H ns k) ?_ ?_ ?_ ?_⟩
  · exact ⟨k, a, [], none, rfl, s1, upd_same, rfl, by simp⟩
  · rintro i σ H3 _ ⟨_, _, _, _, _, s3, _⟩
    exact s3.seq hS
  · rintro i x σ H3 hil hi ⟨n, a, x, o, rfl, s3, hA, hx, e⟩
    obtain ⟨m, hm, rfl⟩ := tv_get hi
    rw [tv_len] at hm hil
    have m1 := sz.ge m (List.mem_of_getElem? hm)
    have m6 := sz.le m (List.mem_of_getElem? hm)
    have h3 := sz.len
    simp only [t_l_play_b1, rCatA, tSeq, tAsg, gName, tVar, tC, tOp, tUn, rI0, rI, rU, rAddI, rSubI, rMulI, rDivI, rDivC, rModI, rPowI, rNegI, rLtI, rLeI, rGtI, rGeI, rEq, rNe, scal, tRet, tIfS, tTest, tB, tNot, tNext, tCall, tCons, tNil, tTup, tLst, tCB, cAbs, cLen, cIsB, tSl, tPart, tNoPart, rSlL, rIxL, rIxT, tAndV, tOrV, tAnd, tOr, tNotV, tPar, tNever, gTup, gCons, gNil, List.getElem?_cons_zero, List.getElem?_cons_succ, List.set_cons_zero, List.set_cons_succ, Option.some.injEq, exists_eq_left', exists_eq_left, V.int.injEq, V.ref.injEq, V.bl.injEq, V.ty.injEq, List.cons.injEq, and_true, true_and, List.append_nil, exists_and_left, decide_eq_true_eq, List.cons_append, List.nil_append, and_assoc]
    refine ⟨by omega, by show 1 ≤ sizeLine; decide, fun p hp => ⟨_, upd_same, _, (Same.upd hp) _ _ hA, ?_, fun p1 H4 s4 h4 => ⟨⟨by omega, (bb6 m6).mono (by decide)⟩, ?_⟩⟩⟩
    · rw [tv_len]
      exact small (by show 1 + _ ≤ _; omega)
    · refine ⟨n / m, p1, (n % m) :: x, some (.int m), ?_, s3.trans ((Same.upd hp).trans s4), ?_, by rw [List.length_cons, hx], ?_⟩
      · rw [Int.fdiv_eq_ediv_of_nonneg _ (by omega)]
        rfl
      · rw [h4]
        rfl
      · rw [drop_cons_of (l := ns.reverse) (i := i) (x := m) (by rw [List.getElem?_reverse hil]; exact hm)] at e
        rw [← e]
        show _ = (digs (ns.reverse.drop (i + 1)) (n / m) ++ [n % m]) ++ x
        rw [List.append_assoc]
        rfl
  · rintro σ H3 ⟨n, a, x, o, rfl, s3, hA, hx, e⟩
    simp only [tSeq, tAsg, gName, tVar, tC, tOp, tUn, rI0, rI, rU, rAddI, rSubI, rMulI, rDivI, rDivC, rModI, rPowI, rNegI, rLtI, rLeI, rGtI, rGeI, rEq, rNe, scal, tRet, tIfS, tTest, tB, tNot, tNext, tCall, tCons, tNil, tTup, tLst, tCB, cAbs, cLen, cIsB, tSl, tPart, tNoPart, rSlL, rIxL, rIxT, tAndV, tOrV, tAnd, tOr, tNotV, tPar, tNever, gTup, gCons, gNil, List.getElem?_cons_zero, List.getElem?_cons_succ, List.set_cons_zero, List.set_cons_succ, Option.some.injEq, exists_eq_left', exists_eq_left, V.int.injEq, V.ref.injEq, V.bl.injEq, V.ty.injEq, List.cons.injEq, and_true, true_and, List.append_nil, exists_and_left, decide_eq_true_eq, List.cons_append, List.nil_append, and_assoc]
    rw [tv_len, List.drop_eq_nil_of_le (by rw [List.length_reverse]; exact Nat.le_refl _)] at e
    exact q a H3 s3 (by rw [hA, ← e]; rfl)
def N_l_order : List PySem.Str := ["_law_sizes_here", "_law_many", "_law_size"]
def sp_l_order (K : PySem.W.Frag) : Sp := fun vs H Q _ => ∃ l ns, vs = [.ref l] ∧ SqL K H l (tv ns) ∧ Sz ns ∧ ∀ p xs H', Same H H' → H p = none → H' p = some (.lst xs) → Ps H' xs (ordR ns.reverse) → Q (.ref p) H'
def iv_l_order (l : Addr) (H : Hp) (ns : List Nat) : Nat → St → Hp → Prop := fun i σ H3 => H3 = H ∧ ∃ o, σ = [some (.ref l), some (.int (prodR (ns.take i).reverse : Nat)), o]
def t_l_order_c1 (K : PySem.W.Frag) : TE := (tCall (sp_l_play K) [] E0 (tCons (tVar 1) (tCons (tVar 0) tNil)))
def t_l_order_r1 (K : PySem.W.Frag) : TS := (tRet (tComp (iRng1 (tCons (tVar 1) tNil)) [0] (t_l_order_c1 K)))
def t_l_order_b1 (K : PySem.W.Frag) : TS := (tAsg (tOp rMulI (tVar 1) (tVar 2)) (gName 1))
def t_l_order (K : PySem.W.Frag) : TS := (tSeq (tAsg (tC (.int 1)) (gName 1)) (tSeq (tFor (iList K (tVar 0)) (gName 2) (t_l_order_b1 K)) (t_l_order_r1 K)))
theorem len_l_order {K vs H Q E} (h : sp_l_order K vs H Q E) : vs.length = 1 := by obtain ⟨l, ns, rfl, _⟩ := h; rfl
theorem rd_l_order {K vs H Q E} (h : sp_l_order K vs H Q E) : t_l_order K { nx := fun _ H' => Q .non H', rt := Q } (start N_l_order vs) H := by
  obtain ⟨l, ns, rfl, hS, sz, q⟩ := h
  rw [show start N_l_order [V.ref l] = [some (.ref l), none, none] from rfl]
  simp only [t_l_order, tFor, iList, tSeq, tAsg, gName, tVar, tC, tOp, tUn, rI0, rI, rU, rAddI, rSubI, rMulI, rDivI, rDivC, rModI, rPowI, rNegI, rLtI, rLeI, rGtI, rGeI, rEq, rNe, scal, tRet, tIfS, tTest, tB, tNot, tNext, tCall, tCons, tNil, tTup, tLst, tCB, cAbs, cLen, cIsB, tSl, tPart, tNoPart, rSlL, rIxL, rIxT, tAndV, tOrV, tAnd, tOr, tNotV, tPar, tNever, gTup, gCons, gNil, List.getElem?_cons_zero, List.getElem?_cons_succ, List.set_cons_zero, List.set_cons_succ, Option.some.injEq, exists_eq_left', exists_eq_left, V.int.injEq, V.ref.injEq, V.bl.injEq, V.ty.injEq, List.cons.injEq, and_true, true_and, List.append_nil, exists_and_left, decide_eq_true_eq, List.cons_append, List.nil_append, and_assoc]
  refine ⟨⟨_, hS⟩, for_list (K := K) (a := l) (xs := tv ns) (g := gName 2) (D := { nx := t_l_order_r1 K _, rt := Q }) (iv_l_order l H ns) ?_ ?_ ?_ ?_⟩
  · exact ⟨rfl, none, rfl⟩
  · rintro i σ H3 _ ⟨rfl, _⟩
    exact hS
  · rintro i x σ H3 hi ⟨rfl, o, rfl⟩
    obtain ⟨n, hn, rfl⟩ := tv_get hi
    have n6 := sz.le n (List.mem_of_getElem? hn)
    simp only [t_l_order_b1, tSeq, tAsg, gName, tVar, tC, tOp, tUn, rI0, rI, rU, rAddI, rSubI, rMulI, rDivI, rDivC, rModI, rPowI, rNegI, rLtI, rLeI, rGtI, rGeI, rEq, rNe, scal, tRet, tIfS, tTest, tB, tNot, tNext, tCall, tCons, tNil, tTup, tLst, tCB, cAbs, cLen, cIsB, tSl, tPart, tNoPart, rSlL, rIxL, rIxT, tAndV, tOrV, tAnd, tOr, tNotV, tPar, tNever, gTup, gCons, gNil, List.getElem?_cons_zero, List.getElem?_cons_succ, List.set_cons_zero, List.set_cons_succ, Option.some.injEq, exists_eq_left', exists_eq_left, V.int.injEq, V.ref.injEq, V.bl.injEq, V.ty.injEq, List.cons.injEq, and_true, true_and, List.append_nil, exists_and_left, decide_eq_true_eq, List.cons_append, List.nil_append, and_assoc]
    refine ⟨.r ((bb6 n6).mono (by decide)), rfl, some (.int n), ?_⟩
    rw [take_snoc hn, List.reverse_append]
    show _ = [some (V.ref l), some (V.int ((prodR (ns.take i).reverse * n : Nat) : Int)), _]
    rw [Int.natCast_mul]
  · rintro σ H3 ⟨rfl, o, rfl⟩
    rw [tv_len, List.take_length]
    simp only [t_l_order_r1, tComp, iRng1, tSeq, tAsg, gName, tVar, tC, tOp, tUn, rI0, rI, rU, rAddI, rSubI, rMulI, rDivI, rDivC, rModI, rPowI, rNegI, rLtI, rLeI, rGtI, rGeI, rEq, rNe, scal, tRet, tIfS, tTest, tB, tNot, tNext, tCall, tCons, tNil, tTup, tLst, tCB, cAbs, cLen, cIsB, tSl, tPart, tNoPart, rSlL, rIxL, rIxT, tAndV, tOrV, tAnd, tOr, tNotV, tPar, tNever, gTup, gCons, gNil, List.getElem?_cons_zero, List.getElem?_cons_succ, List.set_cons_zero, List.set_cons_succ, Option.some.injEq, exists_eq_left', exists_eq_left, V.int.injEq, V.ref.injEq, V.bl.injEq, V.ty.injEq, List.cons.injEq, and_true, true_and, List.append_nil, exists_and_left, decide_eq_true_eq, List.cons_append, List.nil_append, and_assoc]
    have hm := sz.rev.many
    rw [Int.toNat_natCast]
    refine ⟨by omega, by omega, comp_range (W := fun k zs H5 => Same H3 H5 ∧ Ps H5 zs ((List.range k).map (digs ns.reverse))) (small hm) ⟨Same.refl _, Ps.nil⟩ ?_ ?_⟩
    · rintro k zs H5 hk _ ⟨s7, pz⟩
      show t_l_order_c1 K [some (.int (0 + k)), some (.ref l)] H5 _
      simp only [t_l_order_c1, Int.zero_add, tSeq, tAsg, gName, tVar, tC, tOp, tUn, rI0, rI, rU, rAddI, rSubI, rMulI, rDivI, rDivC, rModI, rPowI, rNegI, rLtI, rLeI, rGtI, rGeI, rEq, rNe, scal, tRet, tIfS, tTest, tB, tNot, tNext, tCall, tCons, tNil, tTup, tLst, tCB, cAbs, cLen, cIsB, tSl, tPart, tNoPart, rSlL, rIxL, rIxT, tAndV, tOrV, tAnd, tOr, tNotV, tPar, tNever, gTup, gCons, gNil, List.getElem?_cons_zero, List.getElem?_cons_succ, List.set_cons_zero, List.set_cons_succ, Option.some.injEq, exists_eq_left', exists_eq_left, V.int.injEq, V.ref.injEq, V.bl.injEq, V.ty.injEq, List.cons.injEq, and_true, true_and, List.append_nil, exists_and_left, decide_eq_true_eq, List.cons_append, List.nil_append, and_assoc]
      refine ⟨l, ns, k, rfl, s7.seq hS, sz, fun p H6 s8 hp => ⟨s7.trans s8, ?_⟩⟩
      rw [List.range_succ, List.map_append]
      exact (pz.same s8).app (Ps.one hp)
    · rintro zs H5 hz ⟨s7, pz⟩ p hp
      refine q p zs _ (s7.trans (Same.upd hp)) (s7.free hp) upd_same ?_
      rw [ordR_eq _ sz.rev.ge]
      exact pz.same (Same.upd hp)
def N_l_units : List PySem.Str := ["_law_script", "_law_order_here", "_law_hands", "_law_found", "_law_k", "_law_cell"]
def Un (un : List Nat → List Int) (n : Nat) (q : List Nat) : Prop := (un q).length = n ∧ ∀ u ∈ un q, BB 300 u
structure UnAt (H : Hp) (c : Addr) (ns : List Nat) (un : List Nat → List Int) : Prop where
  ex : ∃ kvs, H c = some (.dT kvs) ∧ ∀ q ∈ ordR ns.reverse, Cells H kvs (fun q => List.map V.int (un q)) q
  ul : ∀ q ∈ ordR ns.reverse, (un q).length = ns.length
theorem UnAt.same {H H' : Hp} {c : Addr} {ns : List Nat} {un : List Nat → List Int} (h : UnAt H c ns un) (s : Same H H') : UnAt H' c ns un := let ⟨kvs, h1, h2⟩ := h.ex; ⟨⟨kvs, s _ _ h1, fun q hq => (h2 q hq).same s⟩, h.ul⟩
def sp_l_units (K : PySem.W.Frag) : Sp := fun vs H Q _ => ∃ sc ns o xs qs n, vs = [.ref sc, .ref o, .int (n : Nat)] ∧ SqL K H sc (List.map V.int ns) ∧ H o = some (.lst xs) ∧ Ps H xs qs ∧ qs.Nodup ∧ qs.length ≤ 216 ∧ n ≤ 3 ∧
  ∀ c kvs un H', Same H H' → H' c = some (.dT kvs) → (∀ q ∈ qs, Cells H' kvs (fun q => List.map V.int (un q)) q) → (∀ q ∈ qs, Un un n q) → Q (.ref c) H'
def iv_l_units (sc o : Addr) (n : Nat) (H : Hp) (qs : List (List Nat)) : Nat → St → Hp → Prop := fun i σ H3 => ∃ c kvs un o1 o2, σ = [some (.ref sc), some (.ref o), some (.int n), some (.ref c), o1, o2] ∧ Same H H3 ∧ H c = none ∧ H3 c = some (.dT kvs) ∧ Kc H3 kvs (fun q => List.map V.int (un q)) (qs.take i) ∧ (∀ q ∈ qs.take i, Un un n q)
def t_l_units_c1 (K : PySem.W.Frag) : TE := (tOp rSubI (tOp rModI (tOp rAddI (tOp rAddI (tVar 1) (tOp rMulI (tVar 2) (tVar 2))) (tOp rMulI (tOp rMulI (tC (.int 5)) (tVar 2)) (tVar 0))) (tC (.int 2001))) (tC (.int 1000)))
def t_l_units_b1 (K : PySem.W.Frag) : TS := (tSeq (tAsg (tCall (sp_l_cell_at K) [] E0 (tCons (tVar 0) (tCons (tOp rModI (tVar 4) (tC (.int 63))) tNil))) (gName 5)) (sDPut (tVar 3) (tOp (rIxL K) (tVar 1) (tVar 4)) (tComp (iRng1 (tCons (tVar 2) tNil)) [5, 4] (t_l_units_c1 K))))
def t_l_units (K : PySem.W.Frag) : TS := (tSeq (tAsg tDNewT (gName 3)) (tSeq (tFor (iRng1 (tCons (tCB (cLen K) (tCons (tVar 1) tNil)) tNil)) (gName 4) (t_l_units_b1 K)) (tRet (tVar 3))))
theorem len_l_units {K vs H Q E} (h : sp_l_units K vs H Q E) : vs.length = 3 := by obtain ⟨l, ns, _, _, _, _, rfl, _⟩ := h; rfl
theorem bb_low {c : Int} (h1 : -1000 ≤ c) (h2 : c ≤ 1000) : BB 300 c := by
  refine BB.mono (m := 10) ?_ (by decide)
  unfold BB
  have : (2 : Nat) ^ 10 = 1024 := by decide
  rw [this]; omega
theorem rd_l_units {K vs H Q E} (h : sp_l_units K vs H Q E) : t_l_units K { nx := fun _ H' => Q .non H', rt := Q } (start N_l_units vs) H := by
  obtain ⟨sc, ns, o, xs, qs, n, rfl, hS, hO, ps, nd, hq, hn, k⟩ := h
  rw [show start N_l_units [V.ref sc, V.ref o, V.int n] = [some (.ref sc), some (.ref o), some (.int n), none, none, none] from rfl]
  simp only [t_l_units, tFor, iRng1, tDNewT, tSeq, tAsg, gName, tVar, tC, tOp, tUn, rI0, rI, rU, rAddI, rSubI, rMulI, rDivI, rDivC, rModI, rPowI, rNegI, rLtI, rLeI, rGtI, rGeI, rEq, rNe, scal, tRet, tIfS, tTest, tB, tNot, tNext, tCall, tCons, tNil, tTup, tLst, tCB, cAbs, cLen, cIsB, tSl, tPart, tNoPart, rSlL, rIxL, rIxT, tAndV, tOrV, tAnd, tOr, tNotV, tPar, tNever, gTup, gCons, gNil, List.getElem?_cons_zero, List.getElem?_cons_succ, List.set_cons_zero, List.set_cons_succ, Option.some.injEq, exists_eq_left', exists_eq_left, V.int.injEq, V.ref.injEq, V.bl.injEq, V.ty.injEq, List.cons.injEq, and_true, true_and, List.append_nil, exists_and_left, decide_eq_true_eq, List.cons_append, List.nil_append, and_assoc]
  intro c hc
  have s1 : Same H (upd H c (.dT [])) := Same.upd hc
  have el := ps.1
  refine ⟨_, .inl (SqL.of (s1 _ _ hO)), ?_⟩
  rw [el]
  refine ⟨by omega, by omega, for_range (lo := 0) (g := gName 4) (D := { nx := tRet (tVar 3) { nx := fun _ H' => Q .non H', rt := Q }, rt := Q }) (iv_l_units sc o n H qs) ?_ ?_ ?_⟩
  · exact ⟨c, [], fun _ => [], none, none, rfl, s1, hc, upd_same, ⟨rfl, fun i q e => (by simp at e)⟩, fun q h => (by simp at h)⟩
  · rintro i σ H3 hi ⟨c, kvs, un, o1, o2, rfl, s3, hc, hC, kc, ok⟩
    have hi' : i < qs.length := by omega
    have hk : kvs.length = i := by rw [kc.1, List.length_take]; omega
    obtain ⟨b, a, hb, hx, ha⟩ := (ps.same s3).at hi'
    simp only [t_l_units_b1, sDPut, tComp, iRng1, Int.zero_add, tSeq, tAsg, gName, tVar, tC, tOp, tUn, rI0, rI, rU, rAddI, rSubI, rMulI, rDivI, rDivC, rModI, rPowI, rNegI, rLtI, rLeI, rGtI, rGeI, rEq, rNe, scal, tRet, tIfS, tTest, tB, tNot, tNext, tCall, tCons, tNil, tTup, tLst, tCB, cAbs, cLen, cIsB, tSl, tPart, tNoPart, rSlL, rIxL, rIxT, tAndV, tOrV, tAnd, tOr, tNotV, tPar, tNever, gTup, gCons, gNil, List.getElem?_cons_zero, List.getElem?_cons_succ, List.set_cons_zero, List.set_cons_succ, Option.some.injEq, exists_eq_left', exists_eq_left, V.int.injEq, V.ref.injEq, V.bl.injEq, V.ty.injEq, List.cons.injEq, and_true, true_and, List.append_nil, exists_and_left, decide_eq_true_eq, List.cons_append, List.nil_append, and_assoc]
    refine ⟨by decide, sc, ns, (i : Int) % 63, rfl, s3.seq hS, Int.emod_nonneg _ (by decide), ?_⟩
    generalize ns.getD ((i : Int) % 63).toNat 0 = z
    rw [Int.toNat_natCast]
    refine ⟨by omega, by omega, comp_range (W := fun j zs H5 => H5 = H3 ∧ ∃ us, zs = List.map V.int us ∧ us.length = j ∧ ∀ u ∈ us, BB 300 u) (small (by omega)) ⟨rfl, [], rfl, rfl, fun _ h => nomatch h⟩ ?_ ?_⟩
    · rintro j zs H5 hj _ ⟨rfl, us, rfl, hul, hub⟩
      show t_l_units_c1 K [some (.int (0 + j)), some (.int z), some (.int i)] H5 _
      simp only [t_l_units_c1, Int.zero_add, tSeq, tAsg, gName, tVar, tC, tOp, tUn, rI0, rI, rU, rAddI, rSubI, rMulI, rDivI, rDivC, rModI, rPowI, rNegI, rLtI, rLeI, rGtI, rGeI, rEq, rNe, scal, tRet, tIfS, tTest, tB, tNot, tNext, tCall, tCons, tNil, tTup, tLst, tCB, cAbs, cLen, cIsB, tSl, tPart, tNoPart, rSlL, rIxL, rIxT, tAndV, tOrV, tAnd, tOr, tNotV, tPar, tNever, gTup, gCons, gNil, List.getElem?_cons_zero, List.getElem?_cons_succ, List.set_cons_zero, List.set_cons_succ, Option.some.injEq, exists_eq_left', exists_eq_left, V.int.injEq, V.ref.injEq, V.bl.injEq, V.ty.injEq, List.cons.injEq, and_true, true_and, List.append_nil, exists_and_left, decide_eq_true_eq, List.cons_append, List.nil_append, and_assoc]
      have w1 := Int.emod_nonneg (z + (i : Int) * i + 5 * (i : Int) * j) (show (2001 : Int) ≠ 0 by decide)
      have w2 := Int.emod_lt_of_pos (z + (i : Int) * i + 5 * (i : Int) * j) (show (0 : Int) < 2001 by decide)
      refine ⟨.l (by unfold BB; omega), .l (by unfold BB; decide), .r (by unfold BB; omega), by decide, us ++ [_], by rw [List.map_append]; rfl, by rw [List.length_append, hul]; rfl, fun u hu => ?_⟩
      rcases List.mem_append.mp hu with h | h
      · exact hub u h
      · rw [List.mem_singleton.mp h]; exact bb_low (by omega) (by omega)
    · rintro zs H5 hz ⟨rfl, us, rfl, hul, hub⟩ p hp
      have s8 : Same H5 (upd H5 p (.lst (List.map V.int us))) := Same.upd hp
      have hcp := s8 _ _ hC
      have new := kc.new nd hb
      have kl : ∀ d xs, (upd H5 p (.lst (List.map V.int us))) d = some (.lst xs) → (upd (upd H5 p (.lst (List.map V.int us))) c (.dT (putK kvs (tk b) (.ref p)))) d = some (.lst xs) := fun d xs e => by rw [upd_ne (ne_of e hcp (by intro z; cases z))]; exact e
      refine ⟨_, SqL.of (s8 _ _ (s3 _ _ hO)), _, atI_nat hx, _, DPut.t (k := tk b) hcp (s8 _ _ (by rw [tv_tk]; exact ha)) (small' (by omega)), ?_⟩
      obtain ⟨un', c1, c2⟩ : ∃ un' : List Nat → List Int, un' b = us ∧ ∀ q, q ≠ b → un' q = un q := ⟨fun q => if q = b then us else un q, if_pos rfl, fun q e => if_neg e⟩
      have nb : ∀ q ∈ qs.take i, q ≠ b := fun q hq e => nodup_take nd hb (e ▸ hq)
      refine ⟨c, _, un', _, _, rfl, (s3.trans s8).put hc, hc, upd_same, ?_, ?_⟩
      · rw [putK_new _ new] at kl ⊢
        exact (((kc.same s8).cong (cont' := fun q => List.map V.int (un' q)) fun q hq => by show List.map V.int (un' q) = List.map V.int (un q); rw [c2 q (nb q hq)]).off kl).snoc hb (by show _ = some (HO.lst (List.map V.int (un' b))); rw [c1]; exact kl _ _ upd_same)
      · intro q hq
        rw [take_snoc hb] at hq
        by_cases e : q = b
        · subst e; unfold Un; rw [c1]; exact ⟨hul, hub⟩
        · have hq' : q ∈ qs.take i := by
            rcases List.mem_append.mp hq with h | h
            · exact h
            · exact absurd (List.mem_singleton.mp h) e
          unfold Un; rw [c2 q e]
          exact ok q hq'
  · rintro σ H3 ⟨c, kvs, un, o1, o2, rfl, s3, hc, hC, kc, ok⟩
    simp only [tSeq, tAsg, gName, tVar, tC, tOp, tUn, rI0, rI, rU, rAddI, rSubI, rMulI, rDivI, rDivC, rModI, rPowI, rNegI, rLtI, rLeI, rGtI, rGeI, rEq, rNe, scal, tRet, tIfS, tTest, tB, tNot, tNext, tCall, tCons, tNil, tTup, tLst, tCB, cAbs, cLen, cIsB, tSl, tPart, tNoPart, rSlL, rIxL, rIxT, tAndV, tOrV, tAnd, tOr, tNotV, tPar, tNever, gTup, gCons, gNil, List.getElem?_cons_zero, List.getElem?_cons_succ, List.set_cons_zero, List.set_cons_succ, Option.some.injEq, exists_eq_left', exists_eq_left, V.int.injEq, V.ref.injEq, V.bl.injEq, V.ty.injEq, List.cons.injEq, and_true, true_and, List.append_nil, exists_and_left, decide_eq_true_eq, List.cons_append, List.nil_append, and_assoc]
    rw [Int.toNat_natCast, List.take_length] at ok kc
    exact k c kvs un H3 s3 hC (kc.cells nd) ok
def N_check_sizes : List PySem.Str := ["sizes", "size"]
def sp_check_sizes (K : PySem.W.Frag) : Sp := fun vs H Q _ => ∃ l ns, vs = [.ref l] ∧ SqL K H l (tv ns) ∧ 2 ≤ ns.length ∧ Sz ns ∧ Q .non H
def iv_check_sizes (l : Addr) (H : Hp) : Nat → St → Hp → Prop := fun _ σ H3 => H3 = H ∧ ∃ o, σ = [some (.ref l), o]
def t_check_sizes_b1 (K : PySem.W.Frag) : TS := (tIfS (tOr (tTest (tOp rLtI (tVar 1) (tC (.int 1)))) (tTest (tOp rGtI (tVar 1) (tC (.int 6))))) tNever tNext)
def t_check_sizes (K : PySem.W.Frag) : TS := (tSeq (tIfS (tOr (tTest (tOp rLtI (tCB (cLen K) (tCons (tVar 0) tNil)) (tC (.int 2)))) (tTest (tOp rGtI (tCB (cLen K) (tCons (tVar 0) tNil)) (tC (.int 3))))) tNever tNext) (tFor (iList K (tVar 0)) (gName 1) (t_check_sizes_b1 K)))
theorem len_check_sizes {K vs H Q E} (h : sp_check_sizes K vs H Q E) : vs.length = 1 := by obtain ⟨l, ns, rfl, _⟩ := h; rfl
theorem rd_check_sizes {K vs H Q E} (h : sp_check_sizes K vs H Q E) : t_check_sizes K { nx := fun _ H' => Q .non H', rt := Q } (start N_check_sizes vs) H := by
  obtain ⟨l, ns, rfl, hS, h2, sz, q⟩ := h
  have h3 := sz.len
  rw [show start N_check_sizes [V.ref l] = [some (.ref l), none] from rfl]
  simp only [t_check_sizes, tFor, iList, tSeq, tAsg, gName, tVar, tC, tOp, tUn, rI0, rI, rU, rAddI, rSubI, rMulI, rDivI, rDivC, rModI, rPowI, rNegI, rLtI, rLeI, rGtI, rGeI, rEq, rNe, scal, tRet, tIfS, tTest, tB, tNot, tNext, tCall, tCons, tNil, tTup, tLst, tCB, cAbs, cLen, cIsB, tSl, tPart, tNoPart, rSlL, rIxL, rIxT, tAndV, tOrV, tAnd, tOr, tNotV, tPar, tNever, gTup, gCons, gNil, List.getElem?_cons_zero, List.getElem?_cons_succ, List.set_cons_zero, List.set_cons_succ, Option.some.injEq, exists_eq_left', exists_eq_left, V.int.injEq, V.ref.injEq, V.bl.injEq, V.ty.injEq, List.cons.injEq, and_true, true_and, List.append_nil, exists_and_left, decide_eq_true_eq, List.cons_append, List.nil_append, and_assoc]
  refine ⟨_, .inl hS, ?_⟩
  rw [tv_len, if_neg (by omega)]
  refine ⟨_, .inl hS, ?_⟩
  rw [tv_len, if_neg (by omega)]
  refine ⟨⟨_, hS⟩, for_list (K := K) (a := l) (xs := tv ns) (g := gName 1) (D := { nx := fun _ H' => Q .non H', rt := Q }) (iv_check_sizes l H) ?_ ?_ ?_ ?_⟩
  · exact ⟨rfl, none, rfl⟩
  · rintro i σ H3 _ ⟨rfl, _⟩
    exact hS
  · rintro i x σ H3 hi ⟨rfl, o, rfl⟩
    obtain ⟨n, hn, rfl⟩ := tv_get hi
    have g1 := sz.ge n (List.mem_of_getElem? hn)
    have g2 := sz.le n (List.mem_of_getElem? hn)
    simp only [t_check_sizes_b1, tSeq, tAsg, gName, tVar, tC, tOp, tUn, rI0, rI, rU, rAddI, rSubI, rMulI, rDivI, rDivC, rModI, rPowI, rNegI, rLtI, rLeI, rGtI, rGeI, rEq, rNe, scal, tRet, tIfS, tTest, tB, tNot, tNext, tCall, tCons, tNil, tTup, tLst, tCB, cAbs, cLen, cIsB, tSl, tPart, tNoPart, rSlL, rIxL, rIxT, tAndV, tOrV, tAnd, tOr, tNotV, tPar, tNever, gTup, gCons, gNil, List.getElem?_cons_zero, List.getElem?_cons_succ, List.set_cons_zero, List.set_cons_succ, Option.some.injEq, exists_eq_left', exists_eq_left, V.int.injEq, V.ref.injEq, V.bl.injEq, V.ty.injEq, List.cons.injEq, and_true, true_and, List.append_nil, exists_and_left, decide_eq_true_eq, List.cons_append, List.nil_append, and_assoc]
    rw [if_neg (by omega), if_neg (by omega)]
    exact ⟨rfl, _, rfl⟩
  · rintro σ H3 ⟨rfl, o, rfl⟩
    exact q
def N_one_of_each : List PySem.Str := ["lists", "told", "choices", "longer", "begun"]
/-- lists of range(n), one for each n -/
def Rg (H : Hp) (xs : List V) (ns : List Nat) : Prop := xs.length = ns.length ∧ ∀ (i n : Nat), ns[i]? = some n → ∃ c, xs[i]? = some (.ref c) ∧ H c = some (.lst (tv (List.range n)))
def sp_one_of_each (_ : PySem.W.Frag) : Sp := fun vs H Q _ => ∃ l ls ns, vs = [.ref l] ∧ H l = some (.lst ls) ∧ Rg H ls ns ∧ Sz ns ∧ ∀ p xs H', Same H H' → H p = none → H' p = some (.lst xs) → Ps H' xs (ordR ns.reverse) → Q (.ref p) H'
def more (s : Nat) (b : List Nat) : List (List Nat) := (List.range s).map fun c => b ++ [c]
def iv_one_of_each (l : Addr) (H : Hp) (ns : List Nat) : Nat → St → Hp → Prop := fun i σ H3 => ∃ t xs o1 o2 o3, σ = [some (.ref l), some (.ref t), o1, o2, o3] ∧ Same H H3 ∧ H t = none ∧ H3 t = some (.lst xs) ∧ Ps H3 xs (ordR (ns.take i).reverse)
def iv_one_of_each2 (l t c : Addr) (n : Nat) (H : Hp) (qs : List (List Nat)) : Nat → St → Hp → Prop := fun j σ H3 => ∃ g ys o3, σ = [some (.ref l), some (.ref t), some (.ref c), some (.ref g), o3] ∧ Same H H3 ∧ H g = none ∧ H3 g = some (.lst ys) ∧ Ps H3 ys ((qs.take j).flatMap (more n))
def t_one_of_each_r1 (K : PySem.W.Frag) : TS := (tAsg (tVar 3) (gName 1))
def t_one_of_each_c1 (K : PySem.W.Frag) : TE := (tOp rCatA (tVar 1) (tTup (tCons (tVar 0) tNil)))
def t_one_of_each_b1 (K : PySem.W.Frag) : TS := (tDrop (tBM K "list" rExtend (tVar 3) (tCons (tComp (iList K (tVar 2)) [4] (t_one_of_each_c1 K)) tNil)))
def t_one_of_each_b2 (K : PySem.W.Frag) : TS := (tSeq (tAsg (tLst tNil) (gName 3)) (tSeq (tFor (iList K (tVar 1)) (gName 4) (t_one_of_each_b1 K)) (t_one_of_each_r1 K)))
def t_one_of_each (K : PySem.W.Frag) : TS := (tSeq (tAsg (tLst (tCons (tTup tNil) tNil)) (gName 1)) (tSeq (tFor (iList K (tVar 0)) (gName 2) (t_one_of_each_b2 K)) (tRet (tVar 1))))
theorem len_one_of_each {K vs H Q E} (h : sp_one_of_each K vs H Q E) : vs.length = 1 := by obtain ⟨l, ls, ns, rfl, _⟩ := h; rfl
theorem more_len (s : Nat) (b : List Nat) : (more s b).length = s := by simp [more]
theorem more_flat (s : Nat) : ∀ qs : List (List Nat), (qs.flatMap (more s)).length = qs.length * s
  | [] => by simp
  | b :: qs => by rw [List.flatMap_cons, List.length_append, more_len, more_flat s qs, List.length_cons, Nat.succ_mul]; omega
theorem Rg.same {H H' : Hp} {xs : List V} {ns : List Nat} (h : Rg H xs ns) (s : Same H H') : Rg H' xs ns := ⟨h.1, fun i n e => let ⟨c, e1, e2⟩ := h.2 i n e; ⟨c, e1, s _ _ e2⟩⟩
theorem Rg.snoc {H : Hp} {xs : List V} {ns : List Nat} {c : Addr} {n : Nat} (h : Rg H xs ns) (hc : H c = some (.lst (tv (List.range n)))) : Rg H (xs ++ [.ref c]) (ns ++ [n]) := by
  refine ⟨by rw [List.length_append, List.length_append, h.1]; rfl, fun i m e => ?_⟩
  by_cases hi : i < ns.length
  · rw [List.getElem?_append_left hi] at e
    rw [List.getElem?_append_left (by rw [h.1]; exact hi)]
    exact h.2 i m e
  · rw [List.getElem?_append_right (by omega)] at e
    rw [List.getElem?_append_right (by rw [h.1]; omega), h.1]
    cases z : i - ns.length with
    | zero => rw [z] at e; simp at e; subst e; exact ⟨c, rfl, hc⟩
    | succ k => rw [z] at e; simp at e
theorem Rg.get {H : Hp} {xs : List V} {ns : List Nat} {i : Nat} {x : V} (h : Rg H xs ns) (e : xs[i]? = some x) : ∃ n c, ns[i]? = some n ∧ x = .ref c ∧ H c = some (.lst (tv (List.range n))) := by
  have hl : i < ns.length := by rw [← h.1]; exact (List.getElem?_eq_some_iff.mp e).1
  obtain ⟨c, e1, e2⟩ := h.2 i ns[i] (List.getElem?_eq_getElem hl)
  rw [e] at e1
  exact ⟨ns[i], c, List.getElem?_eq_getElem hl, Option.some.inj e1, e2⟩
theorem range_get {n k m : Nat} (h : (List.range n)[k]? = some m) : m = k := by
  have hl := (List.getElem?_eq_some_iff.mp h).1
  rw [List.length_range] at hl
  rw [List.getElem?_range hl] at h
  exact (Option.some.inj h).symm
theorem rd_one_of_each {K vs H Q E} (h : sp_one_of_each K vs H Q E) : t_one_of_each K { nx := fun _ H' => Q .non H', rt := Q } (start N_one_of_each vs) H := by
  obtain ⟨l, ls, ns, rfl, hS, rg, sz, q⟩ := h
  rw [show start N_one_of_each [V.ref l] = [some (.ref l), none, none, none, none] from rfl]
  simp only [t_one_of_each, tFor, iList, tSeq, tAsg, gName, tVar, tC, tOp, tUn, rI0, rI, rU, rAddI, rSubI, rMulI, rDivI, rDivC, rModI, rPowI, rNegI, rLtI, rLeI, rGtI, rGeI, rEq, rNe, scal, tRet, tIfS, tTest, tB, tNot, tNext, tCall, tCons, tNil, tTup, tLst, tCB, cAbs, cLen, cIsB, tSl, tPart, tNoPart, rSlL, rIxL, rIxT, tAndV, tOrV, tAnd, tOr, tNotV, tPar, tNever, gTup, gCons, gNil, List.getElem?_cons_zero, List.getElem?_cons_succ, List.set_cons_zero, List.set_cons_succ, Option.some.injEq, exists_eq_left', exists_eq_left, V.int.injEq, V.ref.injEq, V.bl.injEq, V.ty.injEq, List.cons.injEq, and_true, true_and, List.append_nil, exists_and_left, decide_eq_true_eq, List.cons_append, List.nil_append, and_assoc]
  refine ⟨by show 0 ≤ sizeLine; exact Nat.zero_le _, fun a ha => ⟨by show 1 ≤ sizeLine; decide, fun t ht => ?_⟩⟩
  have s1 : Same H (upd H a (.tup [])) := Same.upd ha
  have s2 : Same (upd H a (.tup [])) (upd (upd H a (.tup [])) t (.lst [.ref a])) := Same.upd ht
  have s3 := s1.trans s2
  refine ⟨⟨_, SqL.of (s3 _ _ hS)⟩, for_list (K := K) (a := l) (xs := ls) (g := gName 2) (D := { nx := tRet (tVar 1) { nx := fun _ H' => Q .non H', rt := Q }, rt := Q }) (iv_one_of_each l H ns) ?_ ?_ ?_ ?_⟩
  · exact ⟨t, _, none, none, none, rfl, s3, s1.free ht, upd_same, Ps.one (s2 _ _ upd_same)⟩
  · rintro i σ H3 _ ⟨_, _, _, _, _, _, s4, _⟩
    exact SqL.of (s4 _ _ hS)
  · rintro i x σ H3 hi ⟨t, xs, o1, o2, o3, rfl, s4, ht, hT, ps⟩
    obtain ⟨n, c, hn, rfl, hc⟩ := (rg.same s4).get hi
    have hin : i < ns.length := (List.getElem?_eq_some_iff.mp hn).1
    have n6 := sz.le n (List.mem_of_getElem? hn)
    have hlen := sz.len
    have hmax : (ordR (ns.take i).reverse).length ≤ 36 := by
      rw [ordR_length _ (sz.take i).rev.ge]
      have h2 : (ns.take i).reverse.length ≤ 2 := ?_
      · exact Nat.le_trans (prodR_le _ (sz.take i).rev.le) (Nat.le_trans (Nat.pow_le_pow_right (by decide) h2) (by decide))
      rw [List.length_reverse, List.length_take]; omega
    have el : xs.length = (ordR (ns.take i).reverse).length := ps.1
    simp only [t_one_of_each_b2, tFor, iList, tSeq, tAsg, gName, tVar, tC, tOp, tUn, rI0, rI, rU, rAddI, rSubI, rMulI, rDivI, rDivC, rModI, rPowI, rNegI, rLtI, rLeI, rGtI, rGeI, rEq, rNe, scal, tRet, tIfS, tTest, tB, tNot, tNext, tCall, tCons, tNil, tTup, tLst, tCB, cAbs, cLen, cIsB, tSl, tPart, tNoPart, rSlL, rIxL, rIxT, tAndV, tOrV, tAnd, tOr, tNotV, tPar, tNever, gTup, gCons, gNil, List.getElem?_cons_zero, List.getElem?_cons_succ, List.set_cons_zero, List.set_cons_succ, Option.some.injEq, exists_eq_left', exists_eq_left, V.int.injEq, V.ref.injEq, V.bl.injEq, V.ty.injEq, List.cons.injEq, and_true, true_and, List.append_nil, exists_and_left, decide_eq_true_eq, List.cons_append, List.nil_append, and_assoc]
    refine ⟨by show 0 ≤ sizeLine; exact Nat.zero_le _, fun g hg => ?_⟩
    have s5 : Same H3 (upd H3 g (.lst [])) := Same.upd hg
    refine ⟨⟨_, SqL.of (s5 _ _ hT)⟩, for_list (K := K) (a := t) (xs := xs) (g := gName 4) (D := { nx := t_one_of_each_r1 K _, rt := Q }) (iv_one_of_each2 l t c n H3 (ordR (ns.take i).reverse)) ?_ ?_ ?_ ?_⟩
    · exact ⟨g, [], _, rfl, s5, hg, upd_same, Ps.nil⟩
    · rintro j σ H4 _ ⟨_, _, _, _, s6, _⟩
      exact SqL.of (s6 _ _ hT)
    · rintro j x σ H4 hj ⟨g, ys, o4, rfl, s6, hg, hG, py⟩
      obtain ⟨b, a, hb, rfl, ha⟩ := (ps.same s6).get hj
      have hjl : j < (ordR (ns.take i).reverse).length := (List.getElem?_eq_some_iff.mp hb).1
      have hy : ys.length = j * n := by rw [py.1, more_flat, List.length_take]; congr 1; omega
      have hc4 := s6 _ _ hc
      simp only [t_one_of_each_b1, tDrop, tBM, tComp, iList, tSeq, tAsg, gName, tVar, tC, tOp, tUn, rI0, rI, rU, rAddI, rSubI, rMulI, rDivI, rDivC, rModI, rPowI, rNegI, rLtI, rLeI, rGtI, rGeI, rEq, rNe, scal, tRet, tIfS, tTest, tB, tNot, tNext, tCall, tCons, tNil, tTup, tLst, tCB, cAbs, cLen, cIsB, tSl, tPart, tNoPart, rSlL, rIxL, rIxT, tAndV, tOrV, tAnd, tOr, tNotV, tPar, tNever, gTup, gCons, gNil, List.getElem?_cons_zero, List.getElem?_cons_succ, List.set_cons_zero, List.set_cons_succ, Option.some.injEq, exists_eq_left', exists_eq_left, V.int.injEq, V.ref.injEq, V.bl.injEq, V.ty.injEq, List.cons.injEq, and_true, true_and, List.append_nil, exists_and_left, decide_eq_true_eq, List.cons_append, List.nil_append, and_assoc]
      refine ⟨.inl ⟨rfl, _, SqL.of hG⟩, ⟨_, SqL.of hc4⟩, comp_list (K := K) (a := c) (xs := tv (List.range n)) (fun k zs H5 => Same H4 H5 ∧ Ps H5 zs ((List.range k).map fun c => b ++ [c])) ?_ ⟨Same.refl _, Ps.nil⟩ ?_ ?_ ?_⟩
      · rw [tv_len, List.length_range]; exact small (by omega)
      · rintro k zs H5 _ ⟨s7, _⟩
        exact SqL.of (s7 _ _ hc4)
      · rintro k x zs H5 hk _ ⟨s7, pz⟩
        obtain ⟨m, hm, rfl⟩ := tv_get hk
        obtain rfl := range_get hm
        show t_one_of_each_c1 K [some (.int m), some (.ref a)] H5 _
        simp only [t_one_of_each_c1, rCatA, tSeq, tAsg, gName, tVar, tC, tOp, tUn, rI0, rI, rU, rAddI, rSubI, rMulI, rDivI, rDivC, rModI, rPowI, rNegI, rLtI, rLeI, rGtI, rGeI, rEq, rNe, scal, tRet, tIfS, tTest, tB, tNot, tNext, tCall, tCons, tNil, tTup, tLst, tCB, cAbs, cLen, cIsB, tSl, tPart, tNoPart, rSlL, rIxL, rIxT, tAndV, tOrV, tAnd, tOr, tNotV, tPar, tNever, gTup, gCons, gNil, List.getElem?_cons_zero, List.getElem?_cons_succ, List.set_cons_zero, List.set_cons_succ, Option.some.injEq, exists_eq_left', exists_eq_left, V.int.injEq, V.ref.injEq, V.bl.injEq, V.ty.injEq, List.cons.injEq, and_true, true_and, List.append_nil, exists_and_left, decide_eq_true_eq, List.cons_append, List.nil_append, and_assoc]
        refine ⟨by show 1 ≤ sizeLine; decide, fun z hz => ?_⟩
        have s8 : Same H5 (upd H5 z (.tup [.int m])) := Same.upd hz
        refine ⟨_, s8 _ _ (s7 _ _ ha), _, upd_same, ?_, fun p H6 s9 hp => ⟨s7.trans (s8.trans s9), ?_⟩⟩
        · rw [tv_len]
          have := ordR_len_each _ b (List.mem_of_getElem? hb)
          rw [List.length_reverse, List.length_take] at this
          exact small (by show _ + 1 ≤ 216; omega)
        · rw [List.range_succ, List.map_append]
          exact (pz.same (s8.trans s9)).app (Ps.one (by rw [hp, tv_app]; rfl))
      · rintro zs H5 hz ⟨s7, pz⟩ p hp
        rw [tv_len, List.length_range] at hz pz
        have s8 : Same H5 (upd H5 p (.lst zs)) := Same.upd hp
        refine ⟨g, p, ys, zs, rfl, rfl, s8 _ _ (s7 _ _ hG), upd_same, ?_, ?_⟩
        · rw [hy, hz]
          have : j * n + n ≤ 216 := by
            have h1 : (j + 1) * n ≤ 36 * 6 := Nat.mul_le_mul (by omega) n6
            rw [Nat.succ_mul] at h1
            exact h1
          exact small this
        · have hgp : H3 g = none := hg
          refine ⟨g, _, _, rfl, ((s6.trans s7).trans s8).put hg, hg, upd_same, ?_⟩
          rw [take_snoc hb, List.flatMap_append]
          refine Ps.keep (Ps.app ((py.same s7).same s8) ?_) (keepT_lst (s8 _ _ (s7 _ _ hG)))
          rw [List.flatMap_cons, List.flatMap_nil, List.append_nil]
          exact pz.same s8
    · rintro σ H4 ⟨g, ys, o4, rfl, s6, hg, hG, py⟩
      simp only [t_one_of_each_r1, tSeq, tAsg, gName, tVar, tC, tOp, tUn, rI0, rI, rU, rAddI, rSubI, rMulI, rDivI, rDivC, rModI, rPowI, rNegI, rLtI, rLeI, rGtI, rGeI, rEq, rNe, scal, tRet, tIfS, tTest, tB, tNot, tNext, tCall, tCons, tNil, tTup, tLst, tCB, cAbs, cLen, cIsB, tSl, tPart, tNoPart, rSlL, rIxL, rIxT, tAndV, tOrV, tAnd, tOr, tNotV, tPar, tNever, gTup, gCons, gNil, List.getElem?_cons_zero, List.getElem?_cons_succ, List.set_cons_zero, List.set_cons_succ, Option.some.injEq, exists_eq_left', exists_eq_left, V.int.injEq, V.ref.injEq, V.bl.injEq, V.ty.injEq, List.cons.injEq, and_true, true_and, List.append_nil, exists_and_left, decide_eq_true_eq, List.cons_append, List.nil_append, and_assoc]
      refine ⟨g, ys, _, _, _, rfl, s4.trans s6, s4.free hg, hG, ?_⟩
      rw [el, List.take_length] at py
      rw [take_snoc hn, List.reverse_append]
      exact py
  · rintro σ H3 ⟨t, xs, o1, o2, o3, rfl, s4, ht, hT, ps⟩
    simp only [tSeq, tAsg, gName, tVar, tC, tOp, tUn, rI0, rI, rU, rAddI, rSubI, rMulI, rDivI, rDivC, rModI, rPowI, rNegI, rLtI, rLeI, rGtI, rGeI, rEq, rNe, scal, tRet, tIfS, tTest, tB, tNot, tNext, tCall, tCons, tNil, tTup, tLst, tCB, cAbs, cLen, cIsB, tSl, tPart, tNoPart, rSlL, rIxL, rIxT, tAndV, tOrV, tAnd, tOr, tNotV, tPar, tNever, gTup, gCons, gNil, List.getElem?_cons_zero, List.getElem?_cons_succ, List.set_cons_zero, List.set_cons_succ, Option.some.injEq, exists_eq_left', exists_eq_left, V.int.injEq, V.ref.injEq, V.bl.injEq, V.ty.injEq, List.cons.injEq, and_true, true_and, List.append_nil, exists_and_left, decide_eq_true_eq, List.cons_append, List.nil_append, and_assoc]
    rw [rg.1, List.take_length] at ps
    exact q t xs H3 s4 ht hT ps
def N_in_order : List PySem.Str := ["sizes"]
def sp_in_order (K : PySem.W.Frag) : Sp := fun vs H Q _ => ∃ l ns, vs = [.ref l] ∧ SqL K H l (tv ns) ∧ Sz ns ∧ ∀ p xs H', Same H H' → H p = none → H' p = some (.lst xs) → Ps H' xs (ordR ns.reverse) → Q (.ref p) H'
def t_in_order_c1 (K : PySem.W.Frag) : TE := (tLRng (tVar 0))
def t_in_order (K : PySem.W.Frag) : TS := (tRet (tCall (sp_one_of_each K) [] E0 (tCons (tComp (iList K (tVar 0)) [] (t_in_order_c1 K)) tNil)))
theorem len_in_order {K vs H Q E} (h : sp_in_order K vs H Q E) : vs.length = 1 := by obtain ⟨l, ns, rfl, _⟩ := h; rfl
theorem rng_tv (n : Nat) : List.map V.int (rngL n) = tv (List.range n) := by unfold rngL tv; rw [List.map_map]; rfl
theorem rd_in_order {K vs H Q E} (h : sp_in_order K vs H Q E) : t_in_order K { nx := fun _ H' => Q .non H', rt := Q } (start N_in_order vs) H := by
  obtain ⟨l, ns, rfl, hS, sz, q⟩ := h
  rw [show start N_in_order [V.ref l] = [some (.ref l)] from rfl]
  have n3 := sz.len
  simp only [t_in_order, tComp, iList, tSeq, tAsg, gName, tVar, tC, tOp, tUn, rI0, rI, rU, rAddI, rSubI, rMulI, rDivI, rDivC, rModI, rPowI, rNegI, rLtI, rLeI, rGtI, rGeI, rEq, rNe, scal, tRet, tIfS, tTest, tB, tNot, tNext, tCall, tCons, tNil, tTup, tLst, tCB, cAbs, cLen, cIsB, tSl, tPart, tNoPart, rSlL, rIxL, rIxT, tAndV, tOrV, tAnd, tOr, tNotV, tPar, tNever, gTup, gCons, gNil, List.getElem?_cons_zero, List.getElem?_cons_succ, List.set_cons_zero, List.set_cons_succ, Option.some.injEq, exists_eq_left', exists_eq_left, V.int.injEq, V.ref.injEq, V.bl.injEq, V.ty.injEq, List.cons.injEq, and_true, true_and, List.append_nil, exists_and_left, decide_eq_true_eq, List.cons_append, List.nil_append, and_assoc]
  refine ⟨⟨_, hS⟩, comp_list (K := K) (a := l) (xs := tv ns) (fun i zs H3 => Same H H3 ∧ Rg H3 zs (ns.take i)) ?_ ⟨Same.refl _, rfl, fun i n e => by simp at e⟩ ?_ ?_ ?_⟩
  · rw [tv_len]; exact small (by omega)
  · rintro i ys H3 _ ⟨s3, _⟩
    exact s3.seq hS
  · rintro i x ys H3 hi _ ⟨s3, rg⟩
    obtain ⟨n, hn, rfl⟩ := tv_get hi
    have n6 := sz.le n (List.mem_of_getElem? hn)
    simp only [t_in_order_c1, caught, List.map_nil, tLRng, tSeq, tAsg, gName, tVar, tC, tOp, tUn, rI0, rI, rU, rAddI, rSubI, rMulI, rDivI, rDivC, rModI, rPowI, rNegI, rLtI, rLeI, rGtI, rGeI, rEq, rNe, scal, tRet, tIfS, tTest, tB, tNot, tNext, tCall, tCons, tNil, tTup, tLst, tCB, cAbs, cLen, cIsB, tSl, tPart, tNoPart, rSlL, rIxL, rIxT, tAndV, tOrV, tAnd, tOr, tNotV, tPar, tNever, gTup, gCons, gNil, List.getElem?_cons_zero, List.getElem?_cons_succ, List.set_cons_zero, List.set_cons_succ, Option.some.injEq, exists_eq_left', exists_eq_left, V.int.injEq, V.ref.injEq, V.bl.injEq, V.ty.injEq, List.cons.injEq, and_true, true_and, List.append_nil, exists_and_left, decide_eq_true_eq, List.cons_append, List.nil_append, and_assoc]
    refine ⟨n, rfl, by omega, fun p hp => ⟨s3.trans (Same.upd hp), ?_⟩⟩
    rw [take_snoc hn]
    exact (rg.same (Same.upd hp)).snoc (by rw [upd_same, rng_tv])
  · rintro ys H3 _ ⟨s3, rg⟩ p hp
    rw [tv_len, List.take_length] at rg
    have s4 : Same H3 (upd H3 p (.lst ys)) := Same.upd hp
    exact ⟨p, ys, ns, rfl, upd_same, rg.same s4, sz, fun p' xs H' s5 hp' hP ps => q p' xs H' ((s3.trans s4).trans s5) ((s3.trans s4).free hp') hP ps⟩
def N_check_cells : List PySem.Str := ["cells", "plays", "hands", "play"]
def sp_check_cells (K : PySem.W.Frag) : Sp := fun vs H Q _ => ∃ c p kvs xs qs hands cont, vs = [.ref c, .ref p, .int (hands : Nat)] ∧ H c = some (.dT kvs) ∧ H p = some (.lst xs) ∧ Ps H xs qs ∧ (∀ q ∈ qs, Cells H kvs cont q) ∧ (∀ q ∈ qs, (cont q).length = hands) ∧ kvs.length = qs.length ∧ Q .non H
def iv_check_cells (c p : Addr) (hands : Nat) (H : Hp) : Nat → St → Hp → Prop := fun _ σ H3 => H3 = H ∧ ∃ o, σ = [some (.ref c), some (.ref p), some (.int hands), o]
def t_check_cells_r1 (K : PySem.W.Frag) : TS := (tIfS (tTest (tOp rNe (tCB cLenT (tCons (tVar 0) tNil)) (tCB (cLen K) (tCons (tVar 1) tNil)))) tNever tNext)
def t_check_cells_b1 (K : PySem.W.Frag) : TS := (tSeq (tIfS (tB (tDNotIn (tVar 3) (tVar 0))) tNever tNext) (tIfS (tTest (tOp rNe (tCB (cLen K) (tCons (tDGet (tVar 0) (tVar 3)) tNil)) (tVar 2))) tNever tNext))
def t_check_cells (K : PySem.W.Frag) : TS := (tSeq (tFor (iList K (tVar 1)) (gName 3) (t_check_cells_b1 K)) (t_check_cells_r1 K))
theorem len_check_cells {K vs H Q E} (h : sp_check_cells K vs H Q E) : vs.length = 3 := by obtain ⟨c, p, kvs, xs, qs, hands, cont, rfl, _⟩ := h; rfl
theorem rd_check_cells {K vs H Q E} (h : sp_check_cells K vs H Q E) : t_check_cells K { nx := fun _ H' => Q .non H', rt := Q } (start N_check_cells vs) H := by
  obtain ⟨c, p, kvs, xs, qs, hands, cont, rfl, hc, hp, ps, ok, oh, hl, q⟩ := h
  rw [show start N_check_cells [V.ref c, V.ref p, V.int hands] = [some (.ref c), some (.ref p), some (.int hands), none] from rfl]
  simp only [t_check_cells, tFor, iList, tSeq, tAsg, gName, tVar, tC, tOp, tUn, rI0, rI, rU, rAddI, rSubI, rMulI, rDivI, rDivC, rModI, rPowI, rNegI, rLtI, rLeI, rGtI, rGeI, rEq, rNe, scal, tRet, tIfS, tTest, tB, tNot, tNext, tCall, tCons, tNil, tTup, tLst, tCB, cAbs, cLen, cIsB, tSl, tPart, tNoPart, rSlL, rIxL, rIxT, tAndV, tOrV, tAnd, tOr, tNotV, tPar, tNever, gTup, gCons, gNil, List.getElem?_cons_zero, List.getElem?_cons_succ, List.set_cons_zero, List.set_cons_succ, Option.some.injEq, exists_eq_left', exists_eq_left, V.int.injEq, V.ref.injEq, V.bl.injEq, V.ty.injEq, List.cons.injEq, and_true, true_and, List.append_nil, exists_and_left, decide_eq_true_eq, List.cons_append, List.nil_append, and_assoc]
  refine ⟨⟨_, SqL.of hp⟩, for_list (K := K) (a := p) (xs := xs) (g := gName 3) (D := { nx := t_check_cells_r1 K _, rt := Q }) (iv_check_cells c p hands H) ?_ ?_ ?_ ?_⟩
  · exact ⟨rfl, none, rfl⟩
  · rintro i σ H3 _ ⟨rfl, _⟩
    exact SqL.of hp
  · rintro i x σ H3 hi ⟨rfl, o, rfl⟩
    obtain ⟨b, a, hb, rfl, ha⟩ := ps.get hi
    obtain ⟨l, hv, hL⟩ := ok b (List.mem_of_getElem? hb)
    have hvl := oh b (List.mem_of_getElem? hb)
    have ht : H3 a = some (.tup ((tk b).map kV)) := by rw [tv_tk]; exact ha
    simp only [t_check_cells_b1, tDNotIn, tDGet, tSeq, tAsg, gName, tVar, tC, tOp, tUn, rI0, rI, rU, rAddI, rSubI, rMulI, rDivI, rDivC, rModI, rPowI, rNegI, rLtI, rLeI, rGtI, rGeI, rEq, rNe, scal, tRet, tIfS, tTest, tB, tNot, tNext, tCall, tCons, tNil, tTup, tLst, tCB, cAbs, cLen, cIsB, tSl, tPart, tNoPart, rSlL, rIxL, rIxT, tAndV, tOrV, tAnd, tOr, tNotV, tPar, tNever, gTup, gCons, gNil, List.getElem?_cons_zero, List.getElem?_cons_succ, List.set_cons_zero, List.set_cons_succ, Option.some.injEq, exists_eq_left', exists_eq_left, V.int.injEq, V.ref.injEq, V.bl.injEq, V.ty.injEq, List.cons.injEq, and_true, true_and, List.append_nil, exists_and_left, decide_eq_true_eq, List.cons_append, List.nil_append, and_assoc]
    refine ⟨_, DGet.t hc ht, ?_⟩
    rw [hv]
    refine iteF ?_
    refine ⟨_, by rw [← hv]; exact DGet.t hc ht, ?_⟩
    exact ⟨l, rfl, _, .inl (SqL.of hL), iteNS (by rw [hvl]) ⟨rfl, _, rfl⟩⟩
  · rintro σ H3 ⟨rfl, o, rfl⟩
    simp only [t_check_cells_r1, cLenT, tSeq, tAsg, gName, tVar, tC, tOp, tUn, rI0, rI, rU, rAddI, rSubI, rMulI, rDivI, rDivC, rModI, rPowI, rNegI, rLtI, rLeI, rGtI, rGeI, rEq, rNe, scal, tRet, tIfS, tTest, tB, tNot, tNext, tCall, tCons, tNil, tTup, tLst, tCB, cAbs, cLen, cIsB, tSl, tPart, tNoPart, rSlL, rIxL, rIxT, tAndV, tOrV, tAnd, tOr, tNotV, tPar, tNever, gTup, gCons, gNil, List.getElem?_cons_zero, List.getElem?_cons_succ, List.set_cons_zero, List.set_cons_succ, Option.some.injEq, exists_eq_left', exists_eq_left, V.int.injEq, V.ref.injEq, V.bl.injEq, V.ty.injEq, List.cons.injEq, and_true, true_and, List.append_nil, exists_and_left, decide_eq_true_eq, List.cons_append, List.nil_append, and_assoc]
    refine ⟨_, hc, _, .inl (SqL.of hp), ?_⟩
    rw [hl, ps.1]
    refine iteNS rfl q
def N_Table_init : List PySem.Str := ["self", "sizes", "cells", "plays", "play"]
def flds (m d : Addr) : List (Str × V) := putF "cells" (.ref d) (putF "many" (.ref m) [])
/-- a Table stands at t -/
structure TabAt (K : PySem.W.Frag) (H : Hp) (t : Addr) (ns : List Nat) (cont : List Nat → List V) : Prop where
  ob : ∃ dx m d kv, H t = some (.ins (gadr K "Table") dx (flds m d)) ∧ H m = some (.lst (tv ns)) ∧ H d = some (.dT kv) ∧ ∀ q ∈ ordR ns.reverse, Cells H kv cont q
/-- all but t stays -/
def Sb (t : Addr) (H H' : Hp) : Prop := ∀ b o, H b = some o → b ≠ t → H' b = some o
def sp_Table_init (K : PySem.W.Frag) : Sp := fun vs H Q _ => ∃ t dx s c ns kvs cont, vs = [.ref t, .ref s, .ref c] ∧ H t = some (.ins (gadr K "Table") dx []) ∧ SqL K H s (tv ns) ∧ 2 ≤ ns.length ∧ Sz ns ∧ H c = some (.dT kvs) ∧ (∀ q ∈ ordR ns.reverse, Cells H kvs cont q) ∧ (∀ q ∈ ordR ns.reverse, (cont q).length = ns.length) ∧ kvs.length = (ordR ns.reverse).length ∧
  ∀ H', Sb t H H' → TabAt K H' t ns cont → Q .non H'
def iv_Table_init (K : PySem.W.Frag) (t dx s c p m d : Addr) (ns : List Nat) (cont : List Nat → List V) (H : Hp) (xs : List V) : Nat → St → Hp → Prop := fun i σ H3 => ∃ kvs o, σ = [some (.ref t), some (.ref s), some (.ref c), some (.ref p), o] ∧ Sb t H H3 ∧ H3 t = some (.ins (gadr K "Table") dx (flds m d)) ∧ H3 m = some (.lst (tv ns)) ∧ H3 p = some (.lst xs) ∧ Ps H3 xs (ordR ns.reverse) ∧
  H d = none ∧ H3 d = some (.dT kvs) ∧ kvs.length ≤ i ∧ ∀ q ∈ (ordR ns.reverse).take i, Cells H3 kvs cont q
def t_Table_init_b1 (K : PySem.W.Frag) : TS := (sDPut (tFld K (tVar 0) "cells") (tVar 4) (tCB (cList K) (tCons (tDGet (tVar 2) (tVar 4)) tNil)))
def t_Table_init (K : PySem.W.Frag) : TS := (tSeq (tDrop (tCall (sp_check_sizes K) [] E0 (tCons (tVar 1) tNil))) (tSeq (tAsg (tCall (sp_in_order K) [] E0 (tCons (tVar 1) tNil)) (gName 3)) (tSeq (tDrop (tCall (sp_check_cells K) [] E0 (tCons (tVar 2) (tCons (tVar 3) (tCons (tCB (cLen K) (tCons (tVar 1) tNil)) tNil))))) (tSeq (sFld K (tVar 0) (tCB (cList K) (tCons (tVar 1) tNil)) "many") (tSeq (sFld K (tVar 0) tDNewT "cells") (tFor (iList K (tVar 3)) (gName 4) (t_Table_init_b1 K)))))))
theorem len_Table_init {K vs H Q E} (h : sp_Table_init K vs H Q E) : vs.length = 3 := by obtain ⟨t, dx, s, c, ns, kvs, cont, rfl, _⟩ := h; rfl
theorem cm : ¬ ("many" : Str) = "cells" := by decide +kernel
theorem flds_many (m d : Addr) : (flds m d).lookup ("many" : Str) = some (.ref m) := by
  unfold flds
  rw [lookup_putF, if_neg cm, lookup_putF, if_pos rfl]
theorem flds_cells (m d : Addr) : (flds m d).lookup ("cells" : Str) = some (.ref d) := by
  unfold flds
  rw [lookup_putF, if_pos rfl]
theorem flds_no (m d : Addr) {x : Str} (h1 : ¬ x = "cells") (h2 : ¬ x = "many") : (flds m d).lookup x = none := by
  unfold flds
  rw [lookup_putF, if_neg h1, lookup_putF, if_neg h2]
  all_goals rfl
theorem Sb.free {t d : Addr} {H H' : Hp} (s : Sb t H H') (h : H' d = none) (n : d ≠ t) : H d = none := by
  cases e : H d with
  | none => rfl
  | some o => have := s d o e n; rw [h] at this; cases this
theorem Sb.keepT {t C dx : Addr} {H H' : Hp} {fs : List (Str × V)} (s : Sb t H H') (h : H t = some (.ins C dx fs)) : KeepT H H' := fun a xs e => s a _ e (ne_of e h (by intro z; cases z))
theorem Sb.put {t d : Addr} {H G : Hp} {o : HO} (s : Sb t H G) (h : H d = none) : Sb t H (upd G d o) := fun b u e hb => by rw [upd_ne (ne_of_none e h)]; exact s b u e hb
theorem Sb.of {t : Addr} {H H' : Hp} (s : Same H H') : Sb t H H' := fun b o e _ => s b o e
theorem Sb.trans {t : Addr} {H H' H'' : Hp} (a : Sb t H H') (b : Sb t H' H'') : Sb t H H'' := fun c o e hc => b c o (a c o e hc) hc
theorem Sb.at {t : Addr} {H : Hp} {o : HO} : Sb t H (upd H t o) := fun b u e hb => by rw [upd_ne hb]; exact e
theorem rd_Table_init {K vs H Q E} (T : TabK K) (h : sp_Table_init K vs H Q E) : t_Table_init K { nx := fun _ H' => Q .non H', rt := Q } (start N_Table_init vs) H := by
  obtain ⟨t, dx, s, c, ns, kvs, cont, rfl, ht, hS, h2, sz, hc, ok, oh, hl, q⟩ := h
  rw [show start N_Table_init [V.ref t, V.ref s, V.ref c] = [some (.ref t), some (.ref s), some (.ref c), none, none] from rfl]
  simp only [t_Table_init, tDrop, sFld, tDNewT, cList, tFor, iList, tSeq, tAsg, gName, tVar, tC, tOp, tUn, rI0, rI, rU, rAddI, rSubI, rMulI, rDivI, rDivC, rModI, rPowI, rNegI, rLtI, rLeI, rGtI, rGeI, rEq, rNe, scal, tRet, tIfS, tTest, tB, tNot, tNext, tCall, tCons, tNil, tTup, tLst, tCB, cAbs, cLen, cIsB, tSl, tPart, tNoPart, rSlL, rIxL, rIxT, tAndV, tOrV, tAnd, tOr, tNotV, tPar, tNever, gTup, gCons, gNil, List.getElem?_cons_zero, List.getElem?_cons_succ, List.set_cons_zero, List.set_cons_succ, Option.some.injEq, exists_eq_left', exists_eq_left, V.int.injEq, V.ref.injEq, V.bl.injEq, V.ty.injEq, List.cons.injEq, and_true, true_and, List.append_nil, exists_and_left, decide_eq_true_eq, List.cons_append, List.nil_append, and_assoc]
  refine ⟨s, ns, rfl, hS, h2, sz, s, ns, rfl, hS, sz, fun p xs H1 s1 hp hP ps => ?_⟩
  refine ⟨_, .inl (s1.seq hS), ?_⟩
  rw [tv_len]
  refine ⟨c, p, kvs, xs, ordR ns.reverse, ns.length, cont, rfl, s1 _ _ hc, hP, ps, fun q hq => (ok q hq).same s1, oh, hl, ?_⟩
  refine ⟨_, .inl (s1.seq hS), fun m hm => ?_⟩
  have s2 : Same H1 (upd H1 m (.lst (tv ns))) := Same.upd hm
  generalize e2 : upd H1 m (.lst (tv ns)) = H2 at s2
  have m2 : H2 m = some (.lst (tv ns)) := by rw [← e2]; exact upd_same
  have t2 : H2 t = some (.ins (gadr K "Table") dx []) := s2 _ _ (s1 _ _ ht)
  refine ⟨_, dx, [], t2, T.cl, T.nM, by show 0 < 1000; decide, fun d hd => ?_⟩
  have t3 : (upd H2 t (.ins (gadr K "Table") dx (putF "many" (.ref m) []))) t = some (.ins (gadr K "Table") dx (putF "many" (.ref m) [])) := upd_same
  have ntd : t ≠ d := ne_of_none t3 hd
  refine ⟨_, dx, _, (by rw [upd_ne ntd]; exact t3), T.cl, T.nC, by show 1 < 1000; decide, ?_⟩
  have b1 : Sb t H2 (upd (upd (upd H2 t (.ins (gadr K "Table") dx (putF "many" (.ref m) []))) d (.dT [])) t (.ins (gadr K "Table") dx (flds m d))) := (Sb.at.trans (Sb.of (Same.upd hd))).trans Sb.at
  have d5 : (upd (upd (upd H2 t (.ins (gadr K "Table") dx (putF "many" (.ref m) []))) d (.dT [])) t (.ins (gadr K "Table") dx (flds m d))) d = some (.dT []) := by rw [upd_ne ntd.symm]; exact upd_same
  have t5 : (upd (upd (upd H2 t (.ins (gadr K "Table") dx (putF "many" (.ref m) []))) d (.dT [])) t (.ins (gadr K "Table") dx (flds m d))) t = some (.ins (gadr K "Table") dx (flds m d)) := upd_same
  have hd0 : H d = none := Sb.free ((Sb.of (s1.trans s2)).trans Sb.at) hd ntd.symm
  rw [show putF "cells" (V.ref d) (putF "many" (V.ref m) []) = flds m d from rfl]
  generalize (upd (upd (upd H2 t (.ins (gadr K "Table") dx (putF "many" (.ref m) []))) d (.dT [])) t (.ins (gadr K "Table") dx (flds m d))) = H5 at b1 d5 t5
  have b0 : Sb t H H5 := (Sb.of (s1.trans s2)).trans b1
  have mt : m ≠ t := ne_of m2 t2 (by intro z; cases z)
  have pt : p ≠ t := ne_of (s2 _ _ hP) t2 (by intro z; cases z)
  have p5 : H5 p = some (.lst xs) := b1 _ _ (s2 _ _ hP) pt
  have ps5 : Ps H5 xs (ordR ns.reverse) := (ps.same s2).keep (b1.keepT t2)
  have hnp : (ordR ns.reverse).length ≤ 216 := sz.rev.ord
  refine ⟨p, rfl, ⟨_, SqL.of p5⟩, for_list (K := K) (a := p) (xs := xs) (g := gName 4) (D := { nx := fun _ H' => Q .non H', rt := Q }) (iv_Table_init K t dx s c p m d ns cont H xs) ?_ ?_ ?_ ?_⟩
  · exact ⟨[], none, rfl, b0, t5, b1 _ _ m2 mt, p5, ps5, hd0, d5, Nat.le_refl _, fun q hq => (by simp at hq)⟩
  · rintro i σ G _ ⟨_, _, _, _, _, _, hp, _⟩
    exact SqL.of hp
  · rintro i x σ G hi ⟨kv, o, rfl, b3, tG, mG, pG, psG, hd, dG, hk, okG⟩
    obtain ⟨b, a, hb, rfl, ha⟩ := psG.get hi
    have hil : i < (ordR ns.reverse).length := (List.getElem?_eq_some_iff.mp hb).1
    obtain ⟨l, hv, hL⟩ := ok b (List.mem_of_getElem? hb)
    have cG : G c = some (.dT kvs) := b3 _ _ hc (ne_of hc ht (by intro z; cases z))
    have lG : G l = some (.lst (cont b)) := b3 _ _ hL (ne_of hL ht (by intro z; cases z))
    have aG : G a = some (.tup ((tk b).map kV)) := by rw [tv_tk]; exact ha
    simp only [t_Table_init_b1, sDPut, tDGet, tFld, cList, tSeq, tAsg, gName, tVar, tC, tOp, tUn, rI0, rI, rU, rAddI, rSubI, rMulI, rDivI, rDivC, rModI, rPowI, rNegI, rLtI, rLeI, rGtI, rGeI, rEq, rNe, scal, tRet, tIfS, tTest, tB, tNot, tNext, tCall, tCons, tNil, tTup, tLst, tCB, cAbs, cLen, cIsB, tSl, tPart, tNoPart, rSlL, rIxL, rIxT, tAndV, tOrV, tAnd, tOr, tNotV, tPar, tNever, gTup, gCons, gNil, List.getElem?_cons_zero, List.getElem?_cons_succ, List.set_cons_zero, List.set_cons_succ, Option.some.injEq, exists_eq_left', exists_eq_left, V.int.injEq, V.ref.injEq, V.bl.injEq, V.ty.injEq, List.cons.injEq, and_true, true_and, List.append_nil, exists_and_left, decide_eq_true_eq, List.cons_append, List.nil_append, and_assoc]
    refine ⟨_, by rw [← hv]; exact DGet.t cG aG, ?_⟩
    refine ⟨l, rfl, _, .inl (SqL.of lG), fun l' hl' => ?_⟩
    have s6 : Same G (upd G l' (.lst (cont b))) := Same.upd hl'
    have d6 : (upd G l' (.lst (cont b))) d = some (.dT kv) := s6 _ _ dG
    refine ⟨_, _, _, s6 _ _ tG, T.cl, T.nC, _, flds_cells _ _, d, rfl, _, DPut.t d6 (s6 _ _ aG) (small' (by omega)), ?_⟩
    refine ⟨_, _, rfl, (b3.trans (Sb.of s6)).put hd, ?_, ?_, ?_, ?_, hd, upd_same, ?_, ?_⟩
    · rw [upd_ne (ne_of (s6 _ _ tG) d6 (by intro z; cases z))]; exact s6 _ _ tG
    · rw [upd_ne (ne_of (s6 _ _ mG) d6 (by intro z; cases z))]; exact s6 _ _ mG
    · rw [upd_ne (ne_of (s6 _ _ pG) d6 (by intro z; cases z))]; exact s6 _ _ pG
    · exact (psG.same s6).keep fun b xs e => by rw [upd_ne (ne_of e d6 (by intro z; cases z))]; exact e
    · have := length_putK kv (tk b) (V.ref l')
      omega
    · intro q hq
      rw [take_snoc hb] at hq
      have ne1 : l' ≠ d := ne_of upd_same d6 (by intro z; cases z)
      by_cases e : q = b
      · subst e
        exact ⟨l', by rw [valV_put, if_pos rfl], by rw [upd_ne ne1]; exact upd_same⟩
      · have hq' : q ∈ (ordR ns.reverse).take i := by
          rcases List.mem_append.mp hq with h | h
          · exact h
          · exact absurd (List.mem_singleton.mp h) e
        obtain ⟨l2, hv2, hL2⟩ := okG q hq'
        exact ⟨l2, by rw [valV_put, if_neg (fun z => e (tk_inj z))]; exact hv2, by rw [upd_ne (ne_of (s6 _ _ hL2) d6 (by intro z; cases z))]; exact s6 _ _ hL2⟩
  · rintro σ G ⟨kv, o, rfl, b3, tG, mG, _, _, _, dG, _, okG⟩
    rw [show xs.length = (ordR ns.reverse).length from ps.1, List.take_length] at okG
    exact q G b3 ⟨dx, m, d, kv, tG, mG, dG, okG⟩
theorem TabAt.same {K : PySem.W.Frag} {H H' : Hp} {t : Addr} {ns : List Nat} {cont : List Nat → List V} (h : TabAt K H t ns cont) (s : Same H H') : TabAt K H' t ns cont := let ⟨dx, m, d, kv, h1, h2, h3, h4⟩ := h.ob; ⟨dx, m, d, kv, s _ _ h1, s _ _ h2, s _ _ h3, fun q hq => (h4 q hq).same s⟩
theorem TabAt.ins {K : PySem.W.Frag} {H : Hp} {t : Addr} {ns : List Nat} {cont : List Nat → List V} (h : TabAt K H t ns cont) : ∃ dx m d, H t = some (.ins (gadr K "Table") dx (flds m d)) := let ⟨dx, m, d, _, h1, _⟩ := h.ob; ⟨dx, m, d, h1⟩
def N_l_choice : List PySem.Str := ["_law_cell", "_law_hand", "_law_size", "_law_number", "_law_far"]
def sp_l_choice (K : PySem.W.Frag) : Sp := fun vs H Q _ => ∃ (z : Int) (h n : Nat), vs = [.int z, .int h, .int n] ∧ h < 3 ∧ 1 ≤ n ∧ n ≤ 6 ∧ ∀ x H', Same H H' → Q (.int x) H'
def t_l_choice_r1 (K : PySem.W.Frag) : TS := (tRet (tOp rSubI (tUn rNegI (tC (.int 1))) (tOp (rIxL K) (tLst (tCons (tC (.int 0)) (tCons (tVar 4) tNil))) (tOp rModI (tOp rDivC (tVar 3) (tC (.int 4))) (tC (.int 2))))))
def t_l_choice_r2 (K : PySem.W.Frag) : TS := (tSeq (tIfS (tTest (tOp rEq (tOp rModI (tVar 3) (tC (.int 4))) (tC (.int 2)))) (tRet (tOp rAddI (tVar 2) (tOp (rIxL K) (tLst (tCons (tC (.int 0)) (tCons (tC (.int 1)) (tCons (tVar 4) tNil)))) (tOp rModI (tOp rDivC (tVar 3) (tC (.int 4))) (tC (.int 3)))))) tNext) (t_l_choice_r1 K))
def t_l_choice_r3 (K : PySem.W.Frag) : TS := (tSeq (tIfS (tTest (tOp rLtI (tOp rModI (tVar 3) (tC (.int 4))) (tC (.int 2)))) (tRet (tOp rModI (tOp rDivC (tVar 3) (tC (.int 4))) (tVar 2))) tNext) (t_l_choice_r2 K))
def t_l_choice_r4 (K : PySem.W.Frag) : TS := (tSeq (tAsg (tOp rModI (tVar 0) (tOp rPowI (tC (.int 10)) (tC (.int 60)))) (gName 4)) (t_l_choice_r3 K))
def t_l_choice_r5 (K : PySem.W.Frag) : TS := (tSeq (tAsg (tOp rModI (tOp rMulI (tVar 3) (tVar 3)) (tOp (rIxL K) (tLst (tCons (tC (.int 2147483647)) (tCons (tC (.int 2147483629)) (tCons (tC (.int 2147483587)) tNil)))) (tVar 1))) (gName 3)) (t_l_choice_r4 K))
def t_l_choice (K : PySem.W.Frag) : TS := (tSeq (tAsg (tOp rAddI (tOp rModI (tVar 0) (tOp rPowI (tC (.int 10)) (tC (.int 18)))) (tOp rMulI (tC (.int 48271)) (tOp rAddI (tVar 1) (tC (.int 1))))) (gName 3)) (t_l_choice_r5 K))
theorem len_l_choice {K vs H Q E} (h : sp_l_choice K vs H Q E) : vs.length = 3 := by obtain ⟨_, _, _, rfl, _⟩ := h; rfl
theorem rd_l_choice {K vs H Q E} (h : sp_l_choice K vs H Q E) : t_l_choice K { nx := fun _ H' => Q .non H', rt := Q } (start N_l_choice vs) H := by
  obtain ⟨z, h, n, rfl, h3, n1, n6, k⟩ := h
  rw [show start N_l_choice [V.int z, V.int h, V.int n] = [some (.int z), some (.int h), some (.int n), none, none] from rfl]
  simp only [t_l_choice, tSeq, tAsg, gName, tVar, tC, tOp, tUn, rI0, rI, rU, rAddI, rSubI, rMulI, rDivI, rDivC, rModI, rPowI, rNegI, rLtI, rLeI, rGtI, rGeI, rEq, rNe, scal, tRet, tIfS, tTest, tB, tNot, tNext, tCall, tCons, tNil, tTup, tLst, tCB, cAbs, cLen, cIsB, tSl, tPart, tNoPart, rSlL, rIxL, rIxT, tAndV, tOrV, tAnd, tOr, tNotV, tPar, tNever, gTup, gCons, gNil, List.getElem?_cons_zero, List.getElem?_cons_succ, List.set_cons_zero, List.set_cons_succ, Option.some.injEq, exists_eq_left', exists_eq_left, V.int.injEq, V.ref.injEq, V.bl.injEq, V.ty.injEq, List.cons.injEq, and_true, true_and, List.append_nil, exists_and_left, decide_eq_true_eq, List.cons_append, List.nil_append, and_assoc]
  have w1 := Int.emod_nonneg z (show (10 ^ Int.toNat 18 : Int) ≠ 0 by decide)
  have w2 := Int.emod_lt_of_pos z (show (0 : Int) < 10 ^ Int.toNat 18 by decide)
  have e18 : (10 ^ Int.toNat 18 : Int) = 1000000000000000000 := by decide
  have bz : BB 64 (z % 10 ^ Int.toNat 18 + 48271 * ((h : Int) + 1)) := by
    rw [e18] at w1 w2 ⊢
    unfold BB
    have : (2 : Nat) ^ 64 = 18446744073709551616 := by decide
    rw [this]; omega
  refine ⟨⟨by decide, by decide, by decide⟩, by decide, .l (by unfold BB; decide), ?_⟩
  generalize z % 10 ^ Int.toNat 18 + 48271 * ((h : Int) + 1) = y at bz
  simp only [t_l_choice_r5, tSeq, tAsg, gName, tVar, tC, tOp, tUn, rI0, rI, rU, rAddI, rSubI, rMulI, rDivI, rDivC, rModI, rPowI, rNegI, rLtI, rLeI, rGtI, rGeI, rEq, rNe, scal, tRet, tIfS, tTest, tB, tNot, tNext, tCall, tCons, tNil, tTup, tLst, tCB, cAbs, cLen, cIsB, tSl, tPart, tNoPart, rSlL, rIxL, rIxT, tAndV, tOrV, tAnd, tOr, tNotV, tPar, tNever, gTup, gCons, gNil, List.getElem?_cons_zero, List.getElem?_cons_succ, List.set_cons_zero, List.set_cons_succ, Option.some.injEq, exists_eq_left', exists_eq_left, V.int.injEq, V.ref.injEq, V.bl.injEq, V.ty.injEq, List.cons.injEq, and_true, true_and, List.append_nil, exists_and_left, decide_eq_true_eq, List.cons_append, List.nil_append, and_assoc]
  refine ⟨.l bz, by show 3 ≤ sizeLine; decide, fun p hp => ?_⟩
  have s1 := Same.upd (o := HO.lst [.int 2147483647, .int 2147483629, .int 2147483587]) hp
  have p1 : (upd H p (HO.lst [.int 2147483647, .int 2147483629, .int 2147483587])) p = some (HO.lst [.int 2147483647, .int 2147483629, .int 2147483587]) := upd_same
  generalize upd H p (HO.lst [.int 2147483647, .int 2147483629, .int 2147483587]) = H1 at s1 p1
  obtain ⟨m, hm, m0⟩ : ∃ m : Int, atI [V.int 2147483647, V.int 2147483629, V.int 2147483587] (h : Int) = some (.int m) ∧ 0 < m := by
    rcases (show h = 0 ∨ h = 1 ∨ h = 2 by omega) with e | e | e <;> subst e
    · exact ⟨_, atI0, by decide⟩
    · exact ⟨_, atI1, by decide⟩
    · exact ⟨_, atI2, by decide⟩
  refine ⟨_, SqL.of p1, _, hm, _, rfl, m0, ?_⟩
  generalize y * y % m = u
  simp only [t_l_choice_r4, tSeq, tAsg, gName, tVar, tC, tOp, tUn, rI0, rI, rU, rAddI, rSubI, rMulI, rDivI, rDivC, rModI, rPowI, rNegI, rLtI, rLeI, rGtI, rGeI, rEq, rNe, scal, tRet, tIfS, tTest, tB, tNot, tNext, tCall, tCons, tNil, tTup, tLst, tCB, cAbs, cLen, cIsB, tSl, tPart, tNoPart, rSlL, rIxL, rIxT, tAndV, tOrV, tAnd, tOr, tNotV, tPar, tNever, gTup, gCons, gNil, List.getElem?_cons_zero, List.getElem?_cons_succ, List.set_cons_zero, List.set_cons_succ, Option.some.injEq, exists_eq_left', exists_eq_left, V.int.injEq, V.ref.injEq, V.bl.injEq, V.ty.injEq, List.cons.injEq, and_true, true_and, List.append_nil, exists_and_left, decide_eq_true_eq, List.cons_append, List.nil_append, and_assoc]
  refine ⟨⟨by decide, by decide, by decide⟩, by decide, ?_⟩
  generalize z % 10 ^ Int.toNat 60 = far
  simp only [t_l_choice_r3, tSeq, tAsg, gName, tVar, tC, tOp, tUn, rI0, rI, rU, rAddI, rSubI, rMulI, rDivI, rDivC, rModI, rPowI, rNegI, rLtI, rLeI, rGtI, rGeI, rEq, rNe, scal, tRet, tIfS, tTest, tB, tNot, tNext, tCall, tCons, tNil, tTup, tLst, tCB, cAbs, cLen, cIsB, tSl, tPart, tNoPart, rSlL, rIxL, rIxT, tAndV, tOrV, tAnd, tOr, tNotV, tPar, tNever, gTup, gCons, gNil, List.getElem?_cons_zero, List.getElem?_cons_succ, List.set_cons_zero, List.set_cons_succ, Option.some.injEq, exists_eq_left', exists_eq_left, V.int.injEq, V.ref.injEq, V.bl.injEq, V.ty.injEq, List.cons.injEq, and_true, true_and, List.append_nil, exists_and_left, decide_eq_true_eq, List.cons_append, List.nil_append, and_assoc]
  refine ⟨by decide, ite2 (fun _ => ⟨⟨by decide, by decide⟩, by omega, k _ _ s1⟩) (fun _ => ?_)⟩
  simp only [t_l_choice_r2, tSeq, tAsg, gName, tVar, tC, tOp, tUn, rI0, rI, rU, rAddI, rSubI, rMulI, rDivI, rDivC, rModI, rPowI, rNegI, rLtI, rLeI, rGtI, rGeI, rEq, rNe, scal, tRet, tIfS, tTest, tB, tNot, tNext, tCall, tCons, tNil, tTup, tLst, tCB, cAbs, cLen, cIsB, tSl, tPart, tNoPart, rSlL, rIxL, rIxT, tAndV, tOrV, tAnd, tOr, tNotV, tPar, tNever, gTup, gCons, gNil, List.getElem?_cons_zero, List.getElem?_cons_succ, List.set_cons_zero, List.set_cons_succ, Option.some.injEq, exists_eq_left', exists_eq_left, V.int.injEq, V.ref.injEq, V.bl.injEq, V.ty.injEq, List.cons.injEq, and_true, true_and, List.append_nil, exists_and_left, decide_eq_true_eq, List.cons_append, List.nil_append, and_assoc]
  refine ⟨by decide, ite2 (fun _ => ?_) (fun _ => ?_)⟩
  · refine ⟨by show 3 ≤ sizeLine; decide, fun q hq => ⟨⟨by decide, by decide⟩, by decide, ?_⟩⟩
    have y1 := Int.emod_nonneg (u / 4) (show (3 : Int) ≠ 0 by decide)
    have y2 := Int.emod_lt_of_pos (u / 4) (show (0 : Int) < 3 by decide)
    obtain ⟨v, hv⟩ : ∃ v : Int, atI [V.int 0, V.int 1, V.int far] (u / 4 % 3) = some (.int v) := by
      rcases (show u / 4 % 3 = 0 ∨ u / 4 % 3 = 1 ∨ u / 4 % 3 = 2 by omega) with e | e | e <;> rw [e]
      · exact ⟨_, atI0⟩
      · exact ⟨_, atI1⟩
      · exact ⟨_, atI2⟩
    exact ⟨_, SqL.of upd_same, _, hv, _, rfl, k _ _ (s1.trans (Same.upd hq))⟩
  · simp only [t_l_choice_r1, tSeq, tAsg, gName, tVar, tC, tOp, tUn, rI0, rI, rU, rAddI, rSubI, rMulI, rDivI, rDivC, rModI, rPowI, rNegI, rLtI, rLeI, rGtI, rGeI, rEq, rNe, scal, tRet, tIfS, tTest, tB, tNot, tNext, tCall, tCons, tNil, tTup, tLst, tCB, cAbs, cLen, cIsB, tSl, tPart, tNoPart, rSlL, rIxL, rIxT, tAndV, tOrV, tAnd, tOr, tNotV, tPar, tNever, gTup, gCons, gNil, List.getElem?_cons_zero, List.getElem?_cons_succ, List.set_cons_zero, List.set_cons_succ, Option.some.injEq, exists_eq_left', exists_eq_left, V.int.injEq, V.ref.injEq, V.bl.injEq, V.ty.injEq, List.cons.injEq, and_true, true_and, List.append_nil, exists_and_left, decide_eq_true_eq, List.cons_append, List.nil_append, and_assoc]
    refine ⟨by show 2 ≤ sizeLine; decide, fun q hq => ⟨⟨by decide, by decide⟩, by decide, ?_⟩⟩
    have y1 := Int.emod_nonneg (u / 4) (show (2 : Int) ≠ 0 by decide)
    have y2 := Int.emod_lt_of_pos (u / 4) (show (0 : Int) < 2 by decide)
    obtain ⟨v, hv⟩ : ∃ v : Int, atI [V.int 0, V.int far] (u / 4 % 2) = some (.int v) := by
      rcases (show u / 4 % 2 = 0 ∨ u / 4 % 2 = 1 by omega) with e | e <;> rw [e]
      · exact ⟨_, atI0⟩
      · exact ⟨_, atI1⟩
    exact ⟨_, SqL.of upd_same, _, hv, _, rfl, k _ _ (s1.trans (Same.upd hq))⟩
def N_l_whole : List PySem.Str := ["_law_found"]
def sp_l_whole (_ : PySem.W.Frag) : Sp := fun vs H Q _ => ∃ i, vs = [.int i] ∧ Q (.bl true) H
def t_l_whole (K : PySem.W.Frag) : TS := (tRet (tAndV (tCB cIsB (tCons (tVar 0) (tCons (tC (.ty "int")) tNil))) (tNotV (tCB cIsB (tCons (tVar 0) (tCons (tC (.ty "bool")) tNil))))))
theorem len_l_whole {K vs H Q E} (h : sp_l_whole K vs H Q E) : vs.length = 1 := by obtain ⟨a, rfl, _⟩ := h; rfl
theorem rd_l_whole {K vs H Q E} (h : sp_l_whole K vs H Q E) : t_l_whole K { nx := fun _ H' => Q .non H', rt := Q } (start N_l_whole vs) H := by
  obtain ⟨i, rfl, q⟩ := h
  rw [show start N_l_whole [V.int i] = [some (.int i)] from rfl]
  simp only [t_l_whole, tSeq, tAsg, gName, tVar, tC, tOp, tUn, rI0, rI, rU, rAddI, rSubI, rMulI, rDivI, rDivC, rModI, rPowI, rNegI, rLtI, rLeI, rGtI, rGeI, rEq, rNe, scal, tRet, tIfS, tTest, tB, tNot, tNext, tCall, tCons, tNil, tTup, tLst, tCB, cAbs, cLen, cIsB, tSl, tPart, tNoPart, rSlL, rIxL, rIxT, tAndV, tOrV, tAnd, tOr, tNotV, tPar, tNever, gTup, gCons, gNil, List.getElem?_cons_zero, List.getElem?_cons_succ, List.set_cons_zero, List.set_cons_succ, Option.some.injEq, exists_eq_left', exists_eq_left, V.int.injEq, V.ref.injEq, V.bl.injEq, V.ty.injEq, List.cons.injEq, and_true, true_and, List.append_nil, exists_and_left, decide_eq_true_eq, List.cons_append, List.nil_append, and_assoc]
  exact ⟨true, .inl ⟨rfl, rfl⟩, iteT ⟨false, .inr ⟨rfl, rfl⟩, q⟩⟩
def N_l_off : List PySem.Str := ["_law_found", "_law_units_here", "_law_sizes_here", "_law_play_here", "_law_hand", "_law_choice_here", "_law_other"]
def sp_l_off (_ : PySem.W.Frag) : Sp := fun vs H Q _ => ∃ v o u s a ns un q, vs = [v, .ref u, .ref s, .ref a] ∧ OffV H v o ∧ Off un q ns o ∧ UnAt H u ns un ∧ H s = some (.lst (tv ns)) ∧ Sz ns ∧ H a = some (.tup (tv q)) ∧ q ∈ ordR ns.reverse ∧ ∀ H', Same H H' → Q (.bl true) H'
def t_l_off_r1 (K : PySem.W.Frag) : TS := (tRet (tOp rGtI (tOp (rIxL K) (tDGet (tVar 1) (tVar 6)) (tVar 4)) (tOp (rIxL K) (tDGet (tVar 1) (tVar 3)) (tVar 4))))
def t_l_off_r2 (K : PySem.W.Frag) : TS := (tSeq (tAsg (tOp rCatA (tOp rCatA (tSl rSlA (tVar 3) tNoPart (tPart (tVar 4))) (tTup (tCons (tVar 5) tNil))) (tSl rSlA (tVar 3) (tPart (tOp rAddI (tVar 4) (tC (.int 1)))) tNoPart)) (gName 6)) (t_l_off_r1 K))
def t_l_off_r3 (K : PySem.W.Frag) : TS := (tSeq (tIfS (tOr (tTest (tOp rLtI (tVar 4) (tC (.int 0)))) (tOr (tTest (tOp rGeI (tVar 4) (tCB (cLen K) (tCons (tVar 2) tNil)))) (tOr (tTest (tOp rLtI (tVar 5) (tC (.int 0)))) (tTest (tOp rGeI (tVar 5) (tOp (rIxL K) (tVar 2) (tVar 4))))))) (tRet (tC (.bl false))) tNext) (t_l_off_r2 K))
def t_l_off_r4 (K : PySem.W.Frag) : TS := (tSeq (tAsg (tVar 0) (gTup K 2 (gCons (gName 4) (gCons (gName 5) gNil)))) (t_l_off_r3 K))
def t_l_off_r5 (K : PySem.W.Frag) : TS := (tSeq (tIfS (tOr (tNot (tB (tCB cIsB2 (tCons (tVar 0) (tCons (tC (.ty "tuple")) tNil))))) (tOr (tTest (tOp rNe (tCB (cLen K) (tCons (tVar 0) tNil)) (tC (.int 2)))) (tOr (tNot (tB (tCall (sp_l_whole K) [] E0 (tCons (tOp (rIxT K) (tVar 0) (tC (.int 0))) tNil)))) (tNot (tB (tCall (sp_l_whole K) [] E0 (tCons (tOp (rIxT K) (tVar 0) (tC (.int 1))) tNil))))))) (tRet (tC (.bl false))) tNext) (t_l_off_r4 K))
def t_l_off (K : PySem.W.Frag) : TS := (tSeq (tIfS (tTest (tOp rIsN (tVar 0) (tC .non))) (tRet (tC (.bl true))) tNext) (t_l_off_r5 K))
theorem len_l_off {K vs H Q E} (h : sp_l_off K vs H Q E) : vs.length = 4 := by obtain ⟨_, _, _, _, _, _, _, _, rfl, _⟩ := h; rfl
theorem rd_l_off {K vs H Q E} (h : sp_l_off K vs H Q E) : t_l_off K { nx := fun _ H' => Q .non H', rt := Q } (start N_l_off vs) H := by
  obtain ⟨v, o, u, s, a, ns, un, q, rfl, ov, off, U, hs, sz, ha, hq, k⟩ := h
  rw [show start N_l_off [v, V.ref u, V.ref s, V.ref a] = [some v, some (.ref u), some (.ref s), some (.ref a), none, none, none] from rfl]
  cases o with
  | none =>
    obtain rfl : v = .non := ov
    simp only [t_l_off, rIsN, decide_true, if_true, tSeq, tAsg, gName, tVar, tC, tOp, tUn, rI0, rI, rU, rAddI, rSubI, rMulI, rDivI, rDivC, rModI, rPowI, rNegI, rLtI, rLeI, rGtI, rGeI, rEq, rNe, scal, tRet, tIfS, tTest, tB, tNot, tNext, tCall, tCons, tNil, tTup, tLst, tCB, cAbs, cLen, cIsB, tSl, tPart, tNoPart, rSlL, rIxL, rIxT, tAndV, tOrV, tAnd, tOr, tNotV, tPar, tNever, gTup, gCons, gNil, List.getElem?_cons_zero, List.getElem?_cons_succ, List.set_cons_zero, List.set_cons_succ, Option.some.injEq, exists_eq_left', exists_eq_left, V.int.injEq, V.ref.injEq, V.bl.injEq, V.ty.injEq, List.cons.injEq, and_true, true_and, List.append_nil, exists_and_left, decide_eq_true_eq, List.cons_append, List.nil_append, and_assoc]
    exact k _ (Same.refl _)
  | some p =>
    obtain ⟨h, c⟩ := p
    obtain ⟨f, rfl, hf⟩ := ov
    obtain ⟨n, m, hn, fm, hlt, _⟩ := off
    have hql : q.length = ns.length := by rw [ordR_len_each _ q hq, List.length_reverse]
    have n3 := sz.len
    have hil : h < ns.length := (List.getElem?_eq_some_iff.mp hn).1
    have hcn : c < n := by have := (List.getElem?_eq_some_iff.mp fm.1).1; rwa [hereL_len] at this
    have hm : m = (un (q.set h c)).getD h 0 := by have := fm.1; rw [hereL_get hcn] at this; exact (Option.some.inj this).symm
    simp only [t_l_off, rIsN, reduceCtorEq, decide_false, Bool.false_eq_true, if_false, tSeq, tAsg, gName, tVar, tC, tOp, tUn, rI0, rI, rU, rAddI, rSubI, rMulI, rDivI, rDivC, rModI, rPowI, rNegI, rLtI, rLeI, rGtI, rGeI, rEq, rNe, scal, tRet, tIfS, tTest, tB, tNot, tNext, tCall, tCons, tNil, tTup, tLst, tCB, cAbs, cLen, cIsB, tSl, tPart, tNoPart, rSlL, rIxL, rIxT, tAndV, tOrV, tAnd, tOr, tNotV, tPar, tNever, gTup, gCons, gNil, List.getElem?_cons_zero, List.getElem?_cons_succ, List.set_cons_zero, List.set_cons_succ, Option.some.injEq, exists_eq_left', exists_eq_left, V.int.injEq, V.ref.injEq, V.bl.injEq, V.ty.injEq, List.cons.injEq, and_true, true_and, List.append_nil, exists_and_left, decide_eq_true_eq, List.cons_append, List.nil_append, and_assoc]
    simp only [t_l_off_r5, cIsB2, sp_l_whole, reduceCtorEq, decide_false, Bool.false_eq_true, if_false, tSeq, tAsg, gName, tVar, tC, tOp, tUn, rI0, rI, rU, rAddI, rSubI, rMulI, rDivI, rDivC, rModI, rPowI, rNegI, rLtI, rLeI, rGtI, rGeI, rEq, rNe, scal, tRet, tIfS, tTest, tB, tNot, tNext, tCall, tCons, tNil, tTup, tLst, tCB, cAbs, cLen, cIsB, tSl, tPart, tNoPart, rSlL, rIxL, rIxT, tAndV, tOrV, tAnd, tOr, tNotV, tPar, tNever, gTup, gCons, gNil, List.getElem?_cons_zero, List.getElem?_cons_succ, List.set_cons_zero, List.set_cons_succ, Option.some.injEq, exists_eq_left', exists_eq_left, V.int.injEq, V.ref.injEq, V.bl.injEq, V.ty.injEq, List.cons.injEq, and_true, true_and, List.append_nil, exists_and_left, decide_eq_true_eq, List.cons_append, List.nil_append, and_assoc]
    refine ⟨true, .inl ⟨rfl, rfl, _, hf⟩, iteF ⟨_, .inr (SqT.of hf), iteF ⟨_, SqT.of hf, _, atI0, _, rfl, iteF ⟨_, SqT.of hf, _, atI1, _, rfl, iteF ?_⟩⟩⟩⟩
    simp only [t_l_off_r4, tSeq, tAsg, gName, tVar, tC, tOp, tUn, rI0, rI, rU, rAddI, rSubI, rMulI, rDivI, rDivC, rModI, rPowI, rNegI, rLtI, rLeI, rGtI, rGeI, rEq, rNe, scal, tRet, tIfS, tTest, tB, tNot, tNext, tCall, tCons, tNil, tTup, tLst, tCB, cAbs, cLen, cIsB, tSl, tPart, tNoPart, rSlL, rIxL, rIxT, tAndV, tOrV, tAnd, tOr, tNotV, tPar, tNever, gTup, gCons, gNil, List.getElem?_cons_zero, List.getElem?_cons_succ, List.set_cons_zero, List.set_cons_succ, Option.some.injEq, exists_eq_left', exists_eq_left, V.int.injEq, V.ref.injEq, V.bl.injEq, V.ty.injEq, List.cons.injEq, and_true, true_and, List.append_nil, exists_and_left, decide_eq_true_eq, List.cons_append, List.nil_append, and_assoc]
    refine ⟨_, SqT.of hf, rfl, _, _, rfl, _, _, rfl, rfl, ?_⟩
    simp only [t_l_off_r3, tSeq, tAsg, gName, tVar, tC, tOp, tUn, rI0, rI, rU, rAddI, rSubI, rMulI, rDivI, rDivC, rModI, rPowI, rNegI, rLtI, rLeI, rGtI, rGeI, rEq, rNe, scal, tRet, tIfS, tTest, tB, tNot, tNext, tCall, tCons, tNil, tTup, tLst, tCB, cAbs, cLen, cIsB, tSl, tPart, tNoPart, rSlL, rIxL, rIxT, tAndV, tOrV, tAnd, tOr, tNotV, tPar, tNever, gTup, gCons, gNil, List.getElem?_cons_zero, List.getElem?_cons_succ, List.set_cons_zero, List.set_cons_succ, Option.some.injEq, exists_eq_left', exists_eq_left, V.int.injEq, V.ref.injEq, V.bl.injEq, V.ty.injEq, List.cons.injEq, and_true, true_and, List.append_nil, exists_and_left, decide_eq_true_eq, List.cons_append, List.nil_append, and_assoc]
    rw [if_neg (by omega)]
    refine ⟨_, .inl (SqL.of hs), ?_⟩
    rw [tv_len, if_neg (by omega), if_neg (by omega)]
    refine ⟨_, SqL.of hs, _, atI_nat (tv_at hn), _, rfl, ?_⟩
    rw [if_neg (by omega)]
    simp only [t_l_off_r2, rCatA, rSlA, tSeq, tAsg, gName, tVar, tC, tOp, tUn, rI0, rI, rU, rAddI, rSubI, rMulI, rDivI, rDivC, rModI, rPowI, rNegI, rLtI, rLeI, rGtI, rGeI, rEq, rNe, scal, tRet, tIfS, tTest, tB, tNot, tNext, tCall, tCons, tNil, tTup, tLst, tCB, cAbs, cLen, cIsB, tSl, tPart, tNoPart, rSlL, rIxL, rIxT, tAndV, tOrV, tAnd, tOr, tNotV, tPar, tNever, gTup, gCons, gNil, List.getElem?_cons_zero, List.getElem?_cons_succ, List.set_cons_zero, List.set_cons_succ, Option.some.injEq, exists_eq_left', exists_eq_left, V.int.injEq, V.ref.injEq, V.bl.injEq, V.ty.injEq, List.cons.injEq, and_true, true_and, List.append_nil, exists_and_left, decide_eq_true_eq, List.cons_append, List.nil_append, and_assoc]
    refine ⟨_, ha, fun p1 H7 s8 hp1 => ⟨by show 1 ≤ sizeLine; decide, fun p2 hp2 => ⟨_, Same.upd hp2 _ _ hp1, _, upd_same, ?_, fun p3 H8 s9 hp3 => ⟨_, s9 _ _ (Same.upd hp2 _ _ (s8 _ _ ha)), fun p4 H9 s10 hp4 => ⟨_, s10 _ _ hp3, _, hp4, ?_, fun p5 H10 s11 hp5 => ?_⟩⟩⟩⟩⟩
    · have := cut_len (tv q) none (some (h : Int))
      rw [tv_len] at this
      exact small (by show _ + 1 ≤ _; omega)
    · have e1 := cut_len (tv q) none (some (h : Int))
      have e2 := cut_len (tv q) (some ((h : Int) + 1)) none
      rw [tv_len] at e1 e2
      exact small (by rw [List.length_append]; show _ + 1 + _ ≤ _; omega)
    rw [cut_to, show ((h : Int) + 1) = ((h + 1 : Nat) : Int) by omega, cut_from, set_parts (by omega)] at hp5
    have sD := (((s8.trans (Same.upd hp2)).trans s9).trans s10).trans s11
    have hqc : q.set h c ∈ ordR ns.reverse := ordR_set hq hn hcn
    obtain ⟨kvs, hC, ok⟩ := (U.same sD).ex
    obtain ⟨l, hv, hL⟩ := ok _ hqc
    obtain ⟨l2, hv2, hL2⟩ := ok _ hq
    have hle : h < (un (q.set h c)).length := by rw [U.ul _ hqc]; exact hil
    have hle2 : h < (un q).length := by rw [U.ul _ hq]; exact hil
    have g1 : (un (q.set h c)).getD h 0 = (un (q.set h c))[h] := by rw [List.getD_eq_getElem?_getD, List.getElem?_eq_getElem hle]; rfl
    have g2 : (un q).getD h 0 = (un q)[h] := by rw [List.getD_eq_getElem?_getD, List.getElem?_eq_getElem hle2]; rfl
    rw [hm, g1, g2] at hlt
    simp only [t_l_off_r1, tDGet, tSeq, tAsg, gName, tVar, tC, tOp, tUn, rI0, rI, rU, rAddI, rSubI, rMulI, rDivI, rDivC, rModI, rPowI, rNegI, rLtI, rLeI, rGtI, rGeI, rEq, rNe, scal, tRet, tIfS, tTest, tB, tNot, tNext, tCall, tCons, tNil, tTup, tLst, tCB, cAbs, cLen, cIsB, tSl, tPart, tNoPart, rSlL, rIxL, rIxT, tAndV, tOrV, tAnd, tOr, tNotV, tPar, tNever, gTup, gCons, gNil, List.getElem?_cons_zero, List.getElem?_cons_succ, List.set_cons_zero, List.set_cons_succ, Option.some.injEq, exists_eq_left', exists_eq_left, V.int.injEq, V.ref.injEq, V.bl.injEq, V.ty.injEq, List.cons.injEq, and_true, true_and, List.append_nil, exists_and_left, decide_eq_true_eq, List.cons_append, List.nil_append, and_assoc]
    refine ⟨_, (by rw [← hv]; exact DGet.t hC (by rw [tv_tk]; exact hp5)), _, rfl, _, SqL.of hL, _, atI_nat (by rw [List.getElem?_map, List.getElem?_eq_getElem hle]; rfl), _, (by rw [← hv2]; exact DGet.t hC (by rw [tv_tk]; exact sD _ _ ha)), _, rfl, _, SqL.of hL2, _, atI_nat (by rw [List.getElem?_map, List.getElem?_eq_getElem hle2]; rfl), _, rfl, _, rfl, ?_⟩
    rw [decide_eq_true hlt]
    exact k _ sD
def N_NoChoice_init : List PySem.Str := ["self", "hand", "choice"]
def sp_NoChoice_init (K : PySem.W.Frag) : Sp := fun vs H Q _ => ∃ e h c ws, vs = [.ref e, .int h, .int c] ∧ H e = some (excF e (.ref (gadr K "NoChoice")) none ws) ∧
  ∀ dx H', Sb e H H' → H' e = some (excF e (.ref (gadr K "NoChoice")) (some dx) ws) → H dx = none → dx ≠ e → H' dx = some (noC dx h c) → Q .non H'
def t_NoChoice_init (K : PySem.W.Frag) : TS := (tSeq (sFldX K (tVar 0) (tVar 1) "hand") (sFldX K (tVar 0) (tVar 2) "choice"))
theorem len_NoChoice_init {K vs H Q E} (h : sp_NoChoice_init K vs H Q E) : vs.length = 3 := by obtain ⟨l, ns, _, _, rfl, _⟩ := h; rfl
theorem rd_NoChoice_init {K vs H Q E} (x : ExK K "NoChoice" ["hand", "choice"]) (h : sp_NoChoice_init K vs H Q E) : t_NoChoice_init K { nx := fun _ H' => Q .non H', rt := Q } (start N_NoChoice_init vs) H := by
  obtain ⟨e, h, c, ws, rfl, he, q⟩ := h
  rw [show start N_NoChoice_init [V.ref e, V.int h, V.int c] = [some (.ref e), some (.int h), some (.int c)] from rfl]
  simp only [t_NoChoice_init, sFldX, tSeq, tAsg, gName, tVar, tC, tOp, tUn, rI0, rI, rU, rAddI, rSubI, rMulI, rDivI, rDivC, rModI, rPowI, rNegI, rLtI, rLeI, rGtI, rGeI, rEq, rNe, scal, tRet, tIfS, tTest, tB, tNot, tNext, tCall, tCons, tNil, tTup, tLst, tCB, cAbs, cLen, cIsB, tSl, tPart, tNoPart, rSlL, rIxL, rIxT, tAndV, tOrV, tAnd, tOr, tNotV, tPar, tNever, gTup, gCons, gNil, List.getElem?_cons_zero, List.getElem?_cons_succ, List.set_cons_zero, List.set_cons_succ, Option.some.injEq, exists_eq_left', exists_eq_left, V.int.injEq, V.ref.injEq, V.bl.injEq, V.ty.injEq, List.cons.injEq, and_true, true_and, List.append_nil, exists_and_left, decide_eq_true_eq, List.cons_append, List.nil_append, and_assoc]
  refine ⟨gadr K "NoChoice", x.put _ (.head _), ws, .inl ⟨he, fun dx hdx ne => ?_⟩⟩
  refine ⟨gadr K "NoChoice", x.put _ (.tail _ (.head _)), ws, .inr ⟨dx, ?_, ([("hand", V.int h)] : List (Str × V)), upd_same, by show 1 < 900; decide, ?_⟩⟩
  · rw [upd_ne ne.symm]; exact upd_same
  · refine q dx _ (fun b o hb nb => ?_) ?_ hdx ne upd_same
    · have nd : b ≠ dx := fun z => by rw [z, hdx] at hb; cases hb
      rw [upd_ne nd, upd_ne nd, upd_ne nb]; exact hb
    · rw [upd_ne ne.symm, upd_ne ne.symm]; exact upd_same
def N_Table_earned : List PySem.Str := ["self", "play", "hand", "size"]
def sp_Table_earned (K : PySem.W.Frag) : Sp := fun vs H Q E => ∃ t a ns cont zs, vs = [.ref t, .ref a] ∧ TabAt K H t ns cont ∧ H a = some (.tup (List.map V.int zs)) ∧ zs.length = ns.length ∧
  ((∀ i, i < ns.length → bd ns zs i = false) → ∀ l H', Same H H' → H l = none → H' l = some (.lst (cont (zs.map Int.toNat))) → Q (.ref l) H') ∧
  (∀ i, i < ns.length → bd ns zs i = true → (∀ j, j < i → bd ns zs j = false) → ∀ dx H', Same H H' → H dx = none → H' dx = some (noC dx i (zs.getD i 0)) → E (.ref (gadr K "NoChoice")) (some dx) H')
def iv_Table_earned (t a : Addr) (ns : List Nat) (zs : List Int) (H : Hp) : Nat → St → Hp → Prop := fun i σ H3 => ∃ o1 o2, σ = [some (.ref t), some (.ref a), o1, o2] ∧ Same H H3 ∧ ∀ j, j < i → bd ns zs j = false
def t_Table_earned_r1 (K : PySem.W.Frag) (E : XK) : TS := (tRet (tCB (cList K) (tCons (tDGet (tFld K (tVar 0) "cells") (tVar 1)) tNil)))
def t_Table_earned_b1 (K : PySem.W.Frag) (E : XK) : TS := (tIfS (tOr (tTest (tOp rLtI (tOp (rIxT K) (tVar 1) (tVar 2)) (tC (.int 0)))) (tTest (tOp rGeI (tOp (rIxT K) (tVar 1) (tVar 2)) (tVar 3)))) (tRaiseE E (gadr K "NoChoice") (sp_NoChoice_init K) (tCons (tVar 2) (tCons (tOp (rIxT K) (tVar 1) (tVar 2)) tNil))) tNext)
def t_Table_earned_g1 (K : PySem.W.Frag) (E : XK) : TG := (gTup K 2 (gCons (gName 2) (gCons (gName 3) gNil)))
def t_Table_earned (K : PySem.W.Frag) (E : XK) : TS := (tSeq (tFor (iEnum K (tFld K (tVar 0) "many")) (t_Table_earned_g1 K E) (t_Table_earned_b1 K E)) (t_Table_earned_r1 K E))
theorem len_Table_earned {K vs H Q E} (h : sp_Table_earned K vs H Q E) : vs.length = 2 := by obtain ⟨t, a, ns, cont, q, rfl, _⟩ := h; rfl
theorem raise_NC {K : PySem.W.Frag} {E : XK} {H0 H1 : Hp} {i c : Int} (s : Same H0 H1) (k : ∀ dx H', Same H0 H' → H0 dx = none → H' dx = some (noC dx i c) → E (.ref (gadr K "NoChoice")) (some dx) H') :
    ∀ e (ws : Array Value) a0, H1 e = none → ws[0]? = some a0 → ws[1]? = some Value.none → sp_NoChoice_init K [.ref e, .int i, .int c] (upd H1 e (excF e (.ref (gadr K "NoChoice")) none ws)) (fun v H2 => v = .non ∧ ∃ od, H2 e = some (excF e (.ref (gadr K "NoChoice")) od ws) ∧ E (.ref (gadr K "NoChoice")) od (delH H2 e)) E0 := by
  intro e ws a0 fr w0 w1
  refine ⟨e, i, c, ws, rfl, upd_same, fun dx H' sb he hdx ne hd => ⟨rfl, some dx, he, k dx (delH H' e) (fun b o hb => ?_) ?_ ?_⟩⟩
  · have hb1 := s b o hb
    have nb : b ≠ e := ne_of_none hb1 fr
    rw [delH_ne nb]
    exact sb b o (by rw [upd_ne nb]; exact hb1) nb
  · rw [upd_ne ne] at hdx
    exact s.free hdx
  · rw [delH_ne ne]; exact hd
theorem rd_Table_earned {K vs H Q E} (T : TabK K) (h : sp_Table_earned K vs H Q E) : t_Table_earned K E { nx := fun _ H' => Q .non H', rt := Q } (start N_Table_earned vs) H := by
  obtain ⟨t, a, ns, cont, zs, rfl, ⟨dx, m, d, kv, ht, hm, hd, ok⟩, ha, hl, kg, kb⟩ := h
  rw [show start N_Table_earned [V.ref t, V.ref a] = [some (.ref t), some (.ref a), none, none] from rfl]
  simp only [t_Table_earned, tFor, iEnum, tFld, tSeq, tAsg, gName, tVar, tC, tOp, tUn, rI0, rI, rU, rAddI, rSubI, rMulI, rDivI, rDivC, rModI, rPowI, rNegI, rLtI, rLeI, rGtI, rGeI, rEq, rNe, scal, tRet, tIfS, tTest, tB, tNot, tNext, tCall, tCons, tNil, tTup, tLst, tCB, cAbs, cLen, cIsB, tSl, tPart, tNoPart, rSlL, rIxL, rIxT, tAndV, tOrV, tAnd, tOr, tNotV, tPar, tNever, gTup, gCons, gNil, List.getElem?_cons_zero, List.getElem?_cons_succ, List.set_cons_zero, List.set_cons_succ, Option.some.injEq, exists_eq_left', exists_eq_left, V.int.injEq, V.ref.injEq, V.bl.injEq, V.ty.injEq, List.cons.injEq, and_true, true_and, List.append_nil, exists_and_left, decide_eq_true_eq, List.cons_append, List.nil_append, and_assoc]
  refine ⟨_, _, _, ht, T.cl, T.nM, _, flds_many _ _, m, rfl, ⟨_, SqL.of hm⟩, for_enum (K := K) (a := m) (xs := tv ns) (g := t_Table_earned_g1 K E) (D := { nx := t_Table_earned_r1 K E { nx := fun _ H' => Q .non H', rt := Q }, rt := Q }) (iv_Table_earned t a ns zs H) ?_ ?_ ?_ ?_⟩
  · exact ⟨_, _, rfl, Same.refl _, fun j hj => absurd hj (Nat.not_lt_zero _)⟩
  · rintro i σ H3 _ ⟨_, _, _, s3, _⟩
    exact SqL.of (s3 _ _ hm)
  · rintro i x p σ H3 hi ⟨o1, o2, rfl, s3, gd⟩ hp
    obtain ⟨n, hn, rfl⟩ := tv_get hi
    have hin : i < ns.length := (List.getElem?_eq_some_iff.mp hn).1
    have hil : i < zs.length := by rw [hl]; exact hin
    have hnd : ns.getD i 0 = n := by rw [List.getD_eq_getElem?_getD, hn]; rfl
    have s4 : Same H3 (upd H3 p (.tup [.int i, .int n])) := Same.upd hp
    have p4 : (upd H3 p (.tup [.int i, .int n])) p = some (.tup [.int i, .int n]) := upd_same
    generalize upd H3 p (.tup [.int i, .int n]) = H4 at s4 p4
    have ha4 : SqT K H4 a (List.map V.int zs) := SqT.of (s4 _ _ (s3 _ _ ha))
    have S := s3.trans s4
    simp only [t_Table_earned_g1, t_Table_earned_b1, tRaiseE, tSeq, tAsg, gName, tVar, tC, tOp, tUn, rI0, rI, rU, rAddI, rSubI, rMulI, rDivI, rDivC, rModI, rPowI, rNegI, rLtI, rLeI, rGtI, rGeI, rEq, rNe, scal, tRet, tIfS, tTest, tB, tNot, tNext, tCall, tCons, tNil, tTup, tLst, tCB, cAbs, cLen, cIsB, tSl, tPart, tNoPart, rSlL, rIxL, rIxT, tAndV, tOrV, tAnd, tOr, tNotV, tPar, tNever, gTup, gCons, gNil, List.getElem?_cons_zero, List.getElem?_cons_succ, List.set_cons_zero, List.set_cons_succ, Option.some.injEq, exists_eq_left', exists_eq_left, V.int.injEq, V.ref.injEq, V.bl.injEq, V.ty.injEq, List.cons.injEq, and_true, true_and, List.append_nil, exists_and_left, decide_eq_true_eq, List.cons_append, List.nil_append, and_assoc]
    refine ⟨_, SqT.of p4, rfl, _, _, rfl, _, _, rfl, rfl, _, _, rfl, ha4, _, ints_at hil, _, rfl, ?_⟩
    refine ite2 (fun c => ?_) (fun c => ?_)
    · have bi : bd ns zs i = true := by unfold bd; rw [decide_eq_true c]; rfl
      exact ⟨_, _, rfl, ha4, _, ints_at hil, by show 2 ≤ sizeLine; decide, raise_NC S (kb i hin bi gd)⟩
    · refine ⟨_, _, rfl, ha4, _, ints_at hil, _, rfl, _, rfl, ?_⟩
      refine ite2 (fun c2 => ?_) (fun c2 => ?_)
      · have bi : bd ns zs i = true := by unfold bd; rw [hnd, decide_eq_true (show (n : Int) ≤ zs.getD i 0 from c2), Bool.or_true]
        exact ⟨_, _, rfl, ha4, _, ints_at hil, by show 2 ≤ sizeLine; decide, raise_NC S (kb i hin bi gd)⟩
      · refine ⟨_, _, rfl, S, fun j hj => ?_⟩
        by_cases e : j = i
        · subst e; unfold bd; rw [hnd, decide_eq_false c, decide_eq_false (show ¬ (n : Int) ≤ zs.getD j 0 from c2)]; rfl
        · exact gd j (by omega)
  · rintro σ H3 ⟨o1, o2, rfl, s3, gd⟩
    rw [tv_len] at gd
    obtain ⟨ez, hq⟩ := bd_nat hl gd
    obtain ⟨l, hv, hL⟩ := ok _ hq
    have hk : H3 a = some (.tup (List.map kV (tk (zs.map Int.toNat)))) := by rw [tv_tk, tv_iv, ← ez]; exact s3 _ _ ha
    simp only [t_Table_earned_r1, tDGet, tFld, cList, tSeq, tAsg, gName, tVar, tC, tOp, tUn, rI0, rI, rU, rAddI, rSubI, rMulI, rDivI, rDivC, rModI, rPowI, rNegI, rLtI, rLeI, rGtI, rGeI, rEq, rNe, scal, tRet, tIfS, tTest, tB, tNot, tNext, tCall, tCons, tNil, tTup, tLst, tCB, cAbs, cLen, cIsB, tSl, tPart, tNoPart, rSlL, rIxL, rIxT, tAndV, tOrV, tAnd, tOr, tNotV, tPar, tNever, gTup, gCons, gNil, List.getElem?_cons_zero, List.getElem?_cons_succ, List.set_cons_zero, List.set_cons_succ, Option.some.injEq, exists_eq_left', exists_eq_left, V.int.injEq, V.ref.injEq, V.bl.injEq, V.ty.injEq, List.cons.injEq, and_true, true_and, List.append_nil, exists_and_left, decide_eq_true_eq, List.cons_append, List.nil_append, and_assoc]
    exact ⟨_, _, _, s3 _ _ ht, T.cl, T.nC, _, flds_cells _ _, d, rfl, _, (by rw [← hv]; exact DGet.t (s3 _ _ hd) hk), l, rfl, _, .inl (SqL.of (s3 _ _ hL)), fun l' hl' => kg gd l' _ (s3.trans (Same.upd hl')) (s3.free hl') upd_same⟩
def N_Table_sizes : List PySem.Str := ["self"]
def sp_Table_sizes (K : PySem.W.Frag) : Sp := fun vs H Q _ => ∃ t ns cont, vs = [.ref t] ∧ TabAt K H t ns cont ∧ ∀ l, H l = none → Q (.ref l) (upd H l (.lst (tv ns)))
def t_Table_sizes (K : PySem.W.Frag) : TS := (tRet (tCB (cList K) (tCons (tFld K (tVar 0) "many") tNil)))
theorem len_Table_sizes {K vs H Q E} (h : sp_Table_sizes K vs H Q E) : vs.length = 1 := by obtain ⟨t, ns, cont, rfl, _⟩ := h; rfl
theorem rd_Table_sizes {K vs H Q E} (T : TabK K) (h : sp_Table_sizes K vs H Q E) : t_Table_sizes K { nx := fun _ H' => Q .non H', rt := Q } (start N_Table_sizes vs) H := by
  obtain ⟨t, ns, cont, rfl, ⟨dx, m, d, kv, ht, hm, _⟩, q⟩ := h
  rw [show start N_Table_sizes [V.ref t] = [some (.ref t)] from rfl]
  simp only [t_Table_sizes, tFld, cList, tSeq, tAsg, gName, tVar, tC, tOp, tUn, rI0, rI, rU, rAddI, rSubI, rMulI, rDivI, rDivC, rModI, rPowI, rNegI, rLtI, rLeI, rGtI, rGeI, rEq, rNe, scal, tRet, tIfS, tTest, tB, tNot, tNext, tCall, tCons, tNil, tTup, tLst, tCB, cAbs, cLen, cIsB, tSl, tPart, tNoPart, rSlL, rIxL, rIxT, tAndV, tOrV, tAnd, tOr, tNotV, tPar, tNever, gTup, gCons, gNil, List.getElem?_cons_zero, List.getElem?_cons_succ, List.set_cons_zero, List.set_cons_succ, Option.some.injEq, exists_eq_left', exists_eq_left, V.int.injEq, V.ref.injEq, V.bl.injEq, V.ty.injEq, List.cons.injEq, and_true, true_and, List.append_nil, exists_and_left, decide_eq_true_eq, List.cons_append, List.nil_append, and_assoc]
  exact ⟨_, _, _, ht, T.cl, T.nM, _, flds_many _ _, m, rfl, _, .inl (SqL.of hm), q⟩
def N_rest_of : List PySem.Str := ["play", "hand"]
def sp_rest_of (_ : PySem.W.Frag) : Sp := fun vs H Q _ => ∃ a q h, vs = [.ref a, .int (h : Nat)] ∧ H a = some (.tup (tv q)) ∧ q.length ≤ 100 ∧ ∀ p H', Same H H' → H' p = some (.tup (tv (wo h q))) → Q (.ref p) H'
def t_rest_of (K : PySem.W.Frag) : TS := (tRet (tOp rCatA (tSl rSlA (tVar 0) tNoPart (tPart (tVar 1))) (tSl rSlA (tVar 0) (tPart (tOp rAddI (tVar 1) (tC (.int 1)))) tNoPart)))
theorem len_rest_of {K vs H Q E} (h : sp_rest_of K vs H Q E) : vs.length = 2 := by obtain ⟨a, q, h, rfl, _⟩ := h; rfl
theorem rd_rest_of {K vs H Q E} (h : sp_rest_of K vs H Q E) : t_rest_of K { nx := fun _ H' => Q .non H', rt := Q } (start N_rest_of vs) H := by
  obtain ⟨a, q, h, rfl, ha, hl, k⟩ := h
  rw [show start N_rest_of [V.ref a, V.int h] = [some (.ref a), some (.int h)] from rfl]
  simp only [t_rest_of, rCatA, rSlA, tSeq, tAsg, gName, tVar, tC, tOp, tUn, rI0, rI, rU, rAddI, rSubI, rMulI, rDivI, rDivC, rModI, rPowI, rNegI, rLtI, rLeI, rGtI, rGeI, rEq, rNe, scal, tRet, tIfS, tTest, tB, tNot, tNext, tCall, tCons, tNil, tTup, tLst, tCB, cAbs, cLen, cIsB, tSl, tPart, tNoPart, rSlL, rIxL, rIxT, tAndV, tOrV, tAnd, tOr, tNotV, tPar, tNever, gTup, gCons, gNil, List.getElem?_cons_zero, List.getElem?_cons_succ, List.set_cons_zero, List.set_cons_succ, Option.some.injEq, exists_eq_left', exists_eq_left, V.int.injEq, V.ref.injEq, V.bl.injEq, V.ty.injEq, List.cons.injEq, and_true, true_and, List.append_nil, exists_and_left, decide_eq_true_eq, List.cons_append, List.nil_append, and_assoc]
  refine ⟨_, ha, fun p1 H1 s1 h1 => ⟨_, s1 _ _ ha, fun p2 H2 s2 h2 => ⟨_, s2 _ _ h1, _, h2, ?_, fun p3 H3 s3 h3 => ?_⟩⟩⟩
  · have e1 := cut_len (tv q) none (some (h : Int))
    have e2 := cut_len (tv q) (some ((h : Int) + 1)) none
    rw [tv_len] at e1 e2
    exact small (by omega)
  · refine k p3 H3 ((s1.trans s2).trans s3) ?_
    rw [h3, cut_to, show ((h : Int) + 1) = ((h + 1 : Nat) : Int) by omega, cut_from, ← wo_tv]
    rfl
def N_joined : List PySem.Str := ["rest", "hand", "choice"]
def sp_joined (_ : PySem.W.Frag) : Sp := fun vs H Q _ => ∃ a q h c, vs = [.ref a, .int (h : Nat), .int (c : Nat)] ∧ H a = some (.tup (tv q)) ∧ q.length ≤ 100 ∧ ∀ p H', Same H H' → H' p = some (.tup (tv (q.take h ++ c :: q.drop h))) → Q (.ref p) H'
def t_joined (K : PySem.W.Frag) : TS := (tRet (tOp rCatA (tOp rCatA (tSl rSlA (tVar 0) tNoPart (tPart (tVar 1))) (tTup (tCons (tVar 2) tNil))) (tSl rSlA (tVar 0) (tPart (tVar 1)) tNoPart)))
theorem len_joined {K vs H Q E} (h : sp_joined K vs H Q E) : vs.length = 3 := by obtain ⟨a, q, h, c, rfl, _⟩ := h; rfl
theorem rd_joined {K vs H Q E} (h : sp_joined K vs H Q E) : t_joined K { nx := fun _ H' => Q .non H', rt := Q } (start N_joined vs) H := by
  obtain ⟨a, q, h, c, rfl, ha, hl, k⟩ := h
  rw [show start N_joined [V.ref a, V.int h, V.int c] = [some (.ref a), some (.int h), some (.int c)] from rfl]
  simp only [t_joined, rCatA, rSlA, tSeq, tAsg, gName, tVar, tC, tOp, tUn, rI0, rI, rU, rAddI, rSubI, rMulI, rDivI, rDivC, rModI, rPowI, rNegI, rLtI, rLeI, rGtI, rGeI, rEq, rNe, scal, tRet, tIfS, tTest, tB, tNot, tNext, tCall, tCons, tNil, tTup, tLst, tCB, cAbs, cLen, cIsB, tSl, tPart, tNoPart, rSlL, rIxL, rIxT, tAndV, tOrV, tAnd, tOr, tNotV, tPar, tNever, gTup, gCons, gNil, List.getElem?_cons_zero, List.getElem?_cons_succ, List.set_cons_zero, List.set_cons_succ, Option.some.injEq, exists_eq_left', exists_eq_left, V.int.injEq, V.ref.injEq, V.bl.injEq, V.ty.injEq, List.cons.injEq, and_true, true_and, List.append_nil, exists_and_left, decide_eq_true_eq, List.cons_append, List.nil_append, and_assoc]
  have e1 := cut_len (tv q) none (some (h : Int))
  have e2 := cut_len (tv q) (some (h : Int)) none
  rw [tv_len] at e1 e2
  refine ⟨_, ha, fun p1 H1 s1 h1 => ⟨by show 1 ≤ sizeLine; decide, fun z hz => ?_⟩⟩
  have s2 : Same H1 (upd H1 z (.tup [.int c])) := Same.upd hz
  refine ⟨_, s2 _ _ h1, _, upd_same, small (by show _ + 1 ≤ 216; omega), fun p3 H3 s3 h3 => ⟨_, s3 _ _ (s2 _ _ (s1 _ _ ha)), fun p4 H4 s4 h4 => ⟨_, s4 _ _ h3, _, h4, ?_, fun p5 H5 s5 h5 => ?_⟩⟩⟩
  · rw [List.length_append]
    exact small (by show _ + 1 + _ ≤ 216; omega)
  · refine k p5 H5 ((((s1.trans s2).trans s3).trans s4).trans s5) ?_
    rw [h5, cut_to, cut_from]
    simp only [tv, List.map_append, List.map_cons, List.map_take, List.map_drop, List.append_assoc, List.cons_append, List.nil_append]
def N_earned_with : List PySem.Str := ["table", "rest", "hand", "choice"]
def sp_earned_with (K : PySem.W.Frag) : Sp := fun vs H Q _ => ∃ t r ns cont b i c v, vs = [.ref t, .ref r, .int (i : Nat), .int (c : Nat)] ∧ TabAt K H t ns cont ∧ H r = some (.tup (tv b)) ∧ b.length ≤ 100 ∧ b.take i ++ c :: b.drop i ∈ ordR ns.reverse ∧ (cont (b.take i ++ c :: b.drop i))[i]? = some v ∧ ∀ H', Same H H' → Q v H'
def t_earned_with (K : PySem.W.Frag) : TS := (tRet (tOp (rIxL K) (tMeth (gadr K "Table") "earned" (sp_Table_earned K) [] E0 (tVar 0) (tCons (tCall (sp_joined K) [] E0 (tCons (tVar 1) (tCons (tVar 2) (tCons (tVar 3) tNil)))) tNil)) (tVar 2)))
theorem len_earned_with {K vs H Q E} (h : sp_earned_with K vs H Q E) : vs.length = 4 := by obtain ⟨_, _, _, _, _, _, _, _, rfl, _⟩ := h; rfl
theorem rd_earned_with {K vs H Q E} (h : sp_earned_with K vs H Q E) : t_earned_with K { nx := fun _ H' => Q .non H', rt := Q } (start N_earned_with vs) H := by
  obtain ⟨t, r, ns, cont, b, i, c, v, rfl, T, hr, hb, hq, hv, k⟩ := h
  rw [show start N_earned_with [V.ref t, V.ref r, V.int i, V.int c] = [some (.ref t), some (.ref r), some (.int i), some (.int c)] from rfl]
  obtain ⟨dx, m0, d0, ht⟩ := T.ins
  simp only [t_earned_with, tMeth, if_true, tSeq, tAsg, gName, tVar, tC, tOp, tUn, rI0, rI, rU, rAddI, rSubI, rMulI, rDivI, rDivC, rModI, rPowI, rNegI, rLtI, rLeI, rGtI, rGeI, rEq, rNe, scal, tRet, tIfS, tTest, tB, tNot, tNext, tCall, tCons, tNil, tTup, tLst, tCB, cAbs, cLen, cIsB, tSl, tPart, tNoPart, rSlL, rIxL, rIxT, tAndV, tOrV, tAnd, tOr, tNotV, tPar, tNever, gTup, gCons, gNil, List.getElem?_cons_zero, List.getElem?_cons_succ, List.set_cons_zero, List.set_cons_succ, Option.some.injEq, exists_eq_left', exists_eq_left, V.int.injEq, V.ref.injEq, V.bl.injEq, V.ty.injEq, List.cons.injEq, and_true, true_and, List.append_nil, exists_and_left, decide_eq_true_eq, List.cons_append, List.nil_append, and_assoc]
  refine ⟨dx, _, ht, flds_no _ _ (by decide +kernel) (by decide +kernel), r, b, i, c, rfl, hr, hb, fun p2 H1 s1 hp2 => ?_⟩
  obtain ⟨g1, g2, g3⟩ := bd_of hq
  rw [tv_iv] at hp2
  refine ⟨t, p2, ns, cont, _, rfl, T.same s1, hp2, g1, fun _ l H2 s2 _ hl2 => ?_, fun j hj bj _ => ?_⟩
  · rw [g3] at hl2
    exact ⟨_, rfl, _, SqL.of hl2, _, atI_nat hv, k _ (s1.trans s2)⟩
  · have := g2 j hj
    rw [bj] at this; cases this
def N_below : List PySem.Str := ["one", "other"]
def sp_below (K : PySem.W.Frag) : Sp := fun vs H Q _ => ∃ p q a b c d, vs = [.ref p, .ref q] ∧ Two K H p q a b c d ∧ Q (.bl (decide (a * d < c * b))) H
def t_below (K : PySem.W.Frag) : TS := (tRet (tOp rLtI (tOp rMulI (tOp (rIxT K) (tVar 0) (tC (.int 0))) (tOp (rIxT K) (tVar 1) (tC (.int 1)))) (tOp rMulI (tOp (rIxT K) (tVar 1) (tC (.int 0))) (tOp (rIxT K) (tVar 0) (tC (.int 1))))))
theorem len_below {K vs H Q E} (h : sp_below K vs H Q E) : vs.length = 2 := by obtain ⟨p, q, a, b, c, d, rfl, _⟩ := h; rfl
theorem rd_below {K vs H Q E} (h : sp_below K vs H Q E) : t_below K { nx := fun _ H' => Q .non H', rt := Q } (start N_below vs) H := by
  obtain ⟨p, q, a, b, c, d, rfl, ⟨hp, hq, ba, bb, bc, bd, b0, d0⟩, k⟩ := h
  rw [show start N_below [V.ref p, V.ref q] = [some (.ref p), some (.ref q)] from rfl]
  simp only [t_below, tSeq, tAsg, gName, tVar, tC, tOp, tUn, rI0, rI, rU, rAddI, rSubI, rMulI, rDivI, rDivC, rModI, rPowI, rNegI, rLtI, rLeI, rGtI, rGeI, rEq, rNe, scal, tRet, tIfS, tTest, tB, tNot, tNext, tCall, tCons, tNil, tTup, tLst, tCB, cAbs, cLen, cIsB, tSl, tPart, tNoPart, rSlL, rIxL, rIxT, tAndV, tOrV, tAnd, tOr, tNotV, tPar, tNever, gTup, gCons, gNil, List.getElem?_cons_zero, List.getElem?_cons_succ, List.set_cons_zero, List.set_cons_succ, Option.some.injEq, exists_eq_left', exists_eq_left, V.int.injEq, V.ref.injEq, V.bl.injEq, V.ty.injEq, List.cons.injEq, and_true, true_and, List.append_nil, exists_and_left, decide_eq_true_eq, List.cons_append, List.nil_append, and_assoc]
  exact ⟨_, hp, _, atI0, _, hq, _, atI1, _, rfl, _, rfl, .b ba bd, _, hq, _, atI0, _, hp, _, atI1, _, rfl, _, rfl, .b bc bb, k⟩
def N_greatest : List PySem.Str := ["fractions", "most", "fraction"]
def sp_greatest (K : PySem.W.Frag) : Sp := fun vs H Q _ => ∃ l sc xs us, vs = [.ref l] ∧ SqL K H l xs ∧ UF H sc xs us ∧ 0 < sc ∧ BB 40 sc ∧ us ≠ [] ∧ ∀ a m j, xs[j]? = some (.ref a) → FM us m j → Q (.ref a) H
def iv_greatest (l : Addr) (H : Hp) (xs : List V) (us : List Int) : Nat → St → Hp → Prop := SEq H fun i σ => ∃ a m j o, σ = [some (.ref l), some (.ref a), o] ∧ xs[j]? = some (.ref a) ∧ us[j]? = some m ∧ (∀ (k : Nat) v, k < i → us[k]? = some v → v ≤ m) ∧ ∀ (k : Nat) v, k < j → us[k]? = some v → v < m
def t_greatest_b1 (K : PySem.W.Frag) : TS := (tIfS (tB (tCall (sp_below K) [] E0 (tCons (tVar 1) (tCons (tVar 2) tNil)))) (tAsg (tVar 2) (gName 1)) tNext)
def t_greatest (K : PySem.W.Frag) : TS := (tSeq (tAsg (tOp (rIxL K) (tVar 0) (tC (.int 0))) (gName 1)) (tSeq (tFor (iList K (tVar 0)) (gName 2) (t_greatest_b1 K)) (tRet (tVar 1))))
theorem len_greatest {K vs H Q E} (h : sp_greatest K vs H Q E) : vs.length = 1 := by obtain ⟨l, sc, xs, us, rfl, _⟩ := h; rfl
theorem lo_bb {u sc x y : Int} (lo : Lo u sc x y) (b : BB 300 u) (bs : BB 40 sc) : BB 4000 x ∧ BB 4000 y := ⟨(b.of_le lo.bx).mono (by decide), (bs.of_le lo.by_).mono (by decide)⟩
theorem rd_greatest {K vs H Q E} (h : sp_greatest K vs H Q E) : t_greatest K { nx := fun _ H' => Q .non H', rt := Q } (start N_greatest vs) H := by
  obtain ⟨l, sc, xs, us, rfl, hl, hu, s0, bs, hne, q⟩ := h
  have hul := hu.1
  have h0 : 0 < us.length := List.length_pos_iff.mpr hne
  obtain ⟨a0, x0, y0, e1, e2, lo0, b0⟩ := hu.2 0 us[0] (List.getElem?_eq_getElem h0)
  rw [show start N_greatest [V.ref l] = [some (.ref l), none, none] from rfl]
  simp only [t_greatest, tFor, iList, tSeq, tAsg, gName, tVar, tC, tOp, tUn, rI0, rI, rU, rAddI, rSubI, rMulI, rDivI, rDivC, rModI, rPowI, rNegI, rLtI, rLeI, rGtI, rGeI, rEq, rNe, scal, tRet, tIfS, tTest, tB, tNot, tNext, tCall, tCons, tNil, tTup, tLst, tCB, cAbs, cLen, cIsB, tSl, tPart, tNoPart, rSlL, rIxL, rIxT, tAndV, tOrV, tAnd, tOr, tNotV, tPar, tNever, gTup, gCons, gNil, List.getElem?_cons_zero, List.getElem?_cons_succ, List.set_cons_zero, List.set_cons_succ, Option.some.injEq, exists_eq_left', exists_eq_left, V.int.injEq, V.ref.injEq, V.bl.injEq, V.ty.injEq, List.cons.injEq, and_true, true_and, List.append_nil, exists_and_left, decide_eq_true_eq, List.cons_append, List.nil_append, and_assoc]
  refine ⟨_, hl, _, atI_nat (j := 0) e1, ⟨_, hl⟩, for_list (K := K) (a := l) (xs := xs) (g := gName 2) (D := { nx := tRet (tVar 1) { nx := fun _ H' => Q .non H', rt := Q }, rt := Q }) (iv_greatest l H xs us) ?_ ?_ ?_ ?_⟩
  · exact ⟨rfl, a0, us[0], 0, none, rfl, e1, List.getElem?_eq_getElem h0, fun k v hk => absurd hk (Nat.not_lt_zero _), fun k v hk => absurd hk (Nat.not_lt_zero _)⟩
  · rintro i σ H3 _ ⟨rfl, _⟩
    exact hl
  · rintro i x σ H3 hi ⟨rfl, a, m, j, o, rfl, hj, hm, h1, h2⟩
    obtain ⟨u, b, x, y, eu, rfl, hb, lo, bu⟩ := hu.get hi
    obtain ⟨m', a', x', y', em, ea, ha, lo', bm⟩ := hu.get hj
    rw [hm] at em
    obtain rfl := Option.some.inj em
    obtain rfl : a = a' := by injection ea
    obtain ⟨c1, c2⟩ := lo_bb lo bu bs
    obtain ⟨c3, c4⟩ := lo_bb lo' bm bs
    simp only [t_greatest_b1, tSeq, tAsg, gName, tVar, tC, tOp, tUn, rI0, rI, rU, rAddI, rSubI, rMulI, rDivI, rDivC, rModI, rPowI, rNegI, rLtI, rLeI, rGtI, rGeI, rEq, rNe, scal, tRet, tIfS, tTest, tB, tNot, tNext, tCall, tCons, tNil, tTup, tLst, tCB, cAbs, cLen, cIsB, tSl, tPart, tNoPart, rSlL, rIxL, rIxT, tAndV, tOrV, tAnd, tOr, tNotV, tPar, tNever, gTup, gCons, gNil, List.getElem?_cons_zero, List.getElem?_cons_succ, List.set_cons_zero, List.set_cons_succ, Option.some.injEq, exists_eq_left', exists_eq_left, V.int.injEq, V.ref.injEq, V.bl.injEq, V.ty.injEq, List.cons.injEq, and_true, true_and, List.append_nil, exists_and_left, decide_eq_true_eq, List.cons_append, List.nil_append, and_assoc]
    refine ⟨_, _, _, _, _, _, rfl, ⟨SqT.of ha, SqT.of hb, c3, c4, c1, c2, lo'.pos, lo.pos⟩, _, rfl, ite2 (fun hlt => ?_) (fun hge => ?_)⟩
    · have hlt := (lo_lt lo' lo s0).mp (of_decide_eq_true hlt)
      refine ⟨rfl, b, u, i, _, rfl, hi, eu, fun k v hk e => ?_, fun k v hk e => ?_⟩
      · by_cases z : k < i
        · have := h1 k v z e; omega
        · have : k = i := by omega
          subst this
          rw [eu] at e
          have := Option.some.inj e
          omega
      · have := h1 k v hk e; omega
    · have hge : ¬ m < u := fun z => hge (decide_eq_true ((lo_lt lo' lo s0).mpr z))
      refine ⟨rfl, a, m, j, _, rfl, hj, hm, fun k v hk e => ?_, h2⟩
      by_cases z : k < i
      · exact h1 k v z e
      · have : k = i := by omega
        subst this
        rw [eu] at e
        have := Option.some.inj e
        omega
  · rintro σ H3 ⟨rfl, a, m, j, o, rfl, hj, hm, h1, h2⟩
    simp only [tSeq, tAsg, gName, tVar, tC, tOp, tUn, rI0, rI, rU, rAddI, rSubI, rMulI, rDivI, rDivC, rModI, rPowI, rNegI, rLtI, rLeI, rGtI, rGeI, rEq, rNe, scal, tRet, tIfS, tTest, tB, tNot, tNext, tCall, tCons, tNil, tTup, tLst, tCB, cAbs, cLen, cIsB, tSl, tPart, tNoPart, rSlL, rIxL, rIxT, tAndV, tOrV, tAnd, tOr, tNotV, tPar, tNever, gTup, gCons, gNil, List.getElem?_cons_zero, List.getElem?_cons_succ, List.set_cons_zero, List.set_cons_succ, Option.some.injEq, exists_eq_left', exists_eq_left, V.int.injEq, V.ref.injEq, V.bl.injEq, V.ty.injEq, List.cons.injEq, and_true, true_and, List.append_nil, exists_and_left, decide_eq_true_eq, List.cons_append, List.nil_append, and_assoc]
    refine q a m j hj ⟨hm, fun k v e => h1 k v (by rw [hul]; exact (List.getElem?_eq_some_iff.mp e).1) e, fun k hk e => ?_⟩
    have := h2 k m hk e
    omega
def N_going_off : List PySem.Str := ["table", "play", "earned", "hand", "size", "rest", "choices", "most"]
structure TabU (K : PySem.W.Frag) (H : Hp) (t : Addr) (ns : List Nat) (cont : List Nat → List V) (un : List Nat → List Int) (sc : Int) : Prop where
  tab : TabAt K H t ns cont
  sz : Sz ns
  uf : ∀ q ∈ ordR ns.reverse, UF H sc (cont q) (un q)
  ul : ∀ q ∈ ordR ns.reverse, (un q).length = ns.length
  s0 : 0 < sc
  bs : BB 40 sc
theorem TabU.same {K : PySem.W.Frag} {H H' : Hp} {t : Addr} {ns : List Nat} {cont : List Nat → List V} {un : List Nat → List Int} {sc : Int} (h : TabU K H t ns cont un sc) (s : Same H H') : TabU K H' t ns cont un sc := ⟨h.tab.same s, h.sz, fun q hq => (h.uf q hq).same s, h.ul, h.s0, h.bs⟩
def sp_going_off (K : PySem.W.Frag) : Sp := fun vs H Q E => ∃ t a ns cont un sc zs, vs = [.ref t, .ref a] ∧ TabU K H t ns cont un sc ∧ H a = some (.tup (List.map V.int zs)) ∧ zs.length = ns.length ∧
  ((∀ i, i < ns.length → bd ns zs i = false) → ∀ v o H', Same H H' → OffV H' v o → Off un (zs.map Int.toNat) ns o → Q v H') ∧
  (∀ i, i < ns.length → bd ns zs i = true → (∀ j, j < i → bd ns zs j = false) → ∀ dx H', Same H H' → H dx = none → H' dx = some (noC dx i (zs.getD i 0)) → E (.ref (gadr K "NoChoice")) (some dx) H')
def iv_going_off (t a l : Addr) (un : List Nat → List Int) (q ns : List Nat) (H : Hp) : Nat → St → Hp → Prop := fun i σ H3 => ∃ o1 o2 o3 o4 o5, σ = [some (.ref t), some (.ref a), some (.ref l), o1, o2, o3, o4, o5] ∧ Same H H3 ∧ NoOff un q ns i
def t_going_off_r1 (K : PySem.W.Frag) (E : XK) : TS := (tRet (tC .non))
def t_going_off_c1 (K : PySem.W.Frag) (E : XK) : TE := (tCall (sp_earned_with K) [] E0 (tCons (tVar 1) (tCons (tVar 2) (tCons (tVar 3) (tCons (tVar 0) tNil)))))
def t_going_off_b1 (K : PySem.W.Frag) (E : XK) : TS := (tSeq (tAsg (tCall (sp_rest_of K) [] E0 (tCons (tVar 1) (tCons (tVar 3) tNil))) (gName 5)) (tSeq (tAsg (tComp (iRng1 (tCons (tVar 4) tNil)) [0, 5, 3] (t_going_off_c1 K E)) (gName 6)) (tSeq (tAsg (tCall (sp_greatest K) [] E0 (tCons (tVar 6) tNil)) (gName 7)) (tIfS (tB (tCall (sp_below K) [] E0 (tCons (tOp (rIxL K) (tVar 2) (tVar 3)) (tCons (tVar 7) tNil)))) (tRet (tTup (tCons (tVar 3) (tCons (tBM K "list" (rIndexT K) (tVar 6) (tCons (tVar 7) tNil)) tNil)))) tNext))))
def t_going_off_g1 (K : PySem.W.Frag) (E : XK) : TG := (gTup K 2 (gCons (gName 3) (gCons (gName 4) gNil)))
def t_going_off (K : PySem.W.Frag) (E : XK) : TS := (tSeq (tAsg (tMeth (gadr K "Table") "earned" (sp_Table_earned K) [] E (tVar 0) (tCons (tVar 1) tNil)) (gName 2)) (tSeq (tFor (iEnum K (tMeth (gadr K "Table") "sizes" (sp_Table_sizes K) [] E0 (tVar 0) tNil)) (t_going_off_g1 K E) (t_going_off_b1 K E)) (t_going_off_r1 K E)))
theorem len_going_off {K vs H Q E} (h : sp_going_off K vs H Q E) : vs.length = 2 := by obtain ⟨_, _, _, _, _, _, _, rfl, _⟩ := h; rfl
theorem rd_going_off {K vs H Q E} (h : sp_going_off K vs H Q E) : t_going_off K E { nx := fun _ H' => Q .non H', rt := Q } (start N_going_off vs) H := by
  obtain ⟨t, a, ns, cont, un, sc, zz, rfl, T, ha, hzl, kg, kb⟩ := h
  have n3 := T.sz.len
  rw [show start N_going_off [V.ref t, V.ref a] = [some (.ref t), some (.ref a), none, none, none, none, none, none] from rfl]
  obtain ⟨dx, m0, d0, ht⟩ := T.tab.ins
  simp only [t_going_off, tFor, iEnum, tMeth, if_true, tSeq, tAsg, gName, tVar, tC, tOp, tUn, rI0, rI, rU, rAddI, rSubI, rMulI, rDivI, rDivC, rModI, rPowI, rNegI, rLtI, rLeI, rGtI, rGeI, rEq, rNe, scal, tRet, tIfS, tTest, tB, tNot, tNext, tCall, tCons, tNil, tTup, tLst, tCB, cAbs, cLen, cIsB, tSl, tPart, tNoPart, rSlL, rIxL, rIxT, tAndV, tOrV, tAnd, tOr, tNotV, tPar, tNever, gTup, gCons, gNil, List.getElem?_cons_zero, List.getElem?_cons_succ, List.set_cons_zero, List.set_cons_succ, Option.some.injEq, exists_eq_left', exists_eq_left, V.int.injEq, V.ref.injEq, V.bl.injEq, V.ty.injEq, List.cons.injEq, and_true, true_and, List.append_nil, exists_and_left, decide_eq_true_eq, List.cons_append, List.nil_append, and_assoc]
  refine ⟨dx, _, ht, flds_no _ _ (by decide +kernel) (by decide +kernel), t, a, ns, cont, zz, rfl, T.tab, ha, hzl, fun g l H1 s1 hl0 hl1 => ?_, kb⟩
  obtain ⟨ez, hq⟩ := bd_nat hzl g
  have k := kg g
  rw [ez, ← tv_iv] at ha
  clear kg kb
  generalize zz.map Int.toNat = q at hq k ha hl1
  have hql : q.length = ns.length := by rw [ordR_len_each _ q hq, List.length_reverse]
  have T1 := T.same s1
  refine ⟨dx, _, s1 _ _ ht, flds_no _ _ (by decide +kernel) (by decide +kernel), t, ns, cont, rfl, T1.tab, fun z hz => ?_⟩
  have s2 := Same.upd (o := HO.lst (tv ns)) hz
  have hz2 : (upd H1 z (HO.lst (tv ns))) z = some (HO.lst (tv ns)) := upd_same
  generalize upd H1 z (HO.lst (tv ns)) = H2 at s2 hz2
  have sB := s1.trans s2
  have T2 := T1.same s2
  have hl2 := s2 _ _ hl1
  refine ⟨z, rfl, ⟨_, SqL.of hz2⟩, for_enum (K := K) (a := z) (xs := tv ns) (g := t_going_off_g1 K E) (D := { nx := t_going_off_r1 K E { nx := fun _ H' => Q .non H', rt := Q }, rt := Q }) (iv_going_off t a l un q ns H2) ?_ ?_ ?_ ?_⟩
  · exact ⟨none, none, none, none, none, rfl, Same.refl _, fun h n hh => absurd hh (Nat.not_lt_zero _)⟩
  · rintro i σ H3 _ ⟨_, _, _, _, _, _, s3, _⟩
    exact SqL.of (s3 _ _ hz2)
  · rintro i x p σ H3 hi ⟨o1, o2, o3, o4, o5, rfl, s3, no⟩ hp
    obtain ⟨n, hn, rfl⟩ := tv_get hi
    have hil : i < ns.length := (List.getElem?_eq_some_iff.mp hn).1
    have n1 := T.sz.ge n (List.mem_of_getElem? hn)
    have n6 := T.sz.le n (List.mem_of_getElem? hn)
    have s4 : Same H2 (upd H3 p (.tup [.int i, .int n])) := s3.trans (Same.upd hp)
    have hT : SqT K (upd H3 p (.tup [.int i, .int n])) p [.int i, .int n] := SqT.of upd_same
    generalize upd H3 p (.tup [.int i, .int n]) = H4 at s4 hT
    simp only [t_going_off_g1, t_going_off_b1, tComp, iRng1, tSeq, tAsg, gName, tVar, tC, tOp, tUn, rI0, rI, rU, rAddI, rSubI, rMulI, rDivI, rDivC, rModI, rPowI, rNegI, rLtI, rLeI, rGtI, rGeI, rEq, rNe, scal, tRet, tIfS, tTest, tB, tNot, tNext, tCall, tCons, tNil, tTup, tLst, tCB, cAbs, cLen, cIsB, tSl, tPart, tNoPart, rSlL, rIxL, rIxT, tAndV, tOrV, tAnd, tOr, tNotV, tPar, tNever, gTup, gCons, gNil, List.getElem?_cons_zero, List.getElem?_cons_succ, List.set_cons_zero, List.set_cons_succ, Option.some.injEq, exists_eq_left', exists_eq_left, V.int.injEq, V.ref.injEq, V.bl.injEq, V.ty.injEq, List.cons.injEq, and_true, true_and, List.append_nil, exists_and_left, decide_eq_true_eq, List.cons_append, List.nil_append, and_assoc]
    refine ⟨_, hT, rfl, _, _, rfl, _, _, rfl, rfl, a, q, i, rfl, s4 _ _ (sB _ _ ha), by omega, fun r H5 s5 hr5 => ?_⟩
    have s6 := s4.trans s5
    simp only [tSeq, tAsg, gName, tVar, tC, tOp, tUn, rI0, rI, rU, rAddI, rSubI, rMulI, rDivI, rDivC, rModI, rPowI, rNegI, rLtI, rLeI, rGtI, rGeI, rEq, rNe, scal, tRet, tIfS, tTest, tB, tNot, tNext, tCall, tCons, tNil, tTup, tLst, tCB, cAbs, cLen, cIsB, tSl, tPart, tNoPart, rSlL, rIxL, rIxT, tAndV, tOrV, tAnd, tOr, tNotV, tPar, tNever, gTup, gCons, gNil, List.getElem?_cons_zero, List.getElem?_cons_succ, List.set_cons_zero, List.set_cons_succ, Option.some.injEq, exists_eq_left', exists_eq_left, V.int.injEq, V.ref.injEq, V.bl.injEq, V.ty.injEq, List.cons.injEq, and_true, true_and, List.append_nil, exists_and_left, decide_eq_true_eq, List.cons_append, List.nil_append, and_assoc]
    rw [Int.toNat_natCast]
    refine ⟨by omega, by omega, comp_range (lo := 0) (W := fun j zs H6 => Same H5 H6 ∧ UF H6 sc zs ((hereL un q i n).take j)) (small (by omega)) ⟨Same.refl _, by rw [List.take_zero]; exact UF.nil⟩ ?_ ?_⟩
    · rintro c zs H6 hc _ ⟨s7, uf⟩
      have hqc : q.set i c ∈ ordR ns.reverse := ordR_set hq hn hc
      have T6 := (T2.same s6).same s7
      have hw : wo i q = q.take i ++ q.drop (i + 1) := rfl
      have hj : (wo i q).take i ++ c :: (wo i q).drop i = q.set i c := wo_back (by omega) c
      have hu6 := T6.uf _ hqc
      have hle : i < (un (q.set i c)).length := by rw [T6.ul _ hqc]; exact hil
      obtain ⟨b, x, y, eb, hb, lo, bu⟩ := hu6.2 i _ (List.getElem?_eq_getElem hle)
      simp only [t_going_off_c1, caught, List.map_cons, List.map_nil, List.getElem?_cons_succ, List.getElem?_cons_zero, Option.join_some, Int.zero_add, tSeq, tAsg, gName, tVar, tC, tOp, tUn, rI0, rI, rU, rAddI, rSubI, rMulI, rDivI, rDivC, rModI, rPowI, rNegI, rLtI, rLeI, rGtI, rGeI, rEq, rNe, scal, tRet, tIfS, tTest, tB, tNot, tNext, tCall, tCons, tNil, tTup, tLst, tCB, cAbs, cLen, cIsB, tSl, tPart, tNoPart, rSlL, rIxL, rIxT, tAndV, tOrV, tAnd, tOr, tNotV, tPar, tNever, gTup, gCons, gNil, List.getElem?_cons_zero, List.getElem?_cons_succ, List.set_cons_zero, List.set_cons_succ, Option.some.injEq, exists_eq_left', exists_eq_left, V.int.injEq, V.ref.injEq, V.bl.injEq, V.ty.injEq, List.cons.injEq, and_true, true_and, List.append_nil, exists_and_left, decide_eq_true_eq, List.cons_append, List.nil_append, and_assoc]
      refine ⟨t, r, ns, cont, wo i q, i, c, .ref b, rfl, T6.tab, s7 _ _ hr5, ?_, by rw [hj]; exact hqc, by rw [hj]; exact eb, fun H8 s9 => ⟨s7.trans s9, ?_⟩⟩
      · unfold wo; rw [List.length_append, List.length_take, List.length_drop]; omega
      rw [take_snoc (hereL_get hc)]
      refine UF.snoc (uf.same s9) (s9 _ _ hb) ?_ ?_
      · rw [List.getD_eq_getElem?_getD, List.getElem?_eq_getElem hle]; exact lo
      · rw [List.getD_eq_getElem?_getD, List.getElem?_eq_getElem hle]; exact bu
    · rintro zs H6 hz6 ⟨s7, uf⟩ w hw
      have eL : (hereL un q i n).take n = hereL un q i n := List.take_of_length_le (by rw [hereL_len]; exact Nat.le_refl _)
      rw [eL] at uf
      have s8 := Same.upd (o := HO.lst zs) hw
      have hw7 : (upd H6 w (HO.lst zs)) w = some (HO.lst zs) := upd_same
      have uf7 := uf.same s8
      generalize upd H6 w (HO.lst zs) = H7 at s8 hw7 uf7
      have sC := (s6.trans s7).trans s8
      have T7 := T2.same sC
      have hne : hereL un q i n ≠ [] := fun e => by
        have := congrArg List.length e
        rw [hereL_len] at this
        simp at this; omega
      refine ⟨_, _, _, _, rfl, SqL.of hw7, uf7, T.s0, T.bs, hne, fun b m j hb fm => ?_⟩
      obtain ⟨m', b', x', y', em, eb', hb', lo', bm⟩ := uf7.get hb
      obtain rfl : b = b' := by injection eb'
      rw [fm.1] at em
      obtain rfl := Option.some.inj em
      have huq := T7.uf q hq
      have hle : i < (un q).length := by rw [T7.ul q hq]; exact hil
      obtain ⟨e, x, y, ee, he, lo, bu⟩ := huq.2 i _ (List.getElem?_eq_getElem hle)
      have eget : (un q).getD i 0 = (un q)[i] := by rw [List.getD_eq_getElem?_getD, List.getElem?_eq_getElem hle]; rfl
      obtain ⟨c1, c2⟩ := lo_bb lo bu T.bs
      obtain ⟨c3, c4⟩ := lo_bb lo' bm T.bs
      refine ⟨_, SqL.of (sC _ _ hl2), _, atI_nat ee, _, _, _, _, _, _, rfl, ⟨SqT.of he, SqT.of hb', c1, c2, c3, c4, lo.pos, lo'.pos⟩, _, rfl, ite2 (fun hlt => ?_) (fun hge => ?_)⟩
      · have hlt := (lo_lt lo lo' T.s0).mp (of_decide_eq_true hlt)
        simp only [tBM, rIndexT, tSeq, tAsg, gName, tVar, tC, tOp, tUn, rI0, rI, rU, rAddI, rSubI, rMulI, rDivI, rDivC, rModI, rPowI, rNegI, rLtI, rLeI, rGtI, rGeI, rEq, rNe, scal, tRet, tIfS, tTest, tB, tNot, tNext, tCall, tCons, tNil, tTup, tLst, tCB, cAbs, cLen, cIsB, tSl, tPart, tNoPart, rSlL, rIxL, rIxT, tAndV, tOrV, tAnd, tOr, tNotV, tPar, tNever, gTup, gCons, gNil, List.getElem?_cons_zero, List.getElem?_cons_succ, List.set_cons_zero, List.set_cons_succ, Option.some.injEq, exists_eq_left', exists_eq_left, V.int.injEq, V.ref.injEq, V.bl.injEq, V.ty.injEq, List.cons.injEq, and_true, true_and, List.append_nil, exists_and_left, decide_eq_true_eq, List.cons_append, List.nil_append, and_assoc]
        refine ⟨.inl ⟨rfl, _, SqL.of hw7⟩, zs, hw7, x', y', hb', j, (List.getElem?_eq_some_iff.mp hb).1, fun g v hv => ?_, by show 2 ≤ sizeLine; decide, fun p4 hp4 => ?_⟩
        · obtain ⟨u2, p2, x2, y2, eu2, rfl, hp2, lo2, bu2⟩ := uf7.get hv
          refine ⟨p2, rfl, x2, y2, hp2, fun hgj z => ?_, fun hgj => ?_⟩
          · have := (lo_eq lo2 lo' T.s0).mp z
            exact fm.2.2 g hgj (by rw [eu2, this])
          · subst hgj
            rw [fm.1] at eu2
            obtain rfl := Option.some.inj eu2
            exact (lo_eq lo2 lo' T.s0).mpr rfl
        · exact k (.ref p4) (some (i, j)) _ ((sB.trans sC).trans (Same.upd hp4)) ⟨p4, rfl, upd_same⟩ ⟨n, m, hn, fm, by rw [eget]; exact hlt, no⟩
      · have hge : ¬ (un q)[i] < m := fun z => hge (decide_eq_true ((lo_lt lo lo' T.s0).mpr z))
        exact ⟨_, _, _, _, _, rfl, sC, no.succ hn fm (by rw [eget]; exact hge)⟩
  · rintro σ H3 ⟨o1, o2, o3, o4, o5, rfl, s3, no⟩
    simp only [t_going_off_r1, tSeq, tAsg, gName, tVar, tC, tOp, tUn, rI0, rI, rU, rAddI, rSubI, rMulI, rDivI, rDivC, rModI, rPowI, rNegI, rLtI, rLeI, rGtI, rGeI, rEq, rNe, scal, tRet, tIfS, tTest, tB, tNot, tNext, tCall, tCons, tNil, tTup, tLst, tCB, cAbs, cLen, cIsB, tSl, tPart, tNoPart, rSlL, rIxL, rIxT, tAndV, tOrV, tAnd, tOr, tNotV, tPar, tNever, gTup, gCons, gNil, List.getElem?_cons_zero, List.getElem?_cons_succ, List.set_cons_zero, List.set_cons_succ, Option.some.injEq, exists_eq_left', exists_eq_left, V.int.injEq, V.ref.injEq, V.bl.injEq, V.ty.injEq, List.cons.injEq, and_true, true_and, List.append_nil, exists_and_left, decide_eq_true_eq, List.cons_append, List.nil_append, and_assoc]
    rw [tv_len] at no
    exact k .non none H3 (sB.trans s3) rfl no
def N_l_caught : List PySem.Str := ["_law_table", "_law_play_here", "_law_told", "e"]
def sp_l_caught (K : PySem.W.Frag) : Sp := fun vs H Q _ => ∃ t a ns cont un sc zs i, vs = [.ref t, .ref a] ∧ TabU K H t ns cont un sc ∧ H a = some (.tup (List.map V.int zs)) ∧ zs.length = ns.length ∧ i < ns.length ∧ bd ns zs i = true ∧ (∀ j, j < i → bd ns zs j = false) ∧
  ∀ e dx H', Same H H' → H' e = some (excD e (.ref (gadr K "NoChoice")) (some dx)) → H' dx = some (noC dx i (zs.getD i 0)) → Q (.ref e) H'
def t_l_caught (K : PySem.W.Frag) : TS := (tSeq (tAsg (tC .non) (gName 2)) (tSeq (tTry (fun E => tCall (sp_going_off K) [] E (tCons (tVar 0) (tCons (tVar 1) tNil))) (.ref (gadr K "NoChoice")) 3 (tAsg (tVar 3) (gName 2))) (tRet (tVar 2))))
theorem len_l_caught {K vs H Q E} (h : sp_l_caught K vs H Q E) : vs.length = 2 := by obtain ⟨_, _, _, _, _, _, _, _, rfl, _⟩ := h; rfl
theorem rd_l_caught {K vs H Q E} (h : sp_l_caught K vs H Q E) : t_l_caught K { nx := fun _ H' => Q .non H', rt := Q } (start N_l_caught vs) H := by
  obtain ⟨t, a, ns, cont, un, sc, zs, i, rfl, tab, ha, hl, hi, bi, gd, q⟩ := h
  rw [show start N_l_caught [V.ref t, V.ref a] = [some (.ref t), some (.ref a), none, none] from rfl]
  simp only [t_l_caught, tTry, tSeq, tAsg, gName, tVar, tC, tOp, tUn, rI0, rI, rU, rAddI, rSubI, rMulI, rDivI, rDivC, rModI, rPowI, rNegI, rLtI, rLeI, rGtI, rGeI, rEq, rNe, scal, tRet, tIfS, tTest, tB, tNot, tNext, tCall, tCons, tNil, tTup, tLst, tCB, cAbs, cLen, cIsB, tSl, tPart, tNoPart, rSlL, rIxL, rIxT, tAndV, tOrV, tAnd, tOr, tNotV, tPar, tNever, gTup, gCons, gNil, List.getElem?_cons_zero, List.getElem?_cons_succ, List.set_cons_zero, List.set_cons_succ, Option.some.injEq, exists_eq_left', exists_eq_left, V.int.injEq, V.ref.injEq, V.bl.injEq, V.ty.injEq, List.cons.injEq, and_true, true_and, List.append_nil, exists_and_left, decide_eq_true_eq, List.cons_append, List.nil_append, and_assoc]
  refine ⟨t, a, ns, cont, un, sc, zs, rfl, tab, ha, hl, fun g => ?_, fun j hj bj gj dx H' s hdx hd => ⟨rfl, fun e he => ?_⟩⟩
  · have := g i hi; rw [bi] at this; cases this
  · have ij : j = i := by
      rcases Nat.lt_trichotomy j i with e | e | e
      · have := gd j e; rw [bj] at this; cases this
      · exact e
      · have := gj i e; rw [bi] at this; cases this
    subst ij
    have ne : dx ≠ e := ne_of_none hd he
    exact q e dx _ (s.trans (Same.upd he)) upd_same (by rw [upd_ne ne]; exact hd)
def N_l_right : List PySem.Str := ["_law_table", "_law_sizes_here", "_law_units_here", "_law_play_here", "_law_bad", "_law_told"]
abbrev Oth : List Str := ["NoNumber", "NoTable", "NoStart", "NoOrder", "NotTwo", "NoPlan", "NoMixing"]
def sp_l_right (K : PySem.W.Frag) : Sp := fun vs H Q _ => ∃ t s c a ns cont un sc zs, vs = [.ref t, .ref s, .ref c, .ref a] ∧ TabU K H t ns cont un sc ∧ H s = some (.lst (tv ns)) ∧ UnAt H c ns un ∧ H a = some (.tup (List.map V.int zs)) ∧ zs.length = ns.length ∧ ∀ H', Same H H' → Q (.bl true) H'
def t_l_right_r1 (K : PySem.W.Frag) : TS := (tRet (tAndV (tOp rEq (tFldX K (tVar 5) "hand") (tOp (rIxL K) (tVar 4) (tC (.int 0)))) (tOp rEq (tFldX K (tVar 5) "choice") (tOp (rIxT K) (tVar 3) (tOp (rIxL K) (tVar 4) (tC (.int 0)))))))
def t_l_right_r2 (K : PySem.W.Frag) : TS := (tSeq (tIfS (tOr (tNot (tB (tCall (sp_l_whole K) [] E0 (tCons (tFldX K (tVar 5) "hand") tNil)))) (tNot (tB (tCall (sp_l_whole K) [] E0 (tCons (tFldX K (tVar 5) "choice") tNil))))) (tRet (tC (.bl false))) tNext) (t_l_right_r1 K))
def t_l_right_r3 (K : PySem.W.Frag) : TS := (tSeq (tIfS (tOr (tNot (tB (tCB (cIsE K) (tCons (tVar 5) (tCons (tC (.ref (gadr K "NoChoice"))) tNil))))) (tNot (tB (tCB (cIsE K) (tCons (tVar 5) (tCons (tC (.ty "ValueError")) tNil)))))) (tRet (tC (.bl false))) tNext) (t_l_right_r2 K))
def t_l_right_r4 (K : PySem.W.Frag) : TS := (tSeq (tIfS (tB (tCB (cIsE K) (tCons (tVar 5) (tCons (tTup (tCons (tC (.ref (gadr K "NoNumber"))) (tCons (tC (.ref (gadr K "NoTable"))) (tCons (tC (.ref (gadr K "NoStart"))) (tCons (tC (.ref (gadr K "NoOrder"))) (tCons (tC (.ref (gadr K "NotTwo"))) (tCons (tC (.ref (gadr K "NoPlan"))) (tCons (tC (.ref (gadr K "NoMixing"))) tNil)))))))) tNil)))) (tRet (tC (.bl false))) tNext) (t_l_right_r3 K))
def t_l_right_r5 (K : PySem.W.Frag) : TS := (tSeq (tAsg (tCall (sp_l_caught K) [] E0 (tCons (tVar 0) (tCons (tVar 3) tNil))) (gName 5)) (t_l_right_r4 K))
def t_l_right_r6 (K : PySem.W.Frag) : TS := (tSeq (tIfS (tTest (tOp (rEqD K 0) (tVar 4) (tLst tNil))) (tRet (tCall (sp_l_off K) [] E0 (tCons (tCall (sp_going_off K) [] E0 (tCons (tVar 0) (tCons (tVar 3) tNil))) (tCons (tVar 2) (tCons (tVar 1) (tCons (tVar 3) tNil)))))) tNext) (t_l_right_r5 K))
def t_l_right_c1 (K : PySem.W.Frag) : TE := (tVar 0)
def t_l_right (K : PySem.W.Frag) : TS := (tSeq (tAsg (tCompI (iRng1 (tCons (tCB (cLen K) (tCons (tVar 1) tNil)) tNil)) [3, 1] (tOr (tTest (tOp rLtI (tOp (rIxT K) (tVar 1) (tVar 0)) (tC (.int 0)))) (tTest (tOp rGeI (tOp (rIxT K) (tVar 1) (tVar 0)) (tOp (rIxL K) (tVar 2) (tVar 0))))) (t_l_right_c1 K)) (gName 4)) (t_l_right_r6 K))
theorem len_l_right {K vs H Q E} (h : sp_l_right K vs H Q E) : vs.length = 4 := by obtain ⟨_, _, _, _, _, _, _, _, _, rfl, _⟩ := h; rfl
theorem noC_hand (h c : Int) : ([("choice", V.int c), ("hand", V.int h)] : List (Str × V)).lookup ("hand" : Str) = some (V.int h) := by rw [look_cons, if_neg (by decide +kernel), look_cons, if_pos rfl]
theorem noC_choice (h c : Int) : ([("choice", V.int c), ("hand", V.int h)] : List (Str × V)).lookup ("choice" : Str) = some (V.int c) := by rw [look_cons, if_pos rfl]
theorem rd_l_right_r3 {K : PySem.W.Frag} {Q : VK} {t s c a p x dx : Addr} {zs : List Int} {b : Nat} {r : List Nat} {G : Hp} (z : XT K "NoChoice" Oth) (xk : ExK K "NoChoice" ["hand", "choice"]) (hp : G p = some (.lst (tv (b :: r)))) (ha : G a = some (.tup (List.map V.int zs))) (hb : b < zs.length)
    (hx : G x = some (excD x (.ref (gadr K "NoChoice")) (some dx))) (hd : G dx = some (noC dx b (zs.getD b 0))) (k : ∀ H', Same G H' → Q (.bl true) H') :
    t_l_right_r3 K { nx := fun _ H' => Q .non H', rt := Q } [some (.ref t), some (.ref s), some (.ref c), some (.ref a), some (.ref p), some (.ref x)] G := by
  simp only [t_l_right_r3, cIsE, tSeq, tAsg, gName, tVar, tC, tOp, tUn, rI0, rI, rU, rAddI, rSubI, rMulI, rDivI, rDivC, rModI, rPowI, rNegI, rLtI, rLeI, rGtI, rGeI, rEq, rNe, scal, tRet, tIfS, tTest, tB, tNot, tNext, tCall, tCons, tNil, tTup, tLst, tCB, cAbs, cLen, cIsB, tSl, tPart, tNoPart, rSlL, rIxL, rIxT, tAndV, tOrV, tAnd, tOr, tNotV, tPar, tNever, gTup, gCons, gNil, List.getElem?_cons_zero, List.getElem?_cons_succ, List.set_cons_zero, List.set_cons_succ, Option.some.injEq, exists_eq_left', exists_eq_left, V.int.injEq, V.ref.injEq, V.bl.injEq, V.ty.injEq, List.cons.injEq, and_true, true_and, List.append_nil, exists_and_left, decide_eq_true_eq, List.cons_append, List.nil_append, and_assoc]
  refine ⟨_, _, hx, z.kx, true, .inl ⟨_, rfl, z.own⟩, iteF ⟨_, _, hx, z.kx, true, .inr (.inl ⟨_, rfl, z.val⟩), iteF ?_⟩⟩
  simp only [t_l_right_r2, tFldX, sp_l_whole, tSeq, tAsg, gName, tVar, tC, tOp, tUn, rI0, rI, rU, rAddI, rSubI, rMulI, rDivI, rDivC, rModI, rPowI, rNegI, rLtI, rLeI, rGtI, rGeI, rEq, rNe, scal, tRet, tIfS, tTest, tB, tNot, tNext, tCall, tCons, tNil, tTup, tLst, tCB, cAbs, cLen, cIsB, tSl, tPart, tNoPart, rSlL, rIxL, rIxT, tAndV, tOrV, tAnd, tOr, tNotV, tPar, tNever, gTup, gCons, gNil, List.getElem?_cons_zero, List.getElem?_cons_succ, List.set_cons_zero, List.set_cons_succ, Option.some.injEq, exists_eq_left', exists_eq_left, V.int.injEq, V.ref.injEq, V.bl.injEq, V.ty.injEq, List.cons.injEq, and_true, true_and, List.append_nil, exists_and_left, decide_eq_true_eq, List.cons_append, List.nil_append, and_assoc]
  refine ⟨_, xk.get _ (.head _), dx, .inr hx, _, hd, _, noC_hand _ _, _, rfl, iteF ⟨_, xk.get _ (.tail _ (.head _)), dx, .inr hx, _, hd, _, noC_choice _ _, _, rfl, iteF ?_⟩⟩
  simp only [t_l_right_r1, tFldX, tSeq, tAsg, gName, tVar, tC, tOp, tUn, rI0, rI, rU, rAddI, rSubI, rMulI, rDivI, rDivC, rModI, rPowI, rNegI, rLtI, rLeI, rGtI, rGeI, rEq, rNe, scal, tRet, tIfS, tTest, tB, tNot, tNext, tCall, tCons, tNil, tTup, tLst, tCB, cAbs, cLen, cIsB, tSl, tPart, tNoPart, rSlL, rIxL, rIxT, tAndV, tOrV, tAnd, tOr, tNotV, tPar, tNever, gTup, gCons, gNil, List.getElem?_cons_zero, List.getElem?_cons_succ, List.set_cons_zero, List.set_cons_succ, Option.some.injEq, exists_eq_left', exists_eq_left, V.int.injEq, V.ref.injEq, V.bl.injEq, V.ty.injEq, List.cons.injEq, and_true, true_and, List.append_nil, exists_and_left, decide_eq_true_eq, List.cons_append, List.nil_append, and_assoc]
  have b0 : atI (tv (b :: r)) 0 = some (V.int (b : Nat)) := atI0
  refine ⟨_, xk.get _ (.head _), dx, .inr hx, _, hd, _, noC_hand _ _, _, SqL.of hp, _, b0, rfl, ?_⟩
  rw [if_pos rfl]
  refine ⟨_, xk.get _ (.tail _ (.head _)), dx, .inr hx, _, hd, _, noC_choice _ _, _, SqL.of hp, _, b0, _, _, rfl, SqT.of ha, _, ints_at hb, rfl, ?_⟩
  rw [decide_eq_true rfl]
  exact k G (Same.refl _)
theorem rd_l_right_r4 {K : PySem.W.Frag} {Q : VK} {t s c a p x dx : Addr} {zs : List Int} {b : Nat} {r : List Nat} {G : Hp} (z : XT K "NoChoice" Oth) (xk : ExK K "NoChoice" ["hand", "choice"]) (hp : G p = some (.lst (tv (b :: r)))) (ha : G a = some (.tup (List.map V.int zs))) (hb : b < zs.length)
    (hx : G x = some (excD x (.ref (gadr K "NoChoice")) (some dx))) (hd : G dx = some (noC dx b (zs.getD b 0))) (k : ∀ H', Same G H' → Q (.bl true) H') :
    t_l_right_r4 K { nx := fun _ H' => Q .non H', rt := Q } [some (.ref t), some (.ref s), some (.ref c), some (.ref a), some (.ref p), some (.ref x)] G := by
  simp only [t_l_right_r4, cIsE, tSeq, tAsg, gName, tVar, tC, tOp, tUn, rI0, rI, rU, rAddI, rSubI, rMulI, rDivI, rDivC, rModI, rPowI, rNegI, rLtI, rLeI, rGtI, rGeI, rEq, rNe, scal, tRet, tIfS, tTest, tB, tNot, tNext, tCall, tCons, tNil, tTup, tLst, tCB, cAbs, cLen, cIsB, tSl, tPart, tNoPart, rSlL, rIxL, rIxT, tAndV, tOrV, tAnd, tOr, tNotV, tPar, tNever, gTup, gCons, gNil, List.getElem?_cons_zero, List.getElem?_cons_succ, List.set_cons_zero, List.set_cons_succ, Option.some.injEq, exists_eq_left', exists_eq_left, V.int.injEq, V.ref.injEq, V.bl.injEq, V.ty.injEq, List.cons.injEq, and_true, true_and, List.append_nil, exists_and_left, decide_eq_true_eq, List.cons_append, List.nil_append, and_assoc]
  refine ⟨by show 7 ≤ sizeLine; decide, fun p7 hp7 => ?_⟩
  refine ⟨_, _, Same.upd hp7 _ _ hx, z.kx, false, .inr (.inr ⟨p7, Oth.map (gadr K), rfl, upd_same, z.any⟩), iteF ?_⟩
  exact rd_l_right_r3 z xk (Same.upd hp7 _ _ hp) (Same.upd hp7 _ _ ha) hb (Same.upd hp7 _ _ hx) (Same.upd hp7 _ _ hd) fun H' s' => k H' ((Same.upd hp7).trans s')
theorem rd_l_right {K vs H Q E} (z : XT K "NoChoice" Oth) (xk : ExK K "NoChoice" ["hand", "choice"]) (h : sp_l_right K vs H Q E) : t_l_right K { nx := fun _ H' => Q .non H', rt := Q } (start N_l_right vs) H := by
  obtain ⟨t, s, c, a, ns, cont, un, sc, zs, rfl, T, hs, U, ha, hl, k⟩ := h
  rw [show start N_l_right [V.ref t, V.ref s, V.ref c, V.ref a] = [some (.ref t), some (.ref s), some (.ref c), some (.ref a), none, none] from rfl]
  have h3 := T.sz.len
  simp only [t_l_right, tCompI, iRng1, tSeq, tAsg, gName, tVar, tC, tOp, tUn, rI0, rI, rU, rAddI, rSubI, rMulI, rDivI, rDivC, rModI, rPowI, rNegI, rLtI, rLeI, rGtI, rGeI, rEq, rNe, scal, tRet, tIfS, tTest, tB, tNot, tNext, tCall, tCons, tNil, tTup, tLst, tCB, cAbs, cLen, cIsB, tSl, tPart, tNoPart, rSlL, rIxL, rIxT, tAndV, tOrV, tAnd, tOr, tNotV, tPar, tNever, gTup, gCons, gNil, List.getElem?_cons_zero, List.getElem?_cons_succ, List.set_cons_zero, List.set_cons_succ, Option.some.injEq, exists_eq_left', exists_eq_left, V.int.injEq, V.ref.injEq, V.bl.injEq, V.ty.injEq, List.cons.injEq, and_true, true_and, List.append_nil, exists_and_left, decide_eq_true_eq, List.cons_append, List.nil_append, and_assoc]
  refine ⟨_, .inl (SqL.of hs), ?_⟩
  rw [tv_len, Int.toNat_natCast]
  refine ⟨by omega, by omega, comp_rangeI (W := fun i ys H' => H' = H ∧ ys = tv (bads ns zs i)) (small (by omega)) ⟨rfl, rfl⟩ ?_ ?_⟩
  · rintro i ys H' hi _ ⟨rfl, rfl⟩
    have hil : i < zs.length := by omega
    simp only [t_l_right_c1, caught, List.map_cons, List.map_nil, List.getElem?_cons_succ, List.getElem?_cons_zero, Option.join_some, Int.zero_add, tSeq, tAsg, gName, tVar, tC, tOp, tUn, rI0, rI, rU, rAddI, rSubI, rMulI, rDivI, rDivC, rModI, rPowI, rNegI, rLtI, rLeI, rGtI, rGeI, rEq, rNe, scal, tRet, tIfS, tTest, tB, tNot, tNext, tCall, tCons, tNil, tTup, tLst, tCB, cAbs, cLen, cIsB, tSl, tPart, tNoPart, rSlL, rIxL, rIxT, tAndV, tOrV, tAnd, tOr, tNotV, tPar, tNever, gTup, gCons, gNil, List.getElem?_cons_zero, List.getElem?_cons_succ, List.set_cons_zero, List.set_cons_succ, Option.some.injEq, exists_eq_left', exists_eq_left, V.int.injEq, V.ref.injEq, V.bl.injEq, V.ty.injEq, List.cons.injEq, and_true, true_and, List.append_nil, exists_and_left, decide_eq_true_eq, List.cons_append, List.nil_append, and_assoc]
    refine ⟨_, SqT.of ha, _, ints_at hil, _, rfl, ?_⟩
    refine ite2 (fun c => ?_) (fun c => ?_)
    · have bi : bd ns zs i = true := by unfold bd; rw [decide_eq_true c]; rfl
      rw [if_pos trivial]
      show _ = tv (bads ns zs i ++ if bd ns zs i = true then [i] else [])
      rw [if_pos bi, tv_app]; rfl
    · refine ⟨_, SqT.of ha, _, ints_at hil, _, SqL.of hs, _, tv_atD hi, _, rfl, _, rfl, ite2 (fun c2 => ?_) (fun c2 => ?_)⟩
      · have bi : bd ns zs i = true := by unfold bd; rw [decide_eq_true c2, Bool.or_true]
        show _ = tv (bads ns zs i ++ if bd ns zs i = true then [i] else [])
        rw [if_pos bi, tv_app]; rfl
      · have bi : ¬ bd ns zs i = true := by unfold bd; rw [decide_eq_false c, decide_eq_false c2]; decide
        show _ = tv (bads ns zs i ++ if bd ns zs i = true then [i] else [])
        rw [if_neg bi, List.append_nil]
  · rintro ys H' ⟨rfl, rfl⟩ p hp
    have s1 := Same.upd (o := HO.lst (tv (bads ns zs ns.length))) hp
    have p1 : (upd H' p (HO.lst (tv (bads ns zs ns.length)))) p = some (HO.lst (tv (bads ns zs ns.length))) := upd_same
    generalize upd H' p (HO.lst (tv (bads ns zs ns.length))) = H1 at s1 p1
    simp only [t_l_right_r6, rEqD, tSeq, tAsg, gName, tVar, tC, tOp, tUn, rI0, rI, rU, rAddI, rSubI, rMulI, rDivI, rDivC, rModI, rPowI, rNegI, rLtI, rLeI, rGtI, rGeI, rEq, rNe, scal, tRet, tIfS, tTest, tB, tNot, tNext, tCall, tCons, tNil, tTup, tLst, tCB, cAbs, cLen, cIsB, tSl, tPart, tNoPart, rSlL, rIxL, rIxT, tAndV, tOrV, tAnd, tOr, tNotV, tPar, tNever, gTup, gCons, gNil, List.getElem?_cons_zero, List.getElem?_cons_succ, List.set_cons_zero, List.set_cons_succ, Option.some.injEq, exists_eq_left', exists_eq_left, V.int.injEq, V.ref.injEq, V.bl.injEq, V.ty.injEq, List.cons.injEq, and_true, true_and, List.append_nil, exists_and_left, decide_eq_true_eq, List.cons_append, List.nil_append, and_assoc]
    refine ⟨by show 0 ≤ sizeLine; exact Nat.zero_le _, fun e he => ?_⟩
    have s2 := Same.upd (o := HO.lst []) he
    have e2 : (upd H1 e (HO.lst [])) e = some (HO.lst []) := upd_same
    generalize upd H1 e (HO.lst []) = H2 at s2 e2
    have S := s1.trans s2
    have p2 := s2 _ _ p1
    cases hb : bads ns zs ns.length with
    | nil =>
      have g := bads_nil hb
      rw [hb] at p2
      refine ⟨_, REq.ints (n := 0) (ns := []) (ms := []) (SqL.of p2) (SqL.of e2), ?_⟩
      rw [decide_eq_true rfl]
      refine iteT ?_
      refine ⟨t, a, ns, cont, un, sc, zs, rfl, T.same S, S _ _ ha, hl, fun _ v o H3 s3 ov off => ?_, fun i hi bi _ => ?_⟩
      · obtain ⟨ez, hq⟩ := bd_nat hl g
        have T3 := S.trans s3
        exact ⟨v, o, c, s, a, ns, un, zs.map Int.toNat, rfl, ov, off, U.same T3, T3 _ _ hs, T.sz, by rw [tv_iv, ← ez]; exact T3 _ _ ha, hq, fun H' s' => k H' (T3.trans s')⟩
      · have := g i hi
        rw [bi] at this; cases this
    | cons b r =>
      obtain ⟨hbl, hbb⟩ := bads_lt (n := ns.length) (i := b) (by rw [hb]; exact .head _)
      have gd := bads_head hb
      rw [hb] at p2
      refine ⟨_, REq.ints (n := 0) (ns := (b :: r).map fun n : Nat => (n : Int)) (ms := []) (by rw [← tv_iv]; exact SqL.of p2) (SqL.of e2), ?_⟩
      rw [decide_eq_false (by simp)]
      refine iteF ?_
      simp only [t_l_right_r5, tSeq, tAsg, gName, tVar, tC, tOp, tUn, rI0, rI, rU, rAddI, rSubI, rMulI, rDivI, rDivC, rModI, rPowI, rNegI, rLtI, rLeI, rGtI, rGeI, rEq, rNe, scal, tRet, tIfS, tTest, tB, tNot, tNext, tCall, tCons, tNil, tTup, tLst, tCB, cAbs, cLen, cIsB, tSl, tPart, tNoPart, rSlL, rIxL, rIxT, tAndV, tOrV, tAnd, tOr, tNotV, tPar, tNever, gTup, gCons, gNil, List.getElem?_cons_zero, List.getElem?_cons_succ, List.set_cons_zero, List.set_cons_succ, Option.some.injEq, exists_eq_left', exists_eq_left, V.int.injEq, V.ref.injEq, V.bl.injEq, V.ty.injEq, List.cons.injEq, and_true, true_and, List.append_nil, exists_and_left, decide_eq_true_eq, List.cons_append, List.nil_append, and_assoc]
      refine ⟨t, a, ns, cont, un, sc, zs, b, rfl, T.same S, S _ _ ha, hl, hbl, hbb, gd, fun x dx H3 s3 hx hd => ?_⟩
      exact rd_l_right_r4 z xk (s3 _ _ p2) (s3 _ _ (S _ _ ha)) (by omega) hx hd fun H' s' => k H' ((S.trans s3).trans s')
def N_law : List PySem.Str := ["_law_script", "_law_sizes_here", "_law_order_here", "_law_units_here", "_law_cells", "_law_play_here", "_law_table", "_law_cell"]
def sp_law (K : PySem.W.Frag) : Sp := fun vs H Q _ => ∃ (a : Addr) (ns : List Int), vs = [.ref a] ∧ SqL K H a (ns.map V.int) ∧ ns.length ≤ 63 ∧ ∀ H', Q (.bl true) H'
def iv_law1 (a s o c d : Addr) (un : List Nat → List Int) (qs : List (List Nat)) (H : Hp) : Nat → St → Hp → Prop := fun i σ H3 => ∃ kv cont o5, σ = [some (.ref a), some (.ref s), some (.ref o), some (.ref c), some (.ref d), o5, none, none] ∧ Same H H3 ∧ H d = none ∧ H3 d = some (.dT kv) ∧ Kc H3 kv cont (qs.take i) ∧ ∀ q ∈ qs.take i, UF H3 1 (cont q) (un q)
def iv_law2 (a s o c d t : Addr) (H : Hp) : Nat → St → Hp → Prop := fun _ σ H3 => ∃ o5 o8, σ = [some (.ref a), some (.ref s), some (.ref o), some (.ref c), some (.ref d), o5, some (.ref t), o8] ∧ Same H H3
def t_law_r1 (K : PySem.W.Frag) : TS := (tRet (tCall (sp_l_right K) [] E0 (tCons (tVar 6) (tCons (tVar 1) (tCons (tVar 3) (tCons (tOp (rIxL K) (tVar 2) (tOp rModI (tCall (sp_l_cell_at K) [] E0 (tCons (tVar 0) (tCons (tC (.int 4)) tNil))) (tCB (cLen K) (tCons (tVar 2) tNil)))) tNil))))))
def t_law_c1 (K : PySem.W.Frag) : TE := (tCall (sp_l_choice K) [] E0 (tCons (tVar 1) (tCons (tVar 0) (tCons (tOp (rIxL K) (tVar 2) (tVar 0)) tNil))))
def t_law_b1 (K : PySem.W.Frag) : TS := (tSeq (tAsg (tCB (cTuple K) (tCons (tComp (iRng1 (tCons (tCB (cLen K) (tCons (tVar 1) tNil)) tNil)) [7, 1] (t_law_c1 K)) tNil)) (gName 5)) (tIfS (tNot (tB (tCall (sp_l_right K) [] E0 (tCons (tVar 6) (tCons (tVar 1) (tCons (tVar 3) (tCons (tVar 5) tNil))))))) (tRet (tC (.bl false))) tNext))
def t_law_r2 (K : PySem.W.Frag) : TS := (tSeq (tFor (iList K (tSl (rSlL K) (tVar 0) tNoPart (tPart (tC (.int 63))))) (gName 7) (t_law_b1 K)) (t_law_r1 K))
def t_law_r3 (K : PySem.W.Frag) : TS := (tSeq (tAsg (tMake (gadr K "Table") (sp_Table_init K) [] E0 (tCons (tCB (cList K) (tCons (tVar 1) tNil)) (tCons (tVar 4) tNil))) (gName 6)) (t_law_r2 K))
def t_law_c2 (K : PySem.W.Frag) : TE := (tTup (tCons (tVar 0) (tCons (tC (.int 1)) tNil)))
def t_law_b2 (K : PySem.W.Frag) : TS := (sDPut (tVar 4) (tVar 5) (tComp (iList K (tDGet (tVar 3) (tVar 5))) [] (t_law_c2 K)))
def t_law (K : PySem.W.Frag) : TS := (tSeq (tAsg (tCall (sp_l_sizes K) [] E0 (tCons (tVar 0) tNil)) (gName 1)) (tSeq (tAsg (tCall (sp_l_order K) [] E0 (tCons (tVar 1) tNil)) (gName 2)) (tSeq (tAsg (tCall (sp_l_units K) [] E0 (tCons (tVar 0) (tCons (tVar 2) (tCons (tCB (cLen K) (tCons (tVar 1) tNil)) tNil)))) (gName 3)) (tSeq (tAsg tDNewT (gName 4)) (tSeq (tFor (iRev K (tVar 2)) (gName 5) (t_law_b2 K)) (t_law_r3 K))))))
theorem len_law {K vs H Q E} (h : sp_law K vs H Q E) : vs.length = 1 := by obtain ⟨a, ns, rfl, _⟩ := h; rfl
structure LawAt (K : PySem.W.Frag) (G : Hp) (a s o c t : Addr) (ns : List Int) (ms : List Nat) (cont : List Nat → List V) (un : List Nat → List Int) : Prop where
  sc : SqL K G a (ns.map V.int)
  ss : G s = some (.lst (tv ms))
  oo : ∃ xs, G o = some (.lst xs) ∧ Ps G xs (ordR ms.reverse)
  cc : UnAt G c ms un
  tab : TabU K G t ms cont un 1
theorem LawAt.same {K : PySem.W.Frag} {G G' : Hp} {a s o c t : Addr} {ns : List Int} {ms : List Nat} {cont : List Nat → List V} {un : List Nat → List Int} (h : LawAt K G a s o c t ns ms cont un) (z : Same G G') : LawAt K G' a s o c t ns ms cont un :=
  ⟨z.seq h.sc, z _ _ h.ss, let ⟨xs, e1, e2⟩ := h.oo; ⟨xs, z _ _ e1, e2.same z⟩, h.cc.same z, h.tab.same z⟩
theorem LawAt.right {K : PySem.W.Frag} {G : Hp} {a s o c t p : Addr} {ns : List Int} {ms : List Nat} {cont : List Nat → List V} {un : List Nat → List Int} {zs : List Int} {Q : VK} {E : XK} (h : LawAt K G a s o c t ns ms cont un) (hp : G p = some (.tup (List.map V.int zs))) (hl : zs.length = ms.length) (k : ∀ H', Same G H' → Q (.bl true) H') : sp_l_right K [.ref t, .ref s, .ref c, .ref p] G Q E :=
  ⟨t, s, c, p, ms, cont, un, 1, zs, rfl, h.tab, h.ss, h.cc, hp, hl, k⟩
theorem rd_law_r1 {K : PySem.W.Frag} {Q : VK} {a s o c d t : Addr} {o5 o8 : Option V} {ns : List Int} {ms : List Nat} {cont : List Nat → List V} {un : List Nat → List Int} {G : Hp} (k : ∀ H', Q (.bl true) H') (h : LawAt K G a s o c t ns ms cont un) :
    t_law_r1 K { nx := fun _ H' => Q .non H', rt := Q } [some (.ref a), some (.ref s), some (.ref o), some (.ref c), some (.ref d), o5, some (.ref t), o8] G := by
  obtain ⟨xs, ho, ps⟩ := h.oo
  simp only [t_law_r1, tSeq, tAsg, gName, tVar, tC, tOp, tUn, rI0, rI, rU, rAddI, rSubI, rMulI, rDivI, rDivC, rModI, rPowI, rNegI, rLtI, rLeI, rGtI, rGeI, rEq, rNe, scal, tRet, tIfS, tTest, tB, tNot, tNext, tCall, tCons, tNil, tTup, tLst, tCB, cAbs, cLen, cIsB, tSl, tPart, tNoPart, rSlL, rIxL, rIxT, tAndV, tOrV, tAnd, tOr, tNotV, tPar, tNever, gTup, gCons, gNil, List.getElem?_cons_zero, List.getElem?_cons_succ, List.set_cons_zero, List.set_cons_succ, Option.some.injEq, exists_eq_left', exists_eq_left, V.int.injEq, V.ref.injEq, V.bl.injEq, V.ty.injEq, List.cons.injEq, and_true, true_and, List.append_nil, exists_and_left, decide_eq_true_eq, List.cons_append, List.nil_append, and_assoc]
  have pos := prodR_pos ms.reverse h.tab.sz.rev.ge
  rw [← ordR_length _ h.tab.sz.rev.ge] at pos
  refine ⟨a, ns, 4, rfl, h.sc, by decide, _, .inl (SqL.of ho), ?_⟩
  generalize ns.getD (Int.toNat 4) 0 = y
  rw [ps.1]
  have y1 := Int.emod_nonneg y (show ((ordR ms.reverse).length : Int) ≠ 0 by omega)
  have y2 := Int.emod_lt_of_pos y (show (0 : Int) < ((ordR ms.reverse).length : Int) by omega)
  obtain ⟨j, ej⟩ : ∃ j : Nat, y % ((ordR ms.reverse).length : Int) = (j : Int) := ⟨(y % ((ordR ms.reverse).length : Int)).toNat, by omega⟩
  obtain ⟨q, pa, hq, hx, hpa⟩ := ps.at (i := j) (by omega)
  have hqm := List.mem_of_getElem? hq
  rw [tv_iv] at hpa
  refine ⟨y, rfl, by omega, xs, SqL.of ho, ?_⟩
  rw [ej]
  exact ⟨_, atI_nat hx, h.right hpa (by rw [List.length_map, ordR_len_each _ q hqm, List.length_reverse]) fun H' _ => k H'⟩
theorem rd_law_r2 {K : PySem.W.Frag} {Q : VK} {a s o c d t : Addr} {o5 o8 : Option V} {ns : List Int} {ms : List Nat} {cont : List Nat → List V} {un : List Nat → List Int} {G : Hp} (k : ∀ H', Q (.bl true) H') (h : LawAt K G a s o c t ns ms cont un) :
    t_law_r2 K { nx := fun _ H' => Q .non H', rt := Q } [some (.ref a), some (.ref s), some (.ref o), some (.ref c), some (.ref d), o5, some (.ref t), o8] G := by
  have h3 := h.tab.sz.len
  simp only [t_law_r2, tFor, iList, tSeq, tAsg, gName, tVar, tC, tOp, tUn, rI0, rI, rU, rAddI, rSubI, rMulI, rDivI, rDivC, rModI, rPowI, rNegI, rLtI, rLeI, rGtI, rGeI, rEq, rNe, scal, tRet, tIfS, tTest, tB, tNot, tNext, tCall, tCons, tNil, tTup, tLst, tCB, cAbs, cLen, cIsB, tSl, tPart, tNoPart, rSlL, rIxL, rIxT, tAndV, tOrV, tAnd, tOr, tNotV, tPar, tNever, gTup, gCons, gNil, List.getElem?_cons_zero, List.getElem?_cons_succ, List.set_cons_zero, List.set_cons_succ, Option.some.injEq, exists_eq_left', exists_eq_left, V.int.injEq, V.ref.injEq, V.bl.injEq, V.ty.injEq, List.cons.injEq, and_true, true_and, List.append_nil, exists_and_left, decide_eq_true_eq, List.cons_append, List.nil_append, and_assoc]
  obtain ⟨es, ee, el⟩ := cutE ns none (some 63)
  refine ⟨_, h.sc, fun p hp => ?_⟩
  rw [ee]
  have s1 := Same.upd (o := HO.lst (List.map V.int es)) hp
  have p1 : (upd G p (HO.lst (List.map V.int es))) p = some (HO.lst (List.map V.int es)) := upd_same
  generalize upd G p (HO.lst (List.map V.int es)) = G1 at s1 p1
  refine ⟨⟨_, SqL.of p1⟩, for_list (K := K) (a := p) (xs := List.map V.int es) (g := gName 7) (D := { nx := t_law_r1 K { nx := fun _ H' => Q .non H', rt := Q }, rt := Q }) (iv_law2 a s o c d t G1) ⟨_, _, rfl, Same.refl _⟩ ?_ ?_ ?_⟩
  · rintro i σ H3 _ ⟨_, _, _, s3⟩
    exact SqL.of (s3 _ _ p1)
  · rintro i x σ H3 hi ⟨q5, q8, rfl, s3⟩
    obtain ⟨z, rfl⟩ := get_int hi
    have h3 := h.same (s1.trans s3)
    simp only [t_law_b1, tComp, iRng1, cTuple, tSeq, tAsg, gName, tVar, tC, tOp, tUn, rI0, rI, rU, rAddI, rSubI, rMulI, rDivI, rDivC, rModI, rPowI, rNegI, rLtI, rLeI, rGtI, rGeI, rEq, rNe, scal, tRet, tIfS, tTest, tB, tNot, tNext, tCall, tCons, tNil, tTup, tLst, tCB, cAbs, cLen, cIsB, tSl, tPart, tNoPart, rSlL, rIxL, rIxT, tAndV, tOrV, tAnd, tOr, tNotV, tPar, tNever, gTup, gCons, gNil, List.getElem?_cons_zero, List.getElem?_cons_succ, List.set_cons_zero, List.set_cons_succ, Option.some.injEq, exists_eq_left', exists_eq_left, V.int.injEq, V.ref.injEq, V.bl.injEq, V.ty.injEq, List.cons.injEq, and_true, true_and, List.append_nil, exists_and_left, decide_eq_true_eq, List.cons_append, List.nil_append, and_assoc]
    refine ⟨_, .inl (SqL.of h3.ss), ?_⟩
    rw [tv_len, Int.toNat_natCast]
    refine ⟨by omega, by omega, comp_range (W := fun j ys H5 => Same H3 H5 ∧ ∃ zs, ys = List.map V.int zs ∧ zs.length = j) (small (by omega)) ⟨Same.refl _, [], rfl, rfl⟩ ?_ ?_⟩
    · rintro j ys H5 hj _ ⟨s7, zs, rfl, hz⟩
      show t_law_c1 K [some (.int (0 + j)), some (.int z), some (.ref s)] H5 _
      simp only [t_law_c1, Int.zero_add, tSeq, tAsg, gName, tVar, tC, tOp, tUn, rI0, rI, rU, rAddI, rSubI, rMulI, rDivI, rDivC, rModI, rPowI, rNegI, rLtI, rLeI, rGtI, rGeI, rEq, rNe, scal, tRet, tIfS, tTest, tB, tNot, tNext, tCall, tCons, tNil, tTup, tLst, tCB, cAbs, cLen, cIsB, tSl, tPart, tNoPart, rSlL, rIxL, rIxT, tAndV, tOrV, tAnd, tOr, tNotV, tPar, tNever, gTup, gCons, gNil, List.getElem?_cons_zero, List.getElem?_cons_succ, List.set_cons_zero, List.set_cons_succ, Option.some.injEq, exists_eq_left', exists_eq_left, V.int.injEq, V.ref.injEq, V.bl.injEq, V.ty.injEq, List.cons.injEq, and_true, true_and, List.append_nil, exists_and_left, decide_eq_true_eq, List.cons_append, List.nil_append, and_assoc]
      have hm : ms.getD j 0 ∈ ms := by rw [List.getD_eq_getElem?_getD, List.getElem?_eq_getElem hj]; exact List.getElem_mem hj
      exact ⟨_, SqL.of (s7 _ _ h3.ss), _, tv_atD hj, z, j, ms.getD j 0, rfl, by omega, h3.tab.sz.ge _ hm, h3.tab.sz.le _ hm, fun x H' s' => ⟨s7.trans s', zs ++ [x], by rw [List.map_append]; rfl, by rw [List.length_append, hz]; rfl⟩⟩
    · rintro ys H5 _ ⟨s7, zs, rfl, hz⟩ p5 hp5
      refine ⟨_, .inl ⟨SqL.of upd_same, fun r hr => ?_⟩⟩
      have s8 := (Same.upd (o := HO.lst (List.map V.int zs)) hp5).trans (Same.upd (o := HO.tup (List.map V.int zs)) hr)
      refine (h3.same (s7.trans s8)).right upd_same hz fun H' s' => ⟨true, rfl, iteF ⟨_, _, rfl, ((s3.trans s7).trans s8).trans s'⟩⟩
  · rintro σ H3 ⟨q5, q8, rfl, s3⟩
    exact rd_law_r1 k (h.same (s1.trans s3))
theorem rd_law_r3 {K : PySem.W.Frag} {Q : VK} {a s o c d : Addr} {o5 o6 o8 : Option V} {ns : List Int} {ms : List Nat} {xs : List V} {kv : List (List Key × V)} {cont : List Nat → List V} {un : List Nat → List Int} {G : Hp} (k : ∀ H', Q (.bl true) H')
    (hS : SqL K G a (ns.map V.int)) (hs : G s = some (.lst (tv ms))) (ho : G o = some (.lst xs)) (ps : Ps G xs (ordR ms.reverse)) (U : UnAt G c ms un) (uf : ∀ q ∈ ordR ms.reverse, UF G 1 (cont q) (un q))
    (hd : G d = some (.dT kv)) (hkv : kv.length = (ordR ms.reverse).length) (ok2 : ∀ q ∈ ordR ms.reverse, Cells G kv cont q) (sz : Sz ms) (h2 : 2 ≤ ms.length) :
    t_law_r3 K { nx := fun _ H' => Q .non H', rt := Q } [some (.ref a), some (.ref s), some (.ref o), some (.ref c), some (.ref d), o5, o6, o8] G := by
  simp only [t_law_r3, tMake, cList, tSeq, tAsg, gName, tVar, tC, tOp, tUn, rI0, rI, rU, rAddI, rSubI, rMulI, rDivI, rDivC, rModI, rPowI, rNegI, rLtI, rLeI, rGtI, rGeI, rEq, rNe, scal, tRet, tIfS, tTest, tB, tNot, tNext, tCall, tCons, tNil, tTup, tLst, tCB, cAbs, cLen, cIsB, tSl, tPart, tNoPart, rSlL, rIxL, rIxT, tAndV, tOrV, tAnd, tOr, tNotV, tPar, tNever, gTup, gCons, gNil, List.getElem?_cons_zero, List.getElem?_cons_succ, List.set_cons_zero, List.set_cons_succ, Option.some.injEq, exists_eq_left', exists_eq_left, V.int.injEq, V.ref.injEq, V.bl.injEq, V.ty.injEq, List.cons.injEq, and_true, true_and, List.append_nil, exists_and_left, decide_eq_true_eq, List.cons_append, List.nil_append, and_assoc]
  refine ⟨_, .inl (SqL.of hs), fun l hl6 => ?_⟩
  have s7 := Same.upd (o := HO.lst (tv ms)) hl6
  have hl7 : (upd G l (HO.lst (tv ms))) l = some (HO.lst (tv ms)) := upd_same
  generalize upd G l (HO.lst (tv ms)) = H7 at s7 hl7
  intro t dx ht hdx ne
  have s8 : Same H7 (upd (upd H7 dx (.own t)) t (.ins (gadr K "Table") dx [])) := (Same.upd hdx).put ht
  have t8 : (upd (upd H7 dx (.own t)) t (.ins (gadr K "Table") dx [])) t = some (.ins (gadr K "Table") dx []) := upd_same
  generalize (upd (upd H7 dx (.own t)) t (.ins (gadr K "Table") dx [])) = H8 at s8 t8
  refine ⟨t, dx, l, d, ms, kv, cont, rfl, t8, SqL.of (s8 _ _ hl7), h2, sz, (s7.trans s8) _ _ hd, fun q hq => (ok2 q hq).same (s7.trans s8), fun q hq => by rw [(uf q hq).1]; exact U.ul q hq, hkv, fun H9 b9 tab => ⟨rfl, ?_⟩⟩
  have s9 : Same G H9 := s7.trans fun b u e => b9 b u (s8 b u e) (ne_of_none e ht)
  exact rd_law_r2 k ⟨s9.seq hS, s9 _ _ hs, ⟨xs, s9 _ _ ho, ps.same s9⟩, U.same s9, ⟨tab, sz, fun q hq => (uf q hq).same s9, U.ul, by decide, by unfold BB; decide⟩⟩
theorem lo_1 (u : Int) : Lo u 1 u 1 := ⟨by decide, by simp, rfl, Nat.le_refl _, Nat.le_refl _⟩
theorem rd_law {K vs H Q E} (h : sp_law K vs H Q E) : t_law K { nx := fun _ H' => Q .non H', rt := Q } (start N_law vs) H := by
  obtain ⟨a, ns, rfl, hS, hl, k⟩ := h
  rw [show start N_law [V.ref a] = [some (.ref a), none, none, none, none, none, none, none] from rfl]
  simp only [t_law, tFor, iRev, tDNewT, tSeq, tAsg, gName, tVar, tC, tOp, tUn, rI0, rI, rU, rAddI, rSubI, rMulI, rDivI, rDivC, rModI, rPowI, rNegI, rLtI, rLeI, rGtI, rGeI, rEq, rNe, scal, tRet, tIfS, tTest, tB, tNot, tNext, tCall, tCons, tNil, tTup, tLst, tCB, cAbs, cLen, cIsB, tSl, tPart, tNoPart, rSlL, rIxL, rIxT, tAndV, tOrV, tAnd, tOr, tNotV, tPar, tNever, gTup, gCons, gNil, List.getElem?_cons_zero, List.getElem?_cons_succ, List.set_cons_zero, List.set_cons_succ, Option.some.injEq, exists_eq_left', exists_eq_left, V.int.injEq, V.ref.injEq, V.bl.injEq, V.ty.injEq, List.cons.injEq, and_true, true_and, List.append_nil, exists_and_left, decide_eq_true_eq, List.cons_append, List.nil_append, and_assoc]
  refine ⟨a, ns, rfl, hS, fun s ms H1 s1 hs hS1 sz h2 => ⟨s, ms, rfl, SqL.of hS1, sz, fun o xs H2 s2 ho hO ps => ?_⟩⟩
  have h3 := sz.len
  have ol := sz.rev.ord
  have nd := ordR_nodup ms.reverse
  have ndr : (ordR ms.reverse).reverse.Nodup := List.pairwise_reverse.mpr (List.Pairwise.imp (fun h => Ne.symm h) nd)
  try simp only [tSeq, tAsg, gName, tVar, tC, tOp, tUn, rI0, rI, rU, rAddI, rSubI, rMulI, rDivI, rDivC, rModI, rPowI, rNegI, rLtI, rLeI, rGtI, rGeI, rEq, rNe, scal, tRet, tIfS, tTest, tB, tNot, tNext, tCall, tCons, tNil, tTup, tLst, tCB, cAbs, cLen, cIsB, tSl, tPart, tNoPart, rSlL, rIxL, rIxT, tAndV, tOrV, tAnd, tOr, tNotV, tPar, tNever, gTup, gCons, gNil, List.getElem?_cons_zero, List.getElem?_cons_succ, List.set_cons_zero, List.set_cons_succ, Option.some.injEq, exists_eq_left', exists_eq_left, V.int.injEq, V.ref.injEq, V.bl.injEq, V.ty.injEq, List.cons.injEq, and_true, true_and, List.append_nil, exists_and_left, decide_eq_true_eq, List.cons_append, List.nil_append, and_assoc]
  refine ⟨_, .inl (SqL.of (s2 _ _ hS1)), ?_⟩
  rw [tv_len]
  refine ⟨a, ns, o, xs, ordR ms.reverse, ms.length, rfl, (s1.trans s2).seq hS, hO, ps, nd, ol, h3, fun c kvs un H3 s3 hC ok hun => ?_⟩
  have U3 : UnAt H3 c ms un := ⟨⟨kvs, hC, ok⟩, fun q hq => (hun q hq).1⟩
  try simp only [tSeq, tAsg, gName, tVar, tC, tOp, tUn, rI0, rI, rU, rAddI, rSubI, rMulI, rDivI, rDivC, rModI, rPowI, rNegI, rLtI, rLeI, rGtI, rGeI, rEq, rNe, scal, tRet, tIfS, tTest, tB, tNot, tNext, tCall, tCons, tNil, tTup, tLst, tCB, cAbs, cLen, cIsB, tSl, tPart, tNoPart, rSlL, rIxL, rIxT, tAndV, tOrV, tAnd, tOr, tNotV, tPar, tNever, gTup, gCons, gNil, List.getElem?_cons_zero, List.getElem?_cons_succ, List.set_cons_zero, List.set_cons_succ, Option.some.injEq, exists_eq_left', exists_eq_left, V.int.injEq, V.ref.injEq, V.bl.injEq, V.ty.injEq, List.cons.injEq, and_true, true_and, List.append_nil, exists_and_left, decide_eq_true_eq, List.cons_append, List.nil_append, and_assoc]
  intro d hd
  have s5 := Same.upd (o := HO.dT []) hd
  have hd5 : (upd H3 d (HO.dT [])) d = some (HO.dT []) := upd_same
  generalize upd H3 d (HO.dT []) = H5 at s5 hd5
  have ho3 := s3 _ _ hO
  have ps3 := ps.same s3
  refine ⟨xs, SqL.of (s5 _ _ ho3), for_rev (K := K) (a := o) (xs := xs) (g := gName 5) (D := { nx := t_law_r3 K { nx := fun _ H' => Q .non H', rt := Q }, rt := Q }) (iv_law1 a s o c d un (ordR ms.reverse).reverse H3) ⟨[], fun _ => [], _, rfl, s5, hd, hd5, ⟨rfl, fun i q e => by simp at e⟩, fun q h => (by simp at h)⟩ ?_ ?_ ?_⟩
  · rintro i σ H6 _ ⟨_, _, _, _, s6, _⟩
    exact SqL.of (s6 _ _ ho3)
  · rintro i y σ H6 hi hy ⟨kv, cont, o5, rfl, g1, hd, hD, kc3, ufs⟩
    have hxr : xs.reverse[i]? = some y := by rw [List.getElem?_reverse hi]; exact hy
    obtain ⟨b, r, hb, rfl, hbx⟩ := ((ps3.same g1).rev).get hxr
    have hbm : b ∈ ordR ms.reverse := List.mem_reverse.mp (List.mem_of_getElem? hb)
    obtain ⟨lu, hv, hL⟩ := ok b hbm
    have hL6 : H6 lu = some (.lst (List.map V.int (un b))) := g1 _ _ hL
    have hul := (hun b hbm).1
    simp only [t_law_b2, sDPut, tComp, iList, tDGet, tSeq, tAsg, gName, tVar, tC, tOp, tUn, rI0, rI, rU, rAddI, rSubI, rMulI, rDivI, rDivC, rModI, rPowI, rNegI, rLtI, rLeI, rGtI, rGeI, rEq, rNe, scal, tRet, tIfS, tTest, tB, tNot, tNext, tCall, tCons, tNil, tTup, tLst, tCB, cAbs, cLen, cIsB, tSl, tPart, tNoPart, rSlL, rIxL, rIxT, tAndV, tOrV, tAnd, tOr, tNotV, tPar, tNever, gTup, gCons, gNil, List.getElem?_cons_zero, List.getElem?_cons_succ, List.set_cons_zero, List.set_cons_succ, Option.some.injEq, exists_eq_left', exists_eq_left, V.int.injEq, V.ref.injEq, V.bl.injEq, V.ty.injEq, List.cons.injEq, and_true, true_and, List.append_nil, exists_and_left, decide_eq_true_eq, List.cons_append, List.nil_append, and_assoc]
    refine ⟨_, (by rw [← hv]; exact DGet.t (g1 _ _ hC) (by rw [tv_tk]; exact hbx)), lu, rfl, ⟨_, SqL.of hL6⟩, ?_⟩
    refine comp_list (K := K) (a := lu) (xs := List.map V.int (un b)) (fun j zs H7 => Same H6 H7 ∧ UF H7 1 zs ((un b).take j)) ?_ ?_ ?_ ?_ ?_
    · rw [List.length_map, sizeLine_eq]; omega
    · exact ⟨Same.refl _, UF.nil⟩
    · rintro j zs H7 _ ⟨s7, _⟩
      exact SqL.of (s7 _ _ hL6)
    · rintro j x zs H7 hj _ ⟨s7, uf⟩
      rw [List.getElem?_map] at hj
      cases hu : (un b)[j]? with
      | none => rw [hu] at hj; cases hj
      | some u =>
        rw [hu] at hj
        obtain rfl : V.int u = x := Option.some.inj hj
        simp only [t_law_c2, caught, List.map_cons, List.map_nil, List.getElem?_cons_succ, List.getElem?_cons_zero, Option.join_some, tSeq, tAsg, gName, tVar, tC, tOp, tUn, rI0, rI, rU, rAddI, rSubI, rMulI, rDivI, rDivC, rModI, rPowI, rNegI, rLtI, rLeI, rGtI, rGeI, rEq, rNe, scal, tRet, tIfS, tTest, tB, tNot, tNext, tCall, tCons, tNil, tTup, tLst, tCB, cAbs, cLen, cIsB, tSl, tPart, tNoPart, rSlL, rIxL, rIxT, tAndV, tOrV, tAnd, tOr, tNotV, tPar, tNever, gTup, gCons, gNil, List.getElem?_cons_zero, List.getElem?_cons_succ, List.set_cons_zero, List.set_cons_succ, Option.some.injEq, exists_eq_left', exists_eq_left, V.int.injEq, V.ref.injEq, V.bl.injEq, V.ty.injEq, List.cons.injEq, and_true, true_and, List.append_nil, exists_and_left, decide_eq_true_eq, List.cons_append, List.nil_append, and_assoc]
        refine ⟨by show 2 ≤ sizeLine; decide, fun p hp => ⟨s7.trans (Same.upd hp), ?_⟩⟩
        rw [take_snoc hu]
        exact UF.snoc (uf.same (Same.upd hp)) upd_same (lo_1 u) ((hun b hbm).2 u (List.mem_of_getElem? hu))
    · rintro zs H7 _ ⟨s7, uf⟩ w hw
      rw [List.length_map, List.take_length] at uf
      have s8 := Same.upd (o := HO.lst zs) hw
      have hw8 : (upd H7 w (HO.lst zs)) w = some (HO.lst zs) := upd_same
      have uf8 := uf.same s8
      generalize upd H7 w (HO.lst zs) = H8 at s8 hw8 uf8
      have s9 := s7.trans s8
      have C6 := s9 _ _ hD
      have hk : kv.length ≤ i := by rw [kc3.1, List.length_take]; omega
      have hil : i < 216 := by have := ps.1; omega
      refine ⟨_, DPut.t (k := tk b) C6 (s9 _ _ (by rw [tv_tk]; exact hbx)) (small' (by omega)), ?_⟩
      have new := kc3.new ndr hb
      have kl : ∀ b' xs, H8 b' = some (.lst xs) → (upd H8 d (.dT (putK kv (tk b) (.ref w)))) b' = some (.lst xs) := fun b' xs e => by rw [upd_ne (ne_of e C6 (by intro z; cases z))]; exact e
      have kp : KeepT H8 (upd H8 d (.dT (putK kv (tk b) (.ref w)))) := fun g ys e => by rw [upd_ne (ne_of e C6 (by intro z; cases z))]; exact e
      obtain ⟨cont', c1, c2⟩ : ∃ cont' : List Nat → List V, cont' b = zs ∧ ∀ q, q ≠ b → cont' q = cont q := ⟨fun q => if q = b then zs else cont q, if_pos rfl, fun q e => if_neg e⟩
      have nb : ∀ q ∈ (ordR ms.reverse).reverse.take i, q ≠ b := fun q hq e => nodup_take ndr hb (e ▸ hq)
      refine ⟨_, cont', _, rfl, (g1.trans s9).put hd, hd, upd_same, ?_, ?_⟩
      · rw [putK_new _ new] at kl ⊢
        exact (((kc3.same s9).cong fun q hq => c2 q (nb q hq)).off kl).snoc hb (by rw [c1]; exact kl _ _ hw8)
      · intro q hq
        rw [take_snoc hb] at hq
        by_cases e : q = b
        · subst e; rw [c1]; exact uf8.keep kp
        · have hq' : q ∈ (ordR ms.reverse).reverse.take i := by
            rcases List.mem_append.mp hq with h | h
            · exact h
            · exact absurd (List.mem_singleton.mp h) e
          rw [c2 q e]
          exact ((ufs q hq').same s9).keep kp
  · rintro σ H6 ⟨kv, cont, o5, rfl, g1, hd, hD, kc3, ufs⟩
    rw [show xs.length = (ordR ms.reverse).reverse.length by rw [List.length_reverse]; exact ps.1, List.take_length] at kc3 ufs
    exact rd_law_r3 k (((s1.trans s2).trans (s3.trans g1)).seq hS) (s2.trans (s3.trans g1) _ _ hS1) (g1 _ _ ho3) (ps3.same g1) (U3.same g1) (fun q hq => ufs q (List.mem_reverse.mpr hq)) hD (by rw [kc3.1, List.length_reverse]) (fun q hq => kc3.cells ndr q (List.mem_reverse.mpr hq)) sz h2

def top (i : Nat) : Stmt := PySem.Challenge.pw_mixplay_k18_off_from_no_play.main.body.getD i (.Pass ⟨0, 0, 0, 0⟩)
abbrev s_l_cell_at : Stmt := top 25
abbrev s_l_sizes : Stmt := top 27
abbrev s_l_play : Stmt := top 28
abbrev s_l_order : Stmt := top 29
abbrev s_l_units : Stmt := top 30
abbrev s_check_sizes : Stmt := top 16
abbrev s_one_of_each : Stmt := top 14
abbrev s_in_order : Stmt := top 15
abbrev s_check_cells : Stmt := top 17
abbrev s_Table_init : Stmt := inClass (top 18) 0
abbrev s_l_choice : Stmt := top 31
abbrev s_l_whole : Stmt := top 26
abbrev s_l_off : Stmt := top 33
abbrev s_NoChoice_init : Stmt := inClass (top 8) 0
abbrev s_Table_earned : Stmt := inClass (top 18) 3
abbrev s_Table_sizes : Stmt := inClass (top 18) 1
abbrev s_rest_of : Stmt := top 19
abbrev s_joined : Stmt := top 20
abbrev s_earned_with : Stmt := top 21
abbrev s_below : Stmt := top 11
abbrev s_greatest : Stmt := top 12
abbrev s_going_off : Stmt := top 23
abbrev s_l_caught : Stmt := top 32
abbrev s_l_right : Stmt := top 34
abbrev s_law : Stmt := top 35
structure Bn (K : PySem.W.Frag) (mg : Str → Option Value) (x : Str) (st : Stmt) (f : Addr) (fd : FuncData) (ps : List Str) : Prop where
  F : Fun K x x st f fd
  b : Binds K fd ps []
  m : mg x = some (.ref f)
structure BnM (K : PySem.W.Frag) (C : Addr) (m q : Str) (st : Stmt) (f : Addr) (fd : FuncData) (ps : List Str) : Prop where
  F : Fun K m q st f fd
  b : Binds K fd ps []
  m : Meth K C m f
set_option genInjectivity false in
set_option genSizeOf false in
structure Ad where
  f_l_cell_at : Addr
  d_l_cell_at : FuncData
  f_l_sizes : Addr
  d_l_sizes : FuncData
  f_l_play : Addr
  d_l_play : FuncData
  f_l_order : Addr
  d_l_order : FuncData
  f_l_units : Addr
  d_l_units : FuncData
  f_check_sizes : Addr
  d_check_sizes : FuncData
  f_one_of_each : Addr
  d_one_of_each : FuncData
  f_in_order : Addr
  d_in_order : FuncData
  f_check_cells : Addr
  d_check_cells : FuncData
  f_Table_init : Addr
  d_Table_init : FuncData
  f_l_choice : Addr
  d_l_choice : FuncData
  f_l_whole : Addr
  d_l_whole : FuncData
  f_l_off : Addr
  d_l_off : FuncData
  f_NoChoice_init : Addr
  d_NoChoice_init : FuncData
  f_Table_earned : Addr
  d_Table_earned : FuncData
  f_Table_sizes : Addr
  d_Table_sizes : FuncData
  f_rest_of : Addr
  d_rest_of : FuncData
  f_joined : Addr
  d_joined : FuncData
  f_earned_with : Addr
  d_earned_with : FuncData
  f_below : Addr
  d_below : FuncData
  f_greatest : Addr
  d_greatest : FuncData
  f_going_off : Addr
  d_going_off : FuncData
  f_l_caught : Addr
  d_l_caught : FuncData
  f_l_right : Addr
  d_l_right : FuncData
  f_law : Addr
  d_law : FuncData
structure Tx (K : PySem.W.Frag) (mg : Str → Option Value) (a : Ad) : Prop where
  l_cell_at : Bn K mg "_law_cell_at" s_l_cell_at a.f_l_cell_at a.d_l_cell_at ["_law_script", "_law_k"]
  l_sizes : Bn K mg "_law_sizes" s_l_sizes a.f_l_sizes a.d_l_sizes ["_law_script"]
  l_play : Bn K mg "_law_play" s_l_play a.f_l_play a.d_l_play ["_law_sizes_here", "_law_number"]
  l_order : Bn K mg "_law_order" s_l_order a.f_l_order a.d_l_order ["_law_sizes_here"]
  l_units : Bn K mg "_law_units" s_l_units a.f_l_units a.d_l_units ["_law_script", "_law_order_here", "_law_hands"]
  check_sizes : Bn K mg "check_sizes" s_check_sizes a.f_check_sizes a.d_check_sizes ["sizes"]
  one_of_each : Bn K mg "one_of_each" s_one_of_each a.f_one_of_each a.d_one_of_each ["lists"]
  in_order : Bn K mg "in_order" s_in_order a.f_in_order a.d_in_order ["sizes"]
  check_cells : Bn K mg "check_cells" s_check_cells a.f_check_cells a.d_check_cells ["cells", "plays", "hands"]
  Table_init : BnM K (gadr K "Table") "__init__" "Table.__init__" s_Table_init a.f_Table_init a.d_Table_init ["self", "sizes", "cells"]
  l_choice : Bn K mg "_law_choice" s_l_choice a.f_l_choice a.d_l_choice ["_law_cell", "_law_hand", "_law_size"]
  l_whole : Bn K mg "_law_whole" s_l_whole a.f_l_whole a.d_l_whole ["_law_found"]
  l_off : Bn K mg "_law_off" s_l_off a.f_l_off a.d_l_off ["_law_found", "_law_units_here", "_law_sizes_here", "_law_play_here"]
  NoChoice_init : BnM K (gadr K "NoChoice") "__init__" "NoChoice.__init__" s_NoChoice_init a.f_NoChoice_init a.d_NoChoice_init ["self", "hand", "choice"]
  Table_earned : BnM K (gadr K "Table") "earned" "Table.earned" s_Table_earned a.f_Table_earned a.d_Table_earned ["self", "play"]
  Table_sizes : BnM K (gadr K "Table") "sizes" "Table.sizes" s_Table_sizes a.f_Table_sizes a.d_Table_sizes ["self"]
  rest_of : Bn K mg "rest_of" s_rest_of a.f_rest_of a.d_rest_of ["play", "hand"]
  joined : Bn K mg "joined" s_joined a.f_joined a.d_joined ["rest", "hand", "choice"]
  earned_with : Bn K mg "earned_with" s_earned_with a.f_earned_with a.d_earned_with ["table", "rest", "hand", "choice"]
  below : Bn K mg "below" s_below a.f_below a.d_below ["one", "other"]
  greatest : Bn K mg "greatest" s_greatest a.f_greatest a.d_greatest ["fractions"]
  going_off : Bn K mg "going_off" s_going_off a.f_going_off a.d_going_off ["table", "play"]
  l_caught : Bn K mg "_law_caught" s_l_caught a.f_l_caught a.d_l_caught ["_law_table", "_law_play_here"]
  l_right : Bn K mg "_law_right" s_l_right a.f_l_right a.d_l_right ["_law_table", "_law_sizes_here", "_law_units_here", "_law_play_here"]
  law : Bn K mg "law" s_law a.f_law a.d_law ["_law_script"]
  n_ValueError : mg "ValueError" = none
  n_bool : mg "bool" = none
  n_enumerate : mg "enumerate" = none
  n_int : mg "int" = none
  n_isinstance : mg "isinstance" = none
  n_len : mg "len" = none
  n_list : mg "list" = none
  n_range : mg "range" = none
  n_reversed : mg "reversed" = none
  n_tuple : mg "tuple" = none
  c_NoChoice : mg "NoChoice" = some (.ref (gadr K "NoChoice"))
  c_NoMixing : mg "NoMixing" = some (.ref (gadr K "NoMixing"))
  c_NoNumber : mg "NoNumber" = some (.ref (gadr K "NoNumber"))
  c_NoOrder : mg "NoOrder" = some (.ref (gadr K "NoOrder"))
  c_NoPlan : mg "NoPlan" = some (.ref (gadr K "NoPlan"))
  c_NoStart : mg "NoStart" = some (.ref (gadr K "NoStart"))
  c_NoTable : mg "NoTable" = some (.ref (gadr K "NoTable"))
  c_NotTwo : mg "NotTwo" = some (.ref (gadr K "NotTwo"))
  c_PlayError : mg "PlayError" = some (.ref (gadr K "PlayError"))
  c_Table : mg "Table" = some (.ref (gadr K "Table"))
  me_NoChoice : MkE K (gadr K "NoChoice") a.f_NoChoice_init
  xk : ExK K "NoChoice" ["hand", "choice"]
  exm : PySem.W.exmOne K (.ref (gadr K "NoChoice")) (.ref (gadr K "PlayError")) = some true
  xt : XT K "NoChoice" ["NoNumber", "NoTable", "NoStart", "NoOrder", "NotTwo", "NoPlan", "NoMixing"]
  mk_Table : Mk K (gadr K "Table") a.f_Table_init
  tt : TabK K
section
variable {P : Program} {w : World} {K : PySem.W.Frag} {mg : Str → Option Value} {base : Heap} {a : Ad}
theorem sc_l_cell_at : FnScope N_l_cell_at ["_law_script", "_law_k"] (defScope s_l_cell_at) := ⟨rfl, rfl, rfl, by decide +kernel, rfl, by decide +kernel, by decide +kernel⟩
theorem ok_l_cell_at (T : Tx K mg a) : FnOk P w K mg base CX0 1 a.f_l_cell_at a.d_l_cell_at ["_law_script", "_law_k"] (sp_l_cell_at K) := by
  refine T.l_cell_at.F.ok sc_l_cell_at (fun vs H Q E h => len_l_cell_at h) (fun cdv A outer s H vs Q E hr h => ⟨t_l_cell_at K, (pss_cons (ps_if (pt_cmpR op_lt (pv 1) (pe_callB call_len_seq rfl T.n_len bt_len (pa_cons (pv 0) pa_nil)) (nomark _)) (pss_one (ps_ret (pe_ix ix_list (pv 0) (pv 1) (fun _ _ => rfl)))) pss_nil) (pss_one (ps_ret pe_int))), rd_l_cell_at h⟩)
theorem sc_l_sizes : FnScope N_l_sizes ["_law_script"] (defScope s_l_sizes) := ⟨rfl, rfl, rfl, by decide +kernel, rfl, by decide +kernel, by decide +kernel⟩
theorem ok_l_sizes (T : Tx K mg a) : FnOk P w K mg base CX0 2 a.f_l_sizes a.d_l_sizes ["_law_script"] (sp_l_sizes K) := by
  refine T.l_sizes.F.ok sc_l_sizes (fun vs H Q E h => len_l_sizes h) (fun cdv A outer s H vs Q E hr h => ⟨t_l_sizes K, (pss_cons (ps_set (i := 1) sc_l_sizes.nd rfl (Or.inl rfl) (pe_lst pa_nil)) (pss_cons (ps_for PassesOwn.never rfl (pi_range1 rfl T.n_range (pa_cons (pe_op op_add pe_int (pe_op op_mod (pe_call (ok_l_cell_at T) (hr.mono (by decide)) rfl T.l_cell_at.m T.l_cell_at.F.kp T.l_cell_at.b .nil pass0 (pa_cons (pv 0) (pa_cons pe_int pa_nil))) pe_int)) pa_nil)) (pg_name (i := 2) sc_l_sizes.nd rfl (Or.inl rfl)) (pss_one (ps_expr (pe_bm PySem.F.plainAttrs_list PySem.F.slot_list_append PySem.F.type_list_append mt_append (pv 1) (pa_cons (pe_op op_add pe_int (pe_op op_mod (pe_call (ok_l_cell_at T) (hr.mono (by decide)) rfl T.l_cell_at.m T.l_cell_at.F.kp T.l_cell_at.b .nil pass0 (pa_cons (pv 0) (pa_cons (pe_op op_add pe_int (pv 2)) pa_nil))) pe_int)) pa_nil))))) (pss_one (ps_ret (pv 1))))), rd_l_sizes h⟩)
theorem sc_l_play : FnScope N_l_play ["_law_sizes_here", "_law_number"] (defScope s_l_play) := ⟨rfl, rfl, rfl, by decide +kernel, rfl, by decide +kernel, by decide +kernel⟩
theorem ok_l_play (T : Tx K mg a) : FnOk P w K mg base CX0 1 a.f_l_play a.d_l_play ["_law_sizes_here", "_law_number"] (sp_l_play K) := by
  refine T.l_play.F.ok sc_l_play (fun vs H Q E h => len_l_play h) (fun cdv A outer s H vs Q E hr h => ⟨t_l_play K, (pss_cons (ps_set (i := 2) sc_l_play.nd rfl (Or.inl rfl) (pe_tup pa_nil)) (pss_cons (ps_for PassesOwn.never rfl (pi_rev rfl T.n_reversed (pv 0)) (pg_name (i := 3) sc_l_play.nd rfl (Or.inl rfl)) (pss_cons (ps_set (i := 2) sc_l_play.nd rfl (Or.inl rfl) (pe_op op_catA (pe_tup (pa_cons (pe_op op_mod (pv 1) (pv 3)) pa_nil)) (pv 2))) (pss_one (ps_set (i := 1) sc_l_play.nd rfl (Or.inl rfl) (pe_op op_fdivB (pv 1) (pv 3)))))) (pss_one (ps_ret (pv 2))))), rd_l_play h⟩)
theorem sc_l_order : FnScope N_l_order ["_law_sizes_here"] (defScope s_l_order) := ⟨rfl, rfl, rfl, by decide +kernel, rfl, by decide +kernel, by decide +kernel⟩
theorem ok_l_order (T : Tx K mg a) : FnOk P w K mg base CX0 2 a.f_l_order a.d_l_order ["_law_sizes_here"] (sp_l_order K) := by
  refine T.l_order.F.ok sc_l_order (fun vs H Q E h => len_l_order h) (fun cdv A outer s H vs Q E hr h => ⟨t_l_order K, (pss_cons (ps_set (i := 1) sc_l_order.nd rfl (Or.inl rfl) pe_int) (pss_cons (ps_for PassesOwn.never rfl (pi_list (pv 0)) (pg_name (i := 2) sc_l_order.nd rfl (Or.inl rfl)) (pss_one (ps_set (i := 1) sc_l_order.nd rfl (Or.inl rfl) (pe_op op_mulB (pv 1) (pv 2))))) (pss_one (ps_ret (pe_comp (FS := defScope s_l_order) (N := N_l_order) (x := "_law_k") (ys := ["_law_sizes_here"]) (caps := [0]) ⟨by decide +kernel, rfl, by decide +kernel, rfl, by decide +kernel, rfl, by decide +kernel, rfl, by decide +kernel⟩ rfl rfl rfl (pi_range1 rfl T.n_range (pa_cons (pv 1) pa_nil)) (fun _ _ _ _ => (pe_call (ok_l_play T) (hr.mono (by decide)) rfl T.l_play.m T.l_play.F.kp T.l_play.b .nil pass0 (pa_cons (pv 1) (pa_cons (pv 0) pa_nil))))))))), rd_l_order h⟩)
theorem sc_l_units : FnScope N_l_units ["_law_script", "_law_order_here", "_law_hands"] (defScope s_l_units) := ⟨rfl, rfl, rfl, by decide +kernel, rfl, by decide +kernel, by decide +kernel⟩
theorem ok_l_units (T : Tx K mg a) : FnOk P w K mg base CX0 2 a.f_l_units a.d_l_units ["_law_script", "_law_order_here", "_law_hands"] (sp_l_units K) := by
  refine T.l_units.F.ok sc_l_units (fun vs H Q E h => len_l_units h) (fun cdv A outer s H vs Q E hr h => ⟨t_l_units K, (pss_cons (ps_set (i := 3) sc_l_units.nd rfl (Or.inl rfl) pe_dnewT) (pss_cons (ps_for PassesOwn.never rfl (pi_range1 rfl T.n_range (pa_cons (pe_callB call_len_seq rfl T.n_len bt_len (pa_cons (pv 1) pa_nil)) pa_nil)) (pg_name (i := 4) sc_l_units.nd rfl (Or.inr rfl)) (pss_cons (ps_set (i := 5) sc_l_units.nd rfl (Or.inr rfl) (pe_call (ok_l_cell_at T) (hr.mono (by decide)) rfl T.l_cell_at.m T.l_cell_at.F.kp T.l_cell_at.b .nil pass0 (pa_cons (pv 0) (pa_cons (pe_op op_mod (pv 4) pe_int) pa_nil)))) (pss_one (ps_dput (hu_of hr) (pv 3) (pe_ix ix_list (pv 1) (pv 4) (fun _ _ => rfl)) (pe_comp (FS := defScope s_l_units) (N := N_l_units) (x := "_law_hand") (ys := ["_law_cell", "_law_k"]) (caps := [5, 4]) ⟨by decide +kernel, rfl, by decide +kernel, rfl, by decide +kernel, rfl, by decide +kernel, rfl, by decide +kernel⟩ rfl rfl rfl (pi_range1 rfl T.n_range (pa_cons (pv 2) pa_nil)) (fun _ _ _ _ => (pe_op op_sub (pe_op op_mod (pe_op op_add (pe_op op_add (pv 1) (pe_op op_mulB (pv 2) (pv 2))) (pe_op op_mulB (pe_op op_mulB pe_int (pv 2)) (pv 0))) pe_int) pe_int))) rfl)))) (pss_one (ps_ret (pv 3))))), rd_l_units h⟩)
theorem sc_check_sizes : FnScope N_check_sizes ["sizes"] (defScope s_check_sizes) := ⟨rfl, rfl, rfl, by decide +kernel, rfl, by decide +kernel, by decide +kernel⟩
theorem ok_check_sizes (T : Tx K mg a) : FnOk P w K mg base CX0 1 a.f_check_sizes a.d_check_sizes ["sizes"] (sp_check_sizes K) := by
  refine T.check_sizes.F.ok sc_check_sizes (fun vs H Q E h => len_check_sizes h) (fun cdv A outer s H vs Q E hr h => ⟨t_check_sizes K, (pss_cons (ps_if (PW.pt (pw_or (pt_cmpR op_lt (pe_callB call_len_seq rfl T.n_len bt_len (pa_cons (pv 0) pa_nil)) pe_int (nomark _)) (pw_or1 (pt_cmpR op_gt (pe_callB call_len_seq rfl T.n_len bt_len (pa_cons (pv 0) pa_nil)) pe_int (nomark _))))) (pss_one ps_never) pss_nil) (pss_one (ps_for PassesOwn.never rfl (pi_list (pv 0)) (pg_name (i := 1) sc_check_sizes.nd rfl (Or.inl rfl)) (pss_one (ps_if (PW.pt (pw_or (pt_cmpR op_lt (pv 1) pe_int (nomark _)) (pw_or1 (pt_cmpR op_gt (pv 1) pe_int (nomark _))))) (pss_one ps_never) pss_nil))))), rd_check_sizes h⟩)
theorem sc_one_of_each : FnScope N_one_of_each ["lists"] (defScope s_one_of_each) := ⟨rfl, rfl, rfl, by decide +kernel, rfl, by decide +kernel, by decide +kernel⟩
theorem ok_one_of_each (T : Tx K mg a) : FnOk P w K mg base CX0 1 a.f_one_of_each a.d_one_of_each ["lists"] (sp_one_of_each K) := by
  refine T.one_of_each.F.ok sc_one_of_each (fun vs H Q E h => len_one_of_each h) (fun cdv A outer s H vs Q E hr h => ⟨t_one_of_each K, (pss_cons (ps_set (i := 1) sc_one_of_each.nd rfl (Or.inl rfl) (pe_lst (pa_cons (pe_tup pa_nil) pa_nil))) (pss_cons (ps_for PassesOwn.never rfl (pi_list (pv 0)) (pg_name (i := 2) sc_one_of_each.nd rfl (Or.inl rfl)) (pss_cons (ps_set (i := 3) sc_one_of_each.nd rfl (Or.inl rfl) (pe_lst pa_nil)) (pss_cons (ps_for PassesOwn.never rfl (pi_list (pv 1)) (pg_name (i := 4) sc_one_of_each.nd rfl (Or.inr rfl)) (pss_one (ps_expr (pe_bm PySem.F.plainAttrs_list PySem.F.slot_list_extend PySem.F.type_list_extend mt_extend (pv 3) (pa_cons (pe_comp (FS := defScope s_one_of_each) (N := N_one_of_each) (x := "choice") (ys := ["begun"]) (caps := [4]) ⟨by decide +kernel, rfl, by decide +kernel, rfl, by decide +kernel, rfl, by decide +kernel, rfl, by decide +kernel⟩ rfl rfl rfl (pi_list (pv 2)) (fun _ _ _ _ => (pe_op op_catA (pv 1) (pe_tup (pa_cons (pv 0) pa_nil))))) pa_nil))))) (pss_one (ps_set (i := 1) sc_one_of_each.nd rfl (Or.inl rfl) (pv 3)))))) (pss_one (ps_ret (pv 1))))), rd_one_of_each h⟩)
theorem sc_in_order : FnScope N_in_order ["sizes"] (defScope s_in_order) := ⟨rfl, rfl, rfl, by decide +kernel, rfl, by decide +kernel, by decide +kernel⟩
theorem ok_in_order (T : Tx K mg a) : FnOk P w K mg base CX0 2 a.f_in_order a.d_in_order ["sizes"] (sp_in_order K) := by
  refine T.in_order.F.ok sc_in_order (fun vs H Q E h => len_in_order h) (fun cdv A outer s H vs Q E hr h => ⟨t_in_order K, (pss_one (ps_ret (pe_call (ok_one_of_each T) (hr.mono (by decide)) rfl T.one_of_each.m T.one_of_each.F.kp T.one_of_each.b .nil pass0 (pa_cons (pe_comp (FS := defScope s_in_order) (N := N_in_order) (x := "size") (ys := []) (caps := []) ⟨by decide +kernel, rfl, by decide +kernel, rfl, by decide +kernel, rfl, by decide +kernel, rfl, by decide +kernel⟩ rfl rfl rfl (pi_list (pv 0)) (fun _ _ _ _ => (pe_lrng rfl T.n_list rfl T.n_range rfl (pv 0)))) pa_nil)))), rd_in_order h⟩)
theorem sc_check_cells : FnScope N_check_cells ["cells", "plays", "hands"] (defScope s_check_cells) := ⟨rfl, rfl, rfl, by decide +kernel, rfl, by decide +kernel, by decide +kernel⟩
theorem ok_check_cells (T : Tx K mg a) : FnOk P w K mg base CX0 1 a.f_check_cells a.d_check_cells ["cells", "plays", "hands"] (sp_check_cells K) := by
  refine T.check_cells.F.ok sc_check_cells (fun vs H Q E h => len_check_cells h) (fun cdv A outer s H vs Q E hr h => ⟨t_check_cells K, (pss_cons (ps_for PassesOwn.never rfl (pi_list (pv 1)) (pg_name (i := 3) sc_check_cells.nd rfl (Or.inl rfl)) (pss_cons (ps_if (pt_cmp (pc_dnotin (hu_of hr) (pv 3) (pv 0))) (pss_one ps_never) pss_nil) (pss_one (ps_if (pt_cmpR op_ne (pe_callB call_len_seq rfl T.n_len bt_len (pa_cons (pe_dget (hu_of hr) (pv 0) (pv 3) (fun _ _ => rfl)) pa_nil)) (pv 2) (nomark _)) (pss_one ps_never) pss_nil)))) (pss_one (ps_if (pt_cmpR op_ne (pe_callB call_lenT rfl T.n_len bt_len (pa_cons (pv 0) pa_nil)) (pe_callB call_len_seq rfl T.n_len bt_len (pa_cons (pv 1) pa_nil)) (nomark _)) (pss_one ps_never) pss_nil))), rd_check_cells h⟩)
theorem sc_Table_init : FnScope N_Table_init ["self", "sizes", "cells"] (defScope s_Table_init) := ⟨rfl, rfl, rfl, by decide +kernel, rfl, by decide +kernel, by decide +kernel⟩
theorem ok_Table_init (T : Tx K mg a) : FnOk P w K mg base CX0 3 a.f_Table_init a.d_Table_init ["self", "sizes", "cells"] (sp_Table_init K) := by
  refine T.Table_init.F.ok sc_Table_init (fun vs H Q E h => len_Table_init h) (fun cdv A outer s H vs Q E hr h => ⟨t_Table_init K, (pss_cons (ps_expr (pe_call (ok_check_sizes T) (hr.mono (by decide)) rfl T.check_sizes.m T.check_sizes.F.kp T.check_sizes.b .nil pass0 (pa_cons (pv 1) pa_nil))) (pss_cons (ps_set (i := 3) sc_Table_init.nd rfl (Or.inl rfl) (pe_call (ok_in_order T) (hr.mono (by decide)) rfl T.in_order.m T.in_order.F.kp T.in_order.b .nil pass0 (pa_cons (pv 1) pa_nil))) (pss_cons (ps_expr (pe_call (ok_check_cells T) (hr.mono (by decide)) rfl T.check_cells.m T.check_cells.F.kp T.check_cells.b .nil pass0 (pa_cons (pv 2) (pa_cons (pv 3) (pa_cons (pe_callB call_len_seq rfl T.n_len bt_len (pa_cons (pv 1) pa_nil)) pa_nil))))) (pss_cons (ps_fld (pv 0) (pe_callTy call_list_of rfl T.n_list bt_list (pa_cons (pv 1) pa_nil)) rfl) (pss_cons (ps_fld (pv 0) pe_dnewT rfl) (pss_one (ps_for PassesOwn.never rfl (pi_list (pv 3)) (pg_name (i := 4) sc_Table_init.nd rfl (Or.inl rfl)) (pss_one (ps_dput (hu_of hr) (pe_fld (pv 0) rfl) (pv 4) (pe_callTy call_list_of rfl T.n_list bt_list (pa_cons (pe_dget (hu_of hr) (pv 2) (pv 4) (fun _ _ => rfl)) pa_nil)) rfl))))))))), rd_Table_init T.tt h⟩)
theorem sc_l_choice : FnScope N_l_choice ["_law_cell", "_law_hand", "_law_size"] (defScope s_l_choice) := ⟨rfl, rfl, rfl, by decide +kernel, rfl, by decide +kernel, by decide +kernel⟩
theorem ok_l_choice (T : Tx K mg a) : FnOk P w K mg base CX0 1 a.f_l_choice a.d_l_choice ["_law_cell", "_law_hand", "_law_size"] (sp_l_choice K) := by
  refine T.l_choice.F.ok sc_l_choice (fun vs H Q E h => len_l_choice h) (fun cdv A outer s H vs Q E hr h => ⟨t_l_choice K, (pss_cons (ps_set (i := 3) sc_l_choice.nd rfl (Or.inl rfl) (pe_op op_add (pe_op op_mod (pv 0) (pe_op op_pow pe_int pe_int)) (pe_op op_mulB pe_int (pe_op op_add (pv 1) pe_int)))) (pss_cons (ps_set (i := 3) sc_l_choice.nd rfl (Or.inl rfl) (pe_op op_mod (pe_op op_mulB (pv 3) (pv 3)) (pe_ix ix_list (pe_lst (pa_cons pe_int (pa_cons pe_int (pa_cons pe_int pa_nil)))) (pv 1) (fun _ _ => rfl)))) (pss_cons (ps_set (i := 4) sc_l_choice.nd rfl (Or.inl rfl) (pe_op op_mod (pv 0) (pe_op op_pow pe_int pe_int))) (pss_cons (ps_if (pt_cmpR op_lt (pe_op op_mod (pv 3) pe_int) pe_int (nomark _)) (pss_one (ps_ret (pe_op op_mod (pe_op op_fdiv (pv 3) pe_int) (pv 2)))) pss_nil) (pss_cons (ps_if (pt_cmpR op_eq (pe_op op_mod (pv 3) pe_int) pe_int (nomark _)) (pss_one (ps_ret (pe_op op_add (pv 2) (pe_ix ix_list (pe_lst (pa_cons pe_int (pa_cons pe_int (pa_cons (pv 4) pa_nil)))) (pe_op op_mod (pe_op op_fdiv (pv 3) pe_int) pe_int) (fun _ _ => rfl))))) pss_nil) (pss_one (ps_ret (pe_op op_sub (pe_un un_neg pe_int) (pe_ix ix_list (pe_lst (pa_cons pe_int (pa_cons (pv 4) pa_nil))) (pe_op op_mod (pe_op op_fdiv (pv 3) pe_int) pe_int) (fun _ _ => rfl)))))))))), rd_l_choice h⟩)
theorem sc_l_whole : FnScope N_l_whole ["_law_found"] (defScope s_l_whole) := ⟨rfl, rfl, rfl, by decide +kernel, rfl, by decide +kernel, by decide +kernel⟩
theorem ok_l_whole (T : Tx K mg a) : FnOk P w K mg base CX0 1 a.f_l_whole a.d_l_whole ["_law_found"] (sp_l_whole K) := by
  refine T.l_whole.F.ok sc_l_whole (fun vs H Q E h => len_l_whole h) (fun cdv A outer s H vs Q E hr h => ⟨t_l_whole K, (pss_one (ps_ret (pe_and (pe_callB call_isB rfl T.n_isinstance bt_isinstance (pa_cons (pv 0) (pa_cons (pe_bltn (v := .ty "int") rfl T.n_int bt_int rfl) pa_nil))) (pe_one (pe_not (pe_callB call_isB rfl T.n_isinstance bt_isinstance (pa_cons (pv 0) (pa_cons (pe_bltn (v := .ty "bool") rfl T.n_bool bt_bool rfl) pa_nil)))))))), rd_l_whole h⟩)
theorem sc_l_off : FnScope N_l_off ["_law_found", "_law_units_here", "_law_sizes_here", "_law_play_here"] (defScope s_l_off) := ⟨rfl, rfl, rfl, by decide +kernel, rfl, by decide +kernel, by decide +kernel⟩
theorem ok_l_off (T : Tx K mg a) : FnOk P w K mg base CX0 2 a.f_l_off a.d_l_off ["_law_found", "_law_units_here", "_law_sizes_here", "_law_play_here"] (sp_l_off K) := by
  refine T.l_off.F.ok sc_l_off (fun vs H Q E h => len_l_off h) (fun cdv A outer s H vs Q E hr h => ⟨t_l_off K, (pss_cons (ps_if (pt_cmpR op_isN (pv 0) pe_non (nomark _)) (pss_one (ps_ret pe_bl)) pss_nil) (pss_cons (ps_if (PW.pt (pw_or (pt_not (pt_val (pe_callB call_isB2 rfl T.n_isinstance bt_isinstance (pa_cons (pv 0) (pa_cons (pe_bltn (v := .ty "tuple") rfl T.n_tuple bt_tuple rfl) pa_nil))))) (pw_or (pt_cmpR op_ne (pe_callB call_len_seq rfl T.n_len bt_len (pa_cons (pv 0) pa_nil)) pe_int (nomark _)) (pw_or (pt_not (pt_val (pe_call (ok_l_whole T) (hr.mono (by decide)) rfl T.l_whole.m T.l_whole.F.kp T.l_whole.b .nil pass0 (pa_cons (pe_ix ix_tup (pv 0) pe_int (fun _ _ => rfl)) pa_nil)))) (pw_or1 (pt_not (pt_val (pe_call (ok_l_whole T) (hr.mono (by decide)) rfl T.l_whole.m T.l_whole.F.kp T.l_whole.b .nil pass0 (pa_cons (pe_ix ix_tup (pv 0) pe_int (fun _ _ => rfl)) pa_nil))))))))) (pss_one (ps_ret pe_bl)) pss_nil) (pss_cons (ps_asg (pv 0) (pg_tup (n := 2) rfl (pgs_cons (pg_name (i := 4) sc_l_off.nd rfl (Or.inl rfl)) (pgs_cons (pg_name (i := 5) sc_l_off.nd rfl (Or.inl rfl)) pgs_nil)))) (pss_cons (ps_if (PW.pt (pw_or (pt_cmpR op_lt (pv 4) pe_int (nomark _)) (pw_or (pt_cmpR op_ge (pv 4) (pe_callB call_len_seq rfl T.n_len bt_len (pa_cons (pv 2) pa_nil)) (nomark _)) (pw_or (pt_cmpR op_lt (pv 5) pe_int (nomark _)) (pw_or1 (pt_cmpR op_ge (pv 5) (pe_ix ix_list (pv 2) (pv 4) (fun _ _ => rfl)) (nomark _))))))) (pss_one (ps_ret pe_bl)) pss_nil) (pss_cons (ps_set (i := 6) sc_l_off.nd rfl (Or.inl rfl) (pe_op op_catA (pe_op op_catA (pe_slice sl_tupA (pv 3) po_none (po_some (pv 4))) (pe_tup (pa_cons (pv 5) pa_nil))) (pe_slice sl_tupA (pv 3) (po_some (pe_op op_add (pv 4) pe_int)) po_none))) (pss_one (ps_ret (pe_cmpR op_gt (pe_ix ix_list (pe_dget (hu_of hr) (pv 1) (pv 6) (fun _ _ => rfl)) (pv 4) (fun _ _ => rfl)) (pe_ix ix_list (pe_dget (hu_of hr) (pv 1) (pv 3) (fun _ _ => rfl)) (pv 4) (fun _ _ => rfl)) (nomark _))))))))), rd_l_off h⟩)
theorem sc_NoChoice_init : FnScope N_NoChoice_init ["self", "hand", "choice"] (defScope s_NoChoice_init) := ⟨rfl, rfl, rfl, by decide +kernel, rfl, by decide +kernel, by decide +kernel⟩
theorem ok_NoChoice_init (T : Tx K mg a) : FnOk P w K mg base CX0 1 a.f_NoChoice_init a.d_NoChoice_init ["self", "hand", "choice"] (sp_NoChoice_init K) := by
  refine T.NoChoice_init.F.ok sc_NoChoice_init (fun vs H Q E h => len_NoChoice_init h) (fun cdv A outer s H vs Q E hr h => ⟨t_NoChoice_init K, (pss_cons (ps_fldX (pv 0) (pv 1) rfl) (pss_one (ps_fldX (pv 0) (pv 2) rfl))), rd_NoChoice_init T.xk h⟩)
theorem sc_Table_earned : FnScope N_Table_earned ["self", "play"] (defScope s_Table_earned) := ⟨rfl, rfl, rfl, by decide +kernel, rfl, by decide +kernel, by decide +kernel⟩
theorem ok_Table_earned (T : Tx K mg a) : FnOk P w K mg base (CXF P w) 3 a.f_Table_earned a.d_Table_earned ["self", "play"] (sp_Table_earned K) := by
  refine T.Table_earned.F.okX sc_Table_earned (fun vs H Q E h => len_Table_earned h) (fun cdv A outer s H vs Q E hr h => ⟨t_Table_earned K E, (pss_cons (ps_for PassesOwn.leaving rfl (pi_enum rfl T.n_enumerate (pe_fld (pv 0) rfl)) (pg_tup (n := 2) rfl (pgs_cons (pg_name (i := 2) sc_Table_earned.nd rfl (Or.inl rfl)) (pgs_cons (pg_name (i := 3) sc_Table_earned.nd rfl (Or.inl rfl)) pgs_nil))) (pss_one (ps_if (PW.pt (pw_or (pt_cmpR op_lt (pe_ix ix_tup (pv 1) (pv 2) (fun _ _ => rfl)) pe_int (nomark _)) (pw_or1 (pt_cmpR op_ge (pe_ix ix_tup (pv 1) (pv 2) (fun _ _ => rfl)) (pv 3) (nomark _))))) (pss_one (ps_raiseE T.me_NoChoice (ok_NoChoice_init T) (hr.mono (by decide)) rfl T.c_NoChoice T.NoChoice_init.b (pa_cons (pv 2) (pa_cons (pe_ix ix_tup (pv 1) (pv 2) (fun _ _ => rfl)) pa_nil)))) pss_nil))) (pss_one (ps_ret (pe_callTy call_list_of rfl T.n_list bt_list (pa_cons (pe_dget (hu_of hr) (pe_fld (pv 0) rfl) (pv 1) (fun _ _ => rfl)) pa_nil))))), rd_Table_earned T.tt h⟩)
theorem sc_Table_sizes : FnScope N_Table_sizes ["self"] (defScope s_Table_sizes) := ⟨rfl, rfl, rfl, by decide +kernel, rfl, by decide +kernel, by decide +kernel⟩
theorem ok_Table_sizes (T : Tx K mg a) : FnOk P w K mg base CX0 1 a.f_Table_sizes a.d_Table_sizes ["self"] (sp_Table_sizes K) := by
  refine T.Table_sizes.F.ok sc_Table_sizes (fun vs H Q E h => len_Table_sizes h) (fun cdv A outer s H vs Q E hr h => ⟨t_Table_sizes K, (pss_one (ps_ret (pe_callTy call_list_of rfl T.n_list bt_list (pa_cons (pe_fld (pv 0) rfl) pa_nil)))), rd_Table_sizes T.tt h⟩)
theorem sc_rest_of : FnScope N_rest_of ["play", "hand"] (defScope s_rest_of) := ⟨rfl, rfl, rfl, by decide +kernel, rfl, by decide +kernel, by decide +kernel⟩
theorem ok_rest_of (T : Tx K mg a) : FnOk P w K mg base CX0 1 a.f_rest_of a.d_rest_of ["play", "hand"] (sp_rest_of K) := by
  refine T.rest_of.F.ok sc_rest_of (fun vs H Q E h => len_rest_of h) (fun cdv A outer s H vs Q E hr h => ⟨t_rest_of K, (pss_one (ps_ret (pe_op op_catA (pe_slice sl_tupA (pv 0) po_none (po_some (pv 1))) (pe_slice sl_tupA (pv 0) (po_some (pe_op op_add (pv 1) pe_int)) po_none)))), rd_rest_of h⟩)
theorem sc_joined : FnScope N_joined ["rest", "hand", "choice"] (defScope s_joined) := ⟨rfl, rfl, rfl, by decide +kernel, rfl, by decide +kernel, by decide +kernel⟩
theorem ok_joined (T : Tx K mg a) : FnOk P w K mg base CX0 1 a.f_joined a.d_joined ["rest", "hand", "choice"] (sp_joined K) := by
  refine T.joined.F.ok sc_joined (fun vs H Q E h => len_joined h) (fun cdv A outer s H vs Q E hr h => ⟨t_joined K, (pss_one (ps_ret (pe_op op_catA (pe_op op_catA (pe_slice sl_tupA (pv 0) po_none (po_some (pv 1))) (pe_tup (pa_cons (pv 2) pa_nil))) (pe_slice sl_tupA (pv 0) (po_some (pv 1)) po_none)))), rd_joined h⟩)
theorem sc_earned_with : FnScope N_earned_with ["table", "rest", "hand", "choice"] (defScope s_earned_with) := ⟨rfl, rfl, rfl, by decide +kernel, rfl, by decide +kernel, by decide +kernel⟩
theorem ok_earned_with (T : Tx K mg a) : FnOk P w K mg base CX0 4 a.f_earned_with a.d_earned_with ["table", "rest", "hand", "choice"] (sp_earned_with K) := by
  refine T.earned_with.F.ok sc_earned_with (fun vs H Q E h => len_earned_with h) (fun cdv A outer s H vs Q E hr h => ⟨t_earned_with K, (pss_one (ps_ret (pe_ix ix_list (pe_meth (pv 0) T.tt.cl T.Table_earned.m (ok_Table_earned T) (hr.mono (by decide)) T.Table_earned.b .nil passN (pa_cons (pe_call (ok_joined T) (hr.mono (by decide)) rfl T.joined.m T.joined.F.kp T.joined.b .nil pass0 (pa_cons (pv 1) (pa_cons (pv 2) (pa_cons (pv 3) pa_nil)))) pa_nil)) (pv 2) (fun _ _ => rfl)))), rd_earned_with h⟩)
theorem sc_below : FnScope N_below ["one", "other"] (defScope s_below) := ⟨rfl, rfl, rfl, by decide +kernel, rfl, by decide +kernel, by decide +kernel⟩
theorem ok_below (T : Tx K mg a) : FnOk P w K mg base CX0 1 a.f_below a.d_below ["one", "other"] (sp_below K) := by
  refine T.below.F.ok sc_below (fun vs H Q E h => len_below h) (fun cdv A outer s H vs Q E hr h => ⟨t_below K, (pss_one (ps_ret (pe_cmpR op_lt (pe_op op_mulB (pe_ix ix_tup (pv 0) pe_int (fun _ _ => rfl)) (pe_ix ix_tup (pv 1) pe_int (fun _ _ => rfl))) (pe_op op_mulB (pe_ix ix_tup (pv 1) pe_int (fun _ _ => rfl)) (pe_ix ix_tup (pv 0) pe_int (fun _ _ => rfl))) (nomark _)))), rd_below h⟩)
theorem sc_greatest : FnScope N_greatest ["fractions"] (defScope s_greatest) := ⟨rfl, rfl, rfl, by decide +kernel, rfl, by decide +kernel, by decide +kernel⟩
theorem ok_greatest (T : Tx K mg a) : FnOk P w K mg base CX0 2 a.f_greatest a.d_greatest ["fractions"] (sp_greatest K) := by
  refine T.greatest.F.ok sc_greatest (fun vs H Q E h => len_greatest h) (fun cdv A outer s H vs Q E hr h => ⟨t_greatest K, (pss_cons (ps_set (i := 1) sc_greatest.nd rfl (Or.inl rfl) (pe_ix ix_list (pv 0) pe_int (fun _ _ => rfl))) (pss_cons (ps_for PassesOwn.never rfl (pi_list (pv 0)) (pg_name (i := 2) sc_greatest.nd rfl (Or.inl rfl)) (pss_one (ps_if (pt_val (pe_call (ok_below T) (hr.mono (by decide)) rfl T.below.m T.below.F.kp T.below.b .nil pass0 (pa_cons (pv 1) (pa_cons (pv 2) pa_nil)))) (pss_one (ps_set (i := 1) sc_greatest.nd rfl (Or.inl rfl) (pv 2))) pss_nil))) (pss_one (ps_ret (pv 1))))), rd_greatest h⟩)
theorem sc_going_off : FnScope N_going_off ["table", "play"] (defScope s_going_off) := ⟨rfl, rfl, rfl, by decide +kernel, rfl, by decide +kernel, by decide +kernel⟩
theorem ok_going_off (T : Tx K mg a) : FnOk P w K mg base (CXF P w) 5 a.f_going_off a.d_going_off ["table", "play"] (sp_going_off K) := by
  refine T.going_off.F.okX sc_going_off (fun vs H Q E h => len_going_off h) (fun cdv A outer s H vs Q E hr h => ⟨t_going_off K E, (pss_cons (ps_set (i := 2) sc_going_off.nd rfl (Or.inl rfl) (pe_meth (pv 0) T.tt.cl T.Table_earned.m (ok_Table_earned T) (hr.mono (by decide)) T.Table_earned.b .nil passF (pa_cons (pv 1) pa_nil))) (pss_cons (ps_for PassesOwn.leaving rfl (pi_enum rfl T.n_enumerate (pe_meth0 (pv 0) T.tt.cl T.Table_sizes.m (ok_Table_sizes T) (hr.mono (by decide)) T.Table_sizes.b .nil pass0)) (pg_tup (n := 2) rfl (pgs_cons (pg_name (i := 3) sc_going_off.nd rfl (Or.inr rfl)) (pgs_cons (pg_name (i := 4) sc_going_off.nd rfl (Or.inl rfl)) pgs_nil))) (pss_cons (ps_set (i := 5) sc_going_off.nd rfl (Or.inr rfl) (pe_call (ok_rest_of T) (hr.mono (by decide)) rfl T.rest_of.m T.rest_of.F.kp T.rest_of.b .nil pass0 (pa_cons (pv 1) (pa_cons (pv 3) pa_nil)))) (pss_cons (ps_setComp (i := 6) (FS := defScope s_going_off) (N := N_going_off) (x := "choice") (ys := ["table", "rest", "hand"]) (caps := [0, 5, 3]) ⟨by decide +kernel, rfl, by decide +kernel, rfl, by decide +kernel, rfl, by decide +kernel, rfl, by decide +kernel⟩ rfl rfl rfl sc_going_off.nd rfl (Or.inl rfl) (pi_range1 rfl T.n_range (pa_cons (pv 4) pa_nil)) (fun _ _ _ _ => (pe_call (ok_earned_with T) (hr.mono (by decide)) rfl T.earned_with.m T.earned_with.F.kp T.earned_with.b .nil pass0 (pa_cons (pv 1) (pa_cons (pv 2) (pa_cons (pv 3) (pa_cons (pv 0) pa_nil))))))) (pss_cons (ps_set (i := 7) sc_going_off.nd rfl (Or.inl rfl) (pe_call (ok_greatest T) (hr.mono (by decide)) rfl T.greatest.m T.greatest.F.kp T.greatest.b .nil pass0 (pa_cons (pv 6) pa_nil))) (pss_one (ps_if (pt_val (pe_call (ok_below T) (hr.mono (by decide)) rfl T.below.m T.below.F.kp T.below.b .nil pass0 (pa_cons (pe_ix ix_list (pv 2) (pv 3) (fun _ _ => rfl)) (pa_cons (pv 7) pa_nil)))) (pss_one (ps_ret (pe_tup (pa_cons (pv 3) (pa_cons (pe_bm PySem.F.plainAttrs_list PySem.F.slot_list_index PySem.F.type_list_index (mt_indexT hr.units) (pv 6) (pa_cons (pv 7) pa_nil)) pa_nil))))) pss_nil)))))) (pss_one (ps_ret pe_non)))), rd_going_off h⟩)
theorem sc_l_caught : FnScope N_l_caught ["_law_table", "_law_play_here"] (defScope s_l_caught) := ⟨rfl, rfl, rfl, by decide +kernel, rfl, by decide +kernel, by decide +kernel⟩
theorem ok_l_caught (T : Tx K mg a) : FnOk P w K mg base CX0 6 a.f_l_caught a.d_l_caught ["_law_table", "_law_play_here"] (sp_l_caught K) := by
  refine T.l_caught.F.ok sc_l_caught (fun vs H Q E h => len_l_caught h) (fun cdv A outer s H vs Q E hr h => ⟨t_l_caught K, (pss_cons (ps_set (i := 2) sc_l_caught.nd rfl (Or.inl rfl) pe_non) (pss_cons (ps_try (pex_call (ok_going_off T) (hr.mono (by decide)) rfl T.going_off.m T.going_off.F.kp T.going_off.b (pa_cons (pv 0) (pa_cons (pv 1) pa_nil))) (fun _ => (pss_one (ps_set (i := 2) sc_l_caught.nd rfl (Or.inl rfl) (pv 3)))) rfl rfl rfl rfl T.c_PlayError T.exm sc_l_caught.nd rfl rfl) (pss_one (ps_ret (pv 2))))), rd_l_caught h⟩)
theorem sc_l_right : FnScope N_l_right ["_law_table", "_law_sizes_here", "_law_units_here", "_law_play_here"] (defScope s_l_right) := ⟨rfl, rfl, rfl, by decide +kernel, rfl, by decide +kernel, by decide +kernel⟩
theorem ok_l_right (T : Tx K mg a) : FnOk P w K mg base CX0 7 a.f_l_right a.d_l_right ["_law_table", "_law_sizes_here", "_law_units_here", "_law_play_here"] (sp_l_right K) := by
  refine T.l_right.F.ok sc_l_right (fun vs H Q E h => len_l_right h) (fun cdv A outer s H vs Q E hr h => ⟨t_l_right K, (pss_cons (ps_setCompI (i := 4) (FS := defScope s_l_right) (N := N_l_right) (x := "_law_k") (ys := ["_law_play_here", "_law_sizes_here"]) (caps := [3, 1]) ⟨by decide +kernel, rfl, by decide +kernel, rfl, by decide +kernel, rfl, by decide +kernel, rfl, by decide +kernel⟩ rfl rfl rfl sc_l_right.nd rfl (Or.inl rfl) (pi_range1 rfl T.n_range (pa_cons (pe_callB call_len_seq rfl T.n_len bt_len (pa_cons (pv 1) pa_nil)) pa_nil)) (fun _ _ _ _ => (PW.pt (pw_or (pt_cmpR op_lt (pe_ix ix_tup (pv 1) (pv 0) (fun _ _ => rfl)) pe_int (nomark _)) (pw_or1 (pt_cmpR op_ge (pe_ix ix_tup (pv 1) (pv 0) (fun _ _ => rfl)) (pe_ix ix_list (pv 2) (pv 0) (fun _ _ => rfl)) (nomark _)))))) (fun _ _ _ _ => (pv 0))) (pss_cons (ps_if (pt_cmpR (op_eqD 0 (hu_of hr)) (pv 4) (pe_lst pa_nil) (nomark _)) (pss_one (ps_ret (pe_call (ok_l_off T) (hr.mono (by decide)) rfl T.l_off.m T.l_off.F.kp T.l_off.b .nil pass0 (pa_cons (pe_call (ok_going_off T) (hr.mono (by decide)) rfl T.going_off.m T.going_off.F.kp T.going_off.b .nil passN (pa_cons (pv 0) (pa_cons (pv 3) pa_nil))) (pa_cons (pv 2) (pa_cons (pv 1) (pa_cons (pv 3) pa_nil))))))) pss_nil) (pss_cons (ps_set (i := 5) sc_l_right.nd rfl (Or.inl rfl) (pe_call (ok_l_caught T) (hr.mono (by decide)) rfl T.l_caught.m T.l_caught.F.kp T.l_caught.b .nil pass0 (pa_cons (pv 0) (pa_cons (pv 3) pa_nil)))) (pss_cons (ps_if (pt_val (pe_callB call_isE rfl T.n_isinstance bt_isinstance (pa_cons (pv 5) (pa_cons (pe_tup (pa_cons (pe_glob (v := .ref (gadr K "NoNumber")) rfl T.c_NoNumber rfl) (pa_cons (pe_glob (v := .ref (gadr K "NoTable")) rfl T.c_NoTable rfl) (pa_cons (pe_glob (v := .ref (gadr K "NoStart")) rfl T.c_NoStart rfl) (pa_cons (pe_glob (v := .ref (gadr K "NoOrder")) rfl T.c_NoOrder rfl) (pa_cons (pe_glob (v := .ref (gadr K "NotTwo")) rfl T.c_NotTwo rfl) (pa_cons (pe_glob (v := .ref (gadr K "NoPlan")) rfl T.c_NoPlan rfl) (pa_cons (pe_glob (v := .ref (gadr K "NoMixing")) rfl T.c_NoMixing rfl) pa_nil)))))))) pa_nil)))) (pss_one (ps_ret pe_bl)) pss_nil) (pss_cons (ps_if (PW.pt (pw_or (pt_not (pt_val (pe_callB call_isE rfl T.n_isinstance bt_isinstance (pa_cons (pv 5) (pa_cons (pe_glob (v := .ref (gadr K "NoChoice")) rfl T.c_NoChoice rfl) pa_nil))))) (pw_or1 (pt_not (pt_val (pe_callB call_isE rfl T.n_isinstance bt_isinstance (pa_cons (pv 5) (pa_cons (pe_bltn (v := .ty "ValueError") rfl T.n_ValueError bt_ValueError rfl) pa_nil)))))))) (pss_one (ps_ret pe_bl)) pss_nil) (pss_cons (ps_if (PW.pt (pw_or (pt_not (pt_val (pe_call (ok_l_whole T) (hr.mono (by decide)) rfl T.l_whole.m T.l_whole.F.kp T.l_whole.b .nil pass0 (pa_cons (pe_fldX (pv 5) rfl) pa_nil)))) (pw_or1 (pt_not (pt_val (pe_call (ok_l_whole T) (hr.mono (by decide)) rfl T.l_whole.m T.l_whole.F.kp T.l_whole.b .nil pass0 (pa_cons (pe_fldX (pv 5) rfl) pa_nil))))))) (pss_one (ps_ret pe_bl)) pss_nil) (pss_one (ps_ret (pe_and (pe_cmpR op_eq (pe_fldX (pv 5) rfl) (pe_ix ix_list (pv 4) pe_int (fun _ _ => rfl)) (nomark _)) (pe_one (pe_cmpR op_eq (pe_fldX (pv 5) rfl) (pe_ix ix_tup (pv 3) (pe_ix ix_list (pv 4) pe_int (fun _ _ => rfl)) (fun _ _ => rfl)) (nomark _)))))))))))), rd_l_right T.xt T.xk h⟩)
theorem sc_law : FnScope N_law ["_law_script"] (defScope s_law) := ⟨rfl, rfl, rfl, by decide +kernel, rfl, by decide +kernel, by decide +kernel⟩
theorem ok_law (T : Tx K mg a) : FnOk P w K mg base CX0 8 a.f_law a.d_law ["_law_script"] (sp_law K) := by
  refine T.law.F.ok sc_law (fun vs H Q E h => len_law h) (fun cdv A outer s H vs Q E hr h => ⟨t_law K, (pss_cons (ps_set (i := 1) sc_law.nd rfl (Or.inr rfl) (pe_call (ok_l_sizes T) (hr.mono (by decide)) rfl T.l_sizes.m T.l_sizes.F.kp T.l_sizes.b .nil pass0 (pa_cons (pv 0) pa_nil))) (pss_cons (ps_set (i := 2) sc_law.nd rfl (Or.inl rfl) (pe_call (ok_l_order T) (hr.mono (by decide)) rfl T.l_order.m T.l_order.F.kp T.l_order.b .nil pass0 (pa_cons (pv 1) pa_nil))) (pss_cons (ps_set (i := 3) sc_law.nd rfl (Or.inl rfl) (pe_call (ok_l_units T) (hr.mono (by decide)) rfl T.l_units.m T.l_units.F.kp T.l_units.b .nil pass0 (pa_cons (pv 0) (pa_cons (pv 2) (pa_cons (pe_callB call_len_seq rfl T.n_len bt_len (pa_cons (pv 1) pa_nil)) pa_nil))))) (pss_cons (ps_set (i := 4) sc_law.nd rfl (Or.inl rfl) pe_dnewT) (pss_cons (ps_for PassesOwn.never rfl (pi_rev rfl T.n_reversed (pv 2)) (pg_name (i := 5) sc_law.nd rfl (Or.inl rfl)) (pss_one (ps_dput (hu_of hr) (pv 4) (pv 5) (pe_comp (FS := defScope s_law) (N := N_law) (x := "_law_unit") (ys := []) (caps := []) ⟨by decide +kernel, rfl, by decide +kernel, rfl, by decide +kernel, rfl, by decide +kernel, rfl, by decide +kernel⟩ rfl rfl rfl (pi_list (pe_dget (hu_of hr) (pv 3) (pv 5) (fun _ _ => rfl))) (fun _ _ _ _ => (pe_tup (pa_cons (pv 0) (pa_cons pe_int pa_nil))))) rfl))) (pss_cons (ps_set (i := 6) sc_law.nd rfl (Or.inl rfl) (pe_make T.mk_Table (ok_Table_init T) (hr.mono (by decide)) rfl T.c_Table T.Table_init.b .nil pass0 (pa_cons (pe_callTy call_list_of rfl T.n_list bt_list (pa_cons (pv 1) pa_nil)) (pa_cons (pv 4) pa_nil)))) (pss_cons (ps_for PassesOwn.never rfl (pi_list (pe_slice sl_list (pv 0) po_none (po_some pe_int))) (pg_name (i := 7) sc_law.nd rfl (Or.inr rfl)) (pss_cons (ps_set (i := 5) sc_law.nd rfl (Or.inl rfl) (pe_callTy call_tuple_of rfl T.n_tuple bt_tuple (pa_cons (pe_comp (FS := defScope s_law) (N := N_law) (x := "_law_hand") (ys := ["_law_cell", "_law_sizes_here"]) (caps := [7, 1]) ⟨by decide +kernel, rfl, by decide +kernel, rfl, by decide +kernel, rfl, by decide +kernel, rfl, by decide +kernel⟩ rfl rfl rfl (pi_range1 rfl T.n_range (pa_cons (pe_callB call_len_seq rfl T.n_len bt_len (pa_cons (pv 1) pa_nil)) pa_nil)) (fun _ _ _ _ => (pe_call (ok_l_choice T) (hr.mono (by decide)) rfl T.l_choice.m T.l_choice.F.kp T.l_choice.b .nil pass0 (pa_cons (pv 1) (pa_cons (pv 0) (pa_cons (pe_ix ix_list (pv 2) (pv 0) (fun _ _ => rfl)) pa_nil)))))) pa_nil))) (pss_one (ps_if (pt_not (pt_val (pe_call (ok_l_right T) (hr.mono (by decide)) rfl T.l_right.m T.l_right.F.kp T.l_right.b .nil pass0 (pa_cons (pv 6) (pa_cons (pv 1) (pa_cons (pv 3) (pa_cons (pv 5) pa_nil))))))) (pss_one (ps_ret pe_bl)) pss_nil)))) (pss_one (ps_ret (pe_call (ok_l_right T) (hr.mono (by decide)) rfl T.l_right.m T.l_right.F.kp T.l_right.b .nil pass0 (pa_cons (pv 6) (pa_cons (pv 1) (pa_cons (pv 3) (pa_cons (pe_ix ix_list (pv 2) (pe_op op_mod (pe_call (ok_l_cell_at T) (hr.mono (by decide)) rfl T.l_cell_at.m T.l_cell_at.F.kp T.l_cell_at.b .nil pass0 (pa_cons (pv 0) (pa_cons pe_int pa_nil))) (pe_callB call_len_seq rfl T.n_len bt_len (pa_cons (pv 2) pa_nil))) (fun _ _ => rfl)) pa_nil)))))))))))))), rd_law h⟩)
end
theorem ar1 {P : List Value → Prop} (h : ∀ a, P [a]) : ∀ us : List Value, us.length = 1 → P us
  | [a], _ => h a
theorem ar2 {P : List Value → Prop} (h : ∀ a b, P [a, b]) : ∀ us : List Value, us.length = 2 → P us
  | [], e => nomatch e
  | a :: us, e => ar1 (P := fun l => P (a :: l)) (h a) us (Nat.succ.inj e)
theorem ar3 {P : List Value → Prop} (h : ∀ a b c, P [a, b, c]) : ∀ us : List Value, us.length = 3 → P us
  | [], e => nomatch e
  | a :: us, e => ar2 (P := fun l => P (a :: l)) (h a) us (Nat.succ.inj e)
theorem ar4 {P : List Value → Prop} (h : ∀ a b c d, P [a, b, c, d]) : ∀ us : List Value, us.length = 4 → P us
  | [], e => nomatch e
  | a :: us, e => ar3 (P := fun l => P (a :: l)) (h a) us (Nat.succ.inj e)
theorem all_mk {l : PySem.W.OpenLaw} {w : World} {K : PySem.W.Frag} {h : Heap} {mg : Str → Option Value} {fa f0 f1 f2 f3 f4 f5 f6 f7 f8 f9 f10 f11 f12 f13 f14 f15 f16 f17 f18 f19 f20 f21 f22 f23 f24 : Addr} {C0 C1 C2 C3 C4 C5 C6 C7 C8 C9 : Addr} (X : K.In h) (G : h.Ns mainGlobals mg) (hfa : mg "law" = some (.ref fa))
    {od0 an0 od1 an1 od2 an2 od3 an3 od4 an4 od5 an5 od6 an6 od7 an7 od8 an8 od9 an9 od10 an10 od11 an11 od12 an12 od13 an13 od14 an14 od15 an15 od16 an16 od17 an17 od18 an18 od19 an19 od20 an20 od21 an21 od22 an22 od23 an23 od24 an24 : Option Addr} {sl0 sl1 sl2 sl3 sl4 sl5 sl6 sl7 sl8 sl9 sl10 sl11 sl12 sl13 sl14 sl15 sl16 sl17 sl18 sl19 sl20 sl21 sl22 sl23 sl24 : Array (Option Value)} {oc0 kV0 dc0 pm0 cd0 ct0 oc1 kV1 dc1 pm1 cd1 ct1 oc2 kV2 dc2 pm2 cd2 ct2 oc3 kV3 dc3 pm3 cd3 ct3 oc4 kV4 dc4 pm4 cd4 ct4 oc5 kV5 dc5 pm5 cd5 ct5 oc6 kV6 dc6 pm6 cd6 ct6 oc7 kV7 dc7 pm7 cd7 ct7 oc8 kV8 dc8 pm8 cd8 ct8 oc9 kV9 dc9 pm9 cd9 ct9 oc10 kV10 dc10 pm10 cd10 ct10 oc11 kV11 dc11 pm11 cd11 ct11 oc12 kV12 dc12 pm12 cd12 ct12 oc13 kV13 dc13 pm13 cd13 ct13 oc14 kV14 dc14 pm14 cd14 ct14 oc15 kV15 dc15 pm15 cd15 ct15 oc16 kV16 dc16 pm16 cd16 ct16 oc17 kV17 dc17 pm17 cd17 ct17 oc18 kV18 dc18 pm18 cd18 ct18 oc19 kV19 dc19 pm19 cd19 ct19 oc20 kV20 dc20 pm20 cd20 ct20 oc21 kV21 dc21 pm21 cd21 ct21 oc22 kV22 dc22 pm22 cd22 ct22 oc23 kV23 dc23 pm23 cd23 ct23 oc24 kV24 dc24 pm24 cd24 ct24 : Value}
    (y0 : PySem.W.nsIn K mainGlobals "NoChoice" = some (some (.ref C0))) (y1 : PySem.W.nsIn K mainGlobals "NoMixing" = some (some (.ref C1))) (y2 : PySem.W.nsIn K mainGlobals "NoNumber" = some (some (.ref C2))) (y3 : PySem.W.nsIn K mainGlobals "NoOrder" = some (some (.ref C3))) (y4 : PySem.W.nsIn K mainGlobals "NoPlan" = some (some (.ref C4))) (y5 : PySem.W.nsIn K mainGlobals "NoStart" = some (some (.ref C5))) (y6 : PySem.W.nsIn K mainGlobals "NoTable" = some (some (.ref C6))) (y7 : PySem.W.nsIn K mainGlobals "NotTwo" = some (some (.ref C7))) (y8 : PySem.W.nsIn K mainGlobals "PlayError" = some (some (.ref C8))) (y9 : PySem.W.nsIn K mainGlobals "Table" = some (some (.ref C9)))
    (a0 : PySem.W.nsIn K mainGlobals "_law_cell_at" = some (some (.ref f0))) (l0 : K.lookup f0 = some ⟨oc0, od0, .func (PySem.W.fnOf "_law_cell_at" "_law_cell_at" (defArgs s_l_cell_at) (defBody s_l_cell_at) (defScope s_l_cell_at) .none kV0 dc0 pm0 an0 cd0 ct0), sl0⟩) (c0 : PySem.W.codeIn K cd0 "_law_cell_at" = true) (k0 : PySem.W.keepIn K (.ref f0) = true)
    (a1 : PySem.W.nsIn K mainGlobals "_law_sizes" = some (some (.ref f1))) (l1 : K.lookup f1 = some ⟨oc1, od1, .func (PySem.W.fnOf "_law_sizes" "_law_sizes" (defArgs s_l_sizes) (defBody s_l_sizes) (defScope s_l_sizes) .none kV1 dc1 pm1 an1 cd1 ct1), sl1⟩) (c1 : PySem.W.codeIn K cd1 "_law_sizes" = true) (k1 : PySem.W.keepIn K (.ref f1) = true)
    (a2 : PySem.W.nsIn K mainGlobals "_law_play" = some (some (.ref f2))) (l2 : K.lookup f2 = some ⟨oc2, od2, .func (PySem.W.fnOf "_law_play" "_law_play" (defArgs s_l_play) (defBody s_l_play) (defScope s_l_play) .none kV2 dc2 pm2 an2 cd2 ct2), sl2⟩) (c2 : PySem.W.codeIn K cd2 "_law_play" = true) (k2 : PySem.W.keepIn K (.ref f2) = true)
    (a3 : PySem.W.nsIn K mainGlobals "_law_order" = some (some (.ref f3))) (l3 : K.lookup f3 = some ⟨oc3, od3, .func (PySem.W.fnOf "_law_order" "_law_order" (defArgs s_l_order) (defBody s_l_order) (defScope s_l_order) .none kV3 dc3 pm3 an3 cd3 ct3), sl3⟩) (c3 : PySem.W.codeIn K cd3 "_law_order" = true) (k3 : PySem.W.keepIn K (.ref f3) = true)
    (a4 : PySem.W.nsIn K mainGlobals "_law_units" = some (some (.ref f4))) (l4 : K.lookup f4 = some ⟨oc4, od4, .func (PySem.W.fnOf "_law_units" "_law_units" (defArgs s_l_units) (defBody s_l_units) (defScope s_l_units) .none kV4 dc4 pm4 an4 cd4 ct4), sl4⟩) (c4 : PySem.W.codeIn K cd4 "_law_units" = true) (k4 : PySem.W.keepIn K (.ref f4) = true)
    (a5 : PySem.W.nsIn K mainGlobals "check_sizes" = some (some (.ref f5))) (l5 : K.lookup f5 = some ⟨oc5, od5, .func (PySem.W.fnOf "check_sizes" "check_sizes" (defArgs s_check_sizes) (defBody s_check_sizes) (defScope s_check_sizes) .none kV5 dc5 pm5 an5 cd5 ct5), sl5⟩) (c5 : PySem.W.codeIn K cd5 "check_sizes" = true) (k5 : PySem.W.keepIn K (.ref f5) = true)
    (a6 : PySem.W.nsIn K mainGlobals "one_of_each" = some (some (.ref f6))) (l6 : K.lookup f6 = some ⟨oc6, od6, .func (PySem.W.fnOf "one_of_each" "one_of_each" (defArgs s_one_of_each) (defBody s_one_of_each) (defScope s_one_of_each) .none kV6 dc6 pm6 an6 cd6 ct6), sl6⟩) (c6 : PySem.W.codeIn K cd6 "one_of_each" = true) (k6 : PySem.W.keepIn K (.ref f6) = true)
    (a7 : PySem.W.nsIn K mainGlobals "in_order" = some (some (.ref f7))) (l7 : K.lookup f7 = some ⟨oc7, od7, .func (PySem.W.fnOf "in_order" "in_order" (defArgs s_in_order) (defBody s_in_order) (defScope s_in_order) .none kV7 dc7 pm7 an7 cd7 ct7), sl7⟩) (c7 : PySem.W.codeIn K cd7 "in_order" = true) (k7 : PySem.W.keepIn K (.ref f7) = true)
    (a8 : PySem.W.nsIn K mainGlobals "check_cells" = some (some (.ref f8))) (l8 : K.lookup f8 = some ⟨oc8, od8, .func (PySem.W.fnOf "check_cells" "check_cells" (defArgs s_check_cells) (defBody s_check_cells) (defScope s_check_cells) .none kV8 dc8 pm8 an8 cd8 ct8), sl8⟩) (c8 : PySem.W.codeIn K cd8 "check_cells" = true) (k8 : PySem.W.keepIn K (.ref f8) = true)
    (a9 : PySem.W.findIn K (.ref C9) "__init__" = some (some (.ref f9))) (i9 : PySem.W.isFn K (.ref f9) = true) (l9 : K.lookup f9 = some ⟨oc9, od9, .func (PySem.W.fnOf "__init__" "Table.__init__" (defArgs s_Table_init) (defBody s_Table_init) (defScope s_Table_init) .none kV9 dc9 pm9 an9 cd9 ct9), sl9⟩) (c9 : PySem.W.codeIn K cd9 "Table.__init__" = true) (k9 : PySem.W.keepIn K (.ref f9) = true)
    (a10 : PySem.W.nsIn K mainGlobals "_law_choice" = some (some (.ref f10))) (l10 : K.lookup f10 = some ⟨oc10, od10, .func (PySem.W.fnOf "_law_choice" "_law_choice" (defArgs s_l_choice) (defBody s_l_choice) (defScope s_l_choice) .none kV10 dc10 pm10 an10 cd10 ct10), sl10⟩) (c10 : PySem.W.codeIn K cd10 "_law_choice" = true) (k10 : PySem.W.keepIn K (.ref f10) = true)
    (a11 : PySem.W.nsIn K mainGlobals "_law_whole" = some (some (.ref f11))) (l11 : K.lookup f11 = some ⟨oc11, od11, .func (PySem.W.fnOf "_law_whole" "_law_whole" (defArgs s_l_whole) (defBody s_l_whole) (defScope s_l_whole) .none kV11 dc11 pm11 an11 cd11 ct11), sl11⟩) (c11 : PySem.W.codeIn K cd11 "_law_whole" = true) (k11 : PySem.W.keepIn K (.ref f11) = true)
    (a12 : PySem.W.nsIn K mainGlobals "_law_off" = some (some (.ref f12))) (l12 : K.lookup f12 = some ⟨oc12, od12, .func (PySem.W.fnOf "_law_off" "_law_off" (defArgs s_l_off) (defBody s_l_off) (defScope s_l_off) .none kV12 dc12 pm12 an12 cd12 ct12), sl12⟩) (c12 : PySem.W.codeIn K cd12 "_law_off" = true) (k12 : PySem.W.keepIn K (.ref f12) = true)
    (a13 : PySem.W.findIn K (.ref C0) "__init__" = some (some (.ref f13))) (i13 : PySem.W.isFn K (.ref f13) = true) (l13 : K.lookup f13 = some ⟨oc13, od13, .func (PySem.W.fnOf "__init__" "NoChoice.__init__" (defArgs s_NoChoice_init) (defBody s_NoChoice_init) (defScope s_NoChoice_init) .none kV13 dc13 pm13 an13 cd13 ct13), sl13⟩) (c13 : PySem.W.codeIn K cd13 "NoChoice.__init__" = true) (k13 : PySem.W.keepIn K (.ref f13) = true)
    (a14 : PySem.W.findIn K (.ref C9) "earned" = some (some (.ref f14))) (i14 : PySem.W.isFn K (.ref f14) = true) (l14 : K.lookup f14 = some ⟨oc14, od14, .func (PySem.W.fnOf "earned" "Table.earned" (defArgs s_Table_earned) (defBody s_Table_earned) (defScope s_Table_earned) .none kV14 dc14 pm14 an14 cd14 ct14), sl14⟩) (c14 : PySem.W.codeIn K cd14 "Table.earned" = true) (k14 : PySem.W.keepIn K (.ref f14) = true)
    (a15 : PySem.W.findIn K (.ref C9) "sizes" = some (some (.ref f15))) (i15 : PySem.W.isFn K (.ref f15) = true) (l15 : K.lookup f15 = some ⟨oc15, od15, .func (PySem.W.fnOf "sizes" "Table.sizes" (defArgs s_Table_sizes) (defBody s_Table_sizes) (defScope s_Table_sizes) .none kV15 dc15 pm15 an15 cd15 ct15), sl15⟩) (c15 : PySem.W.codeIn K cd15 "Table.sizes" = true) (k15 : PySem.W.keepIn K (.ref f15) = true)
    (a16 : PySem.W.nsIn K mainGlobals "rest_of" = some (some (.ref f16))) (l16 : K.lookup f16 = some ⟨oc16, od16, .func (PySem.W.fnOf "rest_of" "rest_of" (defArgs s_rest_of) (defBody s_rest_of) (defScope s_rest_of) .none kV16 dc16 pm16 an16 cd16 ct16), sl16⟩) (c16 : PySem.W.codeIn K cd16 "rest_of" = true) (k16 : PySem.W.keepIn K (.ref f16) = true)
    (a17 : PySem.W.nsIn K mainGlobals "joined" = some (some (.ref f17))) (l17 : K.lookup f17 = some ⟨oc17, od17, .func (PySem.W.fnOf "joined" "joined" (defArgs s_joined) (defBody s_joined) (defScope s_joined) .none kV17 dc17 pm17 an17 cd17 ct17), sl17⟩) (c17 : PySem.W.codeIn K cd17 "joined" = true) (k17 : PySem.W.keepIn K (.ref f17) = true)
    (a18 : PySem.W.nsIn K mainGlobals "earned_with" = some (some (.ref f18))) (l18 : K.lookup f18 = some ⟨oc18, od18, .func (PySem.W.fnOf "earned_with" "earned_with" (defArgs s_earned_with) (defBody s_earned_with) (defScope s_earned_with) .none kV18 dc18 pm18 an18 cd18 ct18), sl18⟩) (c18 : PySem.W.codeIn K cd18 "earned_with" = true) (k18 : PySem.W.keepIn K (.ref f18) = true)
    (a19 : PySem.W.nsIn K mainGlobals "below" = some (some (.ref f19))) (l19 : K.lookup f19 = some ⟨oc19, od19, .func (PySem.W.fnOf "below" "below" (defArgs s_below) (defBody s_below) (defScope s_below) .none kV19 dc19 pm19 an19 cd19 ct19), sl19⟩) (c19 : PySem.W.codeIn K cd19 "below" = true) (k19 : PySem.W.keepIn K (.ref f19) = true)
    (a20 : PySem.W.nsIn K mainGlobals "greatest" = some (some (.ref f20))) (l20 : K.lookup f20 = some ⟨oc20, od20, .func (PySem.W.fnOf "greatest" "greatest" (defArgs s_greatest) (defBody s_greatest) (defScope s_greatest) .none kV20 dc20 pm20 an20 cd20 ct20), sl20⟩) (c20 : PySem.W.codeIn K cd20 "greatest" = true) (k20 : PySem.W.keepIn K (.ref f20) = true)
    (a21 : PySem.W.nsIn K mainGlobals "going_off" = some (some (.ref f21))) (l21 : K.lookup f21 = some ⟨oc21, od21, .func (PySem.W.fnOf "going_off" "going_off" (defArgs s_going_off) (defBody s_going_off) (defScope s_going_off) .none kV21 dc21 pm21 an21 cd21 ct21), sl21⟩) (c21 : PySem.W.codeIn K cd21 "going_off" = true) (k21 : PySem.W.keepIn K (.ref f21) = true)
    (a22 : PySem.W.nsIn K mainGlobals "_law_caught" = some (some (.ref f22))) (l22 : K.lookup f22 = some ⟨oc22, od22, .func (PySem.W.fnOf "_law_caught" "_law_caught" (defArgs s_l_caught) (defBody s_l_caught) (defScope s_l_caught) .none kV22 dc22 pm22 an22 cd22 ct22), sl22⟩) (c22 : PySem.W.codeIn K cd22 "_law_caught" = true) (k22 : PySem.W.keepIn K (.ref f22) = true)
    (a23 : PySem.W.nsIn K mainGlobals "_law_right" = some (some (.ref f23))) (l23 : K.lookup f23 = some ⟨oc23, od23, .func (PySem.W.fnOf "_law_right" "_law_right" (defArgs s_l_right) (defBody s_l_right) (defScope s_l_right) .none kV23 dc23 pm23 an23 cd23 ct23), sl23⟩) (c23 : PySem.W.codeIn K cd23 "_law_right" = true) (k23 : PySem.W.keepIn K (.ref f23) = true)
    (a24 : PySem.W.nsIn K mainGlobals "law" = some (some (.ref f24))) (l24 : K.lookup f24 = some ⟨oc24, od24, .func (PySem.W.fnOf "law" "law" (defArgs s_law) (defBody s_law) (defScope s_law) .none kV24 dc24 pm24 an24 cd24 ct24), sl24⟩) (c24 : PySem.W.codeIn K cd24 "law" = true) (k24 : PySem.W.keepIn K (.ref f24) = true)
    (xm : PySem.W.exmOne K (.ref C0) (.ref C8) = some true) (xa : PySem.W.kitAny K (.ref C0) [.ref C2, .ref C6, .ref C5, .ref C3, .ref C7, .ref C4, .ref C1] = some false) (xv : PySem.W.kitOne K (.ref C0) (.type "ValueError") = some true)
    (x1 : PySem.W.findIn K (.ref C0) "__getattribute__" = some (some (.builtin "BaseException.__getattribute__"))) (x2 : PySem.W.findIn K (.ref C0) "__getattr__" = some none) (x3 : PySem.W.findIn K (.ref C0) "__class__" = some (some (.builtin "object.__class__"))) (x4 : PySem.W.specialIn K (.builtin "object.__class__") "__get__" = some (some (.builtin "getset_descriptor.__get__"))) (x5 : PySem.W.takesIn K (.builtin "object.__class__") = some true) (x6 : PySem.W.mroIn K C0 (.type "object") = some true) (x7 : PySem.W.mroIn K C0 (.type "BaseException") = some true)
    {dX dP : Option Addr} {cdX cdP : ClassData} {slX slP : Array (Option Value)} {rX : List Value} {j0 j1 j2 j3 j5 : Option Value}
    (e1 : K.lookup C0 = some ⟨.type "type", dX, .cls cdX, slX⟩) (e2 : cdX.mro = .ref C0 :: .ref C8 :: rX) (e3 : slX.toList = [j0, j1, j2, j3, some (.builtin "ValueError.__new__"), j5]) (e4 : cdX.hasDel = false) (e5 : K.lookup C8 = some ⟨.type "type", dP, .cls cdP, slP⟩) (e6 : cdP.mro = .ref C8 :: rX) (e7 : PySem.W.excIn K C8 vTail "ValueError.__new__" = true) (e8 : onlyVal cdX.mro = true)
    (e9 : PySem.W.keepIn K (.ref C0) = true) (ea : PySem.W.findIn K (.ref C0) "__setattr__" = some (some (.builtin "object.__setattr__"))) (eb : PySem.W.hasDictIn K C0 = true) (en0 : PySem.W.findIn K (.ref C0) "hand" = some none) (en1 : PySem.W.findIn K (.ref C0) "choice" = some none)
    (pg : PySem.W.plainGet K C9 Str.empty = true) (hd : PySem.W.hasDictIn K C9 = true) (po : PySem.W.plainOver K C9 = true) (sa : PySem.W.findIn K (.ref C9) "__setattr__" = some (some (.builtin "object.__setattr__"))) (mk : PySem.W.makesIn K C9 = true) (kc : PySem.W.keepIn K (.ref C9) = true) (n_many : PySem.W.findIn K (.ref C9) "many" = some none) (n_cells : PySem.W.findIn K (.ref C9) "cells" = some none)
    (z0 : PySem.W.nsIn K mainGlobals "ValueError" = some none) (z1 : PySem.W.nsIn K mainGlobals "bool" = some none) (z2 : PySem.W.nsIn K mainGlobals "enumerate" = some none) (z3 : PySem.W.nsIn K mainGlobals "int" = some none) (z4 : PySem.W.nsIn K mainGlobals "isinstance" = some none) (z5 : PySem.W.nsIn K mainGlobals "len" = some none) (z6 : PySem.W.nsIn K mainGlobals "list" = some none) (z7 : PySem.W.nsIn K mainGlobals "range" = some none) (z8 : PySem.W.nsIn K mainGlobals "reversed" = some none) (z9 : PySem.W.nsIn K mainGlobals "tuple" = some none) :
    ∃ fd : FuncData, (∀ (s : Shared) (v : Value), BindsTo s fd ⟨[v], []⟩ [("_law_script", v)]) ∧ ∀ base : Heap, K.In base → base.Ns mainGlobals mg → FnOk l.prog w K mg base CX0 8 fa fd ["_law_script"] (sp_law K) := by
  have e := hfa.symm.trans (PySem.W.mg_of X G a24)
  cases e
  have F0 := fun_mk (st := s_l_cell_at) l0 c0 k0
  have b0 := F0.binds (ps := ["_law_script", "_law_k"]) fun _ _ _ _ _ _ => ar2 fun _ _ => rfl
  have F1 := fun_mk (st := s_l_sizes) l1 c1 k1
  have b1 := F1.binds (ps := ["_law_script"]) fun _ _ _ _ _ _ => ar1 fun _ => rfl
  have F2 := fun_mk (st := s_l_play) l2 c2 k2
  have b2 := F2.binds (ps := ["_law_sizes_here", "_law_number"]) fun _ _ _ _ _ _ => ar2 fun _ _ => rfl
  have F3 := fun_mk (st := s_l_order) l3 c3 k3
  have b3 := F3.binds (ps := ["_law_sizes_here"]) fun _ _ _ _ _ _ => ar1 fun _ => rfl
  have F4 := fun_mk (st := s_l_units) l4 c4 k4
  have b4 := F4.binds (ps := ["_law_script", "_law_order_here", "_law_hands"]) fun _ _ _ _ _ _ => ar3 fun _ _ _ => rfl
  have F5 := fun_mk (st := s_check_sizes) l5 c5 k5
  have b5 := F5.binds (ps := ["sizes"]) fun _ _ _ _ _ _ => ar1 fun _ => rfl
  have F6 := fun_mk (st := s_one_of_each) l6 c6 k6
  have b6 := F6.binds (ps := ["lists"]) fun _ _ _ _ _ _ => ar1 fun _ => rfl
  have F7 := fun_mk (st := s_in_order) l7 c7 k7
  have b7 := F7.binds (ps := ["sizes"]) fun _ _ _ _ _ _ => ar1 fun _ => rfl
  have F8 := fun_mk (st := s_check_cells) l8 c8 k8
  have b8 := F8.binds (ps := ["cells", "plays", "hands"]) fun _ _ _ _ _ _ => ar3 fun _ _ _ => rfl
  have F9 := fun_mk (st := s_Table_init) l9 c9 k9
  have b9 := F9.binds (ps := ["self", "sizes", "cells"]) fun _ _ _ _ _ _ => ar3 fun _ _ _ => rfl
  have F10 := fun_mk (st := s_l_choice) l10 c10 k10
  have b10 := F10.binds (ps := ["_law_cell", "_law_hand", "_law_size"]) fun _ _ _ _ _ _ => ar3 fun _ _ _ => rfl
  have F11 := fun_mk (st := s_l_whole) l11 c11 k11
  have b11 := F11.binds (ps := ["_law_found"]) fun _ _ _ _ _ _ => ar1 fun _ => rfl
  have F12 := fun_mk (st := s_l_off) l12 c12 k12
  have b12 := F12.binds (ps := ["_law_found", "_law_units_here", "_law_sizes_here", "_law_play_here"]) fun _ _ _ _ _ _ => ar4 fun _ _ _ _ => rfl
  have F13 := fun_mk (st := s_NoChoice_init) l13 c13 k13
  have b13 := F13.binds (ps := ["self", "hand", "choice"]) fun _ _ _ _ _ _ => ar3 fun _ _ _ => rfl
  have F14 := fun_mk (st := s_Table_earned) l14 c14 k14
  have b14 := F14.binds (ps := ["self", "play"]) fun _ _ _ _ _ _ => ar2 fun _ _ => rfl
  have F15 := fun_mk (st := s_Table_sizes) l15 c15 k15
  have b15 := F15.binds (ps := ["self"]) fun _ _ _ _ _ _ => ar1 fun _ => rfl
  have F16 := fun_mk (st := s_rest_of) l16 c16 k16
  have b16 := F16.binds (ps := ["play", "hand"]) fun _ _ _ _ _ _ => ar2 fun _ _ => rfl
  have F17 := fun_mk (st := s_joined) l17 c17 k17
  have b17 := F17.binds (ps := ["rest", "hand", "choice"]) fun _ _ _ _ _ _ => ar3 fun _ _ _ => rfl
  have F18 := fun_mk (st := s_earned_with) l18 c18 k18
  have b18 := F18.binds (ps := ["table", "rest", "hand", "choice"]) fun _ _ _ _ _ _ => ar4 fun _ _ _ _ => rfl
  have F19 := fun_mk (st := s_below) l19 c19 k19
  have b19 := F19.binds (ps := ["one", "other"]) fun _ _ _ _ _ _ => ar2 fun _ _ => rfl
  have F20 := fun_mk (st := s_greatest) l20 c20 k20
  have b20 := F20.binds (ps := ["fractions"]) fun _ _ _ _ _ _ => ar1 fun _ => rfl
  have F21 := fun_mk (st := s_going_off) l21 c21 k21
  have b21 := F21.binds (ps := ["table", "play"]) fun _ _ _ _ _ _ => ar2 fun _ _ => rfl
  have F22 := fun_mk (st := s_l_caught) l22 c22 k22
  have b22 := F22.binds (ps := ["_law_table", "_law_play_here"]) fun _ _ _ _ _ _ => ar2 fun _ _ => rfl
  have F23 := fun_mk (st := s_l_right) l23 c23 k23
  have b23 := F23.binds (ps := ["_law_table", "_law_sizes_here", "_law_units_here", "_law_play_here"]) fun _ _ _ _ _ _ => ar4 fun _ _ _ _ => rfl
  have F24 := fun_mk (st := s_law) l24 c24 k24
  have b24 := F24.binds (ps := ["_law_script"]) fun _ _ _ _ _ _ => ar1 fun _ => rfl
  have T : Tx K mg ⟨_, _, _, _, _, _, _, _, _, _, _, _, _, _, _, _, _, _, _, _, _, _, _, _, _, _, _, _, _, _, _, _, _, _, _, _, _, _, _, _, _, _, _, _, _, _, _, _, _, _⟩ := ⟨⟨F0, b0, PySem.W.mg_of X G a0⟩, ⟨F1, b1, PySem.W.mg_of X G a1⟩, ⟨F2, b2, PySem.W.mg_of X G a2⟩, ⟨F3, b3, PySem.W.mg_of X G a3⟩, ⟨F4, b4, PySem.W.mg_of X G a4⟩, ⟨F5, b5, PySem.W.mg_of X G a5⟩, ⟨F6, b6, PySem.W.mg_of X G a6⟩, ⟨F7, b7, PySem.W.mg_of X G a7⟩, ⟨F8, b8, PySem.W.mg_of X G a8⟩, ⟨F9, b9, by rw [gadr_of y9]; exact ⟨a9, i9, k9⟩⟩, ⟨F10, b10, PySem.W.mg_of X G a10⟩, ⟨F11, b11, PySem.W.mg_of X G a11⟩, ⟨F12, b12, PySem.W.mg_of X G a12⟩, ⟨F13, b13, by rw [gadr_of y0]; exact ⟨a13, i13, k13⟩⟩, ⟨F14, b14, by rw [gadr_of y9]; exact ⟨a14, i14, k14⟩⟩, ⟨F15, b15, by rw [gadr_of y9]; exact ⟨a15, i15, k15⟩⟩, ⟨F16, b16, PySem.W.mg_of X G a16⟩, ⟨F17, b17, PySem.W.mg_of X G a17⟩, ⟨F18, b18, PySem.W.mg_of X G a18⟩, ⟨F19, b19, PySem.W.mg_of X G a19⟩, ⟨F20, b20, PySem.W.mg_of X G a20⟩, ⟨F21, b21, PySem.W.mg_of X G a21⟩, ⟨F22, b22, PySem.W.mg_of X G a22⟩, ⟨F23, b23, PySem.W.mg_of X G a23⟩, ⟨F24, b24, PySem.W.mg_of X G a24⟩, PySem.W.mg_none_of X G z0, PySem.W.mg_none_of X G z1, PySem.W.mg_none_of X G z2, PySem.W.mg_none_of X G z3, PySem.W.mg_none_of X G z4, PySem.W.mg_none_of X G z5, PySem.W.mg_none_of X G z6, PySem.W.mg_none_of X G z7, PySem.W.mg_none_of X G z8, PySem.W.mg_none_of X G z9, by rw [gadr_of y0]; exact PySem.W.mg_of X G y0, by rw [gadr_of y1]; exact PySem.W.mg_of X G y1, by rw [gadr_of y2]; exact PySem.W.mg_of X G y2, by rw [gadr_of y3]; exact PySem.W.mg_of X G y3, by rw [gadr_of y4]; exact PySem.W.mg_of X G y4, by rw [gadr_of y5]; exact PySem.W.mg_of X G y5, by rw [gadr_of y6]; exact PySem.W.mg_of X G y6, by rw [gadr_of y7]; exact PySem.W.mg_of X G y7, by rw [gadr_of y8]; exact PySem.W.mg_of X G y8, by rw [gadr_of y9]; exact PySem.W.mg_of X G y9, by rw [gadr_of y0]; exact ⟨excI_of e1 e2 e3 e4 e5 e6 e7, a13, beq_iff_eq.mp i13, e9⟩, ExK.of (gadr_of y0) ea (excOver_of e1 e8) eb x1 x2 x7 (by intro f hf; simp only [List.mem_cons, List.not_mem_nil, or_false] at hf; rcases hf with rfl | rfl <;> first | exact en0 | exact en1), by rw [gadr_of y0, gadr_of y8]; exact xm, ⟨by simp only [List.map_cons, List.map_nil, gadr_of y0, gadr_of y1, gadr_of y2, gadr_of y3, gadr_of y4, gadr_of y5, gadr_of y6, gadr_of y7, gadr_of y8, gadr_of y9]; exact xa, by rw [gadr_of y0]; exact xv, by rw [gadr_of y0]; exact fun _ => kitx_exc x1 x2 x3 x4 x5 x6 x7⟩, by rw [gadr_of y9]; exact ⟨mk, a9, i9, kc⟩, ⟨by rw [gadr_of y9]; exact ⟨pg, hd, po, sa⟩, by rw [gadr_of y9]; exact n_many, by rw [gadr_of y9]; exact n_cells⟩⟩
  exact ⟨_, fun s v => .of_eq rfl, fun base _ _ => ok_law T⟩
theorem walk {l : PySem.W.OpenLaw} {q : Program} {loose : List Str} {XP : (Str → Option Value) → Heap → Prop} {YP : World → Heap → Prop} {d : DefRec} {K : Params → PySem.W.Frag} (hn : l.most = some 63) (hdf : d.params.defaults = [])
    (hY : ∀ (w : World) (h : Heap), YP w h → (K w.params).In h)
    (F : ∀ (w : World) (mg : Str → Option Value) (fa : Addr) (h : Heap), (K w.params).In h → h.Ns mainGlobals mg → mg d.name = some (.ref fa) →
      ∃ fd : FuncData, (∀ (s : Shared) (u : Value), BindsTo s fd ⟨[u], []⟩ [("_law_script", u)]) ∧ ∀ base : Heap, (K w.params).In base → base.Ns mainGlobals mg → FnOk l.prog w (K w.params) mg base CX0 8 fa fd ["_law_script"] (sp_law (K w.params))) :
    PySem.W.WalkO q loose XP YP l.row.toRowW d [] (fun f vs => PySem.call f vs) :=
  L2.walk_of (n := 63) (k := 8) (x := "_law_script") (CX := fun _ => CX0) (sp := fun w => sp_law (K w.params)) hn (by decide) hdf ⟨rfl, by decide, by decide⟩ hY F (fun _ _ a ns hl _ hS => ⟨a, ns, rfl, hS, hl, fun _ => rfl⟩) fun _ _ _ _ _ z => z
end My
open PySem PySem.W PyProof.Rows
set_option maxRecDepth 100000 in
set_option maxHeartbeats 0 in
theorem PySem.Challenge.cw_mixplay_k18_off_from_no_play_holds : PySem.Challenge.rw_mixplay_k18_off_from_no_play.Holds := by
  w_on; o_law; z_head; (case hw => w_witness2)
  k_fill
  refine L2.walk_x (fun _ => rfl) (My.walk (l := PySem.Challenge.rw_mixplay_k18_off_from_no_play) rfl rfl (fun w h Y => Y) ?F)
  case F =>
    intro w mg fa h KX G hmg
    refine' My.all_mk KX G hmg ?y0 ?y1 ?y2 ?y3 ?y4 ?y5 ?y6 ?y7 ?y8 ?y9 ?a0 ?l0 ?c0 ?k0 ?a1 ?l1 ?c1 ?k1 ?a2 ?l2 ?c2 ?k2 ?a3 ?l3 ?c3 ?k3 ?a4 ?l4 ?c4 ?k4 ?a5 ?l5 ?c5 ?k5 ?a6 ?l6 ?c6 ?k6 ?a7 ?l7 ?c7 ?k7 ?a8 ?l8 ?c8 ?k8 ?a9 ?i9 ?l9 ?c9 ?k9 ?a10 ?l10 ?c10 ?k10 ?a11 ?l11 ?c11 ?k11 ?a12 ?l12 ?c12 ?k12 ?a13 ?i13 ?l13 ?c13 ?k13 ?a14 ?i14 ?l14 ?c14 ?k14 ?a15 ?i15 ?l15 ?c15 ?k15 ?a16 ?l16 ?c16 ?k16 ?a17 ?l17 ?c17 ?k17 ?a18 ?l18 ?c18 ?k18 ?a19 ?l19 ?c19 ?k19 ?a20 ?l20 ?c20 ?k20 ?a21 ?l21 ?c21 ?k21 ?a22 ?l22 ?c22 ?k22 ?a23 ?l23 ?c23 ?k23 ?a24 ?l24 ?c24 ?k24 ?xm ?xa ?xv ?x1 ?x2 ?x3 ?x4 ?x5 ?x6 ?x7 ?e1 ?e2 ?e3 ?e4 ?e5 ?e6 ?e7 ?e8 ?e9 ?ea ?eb ?en0 ?en1 ?pg ?hd ?po ?sa ?mk ?kc ?n_many ?n_cells ?z0 ?z1 ?z2 ?z3 ?z4 ?z5 ?z6 ?z7 ?z8 ?z9
    (case y0 => k_is)
    (case y1 => k_is)
    (case y2 => k_is)
    (case y3 => k_is)
    (case y4 => k_is)
    (case y5 => k_is)
    (case y6 => k_is)
    (case y7 => k_is)
    (case y8 => k_is)
    (case y9 => k_is)
    (case a0 => k_is)
    (case l0 => k_is)
    (case c0 => k_is)
    (case k0 => k_is)
    (case a1 => k_is)
    (case l1 => k_is)
    (case c1 => k_is)
    (case k1 => k_is)
    (case a2 => k_is)
    (case l2 => k_is)
    (case c2 => k_is)
    (case k2 => k_is)
    (case a3 => k_is)
    (case l3 => k_is)
    (case c3 => k_is)
    (case k3 => k_is)
    (case a4 => k_is)
    (case l4 => k_is)
    (case c4 => k_is)
    (case k4 => k_is)
    (case a5 => k_is)
    (case l5 => k_is)
    (case c5 => k_is)
    (case k5 => k_is)
    (case a6 => k_is)
    (case l6 => k_is)
    (case c6 => k_is)
    (case k6 => k_is)
    (case a7 => k_is)
    (case l7 => k_is)
    (case c7 => k_is)
    (case k7 => k_is)
    (case a8 => k_is)
    (case l8 => k_is)
    (case c8 => k_is)
    (case k8 => k_is)
    (case a9 => k_is)
    (case i9 => k_is)
    (case l9 => k_is)
    (case c9 => k_is)
    (case k9 => k_is)
    (case a10 => k_is)
    (case l10 => k_is)
    (case c10 => k_is)
    (case k10 => k_is)
    (case a11 => k_is)
    (case l11 => k_is)
    (case c11 => k_is)
    (case k11 => k_is)
    (case a12 => k_is)
    (case l12 => k_is)
    (case c12 => k_is)
    (case k12 => k_is)
    (case a13 => k_is)
    (case i13 => k_is)
    (case l13 => k_is)
    (case c13 => k_is)
    (case k13 => k_is)
    (case a14 => k_is)
    (case i14 => k_is)
    (case l14 => k_is)
    (case c14 => k_is)
    (case k14 => k_is)
    (case a15 => k_is)
    (case i15 => k_is)
    (case l15 => k_is)
    (case c15 => k_is)
    (case k15 => k_is)
    (case a16 => k_is)
    (case l16 => k_is)
    (case c16 => k_is)
    (case k16 => k_is)
    (case a17 => k_is)
    (case l17 => k_is)
    (case c17 => k_is)
    (case k17 => k_is)
    (case a18 => k_is)
    (case l18 => k_is)
    (case c18 => k_is)
    (case k18 => k_is)
    (case a19 => k_is)
    (case l19 => k_is)
    (case c19 => k_is)
    (case k19 => k_is)
    (case a20 => k_is)
    (case l20 => k_is)
    (case c20 => k_is)
    (case k20 => k_is)
    (case a21 => k_is)
    (case l21 => k_is)
    (case c21 => k_is)
    (case k21 => k_is)
    (case a22 => k_is)
    (case l22 => k_is)
    (case c22 => k_is)
    (case k22 => k_is)
    (case a23 => k_is)
    (case l23 => k_is)
    (case c23 => k_is)
    (case k23 => k_is)
    (case a24 => k_is)
    (case l24 => k_is)
    (case c24 => k_is)
    (case k24 => k_is)
    (case xm => kts_exm)
    (case xa => kit_is)
    (case xv => kit_is)
    (case x1 => k_is)
    (case x2 => k_is)
    (case x3 => k_is)
    (case x4 => k_is)
    (case x5 => k_is)
    (case x6 => k_is)
    (case x7 => k_is)
    (case e1 => k_is)
    (case e2 => rfl)
    (case e3 => rfl)
    (case e4 => rfl)
    (case e5 => k_is)
    (case e6 => rfl)
    (case e7 => k_exc)
    (case e8 => rfl)
    (case e9 => k_is)
    (case ea => k_is)
    (case eb => k_is)
    (case en0 => k_is)
    (case en1 => k_is)
    (case pg => k_is)
    (case hd => k_is)
    (case po => k_is)
    (case sa => k_is)
    (case mk => k_is)
    (case kc => k_is)
    (case n_many => k_is)
    (case n_cells => k_is)
    (case z0 => k_is)
    (case z1 => k_is)
    (case z2 => k_is)
    (case z3 => k_is)
    (case z4 => k_is)
    (case z5 => k_is)
    (case z6 => k_is)
    (case z7 => k_is)
    (case z8 => k_is)
    (case z9 => k_is)
