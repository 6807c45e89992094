import PyProof.Rows.All
import Wide.All
import OpenK.AllK
import Wide.FinOn
import Lean
import PyProof.EqAt
import PyProof.EqKinds
import PyProof.TupleCall
import PySem.Challenge.RW_knotless_k22_strands_refused
set_option Elab.async false
set_option linter.all false
set_option maxRecDepth 100000
/-! THE HAND LAYER, for ints, bools, texts, own classes, LISTS and tuples (index, slices, in, append, pop ..), calls, loops. Paste it whole ahead of your own text; what your proof does not reach may be deleted. -/
namespace L2
open PySem PySem.Spec PyProof.Rows

/-- a key: an int or a str -/
noncomputable abbrev Key := Sum Int Str
noncomputable def keyIs : Key → Value → Bool
  | .inl k, v => Value.isInt k v
  | .inr x, v => Value.isStrOf x v
noncomputable def keyH (w : World) : Key → Int
  | .inl k => hashInt k
  | .inr x => hashStr w x
theorem keyIs_shape : ∀ {k : Key} {v : Value}, keyIs k v = true → (∃ i t, k = Sum.inl i ∧ v = Value.int i t) ∨ (∃ x t, k = Sum.inr x ∧ v = Value.str x t)
  | .inl i, v, h => by
    obtain ⟨t, e⟩ := Value.isInt_shape (k := i) (v := v) h
    exact .inl ⟨i, t, rfl, e⟩
  | .inr x, v, h => by
    obtain ⟨t, e⟩ := Value.isStrOf_shape (x := x) (v := v) h
    exact .inr ⟨x, t, rfl, e⟩
theorem key_ll (a b : Int) : decide ((Sum.inl a : Key) = Sum.inl b) = (a == b) := by
  by_cases e : a = b
  · subst e; simp
  · have h : ¬ (Sum.inl a : Key) = Sum.inl b := fun q => e (Sum.inl.inj q)
    rw [decide_eq_false h]
    exact (beq_eq_false_iff_ne.mpr e).symm
theorem key_rr (a b : Str) : decide ((Sum.inr a : Key) = Sum.inr b) = decide (a = b) := by
  by_cases e : a = b
  · subst e; simp
  · have h : ¬ (Sum.inr a : Key) = Sum.inr b := fun q => e (Sum.inr.inj q)
    rw [decide_eq_false h, decide_eq_false e]
theorem key_lr (a : Int) (b : Str) : decide ((Sum.inl a : Key) = Sum.inr b) = false := decide_eq_false (fun q => nomatch q)
theorem key_rl (a : Str) (b : Int) : decide ((Sum.inr a : Key) = Sum.inl b) = false := decide_eq_false (fun q => nomatch q)

noncomputable def mixKind (prog : Program) (w : World) : PySem.KeyKind prog w Key where
  is := keyIs
  hash := keyH w
  inj := fun v a b ha hb => by
    rcases keyIs_shape ha with ⟨i, t, rfl, rfl⟩ | ⟨x, t, rfl, rfl⟩
    · rcases keyIs_shape hb with ⟨j, u, rfl, e⟩ | ⟨y, u, rfl, e⟩
      · injection e with e1 _; rw [e1]
      · exact nomatch e
    · rcases keyIs_shape hb with ⟨j, u, rfl, e⟩ | ⟨y, u, rfl, e⟩
      · exact nomatch e
      · injection e with e1 _; rw [e1]
  byValue := fun k v h => by
    rcases keyIs_shape h with ⟨i, t, rfl, rfl⟩ | ⟨x, t, rfl, rfl⟩ <;> rfl
  pyHash := fun hv h => by
    rcases keyIs_shape hv with ⟨i, t, rfl, rfl⟩ | ⟨x, t, rfl, rfl⟩
    · exact wpAny_pyHash_int h
    · exact wpAny_pyHash_str h
  eqBool := fun hu hv h => by
    rcases keyIs_shape hu with ⟨i, t, rfl, rfl⟩ | ⟨x, t, rfl, rfl⟩
    · rcases keyIs_shape hv with ⟨j, u, rfl, rfl⟩ | ⟨y, u, rfl, rfl⟩
      · rw [key_ll] at h; exact wpAny_eqBool_int h
      · rw [key_lr] at h; exact SeqAt.EqAt.int_str i t y u _ _ _ _ h
    · rcases keyIs_shape hv with ⟨j, u, rfl, rfl⟩ | ⟨y, u, rfl, rfl⟩
      · rw [key_rl] at h; exact SeqAt.EqAt.str_int x t j u _ _ _ _ h
      · rw [key_rr] at h; exact wpAny_eqBool_str h
  «strs» := fun k x t v h => by
    rcases keyIs_shape h with ⟨i, u, rfl, e⟩ | ⟨y, u, rfl, e⟩
    · exact nomatch e
    · injection e with e1 _
      subst e1
      cases v <;> rfl

end L2

namespace L2
open PySem PySem.Spec PyProof.Rows

/-- a value, without the heap -/
inductive V where
  | non | bl (b : Bool) | int (i : Int) | str (x : Str) | byt (b : Array UInt8) | flt (b : UInt64) | ref (a : Addr) | ty (n : String)
  deriving DecidableEq

noncomputable def RelV : V → Value → Prop
  | .non, u => u = Value.none
  | .bl b, u => u = Value.bool b
  | .int i, u => ∃ t, u = Value.int i t
  | .str x, u => ∃ t, u = Value.str x t
  | .byt b, u => ∃ t, u = Value.bytes b t
  | .flt b, u => ∃ t, u = Value.float b t
  | .ref a, u => u = Value.ref a
  | .ty n, u => u = Value.type n

noncomputable abbrev Vals : List V → List Value → Prop := Paired RelV
theorem Vals.length {xs : List V} {us : List Value} (r : Vals xs us) : xs.length = us.length := Paired.length r
theorem Vals.get : ∀ {xs : List V} {us : List Value} {i : Nat} {x : V}, Vals xs us → xs[i]? = some x → ∃ u, us[i]? = some u ∧ RelV x u
  | _, _, _, _, .nil, e => by simp at e
  | _, _, 0, _, .cons r _, e => by simp at e; subst e; exact ⟨_, rfl, r⟩
  | _, _, i + 1, x, .cons _ t, e => by
    obtain ⟨u, h1, h2⟩ := Vals.get (i := i) (x := x) t (by simpa using e)
    exact ⟨u, by simpa using h1, h2⟩
theorem Vals.set {x : V} {u : Value} (r : RelV x u) : ∀ {xs : List V} {us : List Value} (i : Nat), Vals xs us → Vals (xs.set i x) (us.set i u)
  | _, _, _, .nil => .nil
  | _, _, 0, .cons _ t => .cons r t
  | _, _, i + 1, .cons q t => .cons q (Vals.set r i t)
theorem Vals.append : ∀ {xs ys : List V} {us ws : List Value}, Vals xs us → Vals ys ws → Vals (xs ++ ys) (us ++ ws)
  | _, _, _, _, .nil, s => s
  | _, _, _, _, .cons r t, s => .cons r (Vals.append t s)
theorem Vals.take : ∀ {xs : List V} {us : List Value} (n : Nat), Vals xs us → Vals (xs.take n) (us.take n)
  | _, _, 0, _ => .nil
  | _, _, _ + 1, .nil => .nil
  | _, _, n + 1, .cons r t => .cons r (Vals.take n t)
theorem Vals.drop : ∀ {xs : List V} {us : List Value} (n : Nat), Vals xs us → Vals (xs.drop n) (us.drop n)
  | _, _, 0, r => r
  | _, _, _ + 1, .nil => .nil
  | _, _, n + 1, .cons _ t => Vals.drop n t
noncomputable def RelO : Option V → Option Value → Prop
  | some v, some u => RelV v u
  | none, none => True
  | _, _ => False
noncomputable def KV {κ : Type} : List (κ × V) → List (κ × Value) → Prop := Paired fun (p : κ × V) (q : κ × Value) => p.1 = q.1 ∧ RelV p.2 q.2

/-- a key of a dict (00_mix): an int or a text -/
noncomputable def kV : Key → V
  | .inl i => .int i
  | .inr x => .str x

/-- what stands at a tracked address -/
inductive HO where
  /-- a list -/
  | lst (xs : List V)
  /-- a tuple (never changes) -/
  | tup (xs : List V)
  /-- a dict whose keys are ints and texts; one whose keys are tuples of ints and texts (the empty one is both) -/
  | dK (kvs : List (Key × V)) | dT (kvs : List (List Key × V))
  /-- a set of ints: its members, its size -/
  | set (S : Int → Bool) (n : Nat)
  /-- an instance of the class at C, its dict at dx, its attributes -/
  | ins (C dx : Addr) (fs : List (Str × V))
  /-- the dict of the instance at x -/
  | own (x : Addr)
  /-- the dict of an exception -/
  | xd (fs : List (Str × V))
  /-- a bound method, f of x -/
  | met (f x : Addr)
  /-- a range object lo, lo + 1, .. below hi -/
  | rng (lo hi : Int)
  /-- a thing that is known to the object (the script; a dict while a loop walks it): read, never written while it is so -/
  | frz (o : Obj) (u : HO)
  /-- a code object's table -/
  | tbl (ps : Array Value)
  /-- any other thing, by what is true of its one object (a def of one's own: SetO a S n := HO.ext fun h => ..) -/
  | ext (φ : Heap → Prop)

noncomputable abbrev Hp := Addr → Option HO
noncomputable def upd (H : Hp) (a : Addr) (o : HO) : Hp := fun b => if b = a then some o else H b
theorem upd_same {H : Hp} {a : Addr} {o : HO} : upd H a o a = some o := by unfold upd; rw [if_pos rfl]
theorem upd_ne {H : Hp} {a b : Addr} {o : HO} (h : b ≠ a) : upd H a o b = H b := by unfold upd; rw [if_neg h]
/-- two objects of different content stand apart -/
theorem ne_of {H : Hp} {a b : Addr} {o u : HO} (h : H a = some o) (h' : H b = some u) (d : o ≠ u) : a ≠ b := by
  intro e; subst e; rw [h] at h'; exact d (Option.some.inj h')
theorem ne_of_none {H : Hp} {a b : Addr} {o : HO} (h : H a = some o) (h' : H b = none) : a ≠ b := by
  intro e; subst e; rw [h] at h'; cases h'

section
variable (P : Program) (w : World)
noncomputable def ObjOk (H : Hp) (h : Heap) (a : Addr) : HO → Prop
  | .lst xs => xs.length ≤ sizeLine ∧ ∃ (its : List Value) (n : Nat), Vals xs its ∧ h.get? a = some { cls := .type "list", data := .seq its.toArray n }
  | .tup xs => xs.length ≤ sizeLine ∧ ∃ its : List Value, Vals xs its ∧ IsTup h a its.toArray
  | .dK kvs => kvs.length ≤ sizeLine ∧ (a == sysModules) = false ∧ ∃ vs, KV kvs vs ∧ h.DictOf (mixKind P w) a vs
  | .dT kvs => kvs.length ≤ sizeLine ∧ (a == sysModules) = false ∧ ∃ xs : List (List Key × Addr × Value),
      Paired (fun (p : List Key × V) (q : List Key × Addr × Value) => p.1 = q.1 ∧ H q.2.1 = some (.tup (p.1.map kV)) ∧ RelV p.2 q.2.2) kvs xs ∧
      ∃ o es ep, h.get? a = some o ∧ o.ExactDict ∧ o.data = .dict es ep ∧ es.toList = xs.map (entryOfKey (tupleKind (mixKind P w))) ∧ (xs.map (·.1)).Nodup
  | .set S n => h.SetOf (intKind P w) a S n
  | .ins C dx fs => H dx = some (.own a) ∧ fs.length ≤ 1000 ∧ dx ≠ a ∧ h.get? a = some (PySem.W.instObj C dx) ∧
      ∃ mA, h.Ns1 dx mA ∧ (∀ f, RelO (fs.lookup f) (mA f)) ∧ PySem.Within mA (fs.map (·.1))
  | .own _ => ∃ o, h.get? a = some o
  | .xd fs => ∃ mA, h.Ns1 a mA ∧ ∀ f, RelO (fs.lookup f) (mA f)
  | .rng lo hi => ∃ t u v, h.get? a = some { cls := .type "range", data := .fields #[.int lo t, .int hi u, .int 1 v] }
  | .frz o u => h.get? a = some o ∧ ObjOk H h a u
  | .tbl ps => h.get? a = some { cls := .none, data := .fields ps }
  | .met f x => h.get? a = some (PySem.W.methodObj (.ref f) (.ref x))
  | .ext φ => φ h ∧ (∃ o, h.get? a = some o) ∧ ∀ h1 h2 : Heap, φ h1 → (∀ o, h1.get? a = some o → h2.get? a = some o) → φ h2
/-- the abstract heap is held -/
noncomputable def HOk (H : Hp) (h : Heap) : Prop := ∀ a o, H a = some o → ObjOk P w H h a o
end

section
variable {P : Program} {w : World} {H H' : Hp} {h h' : Heap} {a : Addr} {o : HO}
theorem ObjOk.lt (x : ObjOk P w H h a o) : a < h.objs.size := by
  cases o with
  | lst xs => obtain ⟨_, _, _, _, e⟩ := x; exact Heap.lt_size e
  | tup xs => obtain ⟨_, _, _, p⟩ := x; exact p.lt
  | dK kvs => obtain ⟨_, _, _, _, o, _, _, e, _⟩ := x; exact Heap.lt_size e
  | dT kvs => obtain ⟨_, _, _, _, o, _, _, e, _⟩ := x; exact Heap.lt_size e
  | set S n => obtain ⟨o, _, _, _, e, _⟩ := x; exact Heap.lt_size e
  | ins C dx fs => obtain ⟨_, _, _, e, _⟩ := x; exact Heap.lt_size e
  | own y => obtain ⟨_, e⟩ := x; exact Heap.lt_size e
  | xd fs => obtain ⟨_, ⟨_, _, _, e, _⟩, _⟩ := x; exact Heap.lt_size e
  | rng lo hi => obtain ⟨_, _, _, e⟩ := x; exact Heap.lt_size e
  | frz ob u => obtain ⟨e, _⟩ := x; exact Heap.lt_size e
  | tbl ps => exact Heap.lt_size (show h.get? a = some _ from x)
  | met f y => exact Heap.lt_size (show h.get? a = some _ from x)
  | ext φ => obtain ⟨_, ⟨_, e⟩, _⟩ := x; exact Heap.lt_size e
theorem Paired.mapP {α β : Type} {F G : α → β → Prop} : ∀ {l₁ : List α} {l₂ : List β}, Paired F l₁ l₂ → (∀ a b, F a b → G a b) → Paired G l₁ l₂
  | _, _, .nil, _ => .nil
  | _, _, .cons r t, f => .cons (f _ _ r) (Paired.mapP t f)
/-- what an object's description leans on: its own object, its own dict, the tuples -/
theorem ObjOk.stay (x : ObjOk P w H h a o) (k : ∀ b u, (b = a ∨ H b = some (.own a)) → h.get? b = some u → h'.get? b = some u)
    (ho : ∀ b, H b = some (.own a) → H' b = some (.own a)) (ht : ∀ b xs, H b = some (.tup xs) → H' b = some (.tup xs)) : ObjOk P w H' h' a o := by
  induction o with
  | lst xs => obtain ⟨z, its, n, r, e⟩ := x; exact ⟨z, its, n, r, k _ _ (.inl rfl) e⟩
  | tup xs => obtain ⟨z, its, r, ob, e, c⟩ := x; exact ⟨z, its, r, ob, k _ _ (.inl rfl) e, c⟩
  | dK kvs => obtain ⟨z, y, vs, r, ob, es, ep, e, c⟩ := x; exact ⟨z, y, vs, r, ob, es, ep, k _ _ (.inl rfl) e, c⟩
  | dT kvs =>
    obtain ⟨z, y, xs, r, ob, es, ep, e, c⟩ := x
    exact ⟨z, y, xs, Paired.mapP r fun p q z => ⟨z.1, ht _ _ z.2.1, z.2.2⟩, ob, es, ep, k _ _ (.inl rfl) e, c⟩
  | set S n => obtain ⟨ob, es, ep, t, e, c⟩ := x; exact ⟨ob, es, ep, t, k _ _ (.inl rfl) e, c⟩
  | ins C dx fs =>
    obtain ⟨d, z, ne, e, mA, ⟨od, es, ep, e2, c⟩, r⟩ := x
    exact ⟨ho _ d, z, ne, k _ _ (.inl rfl) e, mA, ⟨od, es, ep, k _ _ (.inr d) e2, c⟩, r⟩
  | own y => obtain ⟨ob, e⟩ := x; exact ⟨ob, k _ _ (.inl rfl) e⟩
  | xd fs => obtain ⟨mA, ⟨od, es, ep, e, c⟩, r⟩ := x; exact ⟨mA, ⟨od, es, ep, k _ _ (.inl rfl) e, c⟩, r⟩
  | rng lo hi => obtain ⟨t, u, v, e⟩ := x; exact ⟨t, u, v, k _ _ (.inl rfl) e⟩
  | frz ob u ih => obtain ⟨e, q⟩ := x; exact ⟨k _ _ (.inl rfl) e, ih q⟩
  | tbl ps =>
    have e : h.get? a = some { cls := .none, data := .fields ps } := x
    show h'.get? a = some { cls := .none, data := .fields ps }
    exact k a _ (.inl rfl) e
  | met f y =>
    have e : h.get? a = some (PySem.W.methodObj (.ref f) (.ref y)) := x
    show h'.get? a = some (PySem.W.methodObj (.ref f) (.ref y))
    exact k a _ (.inl rfl) e
  | ext φ => obtain ⟨p, ⟨o, e⟩, st⟩ := x; exact ⟨st _ _ p fun o q => k _ _ (.inl rfl) q, ⟨o, k _ _ (.inl rfl) e⟩, st⟩
theorem HOk.lt (x : HOk P w H h) (e : H a = some o) : a < h.objs.size := (x a o e).lt
theorem HOk.fresh (x : HOk P w H h) (e : h.objs.size ≤ a) : H a = none := by
  cases q : H a with
  | none => rfl
  | some u => exact absurd (Nat.lt_of_lt_of_le (x.lt q) e) (Nat.lt_irrefl _)
/-- every object of the heap is kept -/
theorem HOk.kept (x : HOk P w H h) (k : ∀ b u, h.get? b = some u → h'.get? b = some u) : HOk P w H h' := fun a o e =>
  (x a o e).stay (fun b u _ q => k b u q) (fun _ q => q) fun _ _ q => q
/-- a new object is laid and tracked -/
theorem HOk.laid (x : HOk P w H h) (k : ∀ b u, h.get? b = some u → h'.get? b = some u) (hp : h.objs.size ≤ a) (new : ObjOk P w (upd H a o) h' a o) : HOk P w (upd H a o) h' := fun b u e => by
  have hn := x.fresh hp
  by_cases hb : b = a
  · subst hb; rw [upd_same] at e; cases e; exact new
  · rw [upd_ne hb] at e
    exact (x b u e).stay (fun c v _ q => k c v q) (fun c q => by rw [upd_ne (ne_of_none q hn)]; exact q) fun c xs q => by rw [upd_ne (ne_of_none q hn)]; exact q
end

/-- what may be read as u: it is u, or a known u -/
noncomputable def Rd (H : Hp) (a : Addr) (u : HO) : Prop := H a = some u ∨ ∃ o, H a = some (.frz o u)
theorem Rd.ok {P : Program} {w : World} {H : Hp} {h : Heap} {a : Addr} {u : HO} (r : Rd H a u) (x : HOk P w H h) : ObjOk P w H h a u := by
  rcases r with r | ⟨o, r⟩
  · exact x a u r
  · obtain ⟨_, q⟩ := x a _ r
    exact q
/-- what may be written -/
noncomputable def Mut : Option HO → Prop
  | some (.lst _) => True
  | some (.dK _) => True
  | some (.dT _) => True
  | some (.set _ _) => True
  | some (.ins _ _ _) => True
  | some (.ext _) => True
  | _ => False
section
variable {P : Program} {w : World} {H : Hp} {h h' : Heap} {x e : Addr} {o' : HO}
/-- the object at e is changed: x itself, or the dict of the instance x -/
theorem HOk.write (ok : HOk P w H h) (mu : Mut (H x)) (he : e = x ∨ H e = some (.own x)) (k : ∀ b u, b ≠ e → h.get? b = some u → h'.get? b = some u) (heo : ∃ u, h'.get? e = some u)
    (new : ObjOk P w (upd H x o') h' x o') : HOk P w (upd H x o') h' := fun b u q => by
  have nown : ∀ c y, H c = some (.own y) → c ≠ x := fun c y r z => by subst z; rw [r] at mu; exact mu
  have ntup : ∀ c xs, H c = some (.tup xs) → c ≠ x := fun c xs r z => by subst z; rw [r] at mu; exact mu
  by_cases hb : b = x
  · subst hb; rw [upd_same] at q; cases q; exact new
  · rw [upd_ne hb] at q
    by_cases hbe : b = e
    · have q' : H b = some (.own x) := by
        rcases he with z | z
        · exact absurd (hbe.trans z) hb
        · rw [hbe]; exact z
      rw [q] at q'; cases q'
      obtain ⟨v, hv⟩ := heo
      exact ⟨v, by rw [hbe]; exact hv⟩
    · refine (ok b u q).stay (fun c v hc r => k c v ?_ r) (fun c r => by rw [upd_ne (nown c b r)]; exact r) fun c xs r => by rw [upd_ne (ntup c xs r)]; exact r
      rcases hc with rfl | hc
      · exact hbe
      · rintro rfl
        rcases he with z | z
        · exact nown c b hc z
        · rw [hc] at z; cases z; exact hb rfl
end

/-! ### kept unless tracked; of the frames at fs (the callers') the slots may change (an exception that passes writes there); of the records at ex (iterators) nothing is said -/
structure Un (fs ex : List Addr) (H H' : Hp) (h h' : Heap) : Prop where
  keep : ∀ b o, h.get? b = some o → H b = none → b ∉ fs → b ∉ ex → h'.get? b = some o
  slot : ∀ b o, h.get? b = some o → H b = none → b ∈ fs → b ∉ ex → ∃ sl, h'.get? b = some { o with slots := sl }
  free : ∀ b o, h.get? b = some o → H b = none → b ∉ ex → H' b = none
  there : ∀ b o, h.get? b = some o → b ∉ ex → ∃ o', h'.get? b = some o'
  tups : ∀ b xs, H b = some (.tup xs) → H' b = some (.tup xs)
  frzs : ∀ b o u, H b = some (.frz o u) → H' b = some (.frz o u)
  tbls : ∀ b ps, H b = some (.tbl ps) → ∃ more, H' b = some (.tbl (ps ++ more))
section
variable {fs fs' ex ex' : List Addr} {H H1 H2 : Hp} {h h1 h2 h' : Heap} {a x e : Addr} {o : HO}
theorem Un.any (u : Un fs ex H H1 h h1) {b : Addr} {ob : Obj} (q : h.get? b = some ob) (n : H b = none) (hx : b ∉ ex) : ∃ sl, h1.get? b = some { ob with slots := sl } := by
  by_cases hb : b ∈ fs
  · exact u.slot b ob q n hb hx
  · exact ⟨ob.slots, u.keep b ob q n hb hx⟩
theorem Un.trans (a : Un fs ex H H1 h h1) (b : Un fs ex H1 H2 h1 h2) : Un fs ex H H2 h h2 where
  keep := fun c ob q n hc hx => b.keep c ob (a.keep c ob q n hc hx) (a.free c ob q n hx) hc hx
  slot := fun c ob q n hc hx => by
    obtain ⟨sl, e1⟩ := a.slot c ob q n hc hx
    obtain ⟨sl', e2⟩ := b.slot c _ e1 (a.free c ob q n hx) hc hx
    exact ⟨sl', e2⟩
  free := fun c ob q n hx => by
    obtain ⟨o', e1⟩ := a.there c ob q hx
    exact b.free c o' e1 (a.free c ob q n hx) hx
  there := fun c ob q hx => by
    obtain ⟨o', e1⟩ := a.there c ob q hx
    exact b.there c o' e1 hx
  tups := fun c xs q => b.tups c xs (a.tups c xs q)
  frzs := fun c ob xs q => b.frzs c ob xs (a.frzs c ob xs q)
  tbls := fun c ps q => by
    obtain ⟨m1, e1⟩ := a.tbls c ps q
    obtain ⟨m2, e2⟩ := b.tbls c _ e1
    exact ⟨m1 ++ m2, by rw [e2, Array.append_assoc]⟩
theorem Un.kept (k : ∀ b u, h.get? b = some u → h'.get? b = some u) : Un fs ex H H h h' :=
  ⟨fun b ob q _ _ _ => k b ob q, fun b ob q _ _ _ => ⟨ob.slots, k b ob q⟩, fun _ _ _ n _ => n, fun b ob q _ => ⟨ob, k b ob q⟩, fun _ _ q => q, fun _ _ _ q => q, fun _ ps q => ⟨#[], by rw [q]; simp⟩⟩
theorem Un.refl : Un fs ex H H h h := Un.kept fun _ _ q => q
theorem Un.laid (k : ∀ b u, h.get? b = some u → h'.get? b = some u) (hp : h.objs.size ≤ a) (hn : H a = none) : Un fs ex H (upd H a o) h h' where
  keep := fun b u q _ _ _ => k b u q
  slot := fun b u q _ _ _ => ⟨u.slots, k b u q⟩
  free := fun b u q n _ => by rw [upd_ne (Nat.ne_of_lt (Nat.lt_of_lt_of_le (Heap.lt_size q) hp))]; exact n
  there := fun b u q _ => ⟨u, k b u q⟩
  tups := fun b xs q => by rw [upd_ne (ne_of_none q hn)]; exact q
  frzs := fun b u xs q => by rw [upd_ne (ne_of_none q hn)]; exact q
  tbls := fun b ps q => ⟨#[], by rw [upd_ne (ne_of_none q hn), q]; simp⟩
theorem Un.write (mu : Mut (H x)) (he : e = x ∨ H e = some (.own x)) (k : ∀ b u, b ≠ e → h.get? b = some u → h'.get? b = some u) (heo : ∃ u, h'.get? e = some u) : Un fs ex H (upd H x o) h h' := by
  have hx : ∀ b, H b = none → b ≠ x := fun b n z => by subst z; rw [n] at mu; exact mu
  have hb : ∀ b, H b = none → b ≠ e := fun b n z => by
    subst z
    rcases he with r | r
    · exact hx b n r
    · rw [n] at r; cases r
  have hm : ∀ b u, H b = some u → ¬ Mut (some u) → b ≠ x := fun b u q nm z => by subst z; rw [q] at mu; exact nm mu
  refine ⟨fun b u q n _ _ => k b u (hb b n) q, fun b u q n _ _ => ⟨u.slots, k b u (hb b n) q⟩, fun b u q n _ => by rw [upd_ne (hx b n)]; exact n, fun b u q _ => ?_,
    fun b xs q => by rw [upd_ne (hm b _ q fun z => z)]; exact q, fun b u xs q => by rw [upd_ne (hm b _ q fun z => z)]; exact q, fun b ps q => ⟨#[], by rw [upd_ne (hm b _ q fun z => z), q]; simp⟩⟩
  by_cases hbe : b = e
  · subst hbe; exact heo
  · exact ⟨u, k b u hbe q⟩
end

/-! ### the heap without what is tracked -/
noncomputable def trk (h : Heap) (H : Hp) : List Addr := (List.range h.objs.size).filter fun a => (H a).isSome
noncomputable def hidT (h : Heap) (H : Hp) : Heap := PySem.W.hideAll h (trk h H)
theorem hidT_size (h : Heap) (H : Hp) : (hidT h H).objs.size = h.objs.size := PySem.W.hideAll_size _ _
theorem hidT_get {h : Heap} {H : Hp} {b : Addr} {o : Obj} (e : h.get? b = some o) (n : H b = none) : (hidT h H).get? b = some o :=
  PySem.W.hideAll_get _ e fun hm => by
    have q : (H b).isSome = true := (List.mem_filter.mp hm).2
    rw [n] at q; simp at q
theorem of_hidT {h : Heap} {H : Hp} {b : Addr} {o : Obj} (e : (hidT h H).get? b = some o) : h.get? b = some o ∧ H b = none := by
  have e' : h.get? b = some o := PySem.W.of_hideAll (trk h H) e
  refine ⟨e', ?_⟩
  cases q : H b with
  | none => rfl
  | some x =>
    have hm : b ∈ trk h H := List.mem_filter.mpr ⟨List.mem_range.mpr (Heap.lt_size e'), by simp [q]⟩
    have z : (hidT h H).get? b = none := PySem.W.hideAll_none (trk h H) hm
    rw [z] at e; cases e

/-! ### OpenK's ledger, filled with every new object but one -/
noncomputable def allNews (g h : Heap) (L : Addr) : List (Addr × Obj) := (List.range h.objs.size).filterMap fun a => if a = L ∨ (g.get? a).isSome = true then none else (h.get? a).map fun o => (a, o)
noncomputable def rest (g h : Heap) (L d : Addr) : List (Addr × Obj) := (allNews g h L).filter fun p => decide (p.1 ≠ d)
end L2

namespace L2
open PySem PySem.Spec PyProof.Rows

/-- the module's facts, over the base: the heap at the law's entry without what is tracked there -/
structure Mod (K : PySem.W.Frag) (mg : Str → Option Value) (base : Heap) : Prop where
  kin : K.In base
  glob : base.Ns mainGlobals mg
  blt : ∃ mb, base.Ns builtinsNs mb ∧ ∀ x : Str, x ≠ "__name__" → mb x = bootBuiltins x
  nolimit : base.NoLimit

/-- the context: a def's body (or a comprehension's block) running. base: fixed through the whole law; s₀, H₀: the entry; outer: the frames whose slots others may change (a def's callers); stack: all frames that run;
   ex: iterators that were made ahead of the entry and are walked here (a comprehension's); fn: the names whose cells were made at the entry (a def: all; a comprehension's block: its own); calm: not within an except suite; pn: pins that every state bears; xe: what is wanted of an exception that leaves the code -/
structure Cx where
  prog : Program
  w : World
  K : PySem.W.Frag
  mg : Str → Option Value
  base : Heap
  A : Around
  N : List Str
  s₀ : Shared
  H₀ : Hp
  env : Env
  outer : List Env
  stack : List Env
  ex : List Addr
  fn : Str → Bool
  calm : Bool
  pn : List (Addr × Obj)
  xe : Value → Shared → Prop
/-- the callers' frames -/
noncomputable def frs (l : List Env) : List Addr := l.filterMap (·.frame)
noncomputable abbrev Cx.fs (X : Cx) : List Addr := frs X.outer

noncomputable def Vis (sc : Scope) (x : Str) : Prop := sc.names.lookup x = some .local ∨ sc.names.lookup x = some .cell ∨ sc.names.lookup x = some .free
noncomputable def Loc (sc : Scope) (x : Str) : Prop := sc.names.lookup x = some .local ∨ sc.names.lookup x = some .cell
noncomputable def Look (env : Env) (h : Heap) (m : Str → Option Value) (x : Str) (u : Value) : Prop :=
  (env.kindOf x = some .local ∧ m x = some u) ∨ ((env.kindOf x = some .cell ∨ env.kindOf x = some .free) ∧ ∃ c, env.cells.lookup x = some c ∧ h.IsCell c (some u))

structure Cx.Ok (X : Cx) : Prop where
  mod : Mod X.K X.mg X.base
  kind : X.env.scope.kind = .function
  glob : X.env.globals = mainGlobals
  blt : X.env.builtins = builtinsNs
  above : X.s₀.heap.objs.size ≤ X.env.locals
  inj : ∀ x y c, X.env.cells.lookup x = some c → X.env.cells.lookup y = some c → x = y
  has : ∀ x, (X.env.kindOf x = some .cell ∨ X.env.kindOf x = some .free) → ∃ c, X.env.cells.lookup x = some c
  cab : ∀ x c, X.fn x = true → X.env.cells.lookup x = some c → X.s₀.heap.objs.size ≤ c
  hd : X.calm = true → X.A.handled = none
  frames : X.A.frames = some X.stack
  stk : X.stack = X.outer ∨ (X.stack = X.env :: X.outer ∧ X.env.frame = some X.env.locals)
  exf : ∀ b ∈ X.ex, b ≠ X.env.locals ∧ ∀ x c, X.env.cells.lookup x = some c → c ≠ b
  bs : ∀ b o, X.base.get? b = some o → X.s₀.heap.get? b = some o ∧ X.H₀ b = none
  bsz : X.base.objs.size ≤ X.s₀.heap.objs.size
  noex : ∀ b o, X.base.get? b = some o → b ∉ X.ex
  exfs : ∀ b ∈ X.ex, b ∉ X.fs
  funs : X.s₀.heap.FunFrames X.base X.outer
  frf : ∀ b ∈ X.fs, X.H₀ b = none

structure Inv (X : Cx) (pins : List (Addr × Obj)) (σ : List (Option V)) (H : Hp) (s : Shared) : Prop where
  ok : X.Ok
  os : s.os = X.s₀.os
  bare : AllBare s.gens
  base : Un X.fs X.ex X.H₀ H X.s₀.heap s.heap
  loc : ∃ m, s.heap.Ns X.env.locals m ∧ ∀ (i : Nat) (x : Str) (v : V), X.N[i]? = some x → σ[i]? = some (some v) → Vis X.env.scope x → ∃ u, RelV v u ∧ Look X.env s.heap m x u
  cell : ∀ x c, X.env.cells.lookup x = some c → ∃ v, s.heap.IsCell c v
  free : H X.env.locals = none
  freeC : ∀ x c, X.env.cells.lookup x = some c → H c = none
  pin : ∀ p ∈ X.pn ++ pins, s.heap.get? p.1 = some p.2 ∧ H p.1 = none ∧ p.1 ≠ X.env.locals ∧ p.1 ∉ X.fs ∧ ∀ v, p.2.data ≠ .cell v
  hok : HOk X.prog X.w H s.heap
  len : σ.length = X.N.length

section
variable {X : Cx} {pins : List (Addr × Obj)} {σ : List (Option V)} {H H' : Hp} {s : Shared} {h' : Heap}

theorem Cx.Ok.nofr (ok : X.Ok) {b : Addr} {o : Obj} (e : X.base.get? b = some o) : b ∉ X.fs := fun hb => by
  have := (ok.funs.mem hb).1
  rw [e] at this; cases this
theorem Inv.bs (I : Inv X pins σ H s) : ∀ b o, X.base.get? b = some o → s.heap.get? b = some o ∧ H b = none := fun b o e =>
  ⟨I.base.keep b o (I.ok.bs b o e).1 (I.ok.bs b o e).2 (I.ok.nofr e) (I.ok.noex b o e), I.base.free b o (I.ok.bs b o e).1 (I.ok.bs b o e).2 (I.ok.noex b o e)⟩
theorem Inv.bk (I : Inv X pins σ H s) : ∀ b o, X.base.get? b = some o → s.heap.get? b = some o := fun b o e => (I.bs b o e).1
theorem Inv.mod (I : Inv X pins σ H s) : Mod X.K X.mg X.base := I.ok.mod
theorem Inv.kIn (I : Inv X pins σ H s) : X.K.In s.heap := I.ok.mod.kin.keeps I.bk
theorem Inv.lt (I : Inv X pins σ H s) : X.env.locals < s.heap.objs.size := let ⟨_, hn, _⟩ := I.loc; hn.lt
theorem Inv.sz (I : Inv X pins σ H s) : X.s₀.heap.objs.size ≤ s.heap.objs.size := Nat.le_trans I.ok.above (Nat.le_of_lt I.lt)
theorem Inv.nofs (I : Inv X pins σ H s) {a : Addr} (h : s.heap.objs.size ≤ a) : a ∉ X.fs := fun hb => by
  obtain ⟨_, o, ho, _⟩ := I.ok.funs.mem hb
  exact absurd (Nat.lt_of_lt_of_le (Heap.lt_size ho) (Nat.le_trans I.sz h)) (Nat.lt_irrefl _)
theorem Inv.cne (I : Inv X pins σ H s) : ∀ x c, X.env.cells.lookup x = some c → c ≠ X.env.locals := fun x c e z => by
  obtain ⟨v, o, ho, hd⟩ := I.cell x c e
  obtain ⟨m, ⟨o', es, ep, ho', hd', _⟩, _⟩ := I.loc
  rw [z, ho'] at ho; cases ho; rw [hd'] at hd; cases hd
theorem Inv.funs (I : Inv X pins σ H s) : s.heap.FunFrames X.base X.outer := by
  have all : ∀ (l : List Env), (∀ b ∈ frs l, b ∈ X.fs) → X.s₀.heap.FunFrames X.base l → s.heap.FunFrames X.base l := by
    intro l
    induction l with
    | nil => intro _ _; trivial
    | cons env r ih =>
      intro hs hl
      obtain ⟨hk, ⟨L, o, hf, hn, ho, hd⟩, hr⟩ := hl
      have hL : L ∈ X.fs := hs L (by unfold frs; rw [List.filterMap_cons, hf]; exact List.mem_cons_self)
      obtain ⟨sl, e⟩ := I.base.slot L o ho (I.ok.frf L hL) hL fun z => I.ok.exfs L z hL
      exact ⟨hk, ⟨L, _, hf, hn, e, hd⟩, ih (fun b hb => hs b (by unfold frs; rw [List.filterMap_cons, hf]; exact List.mem_cons_of_mem _ hb)) hr⟩
  exact all X.outer (fun _ hb => hb) I.ok.funs

/-- the frames that run, for a call -/
theorem Inv.stack (I : Inv X pins σ H s) : s.heap.FunFrames X.base X.stack := by
  rcases I.ok.stk with e | ⟨e, hf⟩
  · rw [e]; exact I.funs
  · rw [e]
    obtain ⟨m, hn, _⟩ := I.loc
    refine .cons (by rw [I.ok.kind]; decide) hf hn ?_ I.funs
    exact Heap.get?_none_of_le (Nat.le_trans I.ok.bsz I.ok.above)
theorem Inv.stkSub (I : Inv X pins σ H s) : ∀ b ∈ frs X.stack, b ∈ X.env.locals :: X.fs := fun b hb => by
  rcases I.ok.stk with e | ⟨e, hf⟩
  · rw [e] at hb; exact List.mem_cons_of_mem _ hb
  · rw [e] at hb
    unfold frs at hb
    rw [List.filterMap_cons, hf] at hb
    exact hb
theorem Inv.stkFree (I : Inv X pins σ H s) : ∀ b ∈ frs X.stack, H b = none := fun b hb => by
  rcases List.mem_cons.mp (I.stkSub b hb) with e | hb
  · rw [e]; exact I.free
  · obtain ⟨_, o, ho, _⟩ := I.ok.funs.mem hb
    exact I.base.free b o ho (I.ok.frf b hb) fun z => I.ok.exfs b z hb

/-- THE STEP: the untracked objects but the frame and the records at ch are kept (the callers' frames up to slots), the frame's map is kept, the new abstract heap is held -/
theorem Inv.step {g' : Array GenState} {t' : Nat} {d' : Drawn} {ch : List Addr} (I : Inv X pins σ H s)
    (hch : ∀ b ∈ ch, (b ∈ X.ex ∨ X.s₀.heap.objs.size ≤ b) ∧ b ≠ X.env.locals ∧ (∀ x c, X.env.cells.lookup x = some c → c ≠ b) ∧ ∀ p ∈ X.pn ++ pins, p.1 ≠ b)
    (keep : ∀ b o, b ≠ X.env.locals → b ∉ X.fs → b ∉ ch → s.heap.get? b = some o → H b = none → h'.get? b = some o)
    (slot : ∀ b o, b ≠ X.env.locals → b ∈ X.fs → b ∉ ch → s.heap.get? b = some o → H b = none → ∃ sl, h'.get? b = some { o with slots := sl }) (free : ∀ b o, b ∉ ch → s.heap.get? b = some o → H b = none → H' b = none)
    (there : ∀ b o, b ∉ ch → s.heap.get? b = some o → ∃ o', h'.get? b = some o')
    (tups : ∀ b xs, H b = some (.tup xs) → H' b = some (.tup xs)) (frzs : ∀ b o u, H b = some (.frz o u) → H' b = some (.frz o u)) (tbls : ∀ b ps, H b = some (.tbl ps) → ∃ more, H' b = some (.tbl (ps ++ more)))
    (ns : ∀ m, s.heap.Ns X.env.locals m → h'.Ns X.env.locals m) (hok : HOk X.prog X.w H' h') (hg : AllBare g') :
    Inv X pins σ H' { s with heap := h', gens := g', drawn := d', toks := t' } := by
  have neL : ∀ b o, X.s₀.heap.get? b = some o → b ≠ X.env.locals := fun b o e => Nat.ne_of_lt (Nat.lt_of_lt_of_le (Heap.lt_size e) I.ok.above)
  have neC : ∀ b o, X.s₀.heap.get? b = some o → b ∉ X.ex → b ∉ ch := fun b o e hx hb => by
    rcases (hch b hb).1 with z | z
    · exact hx z
    · exact absurd (Nat.lt_of_lt_of_le (Heap.lt_size e) z) (Nat.lt_irrefl _)
  have cellK : ∀ x c, X.env.cells.lookup x = some c → ∀ v, s.heap.IsCell c v → h'.IsCell c v := fun x c e v ⟨o, ho, hd⟩ => by
    have nch : c ∉ ch := fun z => (hch c z).2.2.1 x c e rfl
    by_cases hc : c ∈ X.fs
    · obtain ⟨sl, q⟩ := slot c o (I.cne x c e) hc nch ho (I.freeC x c e)
      exact ⟨_, q, hd⟩
    · exact ⟨o, keep c o (I.cne x c e) hc nch ho (I.freeC x c e), hd⟩
  refine ⟨I.ok, I.os, hg, ⟨fun b o e n hb hx => ?_, fun b o e n hb hx => ?_, fun b o e n hx => ?_, fun b o e hx => ?_, fun b xs e => tups b xs (I.base.tups b xs e), fun b o xs e => frzs b o xs (I.base.frzs b o xs e), fun b ps e => ?_⟩, ?_, fun x c e => ?_, ?_, fun x c e => ?_, fun p hp => ?_, hok, I.len⟩
  · exact keep b o (neL b o e) hb (neC b o e hx) (I.base.keep b o e n hb hx) (I.base.free b o e n hx)
  · obtain ⟨sl, e1⟩ := I.base.slot b o e n hb hx
    obtain ⟨sl', e2⟩ := slot b _ (neL b o e) hb (neC b o e hx) e1 (I.base.free b o e n hx)
    exact ⟨sl', e2⟩
  · obtain ⟨o', e1⟩ := I.base.there b o e hx
    exact free b o' (neC b o e hx) e1 (I.base.free b o e n hx)
  · obtain ⟨o', e1⟩ := I.base.there b o e hx
    exact there b o' (neC b o e hx) e1
  · obtain ⟨m1, e1⟩ := I.base.tbls b ps e
    obtain ⟨m2, e2⟩ := tbls b _ e1
    exact ⟨m1 ++ m2, by rw [e2, Array.append_assoc]⟩
  · obtain ⟨m, hn, hl⟩ := I.loc
    refine ⟨m, ns m hn, fun i x v e1 e2 e3 => ?_⟩
    obtain ⟨u, r, l⟩ := hl i x v e1 e2 e3
    refine ⟨u, r, ?_⟩
    rcases l with l | ⟨k, c, e, z⟩
    · exact .inl l
    · exact .inr ⟨k, c, e, cellK x c e _ z⟩
  · obtain ⟨v, z⟩ := I.cell x c e
    exact ⟨v, cellK x c e v z⟩
  · obtain ⟨m, ⟨o, _, _, ho, _⟩, _⟩ := I.loc
    exact free _ o (fun z => (hch _ z).2.1 rfl) ho I.free
  · obtain ⟨v, o, ho, hd⟩ := I.cell x c e
    exact free c o (fun z => (hch c z).2.2.1 x c e rfl) ho (I.freeC x c e)
  · obtain ⟨e, n, ne, nf, d⟩ := I.pin p hp
    have nch : p.1 ∉ ch := fun z => (hch p.1 z).2.2.2 p hp rfl
    exact ⟨keep p.1 p.2 ne nf nch e n, free p.1 p.2 nch e n, ne, nf, d⟩
/-- .. where the frame's own object is kept too -/
theorem Inv.un {t' : Nat} (I : Inv X pins σ H s) (u : Un X.fs [] H H' s.heap h') (hok : HOk X.prog X.w H' h') : Inv X pins σ H' { s with heap := h', toks := t' } := by
  obtain ⟨m, ⟨o, es, ep, ho, r⟩, _⟩ := id I.loc
  obtain ⟨sl, hL⟩ := u.any ho I.free (by simp)
  exact I.step (g' := s.gens) (d' := s.drawn) (ch := []) (fun _ z => nomatch z) (fun b o _ hb _ e n => u.keep b o e n hb (by simp)) (fun b o _ hb _ e n => u.slot b o e n hb (by simp)) (fun b o _ e n => u.free b o e n (by simp)) (fun b o _ e => u.there b o e (by simp)) u.tups u.frzs u.tbls (fun m' hm => by
    obtain ⟨o', es', ep', ho', r'⟩ := hm
    rw [ho] at ho'; cases ho'
    exact ⟨_, es', ep', hL, r'⟩) hok I.bare
/-- behind a call (or a comprehension's block): the slots of this frame may have changed too, the records at ch may have turned -/
theorem Inv.call {g' : Array GenState} {t' : Nat} {d' : Drawn} {ch : List Addr} (I : Inv X pins σ H s) (u : Un (frs X.stack) ch H H' s.heap h') (hok : HOk X.prog X.w H' h') (hg : AllBare g')
    (hch : ∀ b ∈ ch, (b ∈ X.ex ∨ X.s₀.heap.objs.size ≤ b) ∧ b ≠ X.env.locals ∧ (∀ x c, X.env.cells.lookup x = some c → c ≠ b) ∧ ∀ p ∈ X.pn ++ pins, p.1 ≠ b) :
    Inv X pins σ H' { s with heap := h', gens := g', drawn := d', toks := t' } := by
  obtain ⟨m, ⟨o, es, ep, ho, r⟩, _⟩ := id I.loc
  obtain ⟨sl, hL⟩ := u.any ho I.free fun z => (hch _ z).2.1 rfl
  exact I.step (ch := ch) hch (fun b o hL hb hc e n => u.keep b o e n (fun z => (List.mem_cons.mp (I.stkSub b z)).elim hL hb) hc) (fun b o _ _ hc e n => u.any e n hc) (fun b o hc e n => u.free b o e n hc) (fun b o hc e => u.there b o e hc) u.tups u.frzs u.tbls (fun m' hm => by
    obtain ⟨o', es', ep', ho', r'⟩ := hm
    rw [ho] at ho'; cases ho'
    exact ⟨_, es', ep', hL, r'⟩) hok hg
/-- an untracked record of ours (an iterator) has turned -/
theorem Inv.turned {t' : Nat} {it : Addr} (I : Inv X pins σ H s) (k : ∀ b o, b ≠ it → s.heap.get? b = some o → h'.get? b = some o) (hn : H it = none) (hL : it ≠ X.env.locals)
    (h1 : it ∈ X.ex ∨ X.s₀.heap.objs.size ≤ it) (h2 : ∀ x c, X.env.cells.lookup x = some c → c ≠ it) (h3 : ∀ p ∈ X.pn ++ pins, p.1 ≠ it) : Inv X pins σ H { s with heap := h', toks := t' } := by
  have nit : ∀ b u, H b = some u → b ≠ it := fun b u e z => by rw [z, hn] at e; cases e
  refine I.step (g' := s.gens) (d' := s.drawn) (ch := [it]) (fun b hb => ?_) (fun b o _ _ hc e _ => k b o (fun z => hc (by simp [z])) e) (fun b o _ _ hc e _ => ⟨o.slots, k b o (fun z => hc (by simp [z])) e⟩) (fun _ _ _ _ n => n)
    (fun b o hc e => ⟨o, k b o (fun z => hc (by simp [z])) e⟩) (fun _ _ e => e) (fun _ _ _ e => e) (fun b ps e => ⟨#[], by rw [e]; simp⟩) (fun m hm => ?_) (fun b u e => ?_) I.bare
  · have e : b = it := by simpa using hb
    subst e
    exact ⟨h1, hL, h2, h3⟩
  · obtain ⟨o, es, ep, ho, r⟩ := hm
    exact ⟨o, es, ep, k _ o (Ne.symm hL) ho, r⟩
  · refine (I.hok b u e).stay (fun c v hc q => k c v ?_ q) (fun _ q => q) fun _ _ q => q
    rcases hc with z | z
    · rw [z]; exact nit b u e
    · exact nit c _ z
theorem Inv.tok (I : Inv X pins σ H s) (t : Nat) : Inv X pins σ H { s with toks := t } := I.un (h' := s.heap) (t' := t) Un.refl I.hok
/-- all objects kept -/
theorem Inv.kept {t' : Nat} (I : Inv X pins σ H s) (k : ∀ b u, s.heap.get? b = some u → h'.get? b = some u) : Inv X pins σ H { s with heap := h', toks := t' } := I.un (Un.kept k) (I.hok.kept k)
/-- a new object laid and tracked -/
theorem Inv.laid {a : Addr} {o : HO} {t' : Nat} (I : Inv X pins σ H s) (k : ∀ b u, s.heap.get? b = some u → h'.get? b = some u) (hp : s.heap.objs.size ≤ a) (new : ObjOk X.prog X.w (upd H a o) h' a o) :
    Inv X pins σ (upd H a o) { s with heap := h', toks := t' } := I.un (Un.laid k hp (I.hok.fresh hp)) (I.hok.laid k hp new)
/-- an object written -/
theorem Inv.write {x e : Addr} {o : HO} {t' : Nat} (I : Inv X pins σ H s) (mu : Mut (H x)) (he : e = x ∨ H e = some (.own x)) (k : ∀ b u, b ≠ e → s.heap.get? b = some u → h'.get? b = some u) (heo : ∃ u, h'.get? e = some u)
    (new : ObjOk X.prog X.w (upd H x o) h' x o) : Inv X pins σ (upd H x o) { s with heap := h', toks := t' } := I.un (Un.write mu he k heo) (I.hok.write mu he k heo new)
theorem Inv.pins_of {pins' : List (Addr × Obj)} (I : Inv X pins σ H s) (h : ∀ p ∈ pins', s.heap.get? p.1 = some p.2 ∧ H p.1 = none ∧ p.1 ≠ X.env.locals ∧ p.1 ∉ X.fs ∧ ∀ v, p.2.data ≠ .cell v) : Inv X pins' σ H s :=
  ⟨I.ok, I.os, I.bare, I.base, I.loc, I.cell, I.free, I.freeC, fun p hp => (List.mem_append.mp hp).elim (fun z => I.pin p (List.mem_append_left _ z)) (h p), I.hok, I.len⟩

theorem nodup_ix {N : List Str} (hN : N.Nodup) {i j : Nat} {x : Str} (a : N[i]? = some x) (b : N[j]? = some x) : i = j := by
  obtain ⟨h1, e1⟩ := List.getElem?_eq_some_iff.mp a
  obtain ⟨h2, e2⟩ := List.getElem?_eq_some_iff.mp b
  exact (List.getElem_inj hN).mp (e1.trans e2.symm)

/-- a name is stored; what changed -/
theorem store_ok2 {M : Model} {A : Around} {E : Value → Shared → Prop} {i : Nat} {x : Str} {v : V} {u : Value} {Q : Unit → Shared → Prop} (I : Inv X pins σ H s) (hN : X.N.Nodup) (hi : X.N[i]? = some x) (hx : Loc X.env.scope x) (r : RelV v u)
    (h : ∀ s', Inv X pins (σ.set i (some v)) H s' → (∃ a, Heap.SameBut a s.heap s'.heap ∧ (a = X.env.locals ∨ X.env.cells.lookup x = some a)) → Q () s') (hf : X.fn x = true ∨ X.env.scope.names.lookup x = some .local := by first | exact .inl rfl | exact .inr rfl | assumption) : wpAny M A (storeName X.env x u) Q E s := by
  obtain ⟨m, hn, hl⟩ := id I.loc
  have hcls : (X.env.scope.kind == .class || (X.env.scope.kind == .module && X.env.locals != X.env.globals)) = false := by rw [I.ok.kind]; rfl
  have hiσ : i < σ.length := by rw [I.len]; exact (List.getElem?_eq_some_iff.mp hi).1
  have cne := I.cne
  have tracked : ∀ {a : Addr} {h' : Heap}, (∃ o, s.heap.get? a = some o ∧ H a = none) → Heap.SameBut a s.heap h' → HOk X.prog X.w H h' := fun {a h'} ha hs b ob e => by
    obtain ⟨_, _, hfree⟩ := ha
    refine (I.hok b ob e).stay (fun c w' hc q => (hs.2 c ?_).trans q) (fun _ q => q) fun _ _ q => q
    rintro rfl
    rcases hc with rfl | hc
    · rw [hfree] at e; cases e
    · rw [hfree] at hc; cases hc
  rcases hx with hk | hk
  · refine wpAny_storeName_local hk hn (fun h' hn' hs => ?_) hcls
    obtain ⟨oL, _, _, hoL, _⟩ := id hn
    refine h _ ⟨I.ok, I.os, I.bare, ⟨fun b o e n hb hx => ?_, fun b o e n hb hx => ?_, I.base.free, fun b o e hx => ?_, I.base.tups, I.base.frzs, I.base.tbls⟩, ⟨_, hn', fun j y v' e1 e2 e3 => ?_⟩, fun y c e => ?_, I.free, I.freeC, fun p hp => ?_, tracked ⟨oL, hoL, I.free⟩ hs, by simpa using I.len⟩ ⟨_, hs, .inl rfl⟩
    · exact (hs.2 b (Nat.ne_of_lt (Nat.lt_of_lt_of_le (Heap.lt_size e) I.ok.above))).trans (I.base.keep b o e n hb hx)
    · obtain ⟨sl, e1⟩ := I.base.slot b o e n hb hx
      exact ⟨sl, (hs.2 b (Nat.ne_of_lt (Nat.lt_of_lt_of_le (Heap.lt_size e) I.ok.above))).trans e1⟩
    · obtain ⟨o', e1⟩ := I.base.there b o e hx
      exact ⟨o', (hs.2 b (Nat.ne_of_lt (Nat.lt_of_lt_of_le (Heap.lt_size e) I.ok.above))).trans e1⟩
    · by_cases hj : j = i
      · subst hj
        rw [hi] at e1; cases e1
        rw [List.getElem?_set_self hiσ] at e2
        cases e2
        exact ⟨u, r, .inl ⟨hk, by simp⟩⟩
      · rw [List.getElem?_set_ne (Ne.symm hj)] at e2
        obtain ⟨u', r', q⟩ := hl j y v' e1 e2 e3
        refine ⟨u', r', ?_⟩
        rcases q with ⟨k, e⟩ | ⟨k, c, e, z⟩
        · refine .inl ⟨k, ?_⟩
          have : y ≠ x := fun e => hj (nodup_ix hN e1 (e ▸ hi))
          simp [this, e]
        · exact .inr ⟨k, c, e, z.sameBut hs (cne y c e)⟩
    · obtain ⟨w', z⟩ := I.cell y c e
      exact ⟨w', z.sameBut hs (cne y c e)⟩
    · obtain ⟨e, n, ne, nf, d⟩ := I.pin p hp
      exact ⟨(hs.2 p.1 ne).trans e, n, ne, nf, d⟩
  · have hfn : X.fn x = true := by
      rcases hf with z | z
      · exact z
      · rw [z] at hk; cases hk
    obtain ⟨c, hc⟩ := I.ok.has x (.inl hk)
    obtain ⟨w', z⟩ := I.cell x c hc
    refine wpAny_storeName_cell I.ok.kind hk hc z (fun h' hc' hs => ?_)
    obtain ⟨oc, hoc, hocd⟩ := id z
    refine h { s with heap := h' } ⟨I.ok, I.os, I.bare, ⟨fun b o e n hb hx => ?_, fun b o e n hb hx => ?_, I.base.free, fun b o e hx => ?_, I.base.tups, I.base.frzs, I.base.tbls⟩, ⟨m, hn.sameBut hs (Ne.symm (cne x c hc)), fun j y v' e1 e2 e3 => ?_⟩, fun y c' e => ?_, I.free, I.freeC, fun p hp => ?_, tracked ⟨oc, hoc, I.freeC x c hc⟩ hs, by simpa using I.len⟩ ⟨c, hs, .inr hc⟩
    · exact (hs.2 b (Nat.ne_of_lt (Nat.lt_of_lt_of_le (Heap.lt_size e) (I.ok.cab x c hfn hc)))).trans (I.base.keep b o e n hb hx)
    · obtain ⟨sl, e1⟩ := I.base.slot b o e n hb hx
      exact ⟨sl, (hs.2 b (Nat.ne_of_lt (Nat.lt_of_lt_of_le (Heap.lt_size e) (I.ok.cab x c hfn hc)))).trans e1⟩
    · obtain ⟨o', e1⟩ := I.base.there b o e hx
      exact ⟨o', (hs.2 b (Nat.ne_of_lt (Nat.lt_of_lt_of_le (Heap.lt_size e) (I.ok.cab x c hfn hc)))).trans e1⟩
    · by_cases hj : j = i
      · subst hj
        rw [hi] at e1; cases e1
        rw [List.getElem?_set_self hiσ] at e2
        cases e2
        exact ⟨u, r, .inr ⟨.inl hk, c, hc, hc'⟩⟩
      · rw [List.getElem?_set_ne (Ne.symm hj)] at e2
        obtain ⟨u', r', q⟩ := hl j y v' e1 e2 e3
        refine ⟨u', r', ?_⟩
        rcases q with q | ⟨k, c', e, z'⟩
        · exact .inl q
        · refine .inr ⟨k, c', e, z'.sameBut hs ?_⟩
          rintro rfl
          exact hj (nodup_ix hN e1 (I.ok.inj _ _ _ e hc ▸ hi))
    · by_cases hcc : c' = c
      · subst hcc; exact ⟨_, hc'⟩
      · obtain ⟨w2, z2⟩ := I.cell y c' e
        exact ⟨w2, z2.sameBut hs hcc⟩
    · obtain ⟨e, n, ne, nf, d⟩ := I.pin p hp
      refine ⟨(hs.2 p.1 ?_).trans e, n, ne, nf, d⟩
      intro q
      rw [q, hoc] at e
      have q' : oc = p.2 := Option.some.inj e
      exact d w' (by rw [← q']; exact hocd)
theorem store_ok {M : Model} {A : Around} {E : Value → Shared → Prop} {i : Nat} {x : Str} {v : V} {u : Value} {Q : Unit → Shared → Prop} (I : Inv X pins σ H s) (hN : X.N.Nodup) (hi : X.N[i]? = some x) (hx : Loc X.env.scope x) (r : RelV v u)
    (h : ∀ s', Inv X pins (σ.set i (some v)) H s' → Q () s') (hf : X.fn x = true ∨ X.env.scope.names.lookup x = some .local := by first | exact .inl rfl | exact .inr rfl | assumption) : wpAny M A (storeName X.env x u) Q E s :=
  store_ok2 I hN hi hx r (fun s' I' _ => h s' I') hf
/-- behind a call or a block, the state as it is -/
theorem Inv.call' {s' : Shared} {ch : List Addr} (I : Inv X pins σ H s) (ho : s'.os = s.os) (u : Un (frs X.stack) ch H H' s.heap s'.heap) (hok : HOk X.prog X.w H' s'.heap) (hg : AllBare s'.gens)
    (hch : ∀ b ∈ ch, (b ∈ X.ex ∨ X.s₀.heap.objs.size ≤ b) ∧ b ≠ X.env.locals ∧ (∀ x c, X.env.cells.lookup x = some c → c ≠ b) ∧ ∀ p ∈ X.pn ++ pins, p.1 ≠ b) : Inv X pins σ H' s' := by
  obtain ⟨h', g', d', t', o'⟩ := s'
  have e : o' = s.os := ho
  subst e
  exact I.call (g' := g') (t' := t') (d' := d') u hok hg hch
end

/-! ### the judgements -/
/-- an exception: its class, its own dict's address (where it has one), the abstract heap behind it -/
noncomputable abbrev XK := Value → Option Addr → Hp → Prop
noncomputable abbrev St := List (Option V)
noncomputable abbrev VK := V → Hp → Prop
/-- an expression's reading; a test's; an argument list's -/
noncomputable abbrev TE := St → Hp → VK → Prop
noncomputable abbrev TT := St → Hp → (Bool → Hp → Prop) → Prop
noncomputable abbrev TA := St → Hp → (List V → Hp → Prop) → Prop
/-- what is wanted behind a statement -/
structure Ends where
  nx : St → Hp → Prop
  rt : VK
  bk : St → Hp → Prop := fun _ _ => False
  ct : St → Hp → Prop := fun _ _ => False
noncomputable abbrev TS := Ends → St → Hp → Prop

noncomputable def EP (X : Cx) (pins : List (Addr × Obj)) (σ : St) (Q : VK) (u : Value) (s' : Shared) : Prop := ∃ v H', Inv X pins σ H' s' ∧ RelV v u ∧ Q v H'
noncomputable def TP (X : Cx) (pins : List (Addr × Obj)) (σ : St) (Q : Bool → Hp → Prop) (b : Bool) (s' : Shared) : Prop := ∃ H', Inv X pins σ H' s' ∧ Q b H'
noncomputable def AP (X : Cx) (pins : List (Addr × Obj)) (σ : St) (Q : List V → Hp → Prop) (us : List Value) (s' : Shared) : Prop := ∃ vs H', Inv X pins σ H' s' ∧ Vals vs us ∧ Q vs H'
noncomputable def SP (X : Cx) (pins : List (Addr × Obj)) (D : Ends) (f : Flow) (s' : Shared) : Prop :=
  match f with
  | .next => ∃ σ' H', Inv X pins σ' H' s' ∧ D.nx σ' H'
  | .brk => ∃ σ' H', Inv X pins σ' H' s' ∧ D.bk σ' H'
  | .cont => ∃ σ' H', Inv X pins σ' H' s' ∧ D.ct σ' H'
  | .ret u => ∃ v σ' H', Inv X pins σ' H' s' ∧ RelV v u ∧ D.rt v H'

noncomputable def PE (X : Cx) (e : Expr) (t : TE) : Prop :=
  ∀ (pins : List (Addr × Obj)) (s : Shared) (σ : St) (H : Hp) (Q : VK), Inv X pins σ H s → t σ H Q → wpAny (model X.prog X.w) X.A (eval e X.env) (EP X pins σ Q) X.xe s
noncomputable def PT (X : Cx) (e : Expr) (t : TT) : Prop :=
  ∀ (pins : List (Addr × Obj)) (s : Shared) (σ : St) (H : Hp) (Q : Bool → Hp → Prop), Inv X pins σ H s → t σ H Q → wpAny (model X.prog X.w) X.A (isTrue e X.env (eval e X.env)) (TP X pins σ Q) X.xe s
/-- a test whatever its 'whole' is (and, or) -/
noncomputable def PW (X : Cx) (e : Expr) (t : TT) : Prop :=
  ∀ (whole : Sem Value) (pins : List (Addr × Obj)) (s : Shared) (σ : St) (H : Hp) (Q : Bool → Hp → Prop), Inv X pins σ H s → t σ H Q → wpAny (model X.prog X.w) X.A (isTrue e X.env whole) (TP X pins σ Q) X.xe s
theorem PW.pt {X : Cx} {e : Expr} {t : TT} (h : PW X e t) : PT X e t := h _
/-- an argument list (no star), from the left -/
noncomputable def PA (X : Cx) (es : List Expr) (t : TA) : Prop :=
  ∀ (pos : Pos) (pins : List (Addr × Obj)) (s : Shared) (σ : St) (H : Hp) (Q : List V → Hp → Prop), Inv X pins σ H s → t σ H Q → wpAny (model X.prog X.w) X.A (spliced (backTo pos (starEach es X.env))) (AP X pins σ Q) X.xe s
noncomputable def PS (X : Cx) (st : Stmt) (t : TS) : Prop :=
  ∀ (pins : List (Addr × Obj)) (s : Shared) (σ : St) (H : Hp) (D : Ends), Inv X pins σ H s → t D σ H → wpAny (model X.prog X.w) X.A (exec st X.env) (SP X pins D) X.xe s
noncomputable def PSs (X : Cx) (st : List Stmt) (t : TS) : Prop :=
  ∀ (pins : List (Addr × Obj)) (s : Shared) (σ : St) (H : Hp) (D : Ends), Inv X pins σ H s → t D σ H → wpAny (model X.prog X.w) X.A (execs st X.env) (SP X pins D) X.xe s
/-- weaken the end -/
theorem thn {α : Type} {t : Sem α} {Q Q' : α → Shared → Prop} {M : Model} {A : Around} {E : Value → Shared → Prop} {s : Shared} (h : wpAny M A t Q E s) (hQ : ∀ a s, Q a s → Q' a s) : wpAny M A t Q' E s := wpAny_mono h hQ fun _ _ x => x
end L2

namespace L2
open PySem PySem.Spec PyProof.Rows
section
variable {X : Cx}

/-! ### names and constants -/
noncomputable def tVar (i : Nat) : TE := fun σ H Q => ∃ v, σ[i]? = some (some v) ∧ Q v H
noncomputable def tC (v : V) : TE := fun _ H Q => Q v H
theorem pe_var {i : Nat} {x : Str} {pos : Pos} (hN : X.N[i]? = some x) (hv : Vis X.env.scope x) (hd : (x == ("__debug__" : Str)) = false := by decide) (hcd : (x == ("__classdict__" : Str)) = false := by decide) : PE X (.Name x pos) (tVar i) := by
  intro pins s σ H Q I h
  obtain ⟨v, e, h⟩ := h
  obtain ⟨m, hn, hl⟩ := I.loc
  obtain ⟨u, r, l⟩ := hl i x v hN e hv
  have fin : EP X pins σ Q u s := ⟨v, H, I, r, h⟩
  rcases l with ⟨hk, hm⟩ | ⟨hk, c, hc, hcell⟩
  · exact wpAny_Name (wpAny_loadName_local I.ok.kind hk hn hm fin) hd
  · rcases hk with hk | hk
    · exact wpAny_Name (wpAny_loadName_cell I.ok.kind hk hc hcell fin) hd
    · exact wpAny_Name (wpAny_loadName_free I.ok.kind hk hc hcell fin hcd) hd
theorem pe_int {i j pos} : PE X (.Constant (.int i) j pos) (tC (.int i)) := fun _ _ _ H _ I h => wpAny_Constant_int ⟨.int i, H, I.tok _, ⟨_, rfl⟩, h⟩
theorem pe_bl {b j pos} : PE X (.Constant (.bool b) j pos) (tC (.bl b)) := fun _ _ _ H _ I h => Constant_bool ⟨.bl b, H, I, rfl, h⟩
theorem pe_non {j pos} : PE X (.Constant .none j pos) (tC .non) := fun _ _ _ H _ I h => Constant_none ⟨.non, H, I, rfl, h⟩
theorem pe_str {x j pos} : PE X (.Constant (.str x) j pos) (tC (.str x)) := fun _ _ _ H _ I h => Calls.Constant_str ⟨.str x, H, I.tok _, ⟨_, rfl⟩, h⟩

/-- a global name of the def -/
noncomputable def Gl (X : Cx) (x : Str) : Prop := X.env.kindOf x = some .globalImplicit
theorem ld_glob {E : Value → Shared → Prop} {pins : List (Addr × Obj)} {s : Shared} {σ : St} {H : Hp} {x : Str} {u : Value} {pos : Pos} {Q : Value → Shared → Prop} (I : Inv X pins σ H s) (hg : Gl X x) (hm : X.mg x = some u) (h : Q u s)
    (hd : (x == ("__debug__" : Str)) = false := by decide) : wpAny (model X.prog X.w) X.A (eval (.Name x pos) X.env) Q E s :=
  Calls.Name_function_global I.ok.kind hg (Calls.loadGlobal_global (by rw [I.ok.glob]; exact I.mod.glob.keeps I.bk) hm h) hd
theorem ld_blt {E : Value → Shared → Prop} {pins : List (Addr × Obj)} {s : Shared} {σ : St} {H : Hp} {x : Str} {u : Value} {pos : Pos} {Q : Value → Shared → Prop} (I : Inv X pins σ H s) (hg : Gl X x) (hm : X.mg x = none) (hv : bootBuiltins x = some u) (h : Q u s)
    (hn : x ≠ "__name__" := by decide) (hd : (x == ("__debug__" : Str)) = false := by decide) : wpAny (model X.prog X.w) X.A (eval (.Name x pos) X.env) Q E s := by
  obtain ⟨mb, h1, h2⟩ := I.mod.blt
  exact Calls.Name_function_global I.ok.kind hg (Calls.loadGlobal_builtin (by rw [I.ok.glob]; exact I.mod.glob.keeps I.bk) hm (by rw [I.ok.blt]; exact h1.keeps I.bk) ((h2 x hn).trans hv) h) hd
/-- a module's constant, a class, a function, as a value -/
theorem pe_glob {x : Str} {v : V} {u : Value} {pos : Pos} (hg : Gl X x) (hm : X.mg x = some u) (r : RelV v u) (hd : (x == ("__debug__" : Str)) = false := by decide) : PE X (.Name x pos) (tC v) :=
  fun _ _ _ H _ I h => ld_glob I hg hm ⟨v, H, I, r, h⟩ hd
theorem pe_bltn {x : Str} {v : V} {u : Value} {pos : Pos} (hg : Gl X x) (hm : X.mg x = none) (hv : bootBuiltins x = some u) (r : RelV v u) (hn : x ≠ "__name__" := by decide) (hd : (x == ("__debug__" : Str)) = false := by decide) : PE X (.Name x pos) (tC v) :=
  fun _ _ _ H _ I h => ld_blt I hg hm hv ⟨v, H, I, r, h⟩ hn hd

/-! ### arithmetic -/
variable {a b : Expr} {ta tb : TE} {pos : Pos}
/-! ### comparisons -/
/-- a comparison as a value, as a test -/
noncomputable def tB (t : TE) : TT := fun σ H Q => t σ H fun x H1 => ∃ c, x = .bl c ∧ Q c H1
/-- an expression whose value is a bool, as a test -/
theorem pt_val {e : Expr} {t : TE} (h : PE X e t) (he : ∀ whole, isTrue e X.env whole = (do let v ← whole; standAt e.pos; holding [v] (truthy v)) := by intro _; rfl) : PT X e (tB t) := by
  intro pins s σ H Q I hw
  refine isTrue_plain (thn (h pins s σ H _ I hw) fun v s1 ⟨x, H1, I1, r1, q1⟩ => ?_) (he _)
  obtain ⟨d, rfl, q⟩ := q1
  cases r1
  exact wpAny_truthy_bool ⟨H1, I1, q⟩

/-! ### and, or, not -/
variable {tA tB' : TT} {rest : List Expr}
noncomputable def tAnd (t u : TT) : TT := fun σ H Q => t σ H fun c H1 => if c = true then u σ H1 Q else Q false H1
noncomputable def tOr (t u : TT) : TT := fun σ H Q => t σ H fun c H1 => if c = true then Q true H1 else u σ H1 Q
noncomputable def tNot (t : TT) : TT := fun σ H Q => t σ H fun c H1 => Q (!c) H1
theorem pw_and1 (ha : PT X a tA) : PW X (.BoolOp .And [a] pos) tA := by
  intro wh pins s σ H Q I h
  refine isTrue_and (thn (ha pins s σ H Q I h) fun c s1 e => ?_)
  cases c with
  | true => exact isTrue_and_nil e
  | false => exact e
theorem pw_or1 (ha : PT X a tA) : PW X (.BoolOp .Or [a] pos) tA := by
  intro wh pins s σ H Q I h
  refine isTrue_or (thn (ha pins s σ H Q I h) fun c s1 e => ?_)
  cases c with
  | false => exact isTrue_or_nil e
  | true => exact e
theorem pw_and (ha : PT X a tA) (hb : PW X (.BoolOp .And (b :: rest) pos) tB') : PW X (.BoolOp .And (a :: b :: rest) pos) (tAnd tA tB') := by
  intro wh pins s σ H Q I h
  refine isTrue_and (thn (ha pins s σ H _ I h) fun c s1 ⟨H1, I1, q1⟩ => ?_)
  cases c with
  | true => exact hb wh pins s1 σ H1 Q I1 q1
  | false => exact ⟨H1, I1, q1⟩
theorem pw_or (ha : PT X a tA) (hb : PW X (.BoolOp .Or (b :: rest) pos) tB') : PW X (.BoolOp .Or (a :: b :: rest) pos) (tOr tA tB') := by
  intro wh pins s σ H Q I h
  refine isTrue_or (thn (ha pins s σ H _ I h) fun c s1 ⟨H1, I1, q1⟩ => ?_)
  cases c with
  | true => exact ⟨H1, I1, q1⟩
  | false => exact hb wh pins s1 σ H1 Q I1 q1
theorem pt_not (ha : PT X a tA) : PT X (.UnaryOp .Not a pos) (tNot tA) := by
  intro pins s σ H Q I h
  exact isTrue_not (ha pins s σ H (fun c H1 => Q (!c) H1) I h)
/-- .. as values (bools) -/
noncomputable def tAndV (ta tb : TE) : TE := fun σ H Q => ta σ H fun x H1 => ∃ c, x = .bl c ∧ if c = true then tb σ H1 Q else Q (.bl false) H1
noncomputable def tOrV (ta tb : TE) : TE := fun σ H Q => ta σ H fun x H1 => ∃ c, x = .bl c ∧ if c = true then Q (.bl true) H1 else tb σ H1 Q
noncomputable def tNotV (ta : TE) : TE := fun σ H Q => ta σ H fun x H1 => ∃ c, x = .bl c ∧ Q (.bl (!c)) H1
theorem pe_one {op} {t : TE} (h : PE X a t) : PE X (.BoolOp op [a] pos) t := fun pins s σ H Q I hw => BoolOp_one (h pins s σ H Q I hw)
theorem pe_and (ha : PE X a ta) (hb : PE X (.BoolOp .And (b :: rest) pos) tb) : PE X (.BoolOp .And (a :: b :: rest) pos) (tAndV ta tb) := by
  intro pins s σ H Q I h
  refine BoolOp_and (thn (ha pins s σ H _ I h) fun v s1 ⟨x, H1, I1, r1, q1⟩ => ?_)
  obtain ⟨c, rfl, q1⟩ := q1
  cases r1
  refine wpAny_truthy_bool ?_
  cases c with
  | true => exact hb pins s1 σ H1 Q I1 q1
  | false => exact ⟨.bl false, H1, I1, rfl, q1⟩
theorem pe_or (ha : PE X a ta) (hb : PE X (.BoolOp .Or (b :: rest) pos) tb) : PE X (.BoolOp .Or (a :: b :: rest) pos) (tOrV ta tb) := by
  intro pins s σ H Q I h
  refine BoolOp_or (thn (ha pins s σ H _ I h) fun v s1 ⟨x, H1, I1, r1, q1⟩ => ?_)
  obtain ⟨c, rfl, q1⟩ := q1
  cases r1
  refine wpAny_truthy_bool ?_
  cases c with
  | false => exact hb pins s1 σ H1 Q I1 q1
  | true => exact ⟨.bl true, H1, I1, rfl, q1⟩
theorem pe_not (ha : PE X a ta) : PE X (.UnaryOp .Not a pos) (tNotV ta) := by
  intro pins s σ H Q I h
  refine UnaryOp_ (thn (ha pins s σ H _ I h) fun v s1 ⟨x, H1, I1, r1, q1⟩ => ?_)
  obtain ⟨c, rfl, q1⟩ := q1
  cases r1
  exact not_of (wpAny_truthy_bool ⟨.bl (!c), H1, I1, rfl, q1⟩)
end
end L2

namespace L2
open PySem PySem.Spec PyProof.Rows

/-! ### a list, a tuple that is read: tracked, frozen, or an object of the module -/
noncomputable def SqL (K : PySem.W.Frag) (H : Hp) (a : Addr) (xs : List V) : Prop :=
  Rd H a (.lst xs) ∨
    ∃ (o : Obj) (its : Array Value) (n : Nat), K.lookup a = some o ∧ o.cls = .type "list" ∧ o.dict = none ∧ o.data = .seq its n ∧ its.size ≤ sizeLine ∧ Vals xs its.toList
noncomputable def SqT (K : PySem.W.Frag) (H : Hp) (a : Addr) (xs : List V) : Prop :=
  Rd H a (.tup xs) ∨
    ∃ (o : Obj) (its : Array Value) (n : Nat), K.lookup a = some o ∧ o.cls = .type "tuple" ∧ o.data = .seq its n ∧ its.size ≤ sizeLine ∧ Vals xs its.toList
noncomputable def absV : Value → Option V
  | .none => some .non
  | .bool b => some (.bl b)
  | .int i _ => some (.int i)
  | .str x _ => some (.str x)
  | .bytes b _ => some (.byt b)
  | .float b _ => some (.flt b)
  | .ref a => some (.ref a)
  | .type n => some (.ty n)
  | _ => none
theorem RelV.abs {x : V} {u : Value} (r : RelV x u) : absV u = some x := by
  cases x with
  | non => cases r; rfl
  | bl _ => cases r; rfl
  | int _ => obtain ⟨t, rfl⟩ := r; rfl
  | str _ => obtain ⟨t, rfl⟩ := r; rfl
  | byt _ => obtain ⟨t, rfl⟩ := r; rfl
  | flt _ => obtain ⟨t, rfl⟩ := r; rfl
  | ref _ => cases r; rfl
  | ty _ => cases r; rfl
theorem RelV.inj {x y : V} {u : Value} (r : RelV x u) (q : RelV y u) : x = y := Option.some.inj (r.abs.symm.trans q.abs)
theorem Vals.inj : ∀ {xs ys : List V} {us : List Value}, Vals xs us → Vals ys us → xs = ys
  | _, _, _, .nil, .nil => rfl
  | _, _, _, .cons r t, .cons r' t' => by rw [r.inj r', Vals.inj t t']
section
variable {X : Cx} {pins : List (Addr × Obj)} {σ : St} {H : Hp} {s : Shared} {a : Addr} {xs ys : List V}
theorem SqL.of {K : PySem.W.Frag} (h : H a = some (.lst xs)) : SqL K H a xs := .inl (.inl h)
theorem SqT.of {K : PySem.W.Frag} (h : H a = some (.tup xs)) : SqT K H a xs := .inl (.inl h)
theorem Inv.list (I : Inv X pins σ H s) (h : SqL X.K H a xs) : ∃ its : List Value, Vals xs its ∧ PlainL s.heap a its.toArray ∧ xs.length ≤ sizeLine := by
  rcases h with h | ⟨o, its, n, hk, hc, hd, hs, hz, r⟩
  · obtain ⟨z, its, n, r, e⟩ := h.ok I.hok
    exact ⟨its, r, ⟨_, n, e, rfl, rfl, rfl⟩, z⟩
  · refine ⟨its.toList, r, ⟨o, n, I.kIn a o hk, hc, hd, by simpa using hs⟩, ?_⟩
    have e := r.length
    simp only [Array.length_toList] at e
    omega
theorem Inv.tuple (I : Inv X pins σ H s) (h : SqT X.K H a xs) : ∃ its : List Value, Vals xs its ∧ IsTup s.heap a its.toArray ∧ xs.length ≤ sizeLine := by
  rcases h with h | ⟨o, its, n, hk, hc, hs, hz, r⟩
  · obtain ⟨z, its, r, p⟩ := h.ok I.hok
    exact ⟨its, r, p, z⟩
  · refine ⟨its.toList, r, ⟨o, I.kIn a o hk, hc, n, by simpa using hs⟩, ?_⟩
    have e := r.length
    simp only [Array.length_toList] at e
    omega
theorem Inv.list_inj (I : Inv X pins σ H s) (h : SqL X.K H a xs) (h' : SqL X.K H a ys) : xs = ys := by
  obtain ⟨its, r, ⟨o, n, e, _, _, d⟩, _⟩ := I.list h
  obtain ⟨its', r', ⟨o', n', e', _, _, d'⟩, _⟩ := I.list h'
  rw [e] at e'; cases e'
  rw [d] at d'
  injection d' with d1 _
  have : its = its' := by simpa using congrArg Array.toList d1
  subst this
  exact r.inj r'
end

/-! ### another wish about exceptions -/
noncomputable abbrev Cx.wish (X : Cx) (E : Value → Shared → Prop) : Cx := { X with xe := E }
/-- no exception leaves -/
noncomputable abbrev Cx.nox (X : Cx) : Cx := X.wish fun _ _ => False
theorem Cx.Ok.wish {X : Cx} (ok : X.Ok) (E : Value → Shared → Prop) : (X.wish E).Ok :=
  ⟨ok.mod, ok.kind, ok.glob, ok.blt, ok.above, ok.inj, ok.has, ok.cab, ok.hd, ok.frames, ok.stk, ok.exf, ok.bs, ok.bsz, ok.noex, ok.exfs, ok.funs, ok.frf⟩
theorem Cx.Ok.unwish {X : Cx} {E : Value → Shared → Prop} (ok : (X.wish E).Ok) : X.Ok :=
  ⟨ok.mod, ok.kind, ok.glob, ok.blt, ok.above, ok.inj, ok.has, ok.cab, ok.hd, ok.frames, ok.stk, ok.exf, ok.bs, ok.bsz, ok.noex, ok.exfs, ok.funs, ok.frf⟩
section
variable {X : Cx} {pins : List (Addr × Obj)} {σ : St} {H : Hp} {s : Shared} {E : Value → Shared → Prop}
theorem Inv.wish (I : Inv X pins σ H s) (E : Value → Shared → Prop) : Inv (X.wish E) pins σ H s := ⟨I.ok.wish E, I.os, I.bare, I.base, I.loc, I.cell, I.free, I.freeC, I.pin, I.hok, I.len⟩
theorem Inv.unwish (I : Inv (X.wish E) pins σ H s) : Inv X pins σ H s := ⟨I.ok.unwish, I.os, I.bare, I.base, I.loc, I.cell, I.free, I.freeC, I.pin, I.hok, I.len⟩
theorem SP.unwish {D : Ends} {f : Flow} {s' : Shared} (h : SP (X.wish E) pins D f s') : SP X pins D f s' := by
  cases f with
  | next => obtain ⟨σ', H', I, q⟩ := h; exact ⟨σ', H', I.unwish, q⟩
  | brk => obtain ⟨σ', H', I, q⟩ := h; exact ⟨σ', H', I.unwish, q⟩
  | cont => obtain ⟨σ', H', I, q⟩ := h; exact ⟨σ', H', I.unwish, q⟩
  | ret u => obtain ⟨v, σ', H', I, r, q⟩ := h; exact ⟨v, σ', H', I.unwish, r, q⟩
theorem PSs.nox {st : List Stmt} {t : TS} (h : PSs X.nox st t) : PSs X st t := fun pins s σ H D I hw =>
  wpAny_mono (h pins s σ H D (I.wish _) hw) (fun _ _ q => q.unwish) fun _ _ z => False.elim z
end

/-! ### blocks and small statements -/
section
variable {X : Cx} {st : Stmt} {rest : List Stmt} {t u : TS} {e : Expr} {te : TE} {pos : Pos}
noncomputable def tNext : TS := fun D σ H => D.nx σ H
noncomputable def tSeq (t u : TS) : TS := fun D σ H => t { D with nx := u D } σ H
theorem pss_nil : PSs X [] tNext := fun _ _ σ H _ I h => wpAny_execs_nil ⟨σ, H, I, h⟩
theorem pss_cons (h1 : PS X st t) (h2 : PSs X rest u) : PSs X (st :: rest) (tSeq t u) := by
  intro pins s σ H D I h
  refine wpAny_execs_cons (thn (h1 pins s σ H { D with nx := u D } I h) fun f s1 q => ?_)
  cases f with
  | next =>
    obtain ⟨σ', H', I', q⟩ := q
    exact h2 pins s1 σ' H' D I' q
  | ret v => exact q
  | brk => exact q
  | cont => exact q
theorem pss_one (h1 : PS X st t) : PSs X [st] t := by
  intro pins s σ H D I h
  refine wpAny_execs_cons (thn (h1 pins s σ H D I h) fun f s1 q => ?_)
  cases f with
  | next => exact wpAny_execs_nil q
  | ret v => exact q
  | brk => exact q
  | cont => exact q
/-- in a def's body nothing is shown -/
theorem Inv.quiet {pins : List (Addr × Obj)} {σ : St} {H : Hp} {s : Shared} (I : Inv X pins σ H s) : interactive X.env = false := by simp [interactive, I.ok.kind]
/-- an expression whose value is dropped -/
noncomputable def tDrop (te : TE) : TS := fun D σ H => te σ H fun _ H1 => D.nx σ H1
theorem ps_expr (he : PE X e te) (hs : swapsWith e none pos.line X.env = pure false := by rfl) : PS X (.Expr e pos) (tDrop te) := by
  intro pins s σ H D I h
  exact wpAny_Expr_any (thn (he pins s σ H _ I h) fun v s1 ⟨x, H1, I1, r1, q1⟩ => ⟨σ, H1, I1, q1⟩) I.quiet hs
noncomputable def tRet (te : TE) : TS := fun D σ H => te σ H D.rt
theorem ps_ret (he : PE X e te) : PS X (.Return (some e) pos) (tRet te) := by
  intro pins s σ H D I h
  exact wpAny_Return_some (thn (he pins s σ H _ I h) fun v s1 ⟨x, H1, I1, r1, q1⟩ => ⟨x, σ, H1, I1, r1, q1⟩)
noncomputable def tIfS (c : TT) (t u : TS) : TS := fun D σ H => c σ H fun b H1 => if b = true then t D σ H1 else u D σ H1
theorem ps_if {c : Expr} {a b : List Stmt} {tc : TT} (hc : PT X c tc) (ha : PSs X a t) (hb : PSs X b u) : PS X (.If c a b pos) (tIfS tc t u) := by
  intro pins s σ H D I h
  refine wpAny_If (thn (hc pins s σ H _ I h) fun d s1 ⟨H1, I1, q1⟩ => ?_)
  cases d with
  | true => exact ha pins s1 σ H1 D I1 q1
  | false => exact hb pins s1 σ H1 D I1 q1
/-- code that the proof never comes to -/
noncomputable def tNever : TS := fun _ _ _ => False
theorem pss_never {sts : List Stmt} : PSs X sts tNever := fun _ _ _ _ _ _ h => h.elim
end

/-! ### targets -/
noncomputable abbrev TG := V → St → Hp → (St → Hp → Prop) → Prop
noncomputable abbrev TGs := List V → St → Hp → (St → Hp → Prop) → Prop
noncomputable def PG (X : Cx) (target : Expr) (t : TG) : Prop :=
  ∀ (pins : List (Addr × Obj)) (s : Shared) (σ : St) (H : Hp) (v : V) (u : Value) (Q : St → Hp → Prop), Inv X pins σ H s → RelV v u → t v σ H Q →
    wpAny (model X.prog X.w) X.A (assign target X.env u) (fun _ s' => ∃ σ' H', Inv X pins σ' H' s' ∧ Q σ' H') X.xe s
/-- several targets, one after another -/
noncomputable def PGs (X : Cx) (ts : List Expr) (t : TGs) : Prop :=
  ∀ (pins : List (Addr × Obj)) (s : Shared) (σ : St) (H : Hp) (vs : List V) (us : List Value) (Q : St → Hp → Prop), Inv X pins σ H s → Vals vs us → t vs σ H Q →
    wpAny (model X.prog X.w) X.A (assignInOrder ((assignEach ts X.env).map (·.2)) us) (fun _ s' => ∃ σ' H', Inv X pins σ' H' s' ∧ Q σ' H') X.xe s
/-- o[i] = v, by values -/
noncomputable abbrev TSet := V → V → V → Hp → (Hp → Prop) → Prop
noncomputable def PSet (X : Cx) (t : TSet) : Prop :=
  ∀ (pins : List (Addr × Obj)) (s : Shared) (σ : St) (H : Hp) (o i v : V) (ov iv u : Value) (Q : Hp → Prop), Inv X pins σ H s → RelV o ov → RelV i iv → RelV v u → t o i v H Q →
    wpAny (model X.prog X.w) X.A (setItem ov iv u) (fun _ s' => ∃ H', Inv X pins σ H' s' ∧ Q H') X.xe s
section
variable {X : Cx} {pos : Pos}
noncomputable def gName (i : Nat) : TG := fun v σ H Q => Q (σ.set i (some v)) H
theorem pg_name {i : Nat} {x : Str} (hN : X.N.Nodup) (hi : X.N[i]? = some x) (hx : Loc X.env.scope x) (hf : X.fn x = true ∨ X.env.scope.names.lookup x = some .local := by first | exact .inl rfl | exact .inr rfl | assumption) : PG X (.Name x pos) (gName i) := by
  intro pins s σ H v u Q I r h
  exact wpAny_assign_Name (store_ok I hN hi hx r (fun s' I' => ⟨_, H, I', h⟩) hf)
/-- o[i] = .. -/
noncomputable def gSub (to ti : TE) (t : TSet) : TG := fun v σ H Q => to σ H fun o H1 => ti σ H1 fun i H2 => t o i v H2 fun H3 => Q σ H3
theorem pg_sub {o i : Expr} {to ti : TE} {t : TSet} (ho : PE X o to) (hi : PE X i ti) (hs : PSet X t)
    (ha : ∀ v, assign (.Subscript o i pos) X.env v = (do
      let ov ← holding [v] (eval o X.env)
      let iv ← holding [v, ov] (eval i X.env)
      standAt pos
      holding [v, ov, iv] (setItem ov iv v)
      release [v, ov, iv] []) := by intro _; rfl) : PG X (.Subscript o i pos) (gSub to ti t) := by
  intro pins s σ H v u Q I r h
  rw [ha]
  refine wpAny_bind (wpAny_holding (thn (ho pins s σ H _ I h) fun ov s1 ⟨x, H1, I1, r1, q1⟩ => ?_))
  refine wpAny_bind (wpAny_holding (thn (hi pins s1 σ H1 _ I1 q1) fun iv s2 ⟨y, H2, I2, r2, q2⟩ => ?_))
  refine wpAny_bind (wpAny_standAt (wpAny_bind (wpAny_holding (thn (hs pins s2 σ H2 x y v ov iv u _ I2 r1 r2 r q2) fun _ s3 ⟨H3, I3, q3⟩ => ?_))))
  exact wpAny_release ⟨σ, H3, I3, q3⟩
/-- target = value -/
noncomputable def tAsg (te : TE) (g : TG) : TS := fun D σ H => te σ H fun x H1 => g x σ H1 D.nx
theorem ps_asg {tg e : Expr} {te : TE} {g : TG} (he : PE X e te) (hg : PG X tg g) (hs : swapsWithSole [tg] e pos.line X.env = pure false := by rfl) (hw : swappedStores [tg] e X.env = pure none := by rfl)
    (h1 : (assignEach [tg] X.env).map (·.2) = [assign tg X.env] := by rfl) : PS X (.Assign [tg] e pos) (tAsg te g) := by
  intro pins s σ H D I h
  refine wpAny_Assign_stores (thn (he pins s σ H _ I h) fun v s1 ⟨x, H1, I1, r1, q1⟩ => ?_) hs hw
  rw [h1]
  exact thn (hg pins s1 σ H1 x v _ I1 r1 q1) fun _ s2 q => q
/-- name = value -/
theorem ps_set {i : Nat} {x : Str} {e : Expr} {te : TE} {pos' : Pos} (hN : X.N.Nodup) (hi : X.N[i]? = some x) (hx : Loc X.env.scope x) (he : PE X e te) (hs : swapsWith e (some (.Name x pos')) pos.line X.env = pure false := by rfl) (hf : X.fn x = true ∨ X.env.scope.names.lookup x = some .local := by first | exact .inl rfl | exact .inr rfl | assumption) :
    PS X (.Assign [.Name x pos'] e pos) (tAsg te (gName i)) := by
  intro pins s σ H D I h
  refine wpAny_Assign_Name (thn (he pins s σ H _ I h) fun v s1 ⟨y, H1, I1, r1, q1⟩ => ?_) hs
  exact store_ok I1 hN hi hx r1 (fun s2 I2 => ⟨_, H1, I2, q1⟩) hf
end

/-! ### while -/
section
variable {X : Cx} {pos : Pos}
/-- the invariant W with its measure -/
noncomputable def tWhile (c : TT) (tb : TS) : TS := fun D σ H => ∃ W : Nat → St → Hp → Prop, (∃ m, W m σ H) ∧ ∀ m σ H, W m σ H →
  c σ H fun b H1 => if b = true then ∃ N : St → Hp → Prop, (∀ σ' H', N σ' H' → ∃ m', m' < m ∧ W m' σ' H') ∧ tb { D with nx := N, ct := N, bk := D.nx } σ H1 else D.nx σ H1
theorem ps_while {c : Expr} {body : List Stmt} {tc : TT} {tb : TS} (hp : PassesOwn (model X.prog X.w) X.A X.env X.xe) (hc : PT X c tc) (hb : PSs X body tb) : PS X (.While c body [] pos) (tWhile tc tb) := by
  intro pins s σ H D I h
  obtain ⟨W, ⟨m0, w0⟩, turn⟩ := h
  refine wpAny_While (codeAny_whileLoop (fun n s' => ∃ σ' H', Inv X pins σ' H' s' ∧ W n σ' H') ?_ m0 ⟨σ, H, I, w0⟩)
  rintro n s1 ⟨σ1, H1, I1, w1⟩
  refine wpAny_passesOwn hp (thn (hc pins s1 σ1 H1 _ I1 (turn n σ1 H1 w1)) fun b s2 ⟨H2, I2, q2⟩ => ?_)
  cases b with
  | true =>
    obtain ⟨N, hN, q2⟩ := q2
    rw [if_pos rfl]
    refine wpAny_passesOwn hp (thn (hb pins s2 σ1 H2 _ I2 q2) fun f s3 q3 => ?_)
    cases f with
    | next =>
      obtain ⟨σ3, H3, I3, n3⟩ := q3
      obtain ⟨m', hm, w3⟩ := hN σ3 H3 n3
      exact ⟨m', hm, σ3, H3, I3, w3⟩
    | cont =>
      obtain ⟨σ3, H3, I3, n3⟩ := q3
      obtain ⟨m', hm, w3⟩ := hN σ3 H3 n3
      exact ⟨m', hm, σ3, H3, I3, w3⟩
    | brk => exact q3
    | ret v => exact q3
  | false =>
    rw [if_neg Bool.false_ne_true]
    exact wpAny_execs_nil ⟨σ1, H2, I2, q2⟩
end

/-! ### what a loop or a comprehension walks -/
/-- at turn i: it yields x (the heap may grow), or it stops -/
structure It where
  go : Nat → Hp → Prop
  yld : Nat → Hp → V → Hp → Prop
  stop : Nat → Hp → Prop
/-- the iterator's own objects may turn: they are not the frame's, not pinned, younger than the entry (or a comprehension's own) -/
noncomputable def FpOk (X : Cx) (pins : List (Addr × Obj)) (H : Hp) (b : Addr) : Prop :=
  H b = none ∧ b ≠ X.env.locals ∧ b ∉ X.fs ∧ (b ∈ X.ex ∨ X.s₀.heap.objs.size ≤ b) ∧ (∀ x c, X.env.cells.lookup x = some c → c ≠ b) ∧ ∀ p ∈ X.pn ++ pins, p.1 ≠ b
theorem Inv.fpOk {X : Cx} {pins : List (Addr × Obj)} {σ : St} {H H' : Hp} {s : Shared} {b : Addr} (I : Inv X pins σ H s) (hb : s.heap.objs.size ≤ b) (hn : H' b = none) : FpOk X pins H' b := by
  refine ⟨hn, Nat.ne_of_gt (Nat.lt_of_lt_of_le I.lt hb), I.nofs hb, .inr (Nat.le_trans I.sz hb), fun x c e z => ?_, fun p hp z => ?_⟩
  · obtain ⟨v, q⟩ := I.cell x c e
    exact absurd (Nat.lt_of_lt_of_le q.lt (by rw [z]; exact hb)) (Nat.lt_irrefl _)
  · exact absurd (Nat.lt_of_lt_of_le (Heap.lt_size (I.pin p hp).1) (by rw [z]; exact hb)) (Nat.lt_irrefl _)
structure Turn (P : Program) (w : World) (K : PySem.W.Frag) (tg : Expr) (J : It) (fp : List Addr) (it : Addr) (tn : Nat → Heap → Prop) : Prop where
  mem : it ∈ fp
  obj : ∀ i h, tn i h → ∀ b ∈ fp, ∃ o, h.get? b = some o ∧ ∀ v, o.data ≠ .cell v
  keep : ∀ i h h', tn i h → (∀ b ∈ fp, ∀ o, h.get? b = some o → h'.get? b = some o) → tn i h'
  item : ∀ (X : Cx), X.prog = P → X.w = w → X.K = K → X.calm = true → ∀ (i : Nat) (pins : List (Addr × Obj)) (s : Shared) (σ : St) (H : Hp) (E : Value → Shared → Prop), Inv X pins σ H s → (∀ b ∈ fp, FpOk X pins H b) → tn i s.heap → J.go i H →
    wpAny (model P w) X.A (pyNext (.ref it)) (fun r s1 => ∃ u, r = some u ∧
      wpAny (model P w) X.A (letOwnedTupleGo tg (.ref it) u) (fun _ s2 => ∃ x H', Inv X pins σ H' s2 ∧ RelV x u ∧ J.yld i H x H' ∧ tn (i + 1) s2.heap ∧ ∀ b ∈ fp, H' b = none) E s1) E s
  done : ∀ (X : Cx), X.prog = P → X.w = w → X.K = K → X.calm = true → ∀ (i : Nat) (pins : List (Addr × Obj)) (s : Shared) (σ : St) (H : Hp) (E : Value → Shared → Prop), Inv X pins σ H s → (∀ b ∈ fp, FpOk X pins H b) → tn i s.heap → J.stop i H →
    wpAny (model P w) X.A (pyNext (.ref it)) (fun r s1 => r = none ∧ Inv X pins σ H s1) E s
  self : ∀ (A : Around) (i : Nat) (s : Shared) (Q : Value → Shared → Prop) (E : Value → Shared → Prop), tn i s.heap → Q (.ref it) s → wpAny (model P w) A (pyIter (.ref it)) Q E s
noncomputable abbrev TI := St → Hp → (It → Hp → Prop) → Prop
/-- an iterator has come -/
noncomputable def PIE (X : Cx) (pins : List (Addr × Obj)) (σ : St) (tg : Expr) (R : It → Hp → Prop) (itv : Value) (s2 : Shared) : Prop :=
  ∃ (it : Addr) (fp : List Addr) (tn : Nat → Heap → Prop) (J : It) (H' : Hp), itv = .ref it ∧ Inv X pins σ H' s2 ∧ Turn X.prog X.w X.K tg J fp it tn ∧ tn 0 s2.heap ∧ (∀ b ∈ fp, FpOk X pins H' b) ∧ R J H'
noncomputable def PI (X : Cx) (tg iter : Expr) (wi : TI) : Prop :=
  ∀ (pins : List (Addr × Obj)) (s : Shared) (σ : St) (H : Hp) (R : It → Hp → Prop), Inv X pins σ H s → wi σ H R →
    wpAny (model X.prog X.w) X.A (eval iter X.env) (fun v s1 => wpAny (model X.prog X.w) X.A (pyIter v) (PIE X pins σ tg R) X.xe s1) X.xe s

/-- the step ahead of the store is nothing for an iterator that keeps no tuple -/
theorem go_of {M : Model} {A : Around} {E : Value → Shared → Prop} {s : Shared} {tg : Expr} {it : Addr} {u : Value} {o : Obj} {n : String} {vs : Array Value} {Q : Unit → Shared → Prop} (ho : s.heap.get? it = some o) (hc : o.cls = .type n) (hd : o.data = .fields vs)
    (hn : ["enumerate", "zip", "dict_itemiterator", "dict_reverseitemiterator", "odict_iterator", "itertools.zip_longest", "itertools.pairwise"].contains n = false) (hQ : Q () s) : wpAny M A (letOwnedTupleGo tg (.ref it) u) Q E s := by
  unfold letOwnedTupleGo
  cases tg <;> first
    | exact wpAny_pure hQ
    | (cases u <;> first
        | exact wpAny_pure hQ
        | (refine wpAny_bind (wpAny_load ho ?_)
           rw [hc, hd]
           show wpAny M A (if (["enumerate", "zip", "dict_itemiterator", "dict_reverseitemiterator", "odict_iterator", "itertools.zip_longest", "itertools.pairwise"].contains n && vs[0]? == some (rawInt _)) = true then _ else _) Q E s
           rw [if_neg (by intro h; rw [hn, Bool.false_and] at h; cases h)]
           exact wpAny_pure hQ))

/-- the list at a, as it stands at each turn (a loop may append to it) -/
noncomputable def Itl (K : PySem.W.Frag) (a : Addr) : It :=
  ⟨fun i H => ∃ xs x, SqL K H a xs ∧ xs[i]? = some x, fun i H x H' => H' = H ∧ ∀ xs, SqL K H a xs → xs[i]? = some x, fun i H => ∃ xs, SqL K H a xs ∧ xs.length ≤ i⟩
/-- lo, lo + 1, .. (n of them) -/
noncomputable def Itr (lo : Int) (n : Nat) : It := ⟨fun i _ => i < n, fun i H x H' => H' = H ∧ x = .int (lo + i), fun i _ => n ≤ i⟩
theorem turn_list {P : Program} {w : World} {K : PySem.W.Frag} {tg : Expr} (a it : Addr) : Turn P w K tg (Itl K a) [it] it (fun i h => h.IsListIter it a i) where
  mem := by simp
  obj := fun i h st b hb => by
    have e : b = it := by simpa using hb
    subst e
    obtain ⟨o, e, c, d⟩ := st
    exact ⟨o, e, fun v z => by rw [d] at z; cases z⟩
  keep := fun i h h' st k => st.at fun o e => k it (by simp) o e
  item := by
    intro X hP hw hK hc i pins s σ H E I hf st hg
    subst hP hw hK
    obtain ⟨xs, x, hq, hx⟩ := hg
    obtain ⟨its, rv, p, hz⟩ := I.list hq
    obtain ⟨u, hu, ru⟩ := rv.get hx
    obtain ⟨f0, f1, f2, f3, f4, f5⟩ := hf it (by simp)
    refine wpAny_pyNext_list_item st p.isList (x := u) (by simpa using hu) fun h' st' sb => ?_
    have I1 : Inv X pins σ H { s with heap := h' } := I.turned (t' := s.toks) (fun b o hb e => (sb.2 b hb).trans e) f0 f1 f3 f4 f5
    obtain ⟨o, e, c, d⟩ := id st'
    exact ⟨u, rfl, go_of (s := { s with heap := h' }) e c d (by decide) ⟨x, H, I1, ru, ⟨rfl, fun ys hy => by rw [I.list_inj hy hq]; exact hx⟩, st', fun b hb => (hf b hb).1⟩⟩
  done := by
    intro X hP hw hK hc i pins s σ H E I hf st hg
    subst hP hw hK
    obtain ⟨xs, hq, hx⟩ := hg
    obtain ⟨its, rv, p, hz⟩ := I.list hq
    obtain ⟨f0, f1, f2, f3, f4, f5⟩ := hf it (by simp)
    have hl := rv.length
    exact wpAny_pyNext_list_end (I.ok.hd hc) st p.isList (by simp; omega) fun h' eb => ⟨rfl, I.turned (t' := s.toks) (fun b o hb e => eb b o hb e) f0 f1 f3 f4 f5⟩
  self := fun _ _ _ _ _ st h => wpAny_pyIter_listiter st h
theorem turn_range {P : Program} {w : World} {K : PySem.W.Frag} {tg : Expr} (it : Addr) (lo : Int) (n : Nat) : Turn P w K tg (Itr lo n) [it] it (fun i h => IsRangeIter h it (lo + (i : Nat) * 1) ((n : Int) - (i : Nat)) 1) where
  mem := by simp
  obj := fun i h st b hb => by
    have e : b = it := by simpa using hb
    subst e
    exact ⟨_, st, fun v z => by
      have z' : Data.fields _ = Data.cell v := z
      cases z'⟩
  keep := fun i h h' st k => k it (by simp) _ st
  item := by
    intro X hP hw hK hc i pins s σ H E I hf st hg
    subst hP hw hK
    obtain ⟨f0, f1, f2, f3, f4, f5⟩ := hf it (by simp)
    have W := Walks.range (prog := X.prog) (w := X.w) (I.ok.hd hc) it lo 1 n
    refine W.item i s _ _ hg st fun v h' tk hv st' kk => ?_
    obtain ⟨t, rfl⟩ := hv
    have I1 : Inv X pins σ H { s with heap := h', toks := tk } := I.turned (fun b o hb e => kk b o (by simpa using hb) e) f0 f1 f3 f4 f5
    refine ⟨_, rfl, go_of (s := { s with heap := h', toks := tk }) (n := "range_iterator") st' rfl rfl (by decide) ⟨.int (lo + i), H, I1, ⟨t, ?_⟩, ⟨rfl, rfl⟩, st', fun b hb => (hf b hb).1⟩⟩
    rw [Int.mul_one]
  done := by
    intro X hP hw hK hc i pins s σ H E I hf st hg
    subst hP hw hK
    obtain ⟨f0, f1, f2, f3, f4, f5⟩ := hf it (by simp)
    exact wpAny_pyNext_range_end (I.ok.hd hc) st (by have : n ≤ i := hg; omega) fun h' eb => ⟨rfl, I.turned (t' := s.toks) (fun b o hb e => eb b o hb e) f0 f1 f3 f4 f5⟩
  self := fun _ _ _ _ _ st h => wpAny_pyIter_rangeiter st h
end L2

namespace L2
open PySem PySem.Spec PyProof.Rows
section
variable {X : Cx} {tg : Expr}
noncomputable def iList (K : PySem.W.Frag) (tl : TE) : TI := fun σ H R => tl σ H fun x H1 => ∃ a, x = .ref a ∧ (∃ xs, SqL K H1 a xs) ∧ R (Itl K a) H1
theorem pi_list {l : Expr} {tl : TE} (hl : PE X l tl) : PI X tg l (iList X.K tl) := by
  intro pins s σ H R I h
  refine thn (hl pins s σ H _ I h) fun v s1 ⟨x, H1, I1, r1, q1⟩ => ?_
  obtain ⟨a, e, ⟨xs, hq⟩, q⟩ := q1
  subst e
  cases r1
  obtain ⟨its, rv, p, hz⟩ := I1.list hq
  refine wpAny_pyIter_list p.isList ?_
  refine ⟨s1.heap.objs.size, [s1.heap.objs.size], _, _, H1, rfl, I1.kept (t' := s1.toks) fun b o e => Heap.get?_push_of_some _ e, turn_list a _, ⟨_, Heap.get?_push_size _ rfl, rfl, rfl⟩, fun b hb => ?_, q⟩
  have e : b = s1.heap.objs.size := by simpa using hb
  subst e
  exact I1.fpOk (Nat.le_refl _) (I1.hok.fresh (Nat.le_refl _))
/-- a range object just made, walked -/
theorem range_it {pins : List (Addr × Obj)} {σ : St} {H : Hp} {s : Shared} {R : It → Hp → Prop} {E : Value → Shared → Prop} {lo hi : Int} {t u v : Tok} {tk : Nat} (I : Inv X pins σ H s) (h1 : -(2 ^ 62) ≤ lo) (h2 : lo < 2 ^ 62) (h3 : -(2 ^ 62) ≤ hi) (h4 : hi < 2 ^ 62)
    (q : R (Itr lo (hi - lo).toNat) H) : wpAny (model X.prog X.w) X.A (pyIter (.ref s.heap.objs.size)) (PIE X pins σ tg R) E { s with heap := s.heap.push { cls := .type "range", data := .fields #[.int lo t, .int hi u, .int 1 v] }, toks := tk } := by
  refine wpAny_pyIter_range (IsRange.new ..) (small_one h1 h2 h3 h4) ?_
  have I1 : Inv X pins σ H { s with heap := s.heap.push { cls := .type "range", data := .fields #[.int lo t, .int hi u, .int 1 v] }, toks := tk } := I.kept fun b o e => Heap.get?_push_of_some _ e
  refine ⟨(s.heap.push { cls := .type "range", data := .fields #[.int lo t, .int hi u, .int 1 v] }).objs.size, [(s.heap.push { cls := .type "range", data := .fields #[.int lo t, .int hi u, .int 1 v] }).objs.size], _, _, H, rfl,
    I1.kept (t' := tk) fun b o e => Heap.get?_push_of_some _ e, turn_range _ lo (hi - lo).toNat, ?_, fun b hb => ?_, q⟩
  · have e1 : lo + ((0 : Nat) : Int) * 1 = lo := by simp
    have e2 : (((hi - lo).toNat : Nat) : Int) - ((0 : Nat) : Int) = Builtin.Range.rangeSize lo hi 1 := by rw [rangeSize_one]; split <;> omega
    show IsRangeIter _ _ (lo + ((0 : Nat) : Int) * 1) ((((hi - lo).toNat : Nat) : Int) - ((0 : Nat) : Int)) 1
    rw [e1, e2]
    exact Heap.get?_push_size _ rfl
  · have e : b = (s.heap.push { cls := .type "range", data := .fields #[.int lo t, .int hi u, .int 1 v] }).objs.size := by simpa using hb
    subst e
    exact I1.fpOk (Nat.le_refl _) (I1.hok.fresh (Nat.le_refl _))
noncomputable def iRng1 (ta : TA) : TI := fun σ H R => ta σ H fun vs H1 => ∃ j : Int, vs = [.int j] ∧ -(2 ^ 62) ≤ j ∧ j < 2 ^ 62 ∧ R (Itr 0 j.toNat) H1
theorem pi_range1 {a : Expr} {ta : TA} {p pos : Pos} (hg : Gl X "range") (hm : X.mg "range" = none) (ha : PA X [a] ta) (hs : starEach [a] X.env = [(false, eval a X.env)] := by rfl) : PI X tg (.Call (.Name "range" p) [a] [] pos) (iRng1 ta) := by
  intro pins s σ H R I h
  refine Call_ (ld_blt I hg hm boot_range (PyProof.Rows.callWith_type1 (thn (ha pos pins s σ H _ I h) fun us s1 ⟨vs, H1, I1, r1, q1⟩ => ?_) hs rfl))
  obtain ⟨j, e, q1, q2, q⟩ := q1
  subst e
  cases r1 with
  | cons r rr =>
    cases rr
    obtain ⟨t, rfl⟩ := r
    exact call_range_1 (range_it I1 (by omega) (by omega) q1 q2 (by simpa using q))
/-! ### for -/
/-- W: the invariant by the turn and a measure; N: what the body is to reach -/
noncomputable def tFor (wi : TI) (g : TG) (tb : TS) : TS := fun D σ H => wi σ H fun J H1 => ∃ W : Nat → Nat → St → Hp → Prop, (∃ m, W 0 m σ H1) ∧ ∀ i m σ H, W i m σ H →
  (J.stop i H ∧ D.nx σ H) ∨ (J.go i H ∧ ∃ N : St → Hp → Prop, (∀ σ' H', N σ' H' → ∃ m', m' < m ∧ W (i + 1) m' σ' H') ∧ ∀ x H', J.yld i H x H' → g x σ H' fun σ2 H2 => tb { D with nx := N, ct := N, bk := D.nx } σ2 H2)
/-- the records at fp as they stand -/
noncomputable def pinsAt (fp : List Addr) (h : Heap) : List (Addr × Obj) := fp.filterMap fun b => (h.get? b).map fun o => (b, o)
theorem mem_pinsAt {fp : List Addr} {h : Heap} {b : Addr} {o : Obj} (hb : b ∈ fp) (e : h.get? b = some o) : (b, o) ∈ pinsAt fp h := List.mem_filterMap.mpr ⟨b, hb, by rw [e]; rfl⟩
theorem of_pinsAt {fp : List Addr} {h : Heap} {p : Addr × Obj} (hp : p ∈ pinsAt fp h) : p.1 ∈ fp ∧ h.get? p.1 = some p.2 := by
  obtain ⟨b, hb, e⟩ := List.mem_filterMap.mp hp
  cases q : h.get? b with
  | none => rw [q] at e; cases e
  | some o =>
    rw [q] at e
    have e' : (b, o) = p := Option.some.inj e
    subst e'
    exact ⟨hb, q⟩
theorem Inv.pinned {pins : List (Addr × Obj)} {σ : St} {H : Hp} {s : Shared} {fp : List Addr} (I : Inv X pins σ H s) (hf : ∀ b ∈ fp, FpOk X pins H b) (ho : ∀ b ∈ fp, ∃ o, s.heap.get? b = some o ∧ ∀ v, o.data ≠ .cell v) : Inv X (pins ++ pinsAt fp s.heap) σ H s :=
  I.pins_of fun p hp => (List.mem_append.mp hp).elim (fun z => I.pin p (List.mem_append_right _ z)) fun z => by
    obtain ⟨hb, e⟩ := of_pinsAt z
    obtain ⟨f0, f1, f2, _⟩ := hf p.1 hb
    obtain ⟨o, e', d⟩ := ho p.1 hb
    rw [e] at e'; cases e'
    exact ⟨e, f0, f1, f2, d⟩
theorem Inv.unpinned {pins pl : List (Addr × Obj)} {σ : St} {H : Hp} {s : Shared} (I : Inv X (pins ++ pl) σ H s) : Inv X pins σ H s := I.pins_of fun p hp => I.pin p (List.mem_append_right _ (List.mem_append_left _ hp))
theorem ps_for {iter : Expr} {body : List Stmt} {wi : TI} {g : TG} {tb : TS} {pos : Pos} (hp : PassesOwn (model X.prog X.w) X.A X.env X.xe) (hc : X.calm = true) (hi : PI X tg iter wi) (hg : PG X tg g) (hb : PSs X body tb)
    (hs : ∀ x, foldedSetIterable iter X.env x = pure x := by intro _; rfl) : PS X (.For tg iter body [] pos) (tFor wi g tb) := by
  intro pins s σ H D I h
  refine wpAny_For (thn (hi pins s σ H _ I h) fun v s1 h1 => thn h1 fun itv s2 h2 => ?_) hs
  obtain ⟨it, fp, tn, J, H2, e, I2, T, st2, f2, W, ⟨m0, w0⟩, turn⟩ := h2
  subst e
  -- what stays true of the iterator's objects through the loop
  have stat : ∀ {H' : Hp}, (∀ b ∈ fp, H' b = none) → ∀ b ∈ fp, FpOk X pins H' b := fun hn b hb => ⟨hn b hb, (f2 b hb).2⟩
  refine codeAny_forLoop_any (fun n s' => ∃ i σ' H', Inv X pins σ' H' s' ∧ tn i s'.heap ∧ (∀ b ∈ fp, H' b = none) ∧ W i n σ' H') ?_ m0 ⟨0, σ, H2, I2, st2, fun b hb => (f2 b hb).1, w0⟩
  rintro n s3 ⟨i, σ3, H3, I3, st3, fr3, w3⟩
  rcases turn i n σ3 H3 w3 with ⟨stop, qn⟩ | ⟨go, N, hN, step⟩
  · refine wpAny_passesOwn hp (thn (T.done X rfl rfl rfl hc i pins s3 σ3 H3 X.xe I3 (stat fr3) st3 stop) fun r s4 ⟨hr, I4⟩ => ?_)
    subst hr
    exact wpAny_execs_nil ⟨σ3, H3, I4, qn⟩
  · refine wpAny_passesOwn hp (thn (T.item X rfl rfl rfl hc i pins s3 σ3 H3 X.xe I3 (stat fr3) st3 go) fun r s4 ⟨u, hr, h4⟩ => ?_)
    subst hr
    refine wpAny_passesOwn hp (thn h4 fun _ s5 ⟨x, H5, I5, r5, y5, st5, fr5⟩ => ?_)
    have I5' := I5.pinned (stat fr5) (T.obj _ _ st5)
    refine wpAny_passesOwn hp (thn (hg _ s5 σ3 H5 x u _ I5' r5 (step x H5 y5)) fun _ s6 ⟨σ6, H6, I6, q6⟩ => ?_)
    refine wpAny_passesOwn hp (thn (hb _ s6 σ6 H6 _ I6 q6) fun f s7 q7 => ?_)
    have again : ∀ {σ7 : St} {H7 : Hp}, Inv X (pins ++ pinsAt fp s5.heap) σ7 H7 s7 → N σ7 H7 → ∃ m, m < n ∧ ∃ i σ' H', Inv X pins σ' H' s7 ∧ tn i s7.heap ∧ (∀ b ∈ fp, H' b = none) ∧ W i m σ' H' := fun {σ7 H7} I7 n7 => by
      obtain ⟨m', hm, w7⟩ := hN σ7 H7 n7
      refine ⟨m', hm, i + 1, σ7, H7, I7.unpinned, T.keep _ _ _ st5 fun b hb o e => (I7.pin (b, o) (List.mem_append_right _ (List.mem_append_right _ (mem_pinsAt hb e)))).1, fun b hb => ?_, w7⟩
      obtain ⟨o, e, d⟩ := T.obj _ _ st5 b hb
      exact (I7.pin (b, o) (List.mem_append_right _ (List.mem_append_right _ (mem_pinsAt hb e)))).2.1
    cases f with
    | next => obtain ⟨σ7, H7, I7, n7⟩ := q7; exact again I7 n7
    | cont => obtain ⟨σ7, H7, I7, n7⟩ := q7; exact again I7 n7
    | brk => obtain ⟨σ7, H7, I7, q7⟩ := q7; exact ⟨σ7, H7, I7.unpinned, q7⟩
    | ret v => obtain ⟨x7, σ7, H7, I7, r7, q7⟩ := q7; exact ⟨x7, σ7, H7, I7.unpinned, r7, q7⟩
end

/-! ### the forms one uses -/
/-- over a list that the body leaves as it is -/
theorem for_list {K : PySem.W.Frag} {a : Addr} {xs : List V} {g : TG} {tb : TS} {D : Ends} {σ : St} {H : Hp} (Pv : Nat → St → Hp → Prop) (h0 : Pv 0 σ H) (hl : ∀ i σ H, i ≤ xs.length → Pv i σ H → SqL K H a xs)
    (hs : ∀ i x σ H, xs[i]? = some x → Pv i σ H → g x σ H fun σ2 H2 => tb { D with nx := Pv (i + 1), ct := Pv (i + 1), bk := D.nx } σ2 H2) (hd : ∀ σ H, Pv xs.length σ H → D.nx σ H) :
    ∃ W : Nat → Nat → St → Hp → Prop, (∃ m, W 0 m σ H) ∧ ∀ i m σ H, W i m σ H →
      ((Itl K a).stop i H ∧ D.nx σ H) ∨ ((Itl K a).go i H ∧ ∃ N : St → Hp → Prop, (∀ σ' H', N σ' H' → ∃ m', m' < m ∧ W (i + 1) m' σ' H') ∧ ∀ x H', (Itl K a).yld i H x H' → g x σ H' fun σ2 H2 => tb { D with nx := N, ct := N, bk := D.nx } σ2 H2) := by
  refine ⟨fun i m σ H => m = xs.length - i ∧ i ≤ xs.length ∧ Pv i σ H, ⟨xs.length, by simp, Nat.zero_le _, h0⟩, ?_⟩
  rintro i m σ H ⟨rfl, hi, p⟩
  have q := hl i σ H hi p
  by_cases hlt : i < xs.length
  · refine .inr ⟨⟨xs, xs[i], q, by simp [hlt]⟩, Pv (i + 1), fun σ' H' p' => ⟨xs.length - (i + 1), by omega, rfl, hlt, p'⟩, fun x H' y => ?_⟩
    obtain ⟨e, y⟩ := y
    subst e
    exact hs i x σ _ (y xs q) p
  · have e : i = xs.length := by omega
    subst e
    exact .inl ⟨⟨xs, q, Nat.le_refl _⟩, hd σ H p⟩
theorem for_range {lo : Int} {n : Nat} {g : TG} {tb : TS} {D : Ends} {σ : St} {H : Hp} (Pv : Nat → St → Hp → Prop) (h0 : Pv 0 σ H)
    (hs : ∀ i σ H, i < n → Pv i σ H → g (.int (lo + i)) σ H fun σ2 H2 => tb { D with nx := Pv (i + 1), ct := Pv (i + 1), bk := D.nx } σ2 H2) (hd : ∀ σ H, Pv n σ H → D.nx σ H) :
    ∃ W : Nat → Nat → St → Hp → Prop, (∃ m, W 0 m σ H) ∧ ∀ i m σ H, W i m σ H →
      ((Itr lo n).stop i H ∧ D.nx σ H) ∨ ((Itr lo n).go i H ∧ ∃ N : St → Hp → Prop, (∀ σ' H', N σ' H' → ∃ m', m' < m ∧ W (i + 1) m' σ' H') ∧ ∀ x H', (Itr lo n).yld i H x H' → g x σ H' fun σ2 H2 => tb { D with nx := N, ct := N, bk := D.nx } σ2 H2) := by
  refine ⟨fun i m σ H => m = n - i ∧ i ≤ n ∧ Pv i σ H, ⟨n, by simp, Nat.zero_le _, h0⟩, ?_⟩
  rintro i m σ H ⟨rfl, hi, p⟩
  by_cases hlt : i < n
  · refine .inr ⟨hlt, Pv (i + 1), fun σ' H' p' => ⟨n - (i + 1), by omega, rfl, hlt, p'⟩, fun x H' y => ?_⟩
    obtain ⟨e, y⟩ := y
    subst e y
    exact hs i σ _ hlt p
  · have e : i = n := by omega
    subst e
    exact .inl ⟨Nat.le_refl _, hd σ H p⟩
/-- while, by a word and a measure of the state -/
theorem while_by {c : TT} {tb : TS} {D : Ends} {σ : St} {H : Hp} (Pv : St → Hp → Prop) (μ : St → Hp → Nat) (h0 : Pv σ H)
    (hs : ∀ σ H, Pv σ H → c σ H fun b H1 => if b = true then tb { D with nx := fun σ' H' => Pv σ' H' ∧ μ σ' H' < μ σ H, ct := fun σ' H' => Pv σ' H' ∧ μ σ' H' < μ σ H, bk := D.nx } σ H1 else D.nx σ H1)
    (mono : ∀ σ H Q Q', (∀ b H1, Q b H1 → Q' b H1) → c σ H Q → c σ H Q') : tWhile c tb D σ H := by
  refine ⟨fun m σ H => m = μ σ H ∧ Pv σ H, ⟨_, rfl, h0⟩, ?_⟩
  rintro m σ H ⟨rfl, p⟩
  refine mono σ H _ _ (fun b H1 q => ?_) (hs σ H p)
  cases b with
  | true => exact ⟨_, fun σ' H' ⟨p', l⟩ => ⟨_, l, rfl, p'⟩, q⟩
  | false => exact q
end L2

namespace L2
open PySem PySem.Spec PyProof.Rows

noncomputable abbrev R2 := V → V → Hp → VK → Prop
/-- a two-place operation on values: f is binaryOp op, inplaceOp op or compareOp op -/
noncomputable def OpR (X : Cx) (f : Value → Value → Sem Value) (r : R2) : Prop :=
  ∀ (pins : List (Addr × Obj)) (s : Shared) (σ : St) (H : Hp) (x y : V) (v u : Value) (Q : VK), Inv X pins σ H s → RelV x v → RelV y u → r x y H Q →
    wpAny (model X.prog X.w) X.A (f v u) (EP X pins σ Q) X.xe s
/-- a one-place operation -/
noncomputable def UnR (X : Cx) (f : Value → Sem Value) (r : V → Hp → VK → Prop) : Prop :=
  ∀ (pins : List (Addr × Obj)) (s : Shared) (σ : St) (H : Hp) (x : V) (v : Value) (Q : VK), Inv X pins σ H s → RelV x v → r x H Q →
    wpAny (model X.prog X.w) X.A (f v) (EP X pins σ Q) X.xe s
/-- a call of a value that is known (a builtin, a type) with values -/
noncomputable def CallR (X : Cx) (f : Value) (r : List V → Hp → VK → Prop) : Prop :=
  ∀ (pins : List (Addr × Obj)) (s : Shared) (σ : St) (H : Hp) (xs : List V) (us : List Value) (Q : VK), Inv X pins σ H s → Vals xs us → r xs H Q →
    wpAny (model X.prog X.w) X.A (call f us) (EP X pins σ Q) X.xe s
/-- a value's truth -/
noncomputable def TruR (X : Cx) (r : V → Hp → (Bool → Hp → Prop) → Prop) : Prop :=
  ∀ (pins : List (Addr × Obj)) (s : Shared) (σ : St) (H : Hp) (x : V) (v : Value) (Q : Bool → Hp → Prop), Inv X pins σ H s → RelV x v → r x H Q →
    wpAny (model X.prog X.w) X.A (truthy v) (TP X pins σ Q) X.xe s

noncomputable def tOp (r : R2) (ta tb : TE) : TE := fun σ H Q => ta σ H fun x H1 => tb σ H1 fun y H2 => r x y H2 Q
noncomputable def tUn (r : V → Hp → VK → Prop) (ta : TE) : TE := fun σ H Q => ta σ H fun x H1 => r x H1 Q
/-- ints in, under C, and a value out -/
noncomputable def rI (C : Int → Int → Prop) (g : Int → Int → V) : R2 := fun x y H Q => ∃ i j, x = .int i ∧ y = .int j ∧ C i j ∧ Q (g i j) H
noncomputable def rI0 (g : Int → Int → V) : R2 := fun x y H Q => ∃ i j, x = .int i ∧ y = .int j ∧ Q (g i j) H
noncomputable def rU (g : Int → V) : V → Hp → VK → Prop := fun x H Q => ∃ i, x = .int i ∧ Q (g i) H

section
variable {X : Cx} {a b c : Expr} {ta tb tc : TE} {pos : Pos}

theorem binT (ha : PE X a ta) (hb : PE X b tb) {pins : List (Addr × Obj)} {s : Shared} {σ : St} {H : Hp} {R : V → V → Hp → Prop} (I : Inv X pins σ H s)
    (h : ta σ H fun x H1 => tb σ H1 fun y H2 => R x y H2) {Q : Value → Shared → Prop} {f : Value → Value → Sem Value}
    (hf : ∀ v u s2 x y H2, Inv X pins σ H2 s2 → RelV x v → RelV y u → R x y H2 → wpAny (model X.prog X.w) X.A (f v u) Q X.xe s2) :
    wpAny (model X.prog X.w) X.A (eval a X.env) (fun v s₁ => wpAny (model X.prog X.w) X.A (eval b X.env) (fun u s₂ => wpAny (model X.prog X.w) X.A (f v u) Q X.xe s₂) X.xe s₁) X.xe s := by
  refine thn (ha pins s σ H _ I h) fun v s1 ⟨x, H1, I1, r1, q1⟩ => ?_
  refine thn (hb pins s1 σ H1 _ I1 q1) fun u s2 ⟨y, H2, I2, r2, q2⟩ => ?_
  exact hf v u s2 x y H2 I2 r1 r2 q2

theorem pe_op {op : Operator} {r : R2} (ho : OpR X (binaryOp op) r) (ha : PE X a ta) (hb : PE X b tb) : PE X (.BinOp a op b pos) (tOp r ta tb) := by
  intro pins s σ H Q I h
  exact wpAny_BinOp (binT ha hb I h fun v u s2 x y H2 I2 rx ry q => ho pins s2 σ H2 x y v u Q I2 rx ry q)
theorem pe_un {op : UnaryOp} {r : V → Hp → VK → Prop} (ho : UnR X (unaryOp op) r) (ha : PE X a ta) : PE X (.UnaryOp op a pos) (tUn r ta) := by
  intro pins s σ H Q I h
  exact UnaryOp_ (thn (ha pins s σ H _ I h) fun v s1 ⟨x, H1, I1, r1, q1⟩ => ho pins s1 σ H1 x v Q I1 r1 q1)
/-! ### ints -/
theorem opI {f : Value → Value → Sem Value} {C : Int → Int → Prop} {g : Int → Int → Int}
    (rule : ∀ (i j : Int) (t u : Tok) (s : Shared) (Q : Value → Shared → Prop) (E : Value → Shared → Prop), C i j → Q (.int (g i j) s.toks) { s with toks := s.toks + 1 } → wpAny (model X.prog X.w) X.A (f (.int i t) (.int j u)) Q E s) :
    OpR X f (rI C fun i j => .int (g i j)) := by
  intro pins s σ H x y v u Q I rx ry h
  obtain ⟨i, j, rfl, rfl, hc, q⟩ := h
  obtain ⟨t, rfl⟩ := rx
  obtain ⟨t', rfl⟩ := ry
  exact rule i j t t' s _ _ hc ⟨.int (g i j), H, I.tok _, ⟨_, rfl⟩, q⟩
theorem opI0 {f : Value → Value → Sem Value} {g : Int → Int → Int}
    (rule : ∀ (i j : Int) (t u : Tok) (s : Shared) (Q : Value → Shared → Prop) (E : Value → Shared → Prop), Q (.int (g i j) s.toks) { s with toks := s.toks + 1 } → wpAny (model X.prog X.w) X.A (f (.int i t) (.int j u)) Q E s) :
    OpR X f (rI0 fun i j => .int (g i j)) := by
  intro pins s σ H x y v u Q I rx ry h
  obtain ⟨i, j, rfl, rfl, q⟩ := h
  obtain ⟨t, rfl⟩ := rx
  obtain ⟨t', rfl⟩ := ry
  exact rule i j t t' s _ _ ⟨.int (g i j), H, I.tok _, ⟨_, rfl⟩, q⟩
theorem opB0 {f : Value → Value → Sem Value} {g : Int → Int → Bool}
    (rule : ∀ (i j : Int) (t u : Tok) (s : Shared) (Q : Value → Shared → Prop) (E : Value → Shared → Prop), Q (.bool (g i j)) s → wpAny (model X.prog X.w) X.A (f (.int i t) (.int j u)) Q E s) :
    OpR X f (rI0 fun i j => .bl (g i j)) := by
  intro pins s σ H x y v u Q I rx ry h
  obtain ⟨i, j, rfl, rfl, q⟩ := h
  obtain ⟨t, rfl⟩ := rx
  obtain ⟨t', rfl⟩ := ry
  exact rule i j t t' s _ _ ⟨.bl (g i j), H, I, rfl, q⟩

noncomputable def CDiv (i j : Int) : Prop := 0 < j ∧ j < 1073741824
noncomputable def CPow (i j : Int) : Prop := 0 ≤ j ∧ j ≤ 1000000 ∧ i.natAbs < 2 ^ 64
noncomputable def CMul (i j : Int) : Prop := (-(2 ^ 64) < i ∧ i < 2 ^ 64) ∨ (-(2 ^ 64) < j ∧ j < 2 ^ 64)
theorem CMul.ok {i j : Int} (h : CMul i j) : IntMulOk i j := by
  rcases h with ⟨h1, h2⟩ | ⟨h1, h2⟩
  · exact .of_left (intBits_le_64 h1 h2)
  · exact .of_right (intBits_le_64 h1 h2)
theorem op_add : OpR X (binaryOp .Add) (rI0 fun i j => .int (i + j)) := opI0 fun _ _ _ _ _ _ _ q => add_int q
theorem op_sub : OpR X (binaryOp .Sub) (rI0 fun i j => .int (i - j)) := opI0 fun _ _ _ _ _ _ _ q => sub_int q
theorem op_mul : OpR X (binaryOp .Mult) (rI CMul fun i j => .int (i * j)) := opI fun _ _ _ _ _ _ _ hc q => mul_int q hc.ok
/-- // by a positive divisor -/
theorem op_fdiv : OpR X (binaryOp .FloorDiv) (rI CDiv fun i j => .int (i / j)) := opI fun i j _ _ _ _ _ hc q => by
  have h1 : (0 : Int) < j := hc.1
  have h2 : j < 1073741824 := hc.2
  exact floordiv_int (by omega) (by rw [Int.fdiv_eq_ediv_of_nonneg i (by omega)]; exact q) (.inl (PyProof.noPylong_small (by omega)))
/-- % by a positive divisor of any size -/
theorem op_mod : OpR X (binaryOp .Mod) (rI (fun _ j => 0 < j) fun i j => .int (i % j)) := opI fun i j _ _ _ _ _ hc q => by
  have h1 : (0 : Int) < j := hc
  exact mod_int' (by omega) (by rw [Int.fmod_eq_emod_of_nonneg i (by omega)]; exact q)
theorem op_pow : OpR X (binaryOp .Pow) (rI CPow fun i j => .int (i ^ j.toNat)) := opI fun _ _ _ _ _ _ _ hc q => pow_int_small hc.1 hc.2.1 hc.2.2 q
theorem op_and : OpR X (binaryOp .BitAnd) (rI0 fun i j => .int (Builtin.bitAnd i j)) := opI0 fun _ _ _ _ _ _ _ q => and_int q
theorem unI {f : Value → Sem Value} {g : Int → Int}
    (rule : ∀ (i : Int) (t : Tok) (s : Shared) (Q : Value → Shared → Prop) (E : Value → Shared → Prop), Q (.int (g i) s.toks) { s with toks := s.toks + 1 } → wpAny (model X.prog X.w) X.A (f (.int i t)) Q E s) :
    UnR X f (rU fun i => .int (g i)) := by
  intro pins s σ H x v Q I rx h
  obtain ⟨i, rfl, q⟩ := h
  obtain ⟨t, rfl⟩ := rx
  exact rule i t s _ _ ⟨.int (g i), H, I.tok _, ⟨_, rfl⟩, q⟩
theorem un_neg : UnR X (unaryOp .USub) (rU fun i => .int (-i)) := unI fun _ _ _ _ _ q => neg_int q
/-! ### bools among ints: n += (a < b) -/
end

/-! ### comparisons -/
/-- the scalars that == tells apart as data does -/
noncomputable def scal : V → V → Bool
  | .non, .non => true | .non, .int _ => true | .int _, .non => true | .non, .bl _ => true | .bl _, .non => true | .non, .str _ => true | .str _, .non => true
  | .int _, .int _ => true | .bl _, .bl _ => true | .str _, .str _ => true | .byt _, .byt _ => true
  | .int _, .str _ => true | .str _, .int _ => true | .bl _, .str _ => true | .str _, .bl _ => true
  | _, _ => false
noncomputable def rEq : R2 := fun x y H Q => scal x y = true ∧ Q (.bl (decide (x = y))) H
noncomputable def rNe : R2 := fun x y H Q => scal x y = true ∧ Q (.bl (!decide (x = y))) H

theorem dec_int {i j : Int} : decide (V.int i = V.int j) = (i == j) := by
  rw [Bool.eq_iff_iff]
  simp
theorem dec_bl {i j : Bool} : decide (V.bl i = V.bl j) = (i == j) := by
  rw [Bool.eq_iff_iff]
  simp
theorem dec_str {i j : Str} : decide (V.str i = V.str j) = (i == j) := by
  rw [Bool.eq_iff_iff]
  simp
theorem dec_byt {i j : Array UInt8} : decide (V.byt i = V.byt j) = (i.toList == j.toList) := by
  rw [Bool.eq_iff_iff]
  cases i
  cases j
  simp

section
variable {X : Cx} {a b c : Expr} {ta tb tc : TE} {pos : Pos}
theorem fin_bl {pins : List (Addr × Obj)} {σ : St} {H : Hp} {s : Shared} {Q : VK} {k k' : Bool} (I : Inv X pins σ H s) (q : Q (.bl k) H) (e : k = k') : EP X pins σ Q (.bool k') s := by
  subst e
  exact ⟨.bl k, H, I, rfl, q⟩
theorem op_eq : OpR X (compareOp .Eq) rEq := by
  intro pins s σ H x y v u Q I rx ry h
  obtain ⟨hs, q⟩ := h
  cases x with
  | non =>
    cases rx
    cases y with
    | non => cases ry; exact PySem.EqNone.eq_none_none (fin_bl I q (by simp))
    | bl j => cases ry; exact PySem.EqNone.eq_none_bool (fin_bl I q (by simp))
    | int j => obtain ⟨t', rfl⟩ := ry; exact PySem.EqNone.eq_none_int (fin_bl I q (by simp))
    | str j => obtain ⟨t', rfl⟩ := ry; exact PySem.EqNone.eq_none_str (fin_bl I q (by simp))
    | _ => exact absurd (show false = true from hs) Bool.false_ne_true
  | bl i =>
    cases rx
    cases y with
    | non => cases ry; exact PySem.EqNone.eq_bool_none (fin_bl I q (by simp))
    | bl j => cases ry; exact eq_bool (fin_bl I q dec_bl)
    | str j => obtain ⟨t', rfl⟩ := ry; exact PySem.EqMixed.eq_bool_str (fin_bl I q (by simp))
    | _ => exact absurd (show false = true from hs) Bool.false_ne_true
  | int i =>
    obtain ⟨t, rfl⟩ := rx
    cases y with
    | non => cases ry; exact PySem.EqNone.eq_int_none (fin_bl I q (by simp))
    | int j => obtain ⟨t', rfl⟩ := ry; exact eq_int (fin_bl I q dec_int)
    | str j => obtain ⟨t', rfl⟩ := ry; exact PySem.EqMixed.eq_int_str (fin_bl I q (by simp))
    | _ => exact absurd (show false = true from hs) Bool.false_ne_true
  | str i =>
    obtain ⟨t, rfl⟩ := rx
    cases y with
    | non => cases ry; exact PySem.EqNone.eq_str_none (fin_bl I q (by simp))
    | bl j => cases ry; exact PySem.EqMixed.eq_str_bool (fin_bl I q (by simp))
    | int j => obtain ⟨t', rfl⟩ := ry; exact PySem.EqMixed.eq_str_int (fin_bl I q (by simp))
    | str j => obtain ⟨t', rfl⟩ := ry; exact eq_str (fin_bl I q dec_str)
    | _ => exact absurd (show false = true from hs) Bool.false_ne_true
  | byt i =>
    obtain ⟨t, rfl⟩ := rx
    cases y with
    | byt j => obtain ⟨t', rfl⟩ := ry; exact PySem.W.eq_bytes (fin_bl I q dec_byt)
    | _ => exact absurd (show false = true from hs) Bool.false_ne_true
  | _ => cases y <;> exact absurd (show false = true from hs) Bool.false_ne_true
theorem op_ne : OpR X (compareOp .NotEq) rNe := by
  intro pins s σ H x y v u Q I rx ry h
  obtain ⟨hs, q⟩ := h
  cases x with
  | non =>
    cases rx
    cases y with
    | non => cases ry; exact PySem.EqNone.ne_none_none (fin_bl I q (by simp))
    | bl j => cases ry; exact PySem.EqNone.ne_none_bool (fin_bl I q (by simp))
    | int j => obtain ⟨t', rfl⟩ := ry; exact PySem.EqNone.ne_none_int (fin_bl I q (by simp))
    | str j => obtain ⟨t', rfl⟩ := ry; exact PySem.EqNone.ne_none_str (fin_bl I q (by simp))
    | _ => exact absurd (show false = true from hs) Bool.false_ne_true
  | bl i =>
    cases rx
    cases y with
    | non => cases ry; exact PySem.EqNone.ne_bool_none (fin_bl I q (by simp))
    | bl j => cases ry; exact ne_bool (fin_bl I q (congrArg not dec_bl))
    | str j => obtain ⟨t', rfl⟩ := ry; exact PySem.EqMixed.ne_bool_str (fin_bl I q (by simp))
    | _ => exact absurd (show false = true from hs) Bool.false_ne_true
  | int i =>
    obtain ⟨t, rfl⟩ := rx
    cases y with
    | non => cases ry; exact PySem.EqNone.ne_int_none (fin_bl I q (by simp))
    | int j => obtain ⟨t', rfl⟩ := ry; exact ne_int (fin_bl I q (congrArg not dec_int))
    | str j => obtain ⟨t', rfl⟩ := ry; exact PySem.EqMixed.ne_int_str (fin_bl I q (by simp))
    | _ => exact absurd (show false = true from hs) Bool.false_ne_true
  | str i =>
    obtain ⟨t, rfl⟩ := rx
    cases y with
    | non => cases ry; exact PySem.EqNone.ne_str_none (fin_bl I q (by simp))
    | bl j => cases ry; exact PySem.EqMixed.ne_str_bool (fin_bl I q (by simp))
    | int j => obtain ⟨t', rfl⟩ := ry; exact PySem.EqMixed.ne_str_int (fin_bl I q (by simp))
    | str j => obtain ⟨t', rfl⟩ := ry; exact ne_str (fin_bl I q (congrArg not dec_str))
    | _ => exact absurd (show false = true from hs) Bool.false_ne_true
  | byt i =>
    obtain ⟨t, rfl⟩ := rx
    cases y with
    | byt j => obtain ⟨t', rfl⟩ := ry; exact PySem.W.ne_bytes (fin_bl I q (congrArg not dec_byt))
    | _ => exact absurd (show false = true from hs) Bool.false_ne_true
  | _ => cases y <;> exact absurd (show false = true from hs) Bool.false_ne_true

theorem op_lt : OpR X (compareOp .Lt) (rI0 fun i j => .bl (decide (i < j))) := opB0 fun _ _ _ _ _ _ _ q => lt_int q
theorem op_le : OpR X (compareOp .LtE) (rI0 fun i j => .bl (decide (i ≤ j))) := opB0 fun _ _ _ _ _ _ _ q => le_int q
theorem op_gt : OpR X (compareOp .Gt) (rI0 fun i j => .bl (decide (j < i))) := opB0 fun _ _ _ _ _ _ _ q => gt_int q
theorem nomark (b : Expr) {op : CmpOp} (h : op ≠ .In := by decide) (h2 : op ≠ .NotIn := by decide) : behindInMarks op b = false := by
  have e1 : (op == CmpOp.In) = false := by cases op <;> first | rfl | exact absurd rfl h
  have e2 : (op == CmpOp.NotIn) = false := by cases op <;> first | rfl | exact absurd rfl h2
  cases b <;> simp [behindInMarks, e1, e2]
/-- a comparison as a value; hm: nomark b, or (for in, not in) by with_unfolding_all rfl -/
theorem pe_cmpR {op : CmpOp} {r : R2} (ho : OpR X (compareOp op) r) (ha : PE X a ta) (hb : PE X b tb) (hm : behindInMarks op b = false) : PE X (.Compare a [op] [b] pos) (tOp r ta tb) := by
  intro pins s σ H Q I h
  exact wpAny_Compare1 (binT ha hb I h fun v u s2 x y H2 I2 rx ry q => ho pins s2 σ H2 x y v u Q I2 rx ry q) hm
/-- a reading of a value as a test -/
noncomputable def tTest (t : TE) : TT := fun σ H Q => t σ H fun x H' => ∃ k, x = .bl k ∧ Q k H'
theorem pt_cmpR {op : CmpOp} {r : R2} (ho : OpR X (compareOp op) r) (ha : PE X a ta) (hb : PE X b tb) (hm : behindInMarks op b = false) : PT X (.Compare a [op] [b] pos) (tTest (tOp r ta tb)) := by
  intro pins s σ H Q I h
  refine wpAny_isTrue_Compare1 (thn (ha pins s σ H _ I h) fun v s1 ⟨x, H1, I1, r1, q1⟩ => thn (hb pins s1 σ H1 _ I1 q1) fun u s2 ⟨y, H2, I2, r2, q2⟩ =>
    thn (ho pins s2 σ H2 x y v u _ I2 r1 r2 q2) fun c s3 ⟨z, H3, I3, r3, k, e, q3⟩ => ?_) hm
  subst e
  cases r3
  exact wpAny_truthy_bool ⟨H3, I3, q3⟩
/-- a op1 b op2 c -/
noncomputable def tChain (r r' : R2) (ta tb tc : TE) : TE := fun σ H Q => ta σ H fun x H1 => tb σ H1 fun y H2 => r x y H2 fun z H3 => ∃ k, z = .bl k ∧
  (if k = true then tc σ H3 fun w' H4 => r' y w' H4 Q else Q (.bl false) H3)
theorem pe_chain {op op' : CmpOp} {r r' : R2} (ho : OpR X (compareOp op) r) (ho' : OpR X (compareOp op') r') (ha : PE X a ta) (hb : PE X b tb) (hc : PE X c tc)
    (hm : lastMarks [op, op'] [b, c] = false := by with_unfolding_all rfl) : PE X (.Compare a [op, op'] [b, c] pos) (tChain r r' ta tb tc) := by
  intro pins s σ H Q I h
  refine Compare_chain (thn (ha pins s σ H _ I h) fun v s1 ⟨x, H1, I1, r1, q1⟩ => chain_link (thn (hb pins s1 σ H1 _ I1 q1) fun u s2 ⟨y, H2, I2, r2, q2⟩ =>
    thn (ho pins s2 σ H2 x y v u _ I2 r1 r2 q2) fun d s3 ⟨z, H3, I3, r3, k, e, q3⟩ => ?_)) hm
  subst e
  cases r3
  refine wpAny_truthy_bool ?_
  cases k with
  | false => exact ite_ff ⟨.bl false, H3, I3, rfl, q3⟩
  | true => exact ite_tt (chain_last (thn (hc pins s3 σ H3 _ I3 q3) fun w' s4 ⟨z', H4, I4, r4, q4⟩ => ho' pins s4 σ H4 y z' u w' Q I4 r2 r4 q4))
theorem pt_chain {op op' : CmpOp} {r r' : R2} (ho : OpR X (compareOp op) r) (ho' : OpR X (compareOp op') r') (ha : PE X a ta) (hb : PE X b tb) (hc : PE X c tc)
    (hm : lastMarks [op, op'] [b, c] = false := by with_unfolding_all rfl) : PT X (.Compare a [op, op'] [b, c] pos) (tTest (tChain r r' ta tb tc)) := by
  intro pins s σ H Q I h
  refine isTrue_chain (thn (ha pins s σ H _ I h) fun v s1 ⟨x, H1, I1, r1, q1⟩ => test_link (thn (hb pins s1 σ H1 _ I1 q1) fun u s2 ⟨y, H2, I2, r2, q2⟩ =>
    thn (ho pins s2 σ H2 x y v u _ I2 r1 r2 q2) fun d s3 ⟨z, H3, I3, r3, k, e, q3⟩ => ?_)) hm
  subst e
  cases r3
  refine wpAny_truthy_bool ?_
  cases k with
  | false =>
    obtain ⟨k', e', q'⟩ := q3
    cases e'
    exact ite_ff ⟨H3, I3, q'⟩
  | true =>
    refine ite_tt (test_last (thn (hc pins s3 σ H3 _ I3 q3) fun w' s4 ⟨z', H4, I4, r4, q4⟩ => thn (ho' pins s4 σ H4 y z' u w' _ I4 r2 r4 q4) fun d' s5 ⟨z2, H5, I5, r5, k2, e2, q5⟩ => ?_))
    subst e2
    cases r5
    exact wpAny_truthy_bool ⟨H5, I5, q5⟩

/-! ### truth -/
/-- a value's truth by the abstract heap -/
noncomputable def TruV (K : PySem.W.Frag) (x : V) (H : Hp) (k : Bool) : Prop :=
  match x with
  | .non => k = false
  | .bl b => k = b
  | .int i => k = (i != 0)
  | .str y => y.length ≤ sizeLine ∧ k = ((y.length : Int) != 0)
  | .byt y => y.size ≤ sizeLine ∧ k = ((y.size : Int) != 0)
  | .ref p => (∃ xs, SqL K H p xs ∧ k = !xs.isEmpty) ∨ (∃ xs, SqT K H p xs ∧ k = !xs.isEmpty) ∨ ∃ kvs, H p = some (.dK kvs) ∧ k = !kvs.isEmpty
  | _ => False
theorem isEmpty_kv {κ : Type} {kvs : List (κ × V)} {vs : List (κ × Value)} (r : KV kvs vs) : (!vs.isEmpty) = !kvs.isEmpty := by
  cases r <;> rfl
theorem isEmpty_of {xs : List V} {its : List Value} (r : Vals xs its) : (!its.toArray.isEmpty) = !xs.isEmpty := by
  cases r <;> simp
theorem line63 : (sizeLine : Nat) < 2 ^ 63 := by rw [sizeLine_eq]; decide
theorem tru_ok : TruR X (fun x H Q => ∃ k, TruV X.K x H k ∧ Q k H) := by
  intro pins s σ H x v Q I rx h
  obtain ⟨k, e, q⟩ := h
  have hl := line63
  have hs : sizeLine = 16777216 := sizeLine_eq
  cases x with
  | non =>
    cases rx
    have e' : k = false := e
    subst e'
    exact truthy_none ⟨H, I, q⟩
  | bl b =>
    cases rx
    have e' : k = b := e
    subst e'
    exact wpAny_truthy_bool ⟨H, I, q⟩
  | int i =>
    obtain ⟨t, rfl⟩ := rx
    have e' : k = (i != 0) := e
    subst e'
    exact PySem.P.truthy_int ⟨H, I, q⟩
  | str y =>
    obtain ⟨t, rfl⟩ := rx
    obtain ⟨hy, e'⟩ : y.length ≤ sizeLine ∧ k = ((y.length : Int) != 0) := e
    subst e'
    exact PySem.P.truthy_str (by omega) ⟨H, I.tok _, q⟩
  | byt y =>
    obtain ⟨t, rfl⟩ := rx
    obtain ⟨hy, e'⟩ : y.size ≤ sizeLine ∧ k = ((y.size : Int) != 0) := e
    subst e'
    exact PySem.W.truthy_bytes (by omega) ⟨H, I.tok _, q⟩
  | ref p =>
    cases rx
    have e' : (∃ xs, SqL X.K H p xs ∧ k = !xs.isEmpty) ∨ (∃ xs, SqT X.K H p xs ∧ k = !xs.isEmpty) ∨ ∃ kvs, H p = some (.dK kvs) ∧ k = !kvs.isEmpty := e
    rcases e' with ⟨xs, hx, e'⟩ | ⟨xs, hx, e'⟩ | ⟨kvs, hx, e'⟩
    · subst e'
      obtain ⟨its, r, pl, hz⟩ := I.list hx
      have hlen := r.length
      exact wpAny_truthy_list pl.isList (by simp only [List.size_toArray]; omega) ⟨H, I.tok _, by rw [isEmpty_of r]; exact q⟩
    · subst e'
      obtain ⟨its, r, pl, hz⟩ := I.tuple hx
      have hlen := r.length
      exact truthy_tuple pl (by simp only [List.size_toArray]; omega) ⟨H, I.tok _, by rw [isEmpty_of r]; exact q⟩
    · subst e'
      obtain ⟨hz, hS, vs, r, m⟩ : kvs.length ≤ sizeLine ∧ (p == sysModules) = false ∧ ∃ vs, KV kvs vs ∧ s.heap.DictOf (mixKind X.prog X.w) p vs := I.hok p _ hx
      have hlen : kvs.length = vs.length := Paired.length r
      exact wpAny_truthy_dict hS m (by omega) ⟨H, I.tok _, by rw [isEmpty_kv r]; exact q⟩
  | _ => exact (show False from e).elim
/-- any expression whose test is its value's truth (a name, a call, a subscript, a field ..: he by fun _ => rfl) -/
theorem pt_truth (ha : PE X a ta) (he : ∀ whole, isTrue a X.env whole = (do let v ← whole; standAt a.pos; holding [v] (truthy v))) :
    PT X a (fun σ H Q => ta σ H fun x H' => ∃ k, TruV X.K x H' k ∧ Q k H') := by
  intro pins s σ H Q I h
  exact isTrue_plain (thn (ha pins s σ H _ I h) fun v s1 ⟨x, H1, I1, r1, q1⟩ => tru_ok pins s1 σ H1 x v Q I1 r1 q1) (he _)

/-! ### strs and bytes -/
/-! ### scalar builtins, by CallR -/
theorem vals1 {x : V} {us : List Value} (r : Vals [x] us) : ∃ u, us = [u] ∧ RelV x u := by
  cases r with
  | cons r1 r2 => cases r2; exact ⟨_, rfl, r1⟩
theorem call_int1 : CallR X (.type "int") (fun xs H Q => (∃ i, xs = [.int i] ∧ Q (.int i) H) ∨ ∃ k, xs = [.bl k] ∧ Q (.int (if k then 1 else 0)) H) := by
  intro pins s σ H xs us Q I r h
  rcases h with ⟨i, rfl, q⟩ | ⟨k, rfl, q⟩
  · obtain ⟨u, rfl, t, rfl⟩ := vals1 r
    exact call_int_int ⟨.int i, H, I, ⟨_, rfl⟩, q⟩
  · obtain ⟨u, rfl, r1⟩ := vals1 r
    cases r1
    exact call_int_bool ⟨.int (if k then 1 else 0), H, I.tok _, ⟨_, rfl⟩, q⟩
end
end L2

namespace L2
open PySem PySem.Spec PyProof.Rows

/-! ### an instance, its attributes a map -/
structure ObjM (h : Heap) (x dx C : Addr) (mA : Str → Option Value) : Prop where
  obj : h.get? x = some (PySem.W.instObj C dx)
  ns : h.Ns1 dx mA
  ne : dx ≠ x

theorem lookIn_ns {h : Heap} {dx : Addr} {mA : Str → Option Value} (n : h.Ns1 dx mA) : ∃ od, h.get? dx = some od ∧ ∀ name, PySem.W.lookIn name od = some (mA name) := by
  obtain ⟨o, es, ep, ho, hd, hk, _, hm⟩ := n
  refine ⟨o, ho, fun name => ?_⟩
  have e := hm name
  unfold nsFind findBy at e
  rw [← Array.find?_toList] at e
  unfold PySem.W.lookIn
  rw [hd]
  dsimp only
  split
  · rename_i y q
    rw [q] at e
    exact congrArg some e
  · rename_i q
    rw [q] at e
    have a : es.toList.any (·.refKey) = false := by
      rw [List.any_eq_false]
      intro y hy
      obtain ⟨z, t, hkey⟩ := hk y (Array.mem_toList_iff.mp hy)
      simp [DictEntry.refKey, hkey]
    have a' : ¬ es.toList.any (·.refKey) = true := by rw [a]; exact Bool.false_ne_true
    rw [if_neg a']
    exact congrArg some e

theorem ObjM.look {h : Heap} {x dx C : Addr} {mA : Str → Option Value} (I : ObjM h x dx C mA) : ∃ od, PySem.W.InstAt h x (PySem.W.instObj C dx) C (some od) ∧ ∀ name, PySem.W.lookIn name od = some (mA name) :=
  let ⟨od, ho, hl⟩ := lookIn_ns I.ns
  ⟨od, ⟨I.obj, rfl, rfl, ho⟩, hl⟩

section
variable {prog : Program} {w : World} {A : Around} {E : Value → Shared → Prop} {s : Shared} {K : PySem.W.Frag} {x dx C f : Addr} {mA : Str → Option Value} {name : Str} {v : Value}

theorem get_map {expr : Bool} {Q : Value → Shared → Prop} (X : K.In s.heap) (I : ObjM s.heap x dx C mA) (hg : PySem.W.plainGet K C name = true) (hh : PySem.W.hasDictIn K C = true)
    (ha : PySem.W.findIn K (.ref C) name = some none) (hv : mA name = some v) (hv' : PySem.W.handedIn v = true) (h : Q v { s with toks := s.toks + 1 }) :
    wpAny (model prog w) A (getAttr (.ref x) name expr) Q E s := by
  obtain ⟨od, J, hl⟩ := I.look
  exact PySem.W.get_value X J (PySem.W.plainGet_of hg).1 (PySem.W.findObj_own hh ha rfl (by rw [hl, hv])) hv' h

theorem get_meth {pl : Sem Bool} {Q : Value × List Value → Shared → Prop} (X : K.In s.heap) (I : ObjM s.heap x dx C mA) (hg : PySem.W.plainGet K C name = true)
    (hf : PySem.W.findIn K (.ref C) name = some (some (.ref f))) (ht : PySem.W.isFn K (.ref f) = true) (hv : mA name = none) (h : Q (.ref f, [.ref x]) s) :
    wpAny (model prog w) A (getMethod (.ref x) name pl) Q E s := by
  obtain ⟨od, J, hl⟩ := I.look
  exact PySem.W.method_fn X J (PySem.W.plainGet_of hg).1 (PySem.W.plainGet_of hg).2 hf (beq_iff_eq.mp ht) (by show (PySem.W.lookIn name od).map (·.isSome) = some false; rw [hl, hv]; rfl) h

theorem set_map {ns : List Str} {Q : Unit → Shared → Prop} (X : K.In s.heap) (I : ObjM s.heap x dx C mA)
    (hs : PySem.W.findIn K (.ref C) "__setattr__" = some (some (.builtin "object.__setattr__"))) (hp : PySem.W.plainOver K C = true) (ht : PySem.W.takerIn K C name = some none) (hh : PySem.W.hasDictIn K C = true)
    (hw : PySem.Within mA ns) (hsz : ns.length ≤ sizeLine)
    (h : ∀ h', ObjM h' x dx C (fun y => if y = name then some v else mA y) → Heap.SameBut dx s.heap h' → Q () { s with heap := h', toks := s.toks + 2 }) :
    wpAny (model prog w) A (setAttr (.ref x) name v) Q E s := by
  obtain ⟨od, J, hl⟩ := I.look
  refine PySem.W.set_plain X J hs (PySem.W.osa_open (s := { s with toks := s.toks + 1 }) (r := none) X J hp ht fun b => ?_)
  obtain ⟨cd, hc, hd'⟩ := PySem.W.any_some hh
  have hx : s.heap.get? x = some ⟨.ref C, some dx, .plain, #[]⟩ := I.obj
  refine wpAny_bind (wpAny_pure (wpAny_bind (wpAny_bind (wpAny_loadPart hx (wpAny_bind (PySem.W.Looks.here (s := { s with toks := s.toks + 1 }) (PySem.W.looks_clsIn X hc) ?_))))))
  rw [hd']
  refine wpAny_pure (a := some dx) (wpAny_bind (wpAny_pure (wpAny_bind ?_)))
  refine wpAny_nsSet1 (s := { s with toks := s.toks + 1 }) I.ns fun h' hn2 hs2 => ?_
  obtain ⟨oD, esD, epD, hoD, hdD, hcD⟩ := hn2.count (PySem.Within.cons name v hw)
  refine wpAny_bind (wpAny_lookBehind hoD (by rw [hdD]; exact pastItsLine_dict (Nat.le_trans hcD (by rw [List.length_cons]; omega))) ?_)
  exact wpAny_pure (h _ ⟨(hs2.2 _ (Ne.symm I.ne)).trans I.obj, hn2, I.ne⟩ hs2)

/-- C(..): the dict at the heap's end, the instance behind it; then its __init__ -/
theorem make_map {R : Result → Shared → Prop} {vs : List Value} {kw : List (Str × Value)} (X : K.In s.heap) (hm : PySem.W.makesIn K C = true)
    (hi : PySem.W.findIn K (.ref C) "__init__" = some (some (.ref f))) (hf : PySem.W.typeIn K (.ref f) = some (.type "function"))
    (h : codeAny (model prog w) (A.under (.builtin "type.__call__" ⟨.ref C :: vs, kw⟩)) (.call (.ref f) ⟨.ref (s.heap.objs.size + 1) :: vs, kw⟩) (PySem.W.InitBack (s.heap.objs.size + 1) R)
      { s with heap := (s.heap.push PySem.W.emptyDict).push (PySem.W.instObj C s.heap.objs.size) }) :
    codeAny (model prog w) A (.call (.ref C) ⟨vs, kw⟩) R s := by
  obtain ⟨hh, g, d, t, os⟩ := s
  exact PySem.W.make_core (PySem.W.makes_of X hm) (PySem.W.looks_findIn X hi) (fun self => PySem.W.bind_fn X self hf) (.inl rfl) h
end

/-! ### the attributes as a list of pairs -/
noncomputable def putF (f : Str) (v : V) : List (Str × V) → List (Str × V)
  | [] => [(f, v)]
  | (g, x) :: r => if g = f then (g, v) :: r else (g, x) :: putF f v r
theorem lookup_putF (f g : Str) (v : V) : ∀ fs : List (Str × V), (putF f v fs).lookup g = if g = f then some v else fs.lookup g
  | [] => by
    show List.lookup g [(f, v)] = _
    by_cases h : g = f
    · have hb : (g == f) = true := beq_iff_eq.mpr h
      simp only [List.lookup, hb, if_pos h]
    · have hb : (g == f) = false := beq_eq_false_iff_ne.mpr h
      simp only [List.lookup, hb, if_neg h]
  | (k, x) :: r => by
    have ih := lookup_putF f g v r
    rw [show putF f v ((k, x) :: r) = (if k = f then (k, v) :: r else (k, x) :: putF f v r) from rfl]
    by_cases hk : k = f
    · rw [if_pos hk]
      by_cases h : g = k
      · have hb : (g == k) = true := beq_iff_eq.mpr h
        simp only [List.lookup, hb, if_pos (h.trans hk)]
      · have hb : (g == k) = false := beq_eq_false_iff_ne.mpr h
        simp only [List.lookup, hb, if_neg (fun e : g = f => h (e.trans hk.symm))]
    · rw [if_neg hk]
      by_cases h : g = k
      · have hb : (g == k) = true := beq_iff_eq.mpr h
        simp only [List.lookup, hb, if_neg (fun e : g = f => hk (h.symm.trans e))]
      · have hb : (g == k) = false := beq_eq_false_iff_ne.mpr h
        simp only [List.lookup, hb]
        exact ih
theorem keys_putF (f : Str) (v : V) : ∀ fs : List (Str × V), f ∈ (putF f v fs).map (·.1) ∧ ∀ g, g ∈ fs.map (·.1) → g ∈ (putF f v fs).map (·.1)
  | [] => ⟨by simp [putF], fun g h => by simp at h⟩
  | (k, x) :: r => by
    obtain ⟨i1, i2⟩ := keys_putF f v r
    rw [show putF f v ((k, x) :: r) = (if k = f then (k, v) :: r else (k, x) :: putF f v r) from rfl]
    by_cases hk : k = f
    · rw [if_pos hk]
      subst hk
      exact ⟨by simp, fun g h => by simpa using h⟩
    · rw [if_neg hk]
      refine ⟨?_, fun g h => ?_⟩
      · rw [List.map_cons]
        exact List.mem_cons_of_mem _ i1
      · rw [List.map_cons] at h ⊢
        rcases List.mem_cons.mp h with e | e
        · exact List.mem_cons.mpr (.inl e)
        · exact List.mem_cons_of_mem _ (i2 g e)
theorem length_putF (f : Str) (v : V) : ∀ fs : List (Str × V), (putF f v fs).length ≤ fs.length + 1
  | [] => by simp [putF]
  | (k, x) :: r => by
    have ih := length_putF f v r
    rw [show putF f v ((k, x) :: r) = (if k = f then (k, v) :: r else (k, x) :: putF f v r) from rfl]
    by_cases hk : k = f
    · rw [if_pos hk, List.length_cons, List.length_cons]; omega
    · rw [if_neg hk, List.length_cons, List.length_cons]; omega

theorem RelO.some_of {v : V} {o : Option Value} (r : RelO (some v) o) : ∃ u, o = some u ∧ RelV v u := by
  cases o with
  | none => exact (show False from r).elim
  | some u => exact ⟨u, rfl, r⟩
theorem RelO.none_of {o : Option Value} (r : RelO none o) : o = none := by
  cases o with
  | none => rfl
  | some u => exact (show False from r).elim
theorem handed_of {v : V} {u : Value} (r : RelV v u) : PySem.W.handedIn u = true := by
  cases v with
  | non => cases (show u = Value.none from r); rfl
  | bl b => cases (show u = Value.bool b from r); rfl
  | int i => obtain ⟨t, e⟩ := (show ∃ t, u = Value.int i t from r); cases e; rfl
  | str x => obtain ⟨t, e⟩ := (show ∃ t, u = Value.str x t from r); cases e; rfl
  | byt b => obtain ⟨t, e⟩ := (show ∃ t, u = Value.bytes b t from r); cases e; rfl
  | flt b => obtain ⟨t, e⟩ := (show ∃ t, u = Value.float b t from r); cases e; rfl
  | ref a => cases (show u = Value.ref a from r); rfl
  | ty n => cases (show u = Value.type n from r); rfl

section
variable {P : Program} {w : World} {H H' : Hp} {h h' : Heap} {a C dx : Addr} {fs fs' : List (Str × V)}
theorem ins_get (hok : HOk P w H h) (e : H a = some (.ins C dx fs)) : ∃ mA, ObjM h a dx C mA ∧ (∀ f, RelO (fs.lookup f) (mA f)) ∧ PySem.Within mA (fs.map (·.1)) ∧ fs.length ≤ 1000 ∧ H dx = some (.own a) := by
  obtain ⟨d, z, ne, ob, mA, n, r, q⟩ := (show ObjOk P w H h a (.ins C dx fs) from hok a _ e)
  exact ⟨mA, ⟨ob, n, ne⟩, r, q, z, d⟩
end

/-! ### what of the text a class must have -/
structure Cls (K : PySem.W.Frag) (C : Addr) : Prop where
  pg : PySem.W.plainGet K C Str.empty = true
  hd : PySem.W.hasDictIn K C = true
  po : PySem.W.plainOver K C = true
  sa : PySem.W.findIn K (.ref C) "__setattr__" = some (some (.builtin "object.__setattr__"))
theorem Cls.get {K : PySem.W.Frag} {C : Addr} (c : Cls K C) (f : Str) : PySem.W.plainGet K C f = true := c.pg
/-- no class of it has the name -/
noncomputable def NoAttr (K : PySem.W.Frag) (C : Addr) (f : Str) : Prop := PySem.W.findIn K (.ref C) f = some none
theorem NoAttr.taker {K : PySem.W.Frag} {C : Addr} {f : Str} (n : NoAttr K C f) : PySem.W.takerIn K C f = some none := by
  unfold PySem.W.takerIn
  rw [show PySem.W.findIn K (.ref C) f = some none from n]
  rfl
/-- a method: a plain def of the class or of one above it -/
structure Meth (K : PySem.W.Frag) (C : Addr) (m : Str) (f : Addr) : Prop where
  at_ : PySem.W.findIn K (.ref C) m = some (some (.ref f))
  fn : PySem.W.isFn K (.ref f) = true
  kp : PySem.W.keepIn K (.ref f) = true

section
variable {X : Cx} {pins : List (Addr × Obj)} {σ : St} {H : Hp} {s : Shared} {a C dx : Addr} {fs : List (Str × V)} {f : Str} {v : V} {A : Around} {E : Value → Shared → Prop}

theorem getattr_ok {b : Bool} {Q : Value → Shared → Prop} (I : Inv X pins σ H s) (e : H a = some (.ins C dx fs)) (c : Cls X.K C) (n : NoAttr X.K C f) (l : fs.lookup f = some v)
    (h : ∀ u s', Inv X pins σ H s' → RelV v u → Q u s') : wpAny (model X.prog X.w) A (getAttr (.ref a) f b) Q E s := by
  obtain ⟨mA, O, r, _, _, _⟩ := ins_get I.hok e
  obtain ⟨u, hu, ru⟩ := RelO.some_of (v := v) (o := mA f) (by rw [← l]; exact r f)
  exact get_map I.kIn O (c.get f) c.hd n hu (handed_of ru) (h u _ (I.tok _) ru)

theorem getmeth_ok {m : Str} {g : Addr} {pl : Sem Bool} {Q : Value × List Value → Shared → Prop} (I : Inv X pins σ H s) (e : H a = some (.ins C dx fs)) (c : Cls X.K C) (k : Meth X.K C m g) (l : fs.lookup m = none)
    (h : Q (.ref g, [.ref a]) s) : wpAny (model X.prog X.w) A (getMethod (.ref a) m pl) Q E s := by
  obtain ⟨mA, O, r, _, _, _⟩ := ins_get I.hok e
  have hn : mA m = none := RelO.none_of (by rw [← l]; exact r m)
  exact get_meth I.kIn O (c.get m) k.at_ k.fn hn h

theorem setattr_ok {y : V} {u : Value} {Q : Unit → Shared → Prop} (I : Inv X pins σ H s) (e : H a = some (.ins C dx fs)) (c : Cls X.K C) (n : NoAttr X.K C f) (hl : fs.length < 1000) (ry : RelV y u)
    (h : ∀ s', Inv X pins σ (upd H a (.ins C dx (putF f y fs))) s' → Q () s') : wpAny (model X.prog X.w) A (setAttr (.ref a) f u) Q E s := by
  obtain ⟨mA, O, r, wi, _, ho⟩ := ins_get I.hok e
  have hz : (fs.map (·.1)).length ≤ sizeLine := by rw [List.length_map, sizeLine_eq]; omega
  refine set_map I.kIn O c.sa c.po n.taker c.hd wi hz fun h' O' sb => h _ ?_
  have hd : ∃ o, h'.get? dx = some o := let ⟨o, _, _, e', _⟩ := O'.ns; ⟨o, e'⟩
  refine I.write (x := a) (e := dx) (by rw [e]; exact True.intro) (.inr ho) (fun b q hb z => (sb.2 b hb).trans z) hd ?_
  refine ⟨by rw [upd_ne O.ne]; exact ho, ?_, O.ne, O'.obj, _, O'.ns, fun g => ?_, fun g hg => ?_⟩
  · have := length_putF f y fs; omega
  · show RelO ((putF f y fs).lookup g) (if g = f then some u else mA g)
    rw [lookup_putF]
    by_cases q : g = f
    · rw [if_pos q, if_pos q]; exact ry
    · rw [if_neg q, if_neg q]; exact r g
  · by_cases q : g = f
    · rw [q]; exact (keys_putF f y fs).1
    · refine (keys_putF f y fs).2 g (wi g fun z => hg ?_)
      show (if g = f then some u else mA g) = none
      rw [if_neg q]; exact z

/-- a new instance, tracked, without attributes -/
theorem Inv.made (I : Inv X pins σ H s) : Inv X pins σ (upd (upd H s.heap.objs.size (.own (s.heap.objs.size + 1))) (s.heap.objs.size + 1) (.ins C s.heap.objs.size []))
    { s with heap := (s.heap.push PySem.W.emptyDict).push (PySem.W.instObj C s.heap.objs.size) } := by
  have e1 : (s.heap.push PySem.W.emptyDict).get? s.heap.objs.size = some PySem.W.emptyDict := Heap.get?_push_size s.heap rfl
  have e2 : ((s.heap.push PySem.W.emptyDict).push (PySem.W.instObj C s.heap.objs.size)).get? (s.heap.objs.size + 1) = some (PySem.W.instObj C s.heap.objs.size) := by
    have := Heap.get?_push_size (s.heap.push PySem.W.emptyDict) (o := PySem.W.instObj C s.heap.objs.size) rfl
    rwa [Heap.size_push] at this
  have e3 : (s.heap.push PySem.W.emptyDict).Ns s.heap.objs.size (fun _ => none) := ⟨PySem.W.emptyDict, #[], _, e1, rfl, (fun e he => absurd he (by simp)), fun _ => rfl⟩
  have I1 := I.laid (a := s.heap.objs.size) (o := .own (s.heap.objs.size + 1)) (h' := s.heap.push PySem.W.emptyDict) (t' := s.toks) (fun b u q => Heap.get?_push_of_some _ q) (Nat.le_refl _) ⟨_, e1⟩
  refine I1.laid (a := s.heap.objs.size + 1) (o := .ins C s.heap.objs.size []) (t' := s.toks) (fun b u q => Heap.get?_push_of_some _ q) (Nat.le_of_eq (Heap.size_push _ _)) ?_
  have ne : s.heap.objs.size ≠ s.heap.objs.size + 1 := Nat.ne_of_lt (Nat.lt_succ_self _)
  refine ⟨by rw [upd_ne ne, upd_same], Nat.zero_le _, ne, e2, fun _ => none, (Heap.Ns1.of_empty e3).at fun o q => Heap.get?_push_of_some _ q, fun _ => True.intro, fun y hy => absurd rfl hy⟩

/-- e.f where nothing but the object is asked: through attributeBase (super) and the last hold -/
theorem attr_of {prog : Program} {w : World} {env : Env} {e : Expr} {f : Str} {pos : Pos} {s : Shared} {Q : Value → Shared → Prop} (hb : attributeBase e f env (eval e env) = eval e env)
    (h : wpAny (model prog w) A (eval e env) (fun o s₁ => wpAny (model prog w) A (getAttr o f true) Q E s₁) E s) : wpAny (model prog w) A (eval (.Attribute e f pos) env) Q E s :=
  Attribute_any_ h (by rw [arm_eval_Attribute, hb])
end

/-! ### readings and rules -/
/-- e.f, an attribute of the instance -/
noncomputable def tFld (K : PySem.W.Frag) (ta : TE) (f : Str) : TE := fun σ H Q => ta σ H fun x H1 => ∃ a C dx fs v, x = .ref a ∧ H1 a = some (.ins C dx fs) ∧ Cls K C ∧ NoAttr K C f ∧ fs.lookup f = some v ∧ Q v H1
/-- e.f = value -/
noncomputable def sFld (K : PySem.W.Frag) (ta tv : TE) (f : Str) : TS := fun D σ H => tv σ H fun y H1 => ta σ H1 fun x H2 => ∃ a C dx fs, x = .ref a ∧ H2 a = some (.ins C dx fs) ∧ Cls K C ∧ NoAttr K C f ∧ fs.length < 1000 ∧
  D.nx σ (upd H2 a (.ins C dx (putF f y fs)))
section
variable {X : Cx} {o e value : Expr} {f : Str} {pos pos' tpos : Pos} {ta tv : TE}
theorem pe_fld (he : PE X e ta) (hb : attributeBase e f X.env (eval e X.env) = eval e X.env) : PE X (.Attribute e f pos) (tFld X.K ta f) := by
  intro pins s σ H Q I h
  refine attr_of hb (thn (he pins s σ H _ I h) fun u s1 ⟨x, H1, I1, rx, a, C, dx, fs, v, ex, ea, c, n, l, q⟩ => ?_)
  subst ex
  obtain rfl : u = Value.ref a := rx
  exact getattr_ok I1 ea c n l fun u' s2 I2 ru => ⟨v, H1, I2, ru, q⟩
theorem ps_fld (ha : PE X o ta) (hv : PE X value tv) (hs : swapsWith value (some (.Attribute o f pos')) pos.line X.env = pure false) : PS X (.Assign [.Attribute o f pos'] value pos) (sFld X.K ta tv f) := by
  intro pins s σ H D I h
  refine plainObj_wpAny_Assign_Attribute (thn (hv pins s σ H _ I h) fun u s1 ⟨y, H1, I1, ry, q⟩ => thn (ha pins s1 σ H1 _ I1 q) fun ov s2 ⟨x, H2, I2, rx, a, C, dx, fs, ex, ea, c, n, l, q2⟩ => ?_) hs
  subst ex
  obtain rfl : ov = Value.ref a := rx
  exact setattr_ok I2 ea c n l ry fun s3 I3 => ⟨σ, _, I3, q2⟩
end

/-! ### isinstance -/
section
variable {X : Cx} {pins : List (Addr × Obj)} {σ : St} {H : Hp} {s : Shared} {A : Around} {E : Value → Shared → Prop} {Q : Value → Shared → Prop} {c : Value} {b : Bool}
/-- the type of a value, as the fragment's deciders take it; for an instance its class -/
inductive TyOf (K : PySem.W.Frag) (H : Hp) : V → Value → Prop where
  | non : TyOf K H .non (.type "NoneType")
  | bl (x : Bool) : TyOf K H (.bl x) (.type "bool")
  | int (i : Int) : TyOf K H (.int i) (.type "int")
  | str (x : Str) : TyOf K H (.str x) (.type "str")
  | flt (x : UInt64) : TyOf K H (.flt x) (.type "float")
  | lst {a : Addr} {xs : List V} (e : H a = some (.lst xs)) : TyOf K H (.ref a) (.type "list")
  | frz {a : Addr} {o : Obj} {xs : List V} (e : H a = some (.frz o (.lst xs))) : TyOf K H (.ref a) (.type "list")
  | tup {a : Addr} {xs : List V} (e : H a = some (.tup xs)) : TyOf K H (.ref a) (.type "tuple")
  | dK {a : Addr} {kvs : List (Key × V)} (e : H a = some (.dK kvs)) : TyOf K H (.ref a) (.type "dict")
  | dT {a : Addr} {kvs : List (List Key × V)} (e : H a = some (.dT kvs)) : TyOf K H (.ref a) (.type "dict")
  | ins {a C dx : Addr} {fs : List (Str × V)} (e : H a = some (.ins C dx fs)) (cl : Cls K C) (ha : PySem.W.findIn K (.ref C) "__class__" = some (some (.builtin "object.__class__")))
      (hn : PySem.W.specialIn K (.builtin "object.__class__") "__get__" = some (some (.builtin "getset_descriptor.__get__"))) (htk : PySem.W.takesIn K (.builtin "object.__class__") = some true)
      (hm : PySem.W.mroIn K C (.type "object") = some true) : TyOf K H (.ref a) (.ref C)
/-- isinstance(x, c) for one class c, a built-in or an own one: kitOne's answer -/
theorem isinst_ok {x : V} {u t : Value} (I : Inv X pins σ H s) (rx : RelV x u) (ty : TyOf X.K H x t) (e : PySem.W.kitOne X.K t c = some b) (h : ∀ tk, Q (.bool b) { s with toks := tk }) :
    wpAny (model X.prog X.w) A (call (.builtin "isinstance") [u, c]) Q E s := by
  cases ty with
  | non => cases (show u = Value.none from rx); exact PySem.W.kia_one PySem.W.kitx_none I.kIn True.intro e (fun z => nomatch z) h
  | bl y => cases (show u = Value.bool y from rx); exact PySem.W.kia_one PySem.W.kitx_bool I.kIn True.intro e (fun z => nomatch z) h
  | int i => obtain ⟨t, q⟩ := (show ∃ t, u = Value.int i t from rx); cases q; exact PySem.W.kia_one PySem.W.kitx_int I.kIn True.intro e (fun z => nomatch z) h
  | str y => obtain ⟨t, q⟩ := (show ∃ t, u = Value.str y t from rx); cases q; exact PySem.W.kia_one PySem.W.kitx_str I.kIn True.intro e (fun z => nomatch z) h
  | flt y => obtain ⟨t, q⟩ := (show ∃ t, u = Value.float y t from rx); cases q; exact PySem.W.kia_one PySem.W.kitx_float I.kIn True.intro e (fun z => nomatch z) h
  | @lst a xs ea =>
    cases (show u = Value.ref a from rx)
    obtain ⟨_, _, n, _, h1⟩ := (show ObjOk X.prog X.w H s.heap a (.lst xs) from I.hok a _ ea)
    exact PySem.W.kia_one PySem.W.kitx_list I.kIn ⟨_, h1, rfl⟩ e (fun z => nomatch z) h
  | @frz a ob xs ea =>
    cases (show u = Value.ref a from rx)
    obtain ⟨_, _, _, n, _, h1⟩ := (show ObjOk X.prog X.w H s.heap a (.frz ob (.lst xs)) from I.hok a _ ea)
    exact PySem.W.kia_one PySem.W.kitx_list I.kIn ⟨_, h1, rfl⟩ e (fun z => nomatch z) h
  | @tup a xs ea =>
    cases (show u = Value.ref a from rx)
    obtain ⟨_, _, _, p⟩ := (show ObjOk X.prog X.w H s.heap a (.tup xs) from I.hok a _ ea)
    obtain ⟨o, h1, h2, _⟩ := p
    exact PySem.W.kia_one PySem.W.kitx_tuple I.kIn ⟨o, h1, h2⟩ e (fun z => nomatch z) h
  | @dK a kvs ea =>
    cases (show u = Value.ref a from rx)
    obtain ⟨_, _, vs, _, p⟩ := (show ObjOk X.prog X.w H s.heap a (.dK kvs) from I.hok a _ ea)
    obtain ⟨o, es, ep, h1, h2, _⟩ := p
    exact PySem.W.kia_one PySem.W.kitx_dict I.kIn ⟨o, h1, h2.1⟩ e (fun z => nomatch z) h
  | @dT a kvs ea =>
    cases (show u = Value.ref a from rx)
    obtain ⟨_, _, xs, _, o, es, ep, h1, h2, _⟩ := (show ObjOk X.prog X.w H s.heap a (.dT kvs) from I.hok a _ ea)
    exact PySem.W.kia_one PySem.W.kitx_dict I.kIn ⟨o, h1, h2.1⟩ e (fun z => nomatch z) h
  | @ins a C dx fs ea cl ha hn htk hm =>
    cases (show u = Value.ref a from rx)
    obtain ⟨mA, O, _⟩ := ins_get I.hok ea
    obtain ⟨od, J, _⟩ := O.look
    exact PySem.W.kia_one (PySem.W.kitx_own (cl.get _) cl.hd ha hn htk hm) I.kIn J e (fun z => nomatch z) h
end
end L2

namespace L2
open PySem PySem.Spec PyProof.Rows

/-! ### room -/
structure Room (k : Nat) (A : Around) : Prop where
  hd : A.handled = none
  dp : A.depth + 3 * k + 5 < recursionLimit
  un : A.units + 16 * k + 200 < cLine
theorem Room.mono {j k : Nat} {A : Around} (r : Room k A) (h : j ≤ k) : Room j A := ⟨r.hd, by have := r.dp; omega, by have := r.un; omega⟩
theorem Room.deeper {k : Nat} {A : Around} (r : Room (k + 1) A) (env : Env) : Room k (A.deeper env) :=
  ⟨r.hd, by have := r.dp; show A.depth + 1 + 3 * k + 5 < _; omega, by have := r.un; show A.units + 3 + 16 * k + 200 < _; omega⟩
theorem make_depth {A : Around} {C : Addr} {us : List Value} {kw : List (Str × Value)} : (A.under (.builtin "type.__call__" ⟨.ref C :: us, kw⟩)).depth = A.depth + 1 := by
  first | rfl | simp [Around.under, Code.weight, Code.isCreation, Code.isGuard, Code.isCaller, Code.frames, Code.isFrame, guardIds]
theorem make_units {A : Around} {C : Addr} {us : List Value} {kw : List (Str × Value)} : (A.under (.builtin "type.__call__" ⟨.ref C :: us, kw⟩)).units = A.units + 1 := by
  first | rfl | simp [Around.under, Code.cUnits, Code.frames, Code.isFrame]
theorem Room.make {k : Nat} {A : Around} (r : Room (k + 1) A) (C : Addr) (us : List Value) (kw : List (Str × Value)) : Room k (A.under (.builtin "type.__call__" ⟨.ref C :: us, kw⟩)) :=
  ⟨r.hd, by have := r.dp; rw [make_depth]; omega, by have := r.un; rw [make_units]; omega⟩
theorem Room.depth {k : Nat} {A : Around} (r : Room k A) : A.depth < recursionLimit := by have := r.dp; omega
theorem Room.units {k : Nat} {A : Around} (r : Room k A) : A.units + 64 < cLine := by have := r.un; omega
/-! ### argument lists and displays -/
noncomputable def tNil : TA := fun _ H Q => Q [] H
noncomputable def tCons (ta : TE) (tr : TA) : TA := fun σ H Q => ta σ H fun x H1 => tr σ H1 fun xs H2 => Q (x :: xs) H2
section
variable {X : Cx} {e : Expr} {es : List Expr} {te : TE} {t : TA} {pos : Pos}
theorem pa_nil : PA X [] tNil := fun _ _ _ _ H Q I h => Calls.spliced_nil ⟨[], H, I, .nil, h⟩
theorem pa_cons (ha : PE X e te) (hr : PA X es t) (hs : starEach (e :: es) X.env = (false, eval e X.env) :: starEach es X.env := by rfl) : PA X (e :: es) (tCons te t) := by
  intro pos pins s σ H Q I h
  rw [hs]
  show wpAny _ _ (spliced ((false, eval e X.env) :: backTo pos (starEach es X.env))) _ _ s
  refine Calls.spliced_cons (thn (ha pins s σ H _ I h) fun u s1 ⟨x, H1, I1, r1, q1⟩ => ?_)
  exact thn (hr pos pins s1 σ H1 _ I1 q1) fun us s2 ⟨xs, H2, I2, r2, q2⟩ => ⟨x :: xs, H2, I2, .cons r1 r2, q2⟩

/-- a tuple, a list of written items -/
noncomputable def tTup (t : TA) : TE := fun σ H Q => t σ H fun xs H1 => xs.length ≤ sizeLine ∧ ∀ p, H1 p = none → Q (.ref p) (upd H1 p (.tup xs))
noncomputable def tLst (t : TA) : TE := fun σ H Q => t σ H fun xs H1 => xs.length ≤ sizeLine ∧ ∀ p, H1 p = none → Q (.ref p) (upd H1 p (.lst xs))
theorem pe_tup {x1} (h : PA X es t) : PE X (.Tuple es x1 pos) (tTup t) := by
  intro pins s σ H Q I hq
  refine wpAny_Tuple_spliced (thn (h pos pins s σ H _ I hq) fun us s1 ⟨xs, H1, I1, r, z, q⟩ => ⟨by rw [← r.length]; exact z, ?_⟩)
  have hf : H1 s1.heap.objs.size = none := I1.hok.fresh (Nat.le_refl _)
  refine ⟨.ref s1.heap.objs.size, upd H1 s1.heap.objs.size (.tup xs), I1.laid (t' := s1.toks) (fun b u e => Heap.get?_push_of_some _ e) (Nat.le_refl _) ?_, rfl, q _ hf⟩
  exact ⟨z, us, r, ⟨_, Heap.get?_push_size _ rfl, rfl, _, rfl⟩⟩
theorem pe_lst (h : PA X es t) : PE X (.List es pos) (tLst t) := by
  intro pins s σ H Q I hq
  refine wpAny_List_spliced (thn (h pos pins s σ H _ I hq) fun us s1 ⟨xs, H1, I1, r, z, q⟩ => ⟨by rw [← r.length]; exact z, ?_⟩)
  have hf : H1 s1.heap.objs.size = none := I1.hok.fresh (Nat.le_refl _)
  refine ⟨.ref s1.heap.objs.size, upd H1 s1.heap.objs.size (.lst xs), I1.laid (t' := s1.toks) (fun b u e => Heap.get?_push_of_some _ e) (Nat.le_refl _) ?_, rfl, q _ hf⟩
  exact ⟨z, us, 0, r, Heap.get?_push_size _ rfl⟩
end

/-! ### what a def promises -/
/-- a def's promise: the bound arguments in the parameters' order, the heap, the wanted end, the wanted exception -/
noncomputable abbrev Sp := List V → Hp → VK → XK → Prop
/-- how an exception lies behind a call (file 08 gives it): the callers' frames, abstract heap and state ahead of the call, the wish, the exception, the state -/
noncomputable abbrev CXT := List Env → Hp → Shared → XK → Value → Shared → Prop

/-- the state at a call -/
structure Env0 (P : Program) (w : World) (K : PySem.W.Frag) (mg : Str → Option Value) (base : Heap) (A : Around) (outer : List Env) (s : Shared) (H : Hp) : Prop where
  frames : A.frames = some outer
  mod : Mod K mg base
  bs : ∀ b o, base.get? b = some o → s.heap.get? b = some o ∧ H b = none
  bsz : base.objs.size ≤ s.heap.objs.size
  funs : s.heap.FunFrames base outer
  frf : ∀ b ∈ frs outer, H b = none
  hok : HOk P w H s.heap
  bare : AllBare s.gens
/-- a call's end -/
noncomputable def CE (outer : List Env) (P : Program) (w : World) (H : Hp) (s : Shared) (Q : VK) (u : Value) (s' : Shared) : Prop :=
  ∃ v H', s'.os = s.os ∧ AllBare s'.gens ∧ Un (frs outer) [] H H' s.heap s'.heap ∧ HOk P w H' s'.heap ∧ RelV v u ∧ Q v H'
noncomputable def CR (CX : CXT) (outer : List Env) (P : Program) (w : World) (H : Hp) (s : Shared) (Q : VK) (E : XK) (r : Result) (s' : Shared) : Prop :=
  match r with
  | .ok (.ret u) => CE outer P w H s Q u s'
  | .ok _ => False
  | .error e => CX outer H s E e s'
structure FnOk (P : Program) (w : World) (K : PySem.W.Frag) (mg : Str → Option Value) (base : Heap) (CX : CXT) (k : Nat) (f : Addr) (fd : FuncData) (ps : List Str) (sp : Sp) : Prop where
  len : ∀ vs H Q E, sp vs H Q E → vs.length = ps.length
  run : ∀ (A : Around) (outer : List Env) (s : Shared) (H : Hp) (args : Args) (us : List Value) (vs : List V) (Q : VK) (E : XK), Room k A → Env0 P w K mg base A outer s H → BindsTo s fd args (ps.zip us) → Vals vs us → sp vs H Q E →
    codeAny (model P w) A (.call (.ref f) args) (CR CX outer P w H s Q E) s
theorem Env0.make {P : Program} {w : World} {K : PySem.W.Frag} {mg : Str → Option Value} {base : Heap} {A : Around} {outer : List Env} {s : Shared} {H : Hp} (e : Env0 P w K mg base A outer s H) (C : Addr) (us : List Value) (kw : List (Str × Value)) :
    Env0 P w K mg base (A.under (.builtin "type.__call__" ⟨.ref C :: us, kw⟩)) outer s H := ⟨by first | exact e.frames | (simpa [Around.under, Code.envs, Code.isFrame, pushEnvs] using e.frames), e.mod, e.bs, e.bsz, e.funs, e.frf, e.hok, e.bare⟩
section
variable {X : Cx} {pins : List (Addr × Obj)} {σ : St} {H : Hp} {s s' : Shared}
/-- from a body: what a callee wants -/
theorem Inv.env0 (I : Inv X pins σ H s) : Env0 X.prog X.w X.K X.mg X.base X.A X.stack s H :=
  ⟨I.ok.frames, I.ok.mod, I.bs, Nat.le_trans I.ok.bsz I.sz, I.stack, I.stkFree, I.hok, I.bare⟩
/-- behind a call -/
theorem Inv.after {Q : VK} {u : Value} (I : Inv X pins σ H s) (h : CE X.stack X.prog X.w H s Q u s') : EP X pins σ Q u s' := by
  obtain ⟨v, H', os, bare, un, hok, r, q⟩ := h
  obtain ⟨hh, g, d, t, os'⟩ := s'
  obtain rfl : os' = s.os := os
  exact ⟨v, H', I.call (h' := hh) (g' := g) (d' := d) (t' := t) (ch := []) un hok bare (fun b z => absurd z (by simp)), r, q⟩
end

/-! ### calls -/
/-- f(..): the written arguments, then the defaults dvs; E: what is wanted of an exception -/
noncomputable def tCall (sp : Sp) (dvs : List V) (E : XK) (t : TA) : TE := fun σ H Q => t σ H fun vs H1 => sp (vs ++ dvs) H1 Q E
/-- o.m(..) of an instance of the class at C -/
noncomputable def tMeth (C : Addr) (m : Str) (sp : Sp) (dvs : List V) (E : XK) (ta : TE) (t : TA) : TE := fun σ H Q => ta σ H fun x H1 => ∃ a dx fs, x = .ref a ∧ H1 a = some (.ins C dx fs) ∧ fs.lookup m = none ∧
  t σ H1 fun vs H2 => sp (x :: (vs ++ dvs)) H2 Q E
/-- C(..): a new instance and its dict, then __init__ -/
noncomputable def tMake (C : Addr) (sp : Sp) (dvs : List V) (E : XK) (t : TA) : TE := fun σ H Q => t σ H fun vs H1 => ∀ x dx, H1 x = none → H1 dx = none → dx ≠ x →
  sp (.ref x :: (vs ++ dvs)) (upd (upd H1 dx (.own x)) x (.ins C dx [])) (fun v H2 => v = .non ∧ Q (.ref x) H2) E

/-- how the parameters are bound: us the positional arguments, kw the keywords' values by name, ds the defaults that fill up -/
noncomputable def Binds (K : PySem.W.Frag) (fd : FuncData) (ps : List Str) (ds : List Value) : Prop :=
  ∀ (s : Shared) (us : List Value), K.In s.heap → (us ++ ds).length = ps.length → BindsTo s fd ⟨us, []⟩ (ps.zip (us ++ ds))
/-- every parameter is given -/
theorem Binds.all {K : PySem.W.Frag} {fd : FuncData} {ps : List Str} (h : ∀ us : List Value, us.length = ps.length → bindArgs fd ⟨us, []⟩ = pure (ps.zip us)) : Binds K fd ps [] := fun s us _ hl => by
  rw [List.append_nil] at hl ⊢
  exact .of_eq (h us hl)

/-- an exception of a callee reaches what this body wants of exceptions -/
noncomputable def Passes (CX : CXT) (X : Cx) (E : XK) : Prop := ∀ (pins : List (Addr × Obj)) (σ : St) (H : Hp) (s : Shared) (e : Value) (s' : Shared), Inv X pins σ H s → CX X.stack H s E e s' → X.xe e s'

section
variable {X : Cx} {CX : CXT} {k : Nat} {f C : Addr} {fd : FuncData} {ps : List Str} {sp : Sp} {dvs : List V} {ds : List Value} {E : XK} {x m : Str} {p pos apos : Pos} {e o : Expr} {es : List Expr} {ta : TE} {t : TA}

/-- the callee runs -/
theorem run_fn {pins : List (Addr × Obj)} {σ : St} {H : Hp} {s : Shared} {Q : VK} {us : List Value} {vs : List V} (F : FnOk X.prog X.w X.K X.mg X.base CX k f fd ps sp) (hr : Room k X.A) (hb : Binds X.K fd ps ds) (hd : Vals dvs ds) (hx : Passes CX X E)
    (I : Inv X pins σ H s) (r : Vals vs us) (h : sp (vs ++ dvs) H Q E) : wpAny (model X.prog X.w) X.A (call (.ref f) us) (EP X pins σ Q) X.xe s := by
  have r2 : Vals (vs ++ dvs) (us ++ ds) := r.append hd
  have hl : (us ++ ds).length = ps.length := by rw [← r2.length]; exact F.len _ _ _ _ h
  refine wpAny_call (codeAny_mono (F.run X.A X.stack s H ⟨us, []⟩ (us ++ ds) (vs ++ dvs) Q E hr I.env0 (hb s us I.kIn hl) r2 h) fun r s' hq => ?_)
  cases r with
  | error e => exact hx pins σ H s e s' I hq
  | ok fl =>
    cases fl with
    | ret u => exact I.after hq
    | next => exact False.elim hq
    | brk => exact False.elim hq
    | cont => exact False.elim hq

theorem pe_call (F : FnOk X.prog X.w X.K X.mg X.base CX k f fd ps sp) (hr : Room k X.A) (hg : Gl X x) (hm : X.mg x = some (.ref f)) (hk : PySem.W.keepIn X.K (.ref f) = true) (hb : Binds X.K fd ps ds) (hd : Vals dvs ds) (hx : Passes CX X E)
    (ha : PA X (e :: es) t) (hdb : (x == ("__debug__" : Str)) = false := by decide) (he : starEach (e :: es) X.env = (false, eval e X.env) :: starEach es X.env := by rfl) (hpl : (backTo pos (starEach es X.env)).any (·.1) = false := by rfl) :
    PE X (.Call (.Name x p) (e :: es) [] pos) (tCall sp dvs E t) := by
  intro pins s σ H Q I h
  refine wpAny_Call_Name_kw (ld_glob I hg hm ?_ hdb)
  refine PySem.W.callWith_K (h₀ := X.base) I.ok.mod.kin hk (thn (ha pos pins s σ H _ I h) fun us s1 ⟨vs, H1, I1, r, q⟩ => ⟨I1.kIn, ?_⟩) he hpl
  exact run_fn F hr hb hd hx I1 r q
/-- o.m(e, ..) -/
theorem pe_meth {pl : Sem Bool} (he : PE X o ta) (c : Cls X.K C) (hm : Meth X.K C m f) (F : FnOk X.prog X.w X.K X.mg X.base CX k f fd ps sp) (hr : Room k X.A) (hb : Binds X.K fd ps ds) (hd : Vals dvs ds) (hx : Passes CX X E) (ha : PA X (e :: es) t)
    (hst : starEach (e :: es) X.env = (false, eval e X.env) :: starEach es X.env := by rfl) (hpl : (backTo pos (starEach es X.env)).any (·.1) = false := by rfl)
    (ht : eval (.Call (.Attribute o m apos) (e :: es) [] pos) X.env = (do
      let ov ← eval o X.env
      standAt apos.atName
      let (f, first) ← holding [ov] (getMethod ov m pl)
      callWith pos f first (backTo pos (starEach (e :: es) X.env)) (backToKw pos (keywordEach [] X.env))) := by rfl) :
    PE X (.Call (.Attribute o m apos) (e :: es) [] pos) (tMeth C m sp dvs E ta t) := by
  intro pins s σ H Q I h
  refine PySem.W.methodCall_KW (pl := pl) (thn (he pins s σ H _ I h) fun u s1 ⟨x, H1, I1, rx, a, dx, fs, ex, ea, l, q⟩ => ?_) ht
  subst ex
  obtain rfl : u = Value.ref a := rx
  refine getmeth_ok I1 ea c hm l ?_
  refine PySem.W.callWith_K (first := [.ref a]) (h₀ := X.base) I.ok.mod.kin hm.kp (thn (ha pos pins s1 σ H1 _ I1 q) fun us s2 ⟨vs, H2, I2, r, q2⟩ => ⟨I2.kIn, ?_⟩) hst hpl
  exact run_fn (us := .ref a :: us) (vs := .ref a :: vs) F hr hb hd hx I2 (.cons rfl r) q2
/-- what a class must have to be made -/
structure Mk (K : PySem.W.Frag) (C f : Addr) : Prop where
  makes : PySem.W.makesIn K C = true
  init : PySem.W.findIn K (.ref C) "__init__" = some (some (.ref f))
  fn : PySem.W.isFn K (.ref f) = true
  kp : PySem.W.keepIn K (.ref C) = true

theorem run_make {pins : List (Addr × Obj)} {σ : St} {H : Hp} {s : Shared} {Q : VK} {us : List Value} {vs : List V} (M : Mk X.K C f) (F : FnOk X.prog X.w X.K X.mg X.base CX k f fd ps sp) (hr : Room (k + 1) X.A) (hb : Binds X.K fd ps ds) (hd : Vals dvs ds)
    (hx : Passes CX X E) (I : Inv X pins σ H s) (r : Vals vs us)
    (h : ∀ x dx, H x = none → H dx = none → dx ≠ x → sp (.ref x :: (vs ++ dvs)) (upd (upd H dx (.own x)) x (.ins C dx [])) (fun v H2 => v = .non ∧ Q (.ref x) H2) E) :
    wpAny (model X.prog X.w) X.A (call (.ref C) us) (EP X pins σ Q) X.xe s := by
  have hq := h (s.heap.objs.size + 1) s.heap.objs.size (I.hok.fresh (Nat.le_succ _)) (I.hok.fresh (Nat.le_refl _)) (Nat.ne_of_lt (Nat.lt_succ_self _))
  have I2 := Inv.made (C := C) I
  have r2 : Vals (V.ref (s.heap.objs.size + 1) :: (vs ++ dvs)) (Value.ref (s.heap.objs.size + 1) :: (us ++ ds)) := .cons rfl (r.append hd)
  have hl : (Value.ref (s.heap.objs.size + 1) :: us ++ ds).length = ps.length := by
    have e := r2.length
    rw [F.len _ _ _ _ hq] at e
    exact e.symm
  refine wpAny_call (make_map (f := f) I.kIn M.makes M.init (beq_iff_eq.mp M.fn) (codeAny_mono (F.run _ X.stack _ _ ⟨Value.ref (s.heap.objs.size + 1) :: us, []⟩ (Value.ref (s.heap.objs.size + 1) :: (us ++ ds)) _ _ E (hr.make C us [])
    (I2.env0.make C us []) (hb _ (Value.ref (s.heap.objs.size + 1) :: us) I2.kIn hl) r2 hq) fun r s' hq' => ?_))
  cases r with
  | error e => exact hx pins σ _ _ e s' I2 hq'
  | ok fl =>
    cases fl with
    | ret u =>
      obtain ⟨v, H', I3, rv, ev, q3⟩ := I2.after hq'
      subst ev
      exact ⟨rv, ⟨V.ref (s.heap.objs.size + 1), H', I3, rfl, q3⟩⟩
    | next => exact False.elim hq'
    | brk => exact False.elim hq'
    | cont => exact False.elim hq'
theorem pe_make (M : Mk X.K C f) (F : FnOk X.prog X.w X.K X.mg X.base CX k f fd ps sp) (hr : Room (k + 1) X.A) (hg : Gl X x) (hm : X.mg x = some (.ref C)) (hb : Binds X.K fd ps ds) (hd : Vals dvs ds) (hx : Passes CX X E)
    (ha : PA X (e :: es) t) (hdb : (x == ("__debug__" : Str)) = false := by decide) (he : starEach (e :: es) X.env = (false, eval e X.env) :: starEach es X.env := by rfl) (hpl : (backTo pos (starEach es X.env)).any (·.1) = false := by rfl) :
    PE X (.Call (.Name x p) (e :: es) [] pos) (tMake C sp dvs E t) := by
  intro pins s σ H Q I h
  refine wpAny_Call_Name_kw (ld_glob I hg hm ?_ hdb)
  refine PySem.W.callWith_K (h₀ := X.base) I.ok.mod.kin M.kp (thn (ha pos pins s σ H _ I h) fun us s1 ⟨vs, H1, I1, r, q⟩ => ⟨I1.kIn, ?_⟩) he hpl
  exact run_make M F hr hb hd hx I1 r q
end

/-! ### keywords -/

/-! ### a def's body keeps its promise -/
/-- names: the parameters first -/
structure FnScope (N P : List Str) (sc : Scope) : Prop where
  kind : sc.kind = .function
  co : sc.isCoroutine = false
  gen : sc.isGenerator = false
  nd : N.Nodup
  pre : N.take P.length = P
  par : ∀ x ∈ P, sc.names.lookup x = some .local ∨ sc.names.lookup x = some .cell
  nofree : ∀ y ∈ sc.names, y.2 ≠ .free

theorem bindL_out {kindOf : Str → Option NameKind} {x : Str} : ∀ {binds : List (Str × Value)} {m : Str → Option Value}, (∀ v, (x, v) ∉ binds) → bindL kindOf binds m x = m x
  | [], _, _ => rfl
  | (n, v) :: r, m, h => by
    unfold bindL
    rw [bindL_out fun w hw => h w (List.mem_cons_of_mem _ hw)]
    split
    · have : x ≠ n := by rintro rfl; exact h v List.mem_cons_self
      simp [this]
    · rfl
theorem bindC_out {kindOf : Str → Option NameKind} {x : Str} : ∀ {binds : List (Str × Value)} {m : Str → Option Value}, (∀ v, (x, v) ∉ binds) → bindC kindOf binds m x = m x
  | [], _, _ => rfl
  | (n, v) :: r, m, h => by
    unfold bindC
    rw [bindC_out fun w hw => h w (List.mem_cons_of_mem _ hw)]
    split
    · rfl
    · have : x ≠ n := by rintro rfl; exact h v List.mem_cons_self
      simp [this]
theorem bindL_get {kindOf : Str → Option NameKind} {x : Str} {v : Value} : ∀ {P : List Str} {vs : List Value} {i : Nat} {m : Str → Option Value}, P.Nodup → P[i]? = some x → vs[i]? = some v → kindOf x = some .local →
    bindL kindOf (P.zip vs) m x = some v
  | [], _, _, _, _, h, _, _ => by simp at h
  | _ :: _, [], _, _, _, _, h, _ => by simp at h
  | p :: P, w :: vs, 0, m, nd, h1, h2, hk => by
    simp at h1 h2; subst h1; subst h2
    show bindL kindOf ((p, w) :: P.zip vs) m p = _
    unfold bindL
    rw [bindL_out fun v hv => (List.nodup_cons.mp nd).1 (List.of_mem_zip hv).1, if_pos hk]
    simp
  | p :: P, w :: vs, i + 1, m, nd, h1, h2, hk => by
    show bindL kindOf ((p, w) :: P.zip vs) m x = _
    unfold bindL
    exact bindL_get (i := i) (List.nodup_cons.mp nd).2 (by simpa using h1) (by simpa using h2) hk
theorem bindC_get {kindOf : Str → Option NameKind} {x : Str} {v : Value} : ∀ {P : List Str} {vs : List Value} {i : Nat} {m : Str → Option Value}, P.Nodup → P[i]? = some x → vs[i]? = some v → kindOf x ≠ some .local →
    bindC kindOf (P.zip vs) m x = some v
  | [], _, _, _, _, h, _, _ => by simp at h
  | _ :: _, [], _, _, _, _, h, _ => by simp at h
  | p :: P, w :: vs, 0, m, nd, h1, h2, hk => by
    simp at h1 h2; subst h1; subst h2
    show bindC kindOf ((p, w) :: P.zip vs) m p = _
    unfold bindC
    rw [bindC_out fun v hv => (List.nodup_cons.mp nd).1 (List.of_mem_zip hv).1, if_neg hk]
    simp
  | p :: P, w :: vs, i + 1, m, nd, h1, h2, hk => by
    show bindC kindOf ((p, w) :: P.zip vs) m x = _
    unfold bindC
    exact bindC_get (i := i) (List.nodup_cons.mp nd).2 (by simpa using h1) (by simpa using h2) hk

/-- the names' values at the entry -/
noncomputable def start (N : List Str) (vs : List V) : St := vs.map some ++ List.replicate (N.length - vs.length) none

/-- the context of a def's body, at its entry; an exception leaves the frame, then lies as CX says -/
noncomputable def cxOf (CX : CXT) (P : Program) (w : World) (K : PySem.W.Frag) (mg : Str → Option Value) (base : Heap) (N : List Str) (qual : Str) (scope : Scope) (f : Addr) (cd : Value) (A : Around) (outer : List Env) (s : Shared) (H : Hp) (E : XK) : Cx where
  prog := P
  w := w
  K := K
  mg := mg
  base := base
  A := A.deeper (envOfC qual scope s.heap.objs.size f cd)
  N := N
  s₀ := s
  H₀ := H
  env := envOfC qual scope s.heap.objs.size f cd
  outer := outer
  stack := envOfC qual scope s.heap.objs.size f cd :: outer
  ex := []
  calm := true
  fn := fun _ => true
  pn := []
  xe := fun e s' => wpAny (model P w) (A.deeper (envOfC qual scope s.heap.objs.size f cd)) (leaving (envOfC qual scope s.heap.objs.size f cd) e) (fun _ s'' => CX outer H s E e s'') (fun e' s'' => CX outer H s E e' s'') s'

theorem cell_has {sc : Scope} {n : Nat} {x : Str} (h : sc.names.lookup x = some .cell) : ∃ c, (cellsFrom n sc.names []).lookup x = some c := by
  have q := PySem.W.cellsFrom_some sc.names n [] (.inl h)
  exact Option.isSome_iff_exists.mp q

theorem inv_start {CX : CXT} {P : Program} {w : World} {K : PySem.W.Frag} {mg : Str → Option Value} {base : Heap} {N ps : List Str} {qual : Str} {scope : Scope} {f : Addr} {cd : Value} {A : Around} {outer : List Env} {s s1 : Shared} {H : Hp} {E : XK} {us : List Value} {vs : List V}
    (S : FnScope N ps scope) (hd : A.handled = none) (e0 : Env0 P w K mg base A outer s H) (hl : vs.length = ps.length) (r : Vals vs us)
    (x : InCallC s s.heap.objs.size (bindL (envOfC qual scope s.heap.objs.size f cd).kindOf (ps.zip us) fun _ => none) (cellsFrom (s.heap.objs.size + 1) scope.names []) (bindC (envOfC qual scope s.heap.objs.size f cd).kindOf (ps.zip us) fun _ => none) s1) :
    Inv (cxOf CX P w K mg base N qual scope f cd A outer s H E) [] (start N vs) H s1 := by
  have hpl : ps.length ≤ N.length := by have := congrArg List.length S.pre; rw [List.length_take] at this; omega
  obtain ⟨h1, tk, rfl, hk⟩ := x.done
  have noA : ∀ b : Addr, b ∉ (cxOf CX P w K mg base N qual scope f cd A outer s H E).ex := fun b z => absurd (show b ∈ ([] : List Addr) from z) (by simp)
  refine ⟨⟨e0.mod, S.kind, rfl, rfl, Nat.le_refl _, fun y z c h1 h2 => ?_, fun y hy => ?_, fun y c _ h => ?_, fun _ => hd, Around.frames_deeper e0.frames, .inr ⟨rfl, rfl⟩, fun b z => absurd z (noA b), e0.bs, e0.bsz, fun b _ _ => noA b, fun b z => absurd z (noA b), e0.funs, e0.frf⟩,
    rfl, e0.bare, Un.kept hk, ⟨_, x.toInCall.ns, fun i y v h1 h2 h3 => ?_⟩, fun y c h => ⟨_, x.cell y c h⟩, e0.hok.fresh (Nat.le_refl _), fun y c h => ?_, fun p hp => absurd (show p ∈ ([] : List (Addr × Obj)) from hp) (by simp), e0.hok.kept hk, ?_⟩
  · exact name_of_addr x.apart (PySem.mem_of_lookup h1) (PySem.mem_of_lookup h2)
  · have hy : scope.names.lookup y = some .cell ∨ scope.names.lookup y = some .free := hy
    rcases hy with hy | hy
    · exact cell_has hy
    · exact absurd rfl (S.nofree _ (PySem.mem_of_lookup hy))
  · exact Nat.le_of_lt (x.above y c (PySem.mem_of_lookup h))
  · have hi : i < vs.length := by
      unfold start at h2
      by_cases hi : i < vs.length
      · exact hi
      · rw [List.getElem?_append_right (by simpa using hi)] at h2
        rw [List.getElem?_replicate] at h2
        split at h2 <;> cases h2
    have ha : vs[i]? = some v := by
      unfold start at h2
      rw [List.getElem?_append_left (by simpa using hi), List.getElem?_map] at h2
      cases e : vs[i]? with
      | none => rw [e] at h2; cases h2
      | some a => rw [e] at h2; cases h2; rfl
    obtain ⟨u, hu, rv⟩ := r.get ha
    have hp : ps[i]? = some y := by
      rw [← S.pre, List.getElem?_take_of_lt (by omega)]; exact h1
    have ndP : ps.Nodup := by rw [← S.pre]; exact S.nd.sublist (List.take_sublist _ _)
    refine ⟨u, rv, ?_⟩
    rcases S.par y (List.mem_of_getElem? hp) with k | k
    · exact .inl ⟨k, bindL_get ndP hp hu k⟩
    · obtain ⟨c, e⟩ := cell_has (n := s.heap.objs.size + 1) k
      refine .inr ⟨.inl k, c, e, ?_⟩
      have q := x.cell y c e
      rw [bindC_get ndP hp hu (by show scope.names.lookup y ≠ _; rw [k]; decide)] at q
      exact q
  · exact e0.hok.fresh (Nat.le_of_lt (x.above y c (PySem.mem_of_lookup h)))
  · unfold start
    show _ = N.length
    rw [List.length_append, List.length_map, List.length_replicate]
    omega

/-- THE RULE: a def (or a method) of the text, by its body. The body's reading t is chosen for each entry; it is run at the parameters' values -/
theorem fn_of {CX : CXT} {P : Program} {w : World} {K : PySem.W.Frag} {mg : Str → Option Value} {base : Heap} {k : Nat} {f : Addr} {name qual : Str} {params : Arguments} {body : List Stmt} {scope : Scope} {dV kV doc pm cdv ct oc : Value} {an od : Option Addr}
    {osl : Array (Option Value)} {N ps : List Str} {sp : Sp} (lk : K.lookup f = some ⟨oc, od, .func (PySem.W.fnOf name qual params body scope dV kV doc pm an cdv ct), osl⟩) (hcd : PySem.W.codeIn K cdv qual = true) (S : FnScope N ps scope)
    (len : ∀ vs H Q E, sp vs H Q E → vs.length = ps.length)
    (hbody : ∀ (A : Around) (outer : List Env) (s : Shared) (H : Hp) (vs : List V) (Q : VK) (E : XK), Room k (A.deeper (envOfC qual scope s.heap.objs.size f cdv)) → sp vs H Q E →
      ∃ t, PSs (cxOf CX P w K mg base N qual scope f cdv A outer s H E) body t ∧ t { nx := fun _ H' => Q .non H', rt := Q } (start N vs) H) :
    FnOk P w K mg base CX (k + 1) f (PySem.W.fnOf name qual params body scope dV kV doc pm an cdv ct) ps sp := by
  refine ⟨len, fun A outer s H args us vs Q E hr e0 hb r hsp => ?_⟩
  have hl := len _ _ _ _ hsp
  have KX : K.In s.heap := e0.mod.kin.keeps fun b o e => (e0.bs b o e).1
  have lim : s.heap.NoLimit := e0.mod.nolimit.keeps fun b o e => (e0.bs b o e).1
  have hkind : ∀ y ∈ ps.zip us, scope.names.lookup y.1 = some .local ∨ (scope.names.lookup y.1 = some .cell ∧ ((cellsFrom (s.heap.objs.size + 1) scope.names []).lookup y.1).isSome = true) := fun ⟨n, v⟩ hy => by
    rcases S.par n (List.of_mem_zip hy).1 with q | q
    · exact .inl q
    · exact .inr ⟨q, PySem.W.cellsFrom_some _ _ _ (.inl q)⟩
  refine codeAny_call_function hr.depth (KX _ _ lk) rfl S.co S.gen rfl (PySem.W.codeRec_of KX hcd) (hb _ _ _ _ ?_)
  refine wpAny_newFunctionEnv_cells S.kind hkind fun env he s1 x => ?_
  subst he
  refine ⟨lim.keeps x.toInCall.keep, codeAny_func ?_⟩
  obtain ⟨t, ht, hq⟩ := hbody A outer s H vs Q E (hr.deeper _) hsp
  have I : Inv (cxOf CX P w K mg base N qual scope f cdv A outer s H E) [] (start N vs) H s1 := inv_start S hr.hd e0 hl r x
  refine wpAny_mono (ht [] s1 (start N vs) H _ I hq) (fun fl s' hs => ?_) fun e s' hs => hs
  have fin : ∀ {σ' : St} {H' : Hp} {v : V} {u : Value}, Inv (cxOf CX P w K mg base N qual scope f cdv A outer s H E) [] σ' H' s' → RelV v u → Q v H' → CE outer P w H s Q u s' :=
    fun {σ' H' v u} J rv q => ⟨v, H', J.os, J.bare, J.base, J.hok, rv, q⟩
  cases fl with
  | ret u =>
    obtain ⟨v, σ', H', J, rv, q⟩ := hs
    exact fin J rv q
  | next =>
    obtain ⟨σ', H', J, q⟩ := hs
    exact fin (v := V.non) (u := Value.none) J rfl q
  | brk =>
    obtain ⟨_, _, _, q⟩ := hs
    exact False.elim q
  | cont =>
    obtain ⟨_, _, _, q⟩ := hs
    exact False.elim q
end L2

namespace L2
open PySem PySem.Spec PyProof.Rows
section
variable {X : Cx} {x : Str} {p pos : Pos} {e : Expr} {es : List Expr} {t : TA} {id T : String} {r : List V → Hp → VK → Prop}

noncomputable def tCB (r : List V → Hp → VK → Prop) (t : TA) : TE := fun σ H Q => t σ H fun vs H1 => r vs H1 Q
/-- f(e, ..), f a built-in function -/
theorem pe_callB (hc : CallR X (.builtin id) r) (hg : Gl X x) (hm : X.mg x = none) (hv : bootBuiltins x = some (.builtin id)) (ha : PA X (e :: es) t) (hn : x ≠ "__name__" := by decide) (hdb : (x == ("__debug__" : Str)) = false := by decide)
    (he : starEach (e :: es) X.env = (false, eval e X.env) :: starEach es X.env := by rfl) (hpl : (backTo pos (starEach es X.env)).any (·.1) = false := by rfl) : PE X (.Call (.Name x p) (e :: es) [] pos) (tCB r t) := by
  intro pins s σ H Q I h
  refine wpAny_Call_Name_kw (ld_blt I hg hm hv ?_ hn hdb)
  exact PyProof.Rows.callWith_builtin1 (thn (ha pos pins s σ H _ I h) fun us s1 ⟨vs, H1, I1, r1, q1⟩ => hc pins s1 σ H1 vs us Q I1 r1 q1) he hpl
/-- T(e, ..), T a built-in type -/
theorem pe_callTy (hc : CallR X (.type T) r) (hg : Gl X x) (hm : X.mg x = none) (hv : bootBuiltins x = some (.type T)) (ha : PA X (e :: es) t) (hn : x ≠ "__name__" := by decide) (hdb : (x == ("__debug__" : Str)) = false := by decide)
    (he : starEach (e :: es) X.env = (false, eval e X.env) :: starEach es X.env := by rfl) (hpl : (backTo pos (starEach es X.env)).any (·.1) = false := by rfl) : PE X (.Call (.Name x p) (e :: es) [] pos) (tCB r t) := by
  intro pins s σ H Q I h
  refine wpAny_Call_Name_kw (ld_blt I hg hm hv ?_ hn hdb)
  exact PyProof.Rows.callWith_type1 (thn (ha pos pins s σ H _ I h) fun us s1 ⟨vs, H1, I1, r1, q1⟩ => hc pins s1 σ H1 vs us Q I1 r1 q1) he hpl
end
end L2

namespace HT
open PySem PyProof.Rows

section
open PySem.SeqAt
open PySem.AutoSeq1 (wpAny_loadPart')
open PySem.MeetsSeq PySem.MeetsSeq2 PySem.MeetsSeq3

end

section
variable {prog : Program} {w : World} {A : Around} {E : Value → Shared → Prop} {s : Shared}

/-! ### t[a:b], not the whole -/
/-- a slice's bound as a place among n (d where it is left out) -/
noncomputable def sIx (n d : Nat) : Option Int → Nat
  | none => d
  | some v => if v < 0 then (v + (n : Int)).toNat else min v.toNat n
theorem sIx_nat (n d k : Nat) : sIx n d (some (k : Int)) = min k n := by
  show (if (k : Int) < 0 then ((k : Int) + (n : Int)).toNat else min (k : Int).toNat n) = min k n
  rw [if_neg (by omega), Int.toNat_natCast]
end
end HT

namespace L2
open PySem PySem.Spec PyProof.Rows

/-! ### the parts of a slice -/
noncomputable abbrev TO := St → Hp → (Option Int → Hp → Prop) → Prop
/-- a slice's part (left out, or an int) -/
noncomputable def PO (X : Cx) (e : Option Expr) (t : TO) : Prop :=
  ∀ (pins : List (Addr × Obj)) (s : Shared) (σ : St) (H : Hp) (Q : Option Int → Hp → Prop), Inv X pins σ H s → t σ H Q →
    wpAny (model X.prog X.w) X.A (evalPart e X.env) (fun u s' => ∃ o H', Inv X pins σ H' s' ∧ IsPart u o ∧ Q o H') X.xe s
noncomputable def tNoPart : TO := fun _ H Q => Q none H
noncomputable def tPart (t : TE) : TO := fun σ H Q => t σ H fun x H1 => ∃ i, x = .int i ∧ Q (some i) H1

theorem intsAre_of {ns : List Int} : ∀ {us : List Value}, Vals (ns.map V.int) us → IntsAre us ns := by
  induction ns with
  | nil => intro us r; rw [List.map_nil] at r; cases r; exact .nil
  | cons n ns ih =>
    intro us r
    rw [List.map_cons] at r
    cases r with
    | cons r1 r2 =>
      obtain ⟨t, e⟩ := r1
      subst e
      exact .cons n t (ih r2)

section
variable {X : Cx} {e : Expr} {te : TE} {lo hi : Option Expr} {tl th : TO} {pos p2 : Pos}

theorem po_none : PO X none tNoPart := by
  intro pins s σ H Q I h
  rw [evalPart_none]
  exact wpAny_pure ⟨none, H, I, .none, h⟩
theorem po_some (h : PE X e te) : PO X (some e) (tPart te) := by
  intro pins s σ H Q I hw
  rw [evalPart_some]
  refine thn (h pins s σ H _ I hw) fun u s1 ⟨x, H1, I1, r1, q1⟩ => ?_
  obtain ⟨i, rfl, q⟩ := q1
  obtain ⟨t, rfl⟩ := r1
  exact ⟨some i, H1, I1, .int i t, q⟩

/-- what a slice of a value is, by values: the slice object stands at sl -/
noncomputable def SlR (X : Cx) (r : V → Option Int → Option Int → Hp → VK → Prop) : Prop :=
  ∀ (pins : List (Addr × Obj)) (s : Shared) (σ : St) (H : Hp) (x : V) (v vl vu : Value) (lo hi : Option Int) (sl : Addr) (Q : VK), Inv X pins σ H s → RelV x v → s.heap.IsSliceOf sl vl vu .none → IsPart vl lo → IsPart vu hi → r x lo hi H Q →
    ∃ T id, typeLookup (.type T) "__getitem__" = pure (some (.builtin id)) ∧ s.TypeIs v T ∧ wpAny (model X.prog X.w) X.A (getItem v (.ref sl)) (EP X pins σ Q) X.xe s
noncomputable def tSl (r : V → Option Int → Option Int → Hp → VK → Prop) (te : TE) (tl th : TO) : TE := fun σ H Q => te σ H fun x H1 => tl σ H1 fun l H2 => th σ H2 fun u H3 => r x l u H3 Q
/-- a[lo:hi], any a -/
theorem pe_slice {r : V → Option Int → Option Int → Hp → VK → Prop} (hr : SlR X r) (he : PE X e te) (hl : PO X lo tl) (hu : PO X hi th) : PE X (.Subscript e (.Slice lo hi none p2) pos) (tSl r te tl th) := by
  intro pins s σ H Q I h
  refine Subscript_ (thn (he pins s σ H _ I h) fun v s1 ⟨x, H1, I1, r1, q1⟩ => ?_)
  refine wpAny_Slice (thn (hl pins s1 σ H1 _ I1 q1) fun vl s2 ⟨l, H2, I2, pl, q2⟩ => thn (hu pins s2 σ H2 _ I2 q2) fun vu s3 ⟨u, H3, I3, pu, q3⟩ => ?_)
  rw [evalPart_none]
  refine wpAny_pure ?_
  have I4 : Inv X pins σ H3 { s3 with heap := s3.heap.push { cls := .type "slice", data := .fields #[vl, vu, .none] } } := I3.kept (t' := s3.toks) fun b ob q => Heap.get?_push_of_some _ q
  obtain ⟨T, id, hT, ht, hg⟩ := hr pins { s3 with heap := s3.heap.push { cls := .type "slice", data := .fields #[vl, vu, .none] } } σ H3 x v vl vu l u s3.heap.objs.size Q I4 r1 (Heap.IsSliceOf.new ..) pl pu q3
  show wpAny (model X.prog X.w) X.A (subscriptTail e (.Slice lo hi none p2) v (.ref s3.heap.objs.size)) (EP X pins σ Q) X.xe { s3 with heap := s3.heap.push { cls := .type "slice", data := .fields #[vl, vu, .none] } }
  exact tail_any (ops := [.ref s3.heap.objs.size, v]) ht hT hg (by with_unfolding_all rfl)

/-- the items of xs[lo:hi] -/
noncomputable def cutV (xs : List V) (lo hi : Option Int) : List V := (xs.drop (HT.sIx xs.length 0 lo)).take (HT.sIx xs.length xs.length hi - HT.sIx xs.length 0 lo)
theorem cutV_length (xs : List V) (lo hi : Option Int) : (cutV xs lo hi).length ≤ xs.length := by
  unfold cutV
  rw [List.length_take, List.length_drop]
  omega
/-! ### t < u, t + u -/
end
end L2

namespace L2
open PySem PySem.Spec PyProof.Rows

/-! ### places -/
/-- the place that an index of any sign means -/
noncomputable def ixN (n : Nat) (i : Int) : Option Nat := if 0 ≤ i then (if i < n then some i.toNat else none) else if -(n : Int) ≤ i then some (i + n).toNat else none
noncomputable def atI {α : Type} (xs : List α) (i : Int) : Option α := (ixN xs.length i).bind fun j => xs[j]?
theorem ixN_seq {n : Nat} {i : Int} {j : Nat} (h : ixN n i = some j) : seqIndex? i n = some j ∧ j < n ∧ -(n : Int) ≤ i ∧ i < n := by
  unfold ixN at h
  by_cases h0 : 0 ≤ i
  · rw [if_pos h0] at h
    by_cases h1 : i < n
    · rw [if_pos h1] at h
      have e : i.toNat = j := Option.some.inj h
      exact ⟨by rw [seqIndex_of h0 h1, e], by omega, by omega, h1⟩
    · rw [if_neg h1] at h; cases h
  · rw [if_neg h0] at h
    by_cases h1 : -(n : Int) ≤ i
    · rw [if_pos h1] at h
      have e : (i + n).toNat = j := Option.some.inj h
      exact ⟨by rw [seqIndex_neg (by omega) h1, e], by omega, h1, by omega⟩
    · rw [if_neg h1] at h; cases h
theorem atI_get {α : Type} {xs : List α} {i : Int} {v : α} (h : atI xs i = some v) : ∃ j, seqIndex? i xs.length = some j ∧ xs[j]? = some v ∧ j < xs.length ∧ -(xs.length : Int) ≤ i ∧ i < xs.length := by
  unfold atI at h
  cases e : ixN xs.length i with
  | none => rw [e] at h; cases h
  | some j =>
    rw [e] at h
    obtain ⟨h1, h2, h3, h4⟩ := ixN_seq e
    exact ⟨j, h1, h, h2, h3, h4⟩
theorem atI_nat {α : Type} {xs : List α} {j : Nat} {v : α} (h : xs[j]? = some v) : atI xs (j : Int) = some v := by
  have hj : j < xs.length := (List.getElem?_eq_some_iff.mp h).1
  have e : ixN xs.length (j : Int) = some j := by
    unfold ixN
    rw [if_pos (by omega), if_pos (by omega)]; simp
  unfold atI; rw [e]; exact h
/-! ### what may be subscripted -/
/-- what stands as an index of a plain subscript -/
noncomputable def PlainIx (b : Expr) : Prop := ∀ o i, subscripted b false o i = operate [o, i] (getItem o i)
/-- a subscript by values -/
noncomputable def IxR (X : Cx) (r : R2) : Prop :=
  ∀ (value slice : Expr) (pins : List (Addr × Obj)) (s : Shared) (σ : St) (H : Hp) (x y : V) (v u : Value) (Q : VK), Inv X pins σ H s → RelV x v → RelV y u → r x y H Q →
    subscripted slice false v u = operate [v, u] (getItem v u) → wpAny (model X.prog X.w) X.A (subscriptTail value slice v u) (EP X pins σ Q) X.xe s
/-- a call of a builtin's method by values: the receiver, the arguments -/
noncomputable def MtR (X : Cx) (id : String) (r : V → List V → Hp → VK → Prop) : Prop :=
  ∀ (pins : List (Addr × Obj)) (s : Shared) (σ : St) (H : Hp) (x : V) (xs : List V) (v : Value) (us : List Value) (Q : VK), Inv X pins σ H s → RelV x v → Vals xs us → r x xs H Q →
    wpAny (model X.prog X.w) X.A (call (.builtin id) (v :: us)) (EP X pins σ Q) X.xe s
section
variable {X : Cx} {a b : Expr} {ta tb : TE} {pos : Pos}
/-- a[b] -/
theorem pe_ix {r : R2} (hr : IxR X r) (ha : PE X a ta) (hb : PE X b tb) (hs : PlainIx b) : PE X (.Subscript a b pos) (tOp r ta tb) := by
  intro pins s σ H Q I h
  exact Subscript_ (binT ha hb I h fun v u s2 x y H2 I2 rx ry q => hr a b pins s2 σ H2 x y v u Q I2 rx ry q (hs _ _))

noncomputable def rIxL (K : PySem.W.Frag) : R2 := fun x y H Q => ∃ p xs i v, x = .ref p ∧ y = .int i ∧ SqL K H p xs ∧ atI xs i = some v ∧ Q v H
noncomputable def rIxT (K : PySem.W.Frag) : R2 := fun x y H Q => ∃ p xs i v, x = .ref p ∧ y = .int i ∧ SqT K H p xs ∧ atI xs i = some v ∧ Q v H
theorem ix_list : IxR X (rIxL X.K) := by
  intro value slice pins s σ H x y v u Q I rx ry h hs
  obtain ⟨p, xs, i, z, rfl, rfl, hq, he, q⟩ := h
  cases rx
  obtain ⟨t, rfl⟩ := ry
  obtain ⟨its, r, pl, hz⟩ := I.list hq
  obtain ⟨j, h1, h2, h3, h4, h5⟩ := atI_get he
  obtain ⟨w, ew, rw'⟩ := r.get h2
  have hl := r.length
  have hn := line63
  have fin : EP X pins σ Q w s := ⟨z, H, I, rw', q⟩
  by_cases h0 : 0 ≤ i
  · have hj : i.toNat = j := by
      rw [seqIndex_of h0 h5] at h1
      exact Option.some.inj h1
    exact item_listR pl.isList h0 (by omega) (by rw [hj]; simpa using ew) fin hs
  · have hj : (i + (its.toArray.size : Int)).toNat = j := by
      rw [seqIndex_neg (by omega) h4] at h1
      rw [List.size_toArray, ← hl]
      exact Option.some.inj h1
    exact subscriptTail_builtinR (x := w) pl.isList.typeIs slot_list_getitem.lookup
      (wpAny_getItem_list_neg (Q := fun r s' => r = w ∧ EP X pins σ Q r s') pl.isList (by omega) (by rw [List.size_toArray] <;> omega) (by omega) (by rw [hj]; simpa using ew) ⟨rfl, fin⟩) hs
theorem ix_tup : IxR X (rIxT X.K) := by
  intro value slice pins s σ H x y v u Q I rx ry h hs
  obtain ⟨p, xs, i, z, rfl, rfl, hq, he, q⟩ := h
  cases rx
  obtain ⟨t, rfl⟩ := ry
  obtain ⟨its, r, pl, hz⟩ := I.tuple hq
  obtain ⟨j, h1, h2, h3, h4, h5⟩ := atI_get he
  obtain ⟨w, ew, rw'⟩ := r.get h2
  have hl := r.length
  have hn := line63
  have fin : EP X pins σ Q w s := ⟨z, H, I, rw', q⟩
  exact subscriptTail_builtinR (x := w) pl.typeIs slot_tuple_getitem.lookup
    (getItem_tuple (j := j) (Q := fun r s' => r = w ∧ EP X pins σ Q r s') pl (by omega) (by omega) (by rw [List.size_toArray, ← hl]; exact h1) (by simpa using ew) ⟨rfl, fin⟩) hs
/-! ### xs[i] = v, any sign -/
/-- the list's object behind a store -/
theorem mapSeq_set (its : List Value) (n j : Nat) (u : Value) : Obj.mapSeq (·.setIfInBounds j u) { cls := .type "list", data := .seq its.toArray n } = { cls := .type "list", data := .seq (its.set j u).toArray n } := by
  simp [Obj.mapSeq]
theorem Inv.lst {pins : List (Addr × Obj)} {σ : St} {H : Hp} {s : Shared} {p : Addr} {xs : List V} (I : Inv X pins σ H s) (h : H p = some (.lst xs)) :
    ∃ (its : List Value) (n : Nat), Vals xs its ∧ s.heap.get? p = some { cls := .type "list", data := .seq its.toArray n } ∧ xs.length ≤ sizeLine := by
  obtain ⟨z, its, n, r, e⟩ := I.hok p _ h
  exact ⟨its, n, r, e, z⟩
/-- the list at p is written by an update of its object -/
theorem Inv.lstUpd {pins : List (Addr × Obj)} {σ : St} {H : Hp} {s : Shared} {p : Addr} {xs ys : List V} {its its' : List Value} {n n' : Nat} {f : Obj → Obj} (I : Inv X pins σ H s) (h : H p = some (.lst xs))
    (ho : s.heap.get? p = some { cls := .type "list", data := .seq its.toArray n }) (hf : f { cls := .type "list", data := .seq its.toArray n } = { cls := .type "list", data := .seq its'.toArray n' }) (r : Vals ys its') (hz : ys.length ≤ sizeLine) (t : Nat) :
    Inv X pins σ (upd H p (.lst ys)) { s with heap := s.heap.update p f, toks := t } := by
  have e : (s.heap.update p f).get? p = some { cls := .type "list", data := .seq its'.toArray n' } := by
    rw [Heap.get?_update_self f ho (by rw [hf] <;> rfl), hf]
  refine I.write (x := p) (e := p) (by rw [h]; trivial) (.inl rfl) (fun b u hb q => (Heap.get?_update_other _ _ (Ne.symm hb)).trans q) ⟨_, e⟩ ?_
  exact ⟨hz, its', n', r, e⟩
noncomputable def rSetL : V → V → V → Hp → (Hp → Prop) → Prop := fun o i v H Q => ∃ p xs k j, o = .ref p ∧ i = .int k ∧ H p = some (.lst xs) ∧ ixN xs.length k = some j ∧ Q (upd H p (.lst (xs.set j v)))
theorem set_list : PSet X rSetL := by
  intro pins s σ H o i v ov iv u Q I ro ri rv h
  obtain ⟨p, xs, k, j, rfl, rfl, hp, hj, q⟩ := h
  cases ro
  obtain ⟨t, rfl⟩ := ri
  obtain ⟨its, n, r, ho, hz⟩ := I.lst hp
  obtain ⟨h1, h2, h3, h4⟩ := ixN_seq hj
  have hl := r.length
  have hn := line63
  have I' : Inv X pins σ (upd H p (.lst (xs.set j v))) { s with heap := s.heap.update p (Obj.mapSeq (·.setIfInBounds j u)) } :=
    I.lstUpd hp ho (mapSeq_set its n j u) (r.set rv j) (by rw [List.length_set]; exact hz) s.toks
  by_cases h0 : 0 ≤ k
  · have hk : k.toNat = j := by
      rw [seqIndex_of h0 h4] at h1
      exact Option.some.inj h1
    exact PySem.W.ki_setAt ho h0 (by omega) (by rw [List.size_toArray, ← hl]; exact h4) (by rw [hk]; exact ⟨_, I', q⟩)
  · have hk : (k + (its.toArray.size : Int)).toNat = j := by
      rw [seqIndex_neg (by omega) h3] at h1
      rw [List.size_toArray, ← hl]
      exact Option.some.inj h1
    exact PySem.W.ki_setBack ho (by omega) (by rw [List.size_toArray, ← hl]; exact h3) (by omega) (by rw [hk]; exact ⟨_, I', q⟩)

/-! ### slices -/
theorem slice_bounds (lo hi : Option Int) (n : Nat) : (sliceBounds lo hi none n).1 = ((HT.sIx n 0 lo : Nat) : Int) ∧ (sliceBounds lo hi none n).2.1 = ((HT.sIx n n hi : Nat) : Int) ∧ (sliceBounds lo hi none n).2.2 = 1 := by
  refine ⟨?_, ?_, rfl⟩
  · cases lo with
    | none => simp [sliceBounds, HT.sIx]
    | some i =>
      simp only [sliceBounds, HT.sIx, Option.getD_none, show (1 : Int) > 0 by decide, if_true]
      by_cases h : i < 0
      · simp only [h, if_true] <;> omega
      · simp only [h, if_false] <;> omega
  · cases hi with
    | none => simp [sliceBounds, HT.sIx]
    | some i =>
      simp only [sliceBounds, HT.sIx, Option.getD_none, show (1 : Int) > 0 by decide, if_true]
      by_cases h : i < 0
      · simp only [h, if_true] <;> omega
      · simp only [h, if_false] <;> omega
theorem slicePick_cut (its : List Value) (lo hi : Option Int) : slicePick its.toArray lo hi none = ((its.drop (HT.sIx its.length 0 lo)).take (HT.sIx its.length its.length hi - HT.sIx its.length 0 lo)).toArray := by
  obtain ⟨h1, h2, h3⟩ := slice_bounds lo hi its.toArray.size
  unfold slicePick
  rw [h1, h2, h3]
  simp only [sliceRange_one, pick_run, List.size_toArray] <;> rfl
/-- xs[lo:hi] of a list: a new list -/
noncomputable def rSlL (K : PySem.W.Frag) : V → Option Int → Option Int → Hp → VK → Prop := fun x lo hi H Q => ∃ a xs, x = .ref a ∧ SqL K H a xs ∧ ∀ p, H p = none → Q (.ref p) (upd H p (.lst (cutV xs lo hi)))
theorem sl_list : SlR X (rSlL X.K) := by
  intro pins s σ H x v vl vu lo hi sl Q I rx hs pl pu h
  obtain ⟨a, xs, rfl, hx, q⟩ := h
  cases rx
  obtain ⟨its, r, ht, hz⟩ := I.list hx
  have hlen := r.length
  refine ⟨"list", _, slot_list_getitem.lookup, ht.isList.typeIs, ?_⟩
  refine wpAny_getItem_list_slice ht.isList hs pl pu .none (by simp) ?_ (by rw [List.size_toArray] <;> omega)
  rw [slicePick_cut, ← hlen]
  refine ⟨.ref s.heap.objs.size, _, I.laid (t' := s.toks) (o := .lst (cutV xs lo hi)) (fun b ob q => Heap.get?_push_of_some _ q) (Nat.le_refl _) ?_, rfl, q _ (I.hok.fresh (Nat.le_refl _))⟩
  exact ⟨Nat.le_trans (cutV_length xs lo hi) hz, _, 0, (r.drop (HT.sIx xs.length 0 lo)).take (HT.sIx xs.length xs.length hi - HT.sIx xs.length 0 lo), Heap.get?_push_size _ rfl⟩

/-! ### in, not in: flat items -/
noncomputable def flatV : V → Bool
  | .non => true
  | .bl _ => true
  | .int _ => true
  | .str _ => true
  | _ => false
/-- == of flat values -/
noncomputable def eqV : V → V → Bool
  | .non, .non => true
  | .bl a, .bl b => a == b
  | .bl a, .int b => (if a then 1 else 0) == b
  | .int a, .bl b => a == (if b then 1 else 0)
  | .int a, .int b => a == b
  | .str a, .str b => a == b
  | _, _ => false
theorem eqAt_V {A : Around} {s : Shared} {y x : V} {u v : Value} (ry : RelV y u) (rx : RelV x v) (fy : flatV y = true) (fx : flatV x = true) : SeqAt.EqAt A s u v (eqV y x) := by
  cases y with
  | non =>
    cases ry
    cases x with
    | non => cases rx; exact SeqAt.EqAt.same _
    | bl b => cases rx; exact SeqAt.EqAt.none_bool b
    | int b => obtain ⟨t, rfl⟩ := rx; exact SeqAt.EqAt.none_int b t
    | str b => obtain ⟨t, rfl⟩ := rx; exact SeqAt.EqAt.none_str b t
    | _ => exact absurd (show false = true from fx) Bool.false_ne_true
  | bl a =>
    cases ry
    cases x with
    | non => cases rx; exact SeqAt.EqAt.bool_none a
    | bl b => cases rx; exact SeqAt.EqAt.bool_bool a b
    | int b => obtain ⟨t, rfl⟩ := rx; exact SeqAt.EqAt.bool_int a b t
    | str b => obtain ⟨t, rfl⟩ := rx; exact SeqAt.EqAt.bool_str a b t
    | _ => exact absurd (show false = true from fx) Bool.false_ne_true
  | int a =>
    obtain ⟨t', rfl⟩ := ry
    cases x with
    | non => cases rx; exact SeqAt.EqAt.int_none a t'
    | bl b => cases rx; exact SeqAt.EqAt.int_bool a t' b
    | int b => obtain ⟨t, rfl⟩ := rx; exact SeqAt.EqAt.int_int a t' b t
    | str b => obtain ⟨t, rfl⟩ := rx; exact SeqAt.EqAt.int_str a t' b t
    | _ => exact absurd (show false = true from fx) Bool.false_ne_true
  | str a =>
    obtain ⟨t', rfl⟩ := ry
    cases x with
    | non => cases rx; exact SeqAt.EqAt.str_none a t'
    | bl b => cases rx; exact SeqAt.EqAt.str_bool a t' b
    | int b => obtain ⟨t, rfl⟩ := rx; exact SeqAt.EqAt.str_int a t' b t
    | str b => obtain ⟨t, rfl⟩ := rx; exact SeqAt.EqAt.str_str a t' b t
    | _ => exact absurd (show false = true from fx) Bool.false_ne_true
  | _ => exact absurd (show false = true from fy) Bool.false_ne_true
/-- the items' answers, read off the values (a value's own answer does not lean on its token) -/
noncomputable def eqU (x : V) (u : Value) : Bool := match u with
  | .none => eqV .non x
  | .bool b => eqV (.bl b) x
  | .int i _ => eqV (.int i) x
  | .str z _ => eqV (.str z) x
  | _ => false
theorem eqU_of {x y : V} {u : Value} (r : RelV y u) (f : flatV y = true) : eqU x u = eqV y x := by
  cases y with
  | non => cases r; rfl
  | bl b => cases r; rfl
  | int i => obtain ⟨t, rfl⟩ := r; rfl
  | str z => obtain ⟨t, rfl⟩ := r; rfl
  | _ => exact absurd (show false = true from f) Bool.false_ne_true
theorem any_eqU {x : V} : ∀ {xs : List V} {us : List Value}, Vals xs us → xs.all flatV = true → us.any (eqU x) = xs.any fun y => eqV y x
  | _, _, .nil, _ => rfl
  | y :: xs, u :: us, .cons r t, f => by
    rw [List.all_cons, Bool.and_eq_true] at f
    rw [List.any_cons, List.any_cons, eqU_of r f.1, any_eqU t f.2]
theorem mem_eqAt {A : Around} {s : Shared} {x : V} {v : Value} (rx : RelV x v) (fx : flatV x = true) : ∀ {xs : List V} {us : List Value}, Vals xs us → xs.all flatV = true → ∀ u ∈ us, SeqAt.EqAt A s u v (eqU x u)
  | _, _, .nil, _ => fun u hu => by cases hu
  | y :: xs, u :: us, .cons r t, f => fun u' hu => by
    rw [List.all_cons, Bool.and_eq_true] at f
    rcases List.mem_cons.mp hu with rfl | hu
    · rw [eqU_of r f.1]; exact eqAt_V r rx f.1 fx
    · exact mem_eqAt rx fx t f.2 u' hu
noncomputable def inV (x : V) (xs : List V) : Bool := xs.any fun y => eqV y x
/-- x in a list or tuple of flat items -/
noncomputable def rIn (K : PySem.W.Frag) (neg : Bool) : R2 := fun x y H Q => ∃ p xs, y = .ref p ∧ (SqL K H p xs ∨ SqT K H p xs) ∧ flatV x = true ∧ xs.all flatV = true ∧ Q (.bl (if neg then !inV x xs else inV x xs)) H
theorem op_in_seq : OpR X (compareOp .In) (rIn X.K false) := by
  intro pins s σ H x y v u Q I rx ry h
  obtain ⟨p, xs, rfl, hq, fx, fs, q⟩ := h
  cases ry
  rcases hq with hq | hq
  · obtain ⟨its, r, pl, hz⟩ := I.list hq
    refine SeqAt.in_listAt (eqU x) pl.isList (fun w hw => mem_eqAt rx fx r fs w (by simpa using hw)) ⟨.bl _, H, I, rfl, ?_⟩
    rw [show its.toArray.any (eqU x) = its.any (eqU x) by simp, any_eqU r fs]
    exact q
  · obtain ⟨its, r, pl, hz⟩ := I.tuple hq
    refine SeqAt.in_tupleAt (eqU x) pl (fun w hw => mem_eqAt rx fx r fs w (by simpa using hw)) ⟨.bl _, H, I, rfl, ?_⟩
    rw [show its.toArray.any (eqU x) = its.any (eqU x) by simp, any_eqU r fs]
    exact q
theorem op_notIn_seq : OpR X (compareOp .NotIn) (rIn X.K true) := by
  intro pins s σ H x y v u Q I rx ry h
  obtain ⟨p, xs, rfl, hq, fx, fs, q⟩ := h
  cases ry
  rcases hq with hq | hq
  · obtain ⟨its, r, pl, hz⟩ := I.list hq
    refine SeqAt.notIn_listAt (eqU x) pl.isList (fun w hw => mem_eqAt rx fx r fs w (by simpa using hw)) ⟨.bl _, H, I, rfl, ?_⟩
    rw [show its.toArray.any (eqU x) = its.any (eqU x) by simp, any_eqU r fs]
    exact q
  · obtain ⟨its, r, pl, hz⟩ := I.tuple hq
    refine SeqAt.notIn_tupleAt (eqU x) pl (fun w hw => mem_eqAt rx fx r fs w (by simpa using hw)) ⟨.bl _, H, I, rfl, ?_⟩
    rw [show its.toArray.any (eqU x) = its.any (eqU x) by simp, any_eqU r fs]
    exact q
/-! ### len, list(x), tuple(x) of any list or tuple that is read -/
theorem call_len_seq : CallR X (.builtin "len") (fun xs H Q => ∃ p ys, xs = [.ref p] ∧ (SqL X.K H p ys ∨ SqT X.K H p ys) ∧ Q (.int ys.length) H) := by
  intro pins s σ H xs us Q I r h
  obtain ⟨p, ys, rfl, hq, q⟩ := h
  obtain ⟨u, rfl, rx⟩ := vals1 r
  cases rx
  have hn := line63
  rcases hq with hq | hq
  · obtain ⟨its, r', pl, hz⟩ := I.list hq
    have hlen := r'.length
    exact Calls.call_len_list pl.isList (by simp only [List.size_toArray] <;> omega) ⟨.int ys.length, H, I.tok _, ⟨s.toks + 1, by rw [List.size_toArray, hlen]⟩, q⟩
  · obtain ⟨its, r', pl, hz⟩ := I.tuple hq
    have hlen := r'.length
    exact len_tuple pl (by simp only [List.size_toArray] <;> omega) ⟨.int ys.length, H, I.tok _, ⟨s.toks + 1, by rw [List.size_toArray, hlen]⟩, q⟩
theorem call_list_of : CallR X (.type "list") (fun xs H Q => ∃ p ys, xs = [.ref p] ∧ (SqL X.K H p ys ∨ SqT X.K H p ys) ∧ ∀ l, H l = none → Q (.ref l) (upd H l (.lst ys))) := by
  intro pins s σ H xs us Q I r h
  obtain ⟨p, ys, rfl, hq, q⟩ := h
  obtain ⟨u, rfl, rx⟩ := vals1 r
  cases rx
  have fin : ∀ (its : List Value), Vals ys its → ys.length ≤ sizeLine → ∀ (h' : Heap) (c' : Nat), (∀ b o', s.heap.get? b = some o' → h'.get? b = some o') →
      h'.get? s.heap.objs.size = some { cls := .type "list", dict := none, data := .seq its.toArray c', slots := #[] } → EP X pins σ Q (.ref s.heap.objs.size) { s with heap := h' } := fun its r' hz h' c' kp e =>
    ⟨.ref s.heap.objs.size, _, I.laid (t' := s.toks) kp (Nat.le_refl _) (show ObjOk X.prog X.w _ h' _ (.lst ys) from ⟨hz, its, c', r', e⟩), rfl, q _ (I.hok.fresh (Nat.le_refl _))⟩
  rcases hq with hq | hq
  · obtain ⟨its, r', pl, hz⟩ := I.list hq
    have hlen := r'.length
    obtain ⟨o, ho, hc, n, hd⟩ := pl.isList
    exact call_list_seq p (.inl rfl) ho hc hd (fun h' c' kp e => fin its r' hz h' c' kp e) (by simp only [List.size_toArray] <;> omega)
  · obtain ⟨its, r', pl, hz⟩ := I.tuple hq
    have hlen := r'.length
    obtain ⟨o, ho, hc, n, hd⟩ := pl
    exact call_list_seq p (.inr rfl) ho hc hd (fun h' c' kp e => fin its r' hz h' c' kp e) (by simp only [List.size_toArray] <;> omega)
/-! ### the call of a builtin's method: o.m(..) -/
/-- the value is of that builtin type -/
noncomputable def tyV (K : PySem.W.Frag) (T : String) (x : V) (H : Hp) : Prop := match x with
  | .str _ => T = "str"
  | .int _ => T = "int"
  | .ref p => (T = "list" ∧ ∃ xs, SqL K H p xs) ∨ (T = "tuple" ∧ ∃ o, K.lookup p = some o ∧ o.cls = .type "tuple" ∧ o.dict = none) ∨
      (T = "dict" ∧ ((∃ kvs, H p = some (.dK kvs)) ∨ ∃ kvs, H p = some (.dT kvs))) ∨ (T = "set" ∧ ∃ S n, H p = some (.set S n))
  | _ => False
theorem tyV_is {pins : List (Addr × Obj)} {σ : St} {H : Hp} {s : Shared} {T : String} {x : V} {v : Value} (I : Inv X pins σ H s) (r : RelV x v) (ty : tyV X.K T x H) :
    s.TypeIs v T ∧ ∀ a, v = .ref a → ∃ ob, s.heap.get? a = some ob ∧ ob.dict = none := by
  cases x with
  | str z =>
    obtain ⟨t, rfl⟩ := r
    cases (show T = "str" from ty)
    exact ⟨typeIs_str s z t, fun _ e => nomatch e⟩
  | int i =>
    obtain ⟨t, rfl⟩ := r
    cases (show T = "int" from ty)
    exact ⟨typeIs_int s i t, fun _ e => nomatch e⟩
  | ref p =>
    cases r
    rcases ty with ⟨rfl, xs, hq⟩ | ⟨rfl, o, hk, hc, hd⟩ | ⟨rfl, hk⟩ | ⟨rfl, S, n, hk⟩
    · obtain ⟨its, _, pl, _⟩ := I.list hq
      refine ⟨pl.isList.typeIs, fun a e => ?_⟩
      cases e
      obtain ⟨o, n, e, c, hd, _⟩ := pl
      exact ⟨o, e, hd⟩
    · refine ⟨⟨o, I.kIn p o hk, hc⟩, fun a e => ?_⟩
      cases e
      exact ⟨o, I.kIn _ o hk, hd⟩
    · have z : ∃ o, s.heap.get? p = some o ∧ o.ExactDict := by
        rcases hk with ⟨kvs, hk⟩ | ⟨kvs, hk⟩
        · obtain ⟨_, _, _, _, o, _, _, e, ex, _⟩ := I.hok p _ hk
          exact ⟨o, e, ex⟩
        · obtain ⟨_, _, _, _, o, _, _, e, ex, _⟩ := I.hok p _ hk
          exact ⟨o, e, ex⟩
      obtain ⟨o, e, ex⟩ := z
      refine ⟨⟨o, e, ex.1⟩, fun a e2 => ?_⟩
      cases e2
      exact ⟨o, e, ex.2.1⟩
    · obtain ⟨o, _, _, _, e, ex, _⟩ := I.hok p _ hk
      refine ⟨⟨o, e, ex.1⟩, fun a e2 => ?_⟩
      cases e2
      exact ⟨o, e, ex.2.1⟩
  | _ => exact False.elim ty
noncomputable def tBM (K : PySem.W.Frag) (T : String) (r : V → List V → Hp → VK → Prop) (to : TE) (t : TA) : TE := fun σ H Q => to σ H fun x H1 => tyV K T x H1 ∧ t σ H1 fun xs H2 => r x xs H2 Q
variable {o e : Expr} {es : List Expr} {to : TE} {t : TA} {name : Str} {apos cpos : Pos} {T id : String} {r : V → List V → Hp → VK → Prop}
theorem pe_bm (pa : PlainAttrs T) (slot : Slot T name id) (hty : typeOf (.builtin id) = pure (.type "method_descriptor")) (hm : MtR X id r) (ho : PE X o to) (ha : PA X (e :: es) t)
    (hbase : attributeBase o name X.env (eval o X.env) = eval o X.env := by rfl)
    (hfew : ((backTo cpos (starEach (e :: es) X.env)).all (fun x => !x.1) && (backToKw cpos (keywordEach [] X.env)).all (fun x => x.1.isSome)
      && decide ((e :: es).length + ([] : List Keyword).length + (if ([] : List Keyword).isEmpty then 0 else 1) < 30)) = true := by rfl)
    (hline : (apos.endLine == cpos.line) = true := by rfl) (hs : starEach (e :: es) X.env = (false, eval e X.env) :: starEach es X.env := by rfl) (hplain : (backTo cpos (starEach es X.env)).any (·.1) = false := by rfl) :
    PE X (.Call (.Attribute o name apos) (e :: es) [] cpos) (tBM X.K T r to t) := by
  intro pins s σ H Q I h
  refine wpAny_Call_method_late hbase hfew hline rfl (thn (ho pins s σ H _ I h) fun v s1 ⟨x, H1, I1, r1, ty, q1⟩ => ?_)
  obtain ⟨h1, h2⟩ := tyV_is I1 r1 ty
  refine ⟨T, id, pa, slot, hty, h1, h2, ?_⟩
  have hA := ha cpos pins s1 σ H1 _ I1 q1
  rw [hs] at hA ⊢
  refine Calls.callWith_builtin (by show (false || (backTo cpos (starEach es X.env)).any (·.1)) = false; rw [hplain] <;> rfl) (Calls.evalArgs_plain ?_)
  exact thn hA fun us s2 ⟨vs, H2, I2, r2, q2⟩ => hm pins s2 σ H2 x vs v us Q I2 r1 r2 q2
/- xs.append(e), list.index on a module's tuple .. are MtR facts of 06m -/
end
end L2

namespace L2
open PySem PySem.Spec PyProof.Rows

noncomputable def MtM (X : Cx) (id : String) (r : V → List V → Hp → VK → Prop) : Prop :=
  ∀ (pins : List (Addr × Obj)) (s : Shared) (σ : St) (H : Hp) (x : V) (xs : List V) (v : Value) (us : List Value) (Q : VK), Inv X pins σ H s → RelV x v → Vals xs us → r x xs H Q →
    wpAny (model X.prog X.w) X.A (call (.builtin id) (v :: us)) (EP X pins σ Q) X.xe s

/-! ### lists of values -/
theorem Vals.one : ∀ {x : V} {us : List Value}, Vals [x] us → ∃ u, us = [u] ∧ RelV x u
  | _, _, .cons r .nil => ⟨_, rfl, r⟩
theorem Vals.two : ∀ {x y : V} {us : List Value}, Vals [x, y] us → ∃ u v, us = [u, v] ∧ RelV x u ∧ RelV y v
  | _, _, _, .cons r (.cons q .nil) => ⟨_, _, rfl, r, q⟩
theorem Vals.rep {xs : List V} {us : List Value} (h : Vals xs us) : ∀ k : Nat, Vals (List.replicate k xs).flatten (List.replicate k us).flatten
  | 0 => .nil
  | k + 1 => by
    rw [List.replicate_succ, List.replicate_succ, List.flatten_cons, List.flatten_cons]
    exact Vals.append h (Vals.rep h k)
theorem foldl_rep (its : List Value) : ∀ (k : Nat) (acc : List Value),
    List.foldl (fun x1 x2 => x1 ++ x2) acc.toArray (List.replicate k its.toArray) = (acc ++ (List.replicate k its).flatten).toArray
  | 0, acc => by simp
  | k + 1, acc => by
    have e : acc.toArray ++ its.toArray = (acc ++ its).toArray := by simp
    have e2 : (acc ++ its) ++ (List.replicate k its).flatten = acc ++ (List.replicate (k + 1) its).flatten := by
      rw [List.replicate_succ, List.flatten_cons, List.append_assoc]
    rw [← e2, ← foldl_rep its k (acc ++ its), ← e, List.replicate_succ, List.foldl_cons]

section
variable {X : Cx} {pins : List (Addr × Obj)} {σ : St} {H : Hp} {s : Shared} {l b : Addr} {xs ys zs : List V}

/-! ### the two steps: a tracked list is rewritten, a new list is laid -/
theorem Inv.lset {its its' : List Value} {n : Nat} {f : Array Value → Array Value} {t' : Nat} (I : Inv X pins σ H s) (hH : H l = some (.lst xs))
    (e : s.heap.get? l = some { cls := .type "list", data := .seq its.toArray n }) (hf : f its.toArray = its'.toArray) (hv : Vals ys its') (hz : ys.length ≤ sizeLine) :
    Inv X pins σ (upd H l (.lst ys)) { s with heap := s.heap.update l (Obj.mapSeq f), toks := t' } := by
  have q := PySem.IsL.update e f
  rw [hf] at q
  refine I.write (x := l) (e := l) (by rw [hH]; exact trivial) (.inl rfl) (fun b' u hb hu => (Heap.get?_update_other s.heap (Obj.mapSeq f) (Ne.symm hb)).trans hu) ⟨_, q⟩ ?_
  exact ⟨hz, its', _, hv, q⟩
theorem Inv.lnew {its : List Value} {t' : Nat} (I : Inv X pins σ H s) (hv : Vals ys its) (hz : ys.length ≤ sizeLine) :
    Inv X pins σ (upd H s.heap.objs.size (.lst ys)) { s with heap := s.heap.push { cls := .type "list", data := .seq its.toArray }, toks := t' } :=
  I.laid (fun _ _ q => Heap.get?_push_of_some _ q) (Nat.le_refl _) ⟨hz, its, 0, hv, Heap.get?_push_size _ rfl⟩
theorem Inv.fresh (I : Inv X pins σ H s) : H s.heap.objs.size = none := I.hok.fresh (Nat.le_refl _)
theorem Inv.lstM (I : Inv X pins σ H s) (hH : H l = some (.lst xs)) : xs.length ≤ sizeLine ∧ ∃ (its : List Value) (n : Nat), Vals xs its ∧ xs.length = its.length ∧ s.heap.get? l = some { cls := .type "list", data := .seq its.toArray n } := by
  obtain ⟨z, its, n, r, e⟩ := I.hok l _ hH
  exact ⟨z, its, n, r, r.length, e⟩

theorem notLongL {n : Nat} (h : n ≤ sizeLine) : Builtin.List.listTooLong n = false := by
  unfold Builtin.List.listTooLong
  exact decide_eq_false (by omega)
end

section
variable {X : Cx}

/-! ### methods -/
noncomputable def rAppend : V → List V → Hp → VK → Prop := fun x vs H Q => ∃ l xs y, x = .ref l ∧ vs = [y] ∧ H l = some (.lst xs) ∧ xs.length < sizeLine ∧ Q .non (upd H l (.lst (xs ++ [y])))
theorem mt_append : MtM X "list.append" rAppend := by
  intro pins s σ H x vs v us Q I rx rv h
  obtain ⟨l, xs, y, rfl, rfl, hH, hz, q⟩ := h
  cases rx
  obtain ⟨u, rfl, ru⟩ := rv.one
  obtain ⟨z, its, n, r, hl, e⟩ := I.lstM hH
  refine call_meets F.slot_list_append ⟨_, e, rfl⟩ F.entry_list_append (F.args_list_append_2 _ _) (PySem.list_append l its.toArray n u (by rw [List.size_toArray]; omega)) ⟨e, ?_⟩
  refine ⟨.non, _, I.lset (its' := its ++ [u]) hH e (by simp) (r.append (.cons ru .nil)) ?_, rfl, q⟩
  rw [List.length_append, List.length_singleton]
  omega

/-! ### list + list, list += list, list * int -/
noncomputable def rCat : R2 := fun x y H Q => ∃ l b xs zs, x = .ref l ∧ y = .ref b ∧ H l = some (.lst xs) ∧ H b = some (.lst zs) ∧ xs.length + zs.length ≤ sizeLine ∧ ∀ p, H p = none → Q (.ref p) (upd H p (.lst (xs ++ zs)))
theorem op_cat : OpR X (binaryOp .Add) rCat := by
  intro pins s σ H x y v u Q I rx ry h
  obtain ⟨l, b, xs, zs, rfl, rfl, hH, hB, hz, q⟩ := h
  cases rx
  cases ry
  obtain ⟨z, its, n, r, hl, e⟩ := I.lstM hH
  obtain ⟨z2, its2, n2, r2, hl2, e2⟩ := I.lstM hB
  refine PySem.P.add_list e e2 ?_ (by rw [List.size_toArray, List.size_toArray]; omega)
  have ea : its.toArray ++ its2.toArray = (its ++ its2).toArray := by simp
  rw [ea]
  exact ⟨.ref _, _, I.lnew (t' := s.toks) (r.append r2) (by rw [List.length_append]; omega), rfl, q _ I.fresh⟩
/-- a list times an int (a negative one is nothing) -/
noncomputable def rRep : R2 := fun x y H Q => ∃ l k xs, x = .ref l ∧ y = .int k ∧ H l = some (.lst xs) ∧ -(2 ^ 63) ≤ k ∧ k < 2 ^ 63 ∧ xs.length * k.toNat ≤ sizeLine ∧
  ∀ p, H p = none → Q (.ref p) (upd H p (.lst (List.replicate k.toNat xs).flatten))
theorem len_rep {α : Type} (xs : List α) (k : Nat) : (List.replicate k xs).flatten.length = k * xs.length := by
  induction k with
  | zero => simp
  | succ k ih => rw [List.replicate_succ, List.flatten_cons, List.length_append, ih, Nat.succ_mul, Nat.add_comm]
theorem op_rep : OpR X (binaryOp .Mult) rRep := by
  intro pins s σ H x y v u Q I rx ry h
  obtain ⟨l, k, xs, rfl, rfl, hH, h1, h2, hz, q⟩ := h
  cases rx
  obtain ⟨t, rfl⟩ := ry
  obtain ⟨z, its, n, r, hl, e⟩ := I.lstM hH
  have hlen : its.toArray.size * k.toNat ≤ sizeLine := by rw [List.size_toArray, ← hl]; exact hz
  have hcap : ¬ its.toArray.size * k.toNat > (2 ^ 63 - 1) / 8 := by
    have : (sizeLine : Nat) ≤ (2 ^ 63 - 1) / 8 := by decide
    omega
  have hfit : ¬ (!Builtin.List.listFitsIndex k) = true := by
    rw [fitsIndex_both h1 h2]
    exact Bool.false_ne_true
  have hlong : ¬ Builtin.List.listTooLong (its.toArray.size * k.toNat) = true := by
    rw [notLongL hlen]
    exact Bool.false_ne_true
  have hnew : List.foldl (fun x1 x2 => x1 ++ x2) #[] (List.replicate (if its.toArray.isEmpty = true then 0 else k.toNat) its.toArray) = (List.replicate k.toNat its).flatten.toArray := by
    have f0 : ∀ m : Nat, List.foldl (fun x1 x2 => x1 ++ x2) #[] (List.replicate m its.toArray) = (List.replicate m its).flatten.toArray := fun m => by
      have := foldl_rep its m []
      rw [List.nil_append] at this
      exact this
    rw [f0]
    cases its with
    | nil => simp
    | cons a r' => rw [if_neg (by simp)]
  refine wpAny_binaryOp_repeat_ref (T := "list") (U := "int") (by decide) ⟨_, e, rfl⟩ (fun s' => typeIs_int s' k t) noFill_list_mul F.fills_int_mul F.slot_int_rmul repeat_list F.slot_int_index.lookup
    (call_meets F.slot_int_rmul (typeIs_int s k t) F.entry_int_rmul (F.args_int_rmul_2 _ _) (int___rmul___int_list k t l its.toArray n)
      ⟨e, rfl, ⟨_, e, rfl⟩, call_meets F.slot_list_mul ⟨_, e, rfl⟩ F.entry_list_mul (F.args_list_mul_2 _ _) (AutoListH.list___mul___list_int_3 l its.toArray n k t hfit hcap hlong) ⟨e, ?_⟩⟩)
  rw [hnew]
  exact ⟨.ref _, _, I.lnew (t' := s.toks) (r.rep k.toNat) (by rw [len_rep, Nat.mul_comm]; exact hz), rfl, q _ I.fresh⟩

/-! ### del xs[i] -/
end

/-! ### xs[a:b] = ys -/

end L2

namespace L2
open PySem PySem.Spec PyProof.Rows

/-! ### lists of pairs as tables -/


/-! ### a tracked dict, its keys ints and texts or tuples of these -/




/-! ### readings and rules -/


/-! ### displays -/

/-! ### methods -/


/-! ### dict(d): a copy -/


end L2

namespace Att
open PySem PySem.W PySem.Calls PyProof.Rows

/-! ### the script -/
theorem ints_of_wellAll {P : Params} {h : Heap} : ∀ (ns : List Int) (vs : List Value), WellAll P h vs (ns.map WData.int) → IntsAre vs ns := by
  intro ns
  induction ns with
  | nil =>
    intro vs w
    rw [List.map_nil] at w
    cases w
    exact .nil
  | cons n ns ih =>
    intro vs w
    rw [List.map_cons] at w
    cases w with
    | cons a b =>
      cases a
      exact .cons _ _ (ih _ b)

theorem script_of {l : OpenLaw} {n : Nat} (hn : l.most = some n) {P : Params} {h : Heap} {args : List WData} {vals : List Value}
    (hpre : l.row.toRowW.claim.pre args = true) (hwl : WellAll P h vals args) :
    ∃ a vs ns, vals = [Value.ref a] ∧ args = [WData.list (ns.map WData.int)] ∧ h.get? a = some { cls := .type "list", data := .seq vs.toArray } ∧ IntsAre vs ns ∧ ns.length ≤ n := by
  have hsh : WShape.hasAll [] args [.list .int] = true := (pre_splitW hpre).1
  have hc : l.pre.holds [] { args := args } = true := (pre_splitW hpre).2
  obtain ⟨d, r, rfl, h1, h2⟩ := hasAllW_cons hsh
  obtain rfl := hasAllW_nil h2
  obtain ⟨xs, rfl, h3⟩ := hasW_list h1
  obtain ⟨ns, rfl⟩ := items_int h3
  have hlen : ns.length ≤ n := by
    unfold OpenLaw.pre at hc
    have h4 : (WTm.not (.lt (.lit (.int (n : Int))) (.len (.arg 0)))).holds [] { args := [.list (ns.map .int)] } = true := by
      have h4 := (holds_andW hc).1
      rw [hn] at h4
      exact h4
    have h5 := condW_of h4 (w_not (w_lt w_lit (w_len_list (w_arg rfl))))
    rw [List.length_map] at h5
    refine Nat.le_of_not_lt fun q => ?_
    have q' : (n : Int) < ((ns.length : Nat) : Int) := by omega
    first
      | (rw [decide_eq_true q'] at h5; exact absurd h5 (by decide))
      | (simp at h5; omega)
  cases hwl with
  | cons w1 w2 =>
    cases w2
    cases w1 with
    | list ho hall => exact ⟨_, _, ns, rfl, rfl, ho, ints_of_wellAll ns _ hall, hlen⟩

theorem post_true (l : OpenLaw) (args : List WData) : l.row.toRowW.claim.post args (.bool true) args = true :=
  postW_of (r := l.row.toRowW) (X := (true == true))
    (show WShape.has [] (.bool true) .bool = true by first | rfl | decide | simp [WShape.has, WShape.arms, WShape.armsAll])
    (show (WTm.eq .res (.lit (.bool true))).value [] { args := args, res := some (.bool true), after := args } = some (.bool (true == true)) from w_eq_bool (w_res rfl) w_lit) rfl

/-! ### the attachment: holds_open's last premise (the goal 'hc' behind k_head) from a wpAny of the law's body -/
/-- the same from a codeAny of the CALL (for a layer whose function contracts speak of calls) -/
theorem attach_call {l : OpenLaw} {n : Nat} {q : Program} {loose : List Str} {XP : (Str → Option Value) → Heap → Prop} {YP : World → Heap → Prop} {d : DefRec}
    (hn : l.most = some n) (hdf : d.params.defaults = [])
    (call : ∀ (w : World) (s₀ s₁ : Shared) (mg mb : Str → Option Value) (fa : Addr) (o : Obj) (pm cd doc : Value) (a : Addr) (vs : List Value) (ns : List Int),
      Ground q loose [] XP w s₀ mg mb s₁.heap → YP w s₁.heap →
      s₁.heap.get? fa = some o → o.data = .func (docDef d.name d.params d.body d.scope pm cd doc) → s₁.heap.CodeRec cd d.name → mg d.name = some (.ref fa) →
      s₁.heap.get? a = some { cls := .type "list", data := .seq vs.toArray } → IntsAre vs ns → ns.length ≤ n → s₁.gens = #[] →
      codeAny (model l.prog w) callerA (.call (.ref fa) ⟨[.ref a], []⟩) (fun r s' => r = .ok (.ret (.bool true)) ∧ OldK s₁.heap s'.heap ∧ s'.os = s₁.os ∧ AllBare s'.gens) s₁) :
    WalkO q loose XP YP l.row.toRowW d [] (fun f vs => PySem.call f vs) := by
  intro w s₀ s₁ mg mb G Y fa o pm cd doc dV kV ho hd hcd hD hmg hg args vals as hpre hlay hrd hwl hlo
  obtain rfl : dV = .none := Dflts.none hD hdf
  obtain rfl : kV = .none := Dflts.noKw hD
  obtain ⟨a, vs, ns, rfl, rfl, hobj, hints, hlen⟩ := script_of hn hpre hwl
  refine enter_call (codeAny_mono (call w s₀ s₁ mg mb fa o pm cd doc a vs ns G Y ho (fd_plain hd) hcd hmg hobj hints hlen hg) fun r s' hq => ?_)
  obtain ⟨rfl, h2, h3, h4⟩ := hq
  exact ⟨.inl ⟨.bool true, .bool true, [], rfl, fun _ => rfl, .bool true, post_true l _, fun _ => ⟨List.Pairwise.nil, fun _ hm => (nomatch hm)⟩⟩, h2, h3, h4⟩

/-! ### rules over ANY heap (no ledger) from facts about the written part K: the library's own take a ledger (News) for what they write -/
end Att

namespace L2
open PySem PySem.Spec PyProof.Rows

theorem vals_ints : ∀ {vs : List Value} {ns : List Int}, IntsAre vs ns → Vals (ns.map V.int) vs
  | _, _, .nil => .nil
  | _, _, .cons n t h => .cons ⟨t, rfl⟩ (vals_ints h)

/-- nothing is tracked but the script, known to the object (or it is an object of the module) -/
noncomputable def Only (H : Hp) : Prop := ∀ b, H b = none ∨ ∃ o xs, H b = some (.frz o (.lst xs))

/-- THE HEAD: the law's promise, at the heap behind the top. F, the promise of the law's def, may use that base is part of the heap (so K.In base, base.Ns mainGlobals mg stand in Mod) -/
theorem law_call {P : Program} {w : World} {K : PySem.W.Frag} {mg mb : Str → Option Value} {CX : CXT} {k : Nat} {fa a : Addr} {fd : FuncData} {x : Str} {sp : Sp} {s₁ : Shared} {vs : List Value} {ns : List Int}
    (KX : K.In s₁.heap) (hns : s₁.heap.Ns mainGlobals mg) (hb : s₁.heap.Ns builtinsNs mb) (hbb : ∀ x : Str, x ≠ "__name__" → mb x = bootBuiltins x) (hlim : s₁.heap.NoLimit) (hg : s₁.gens = #[])
    (ha : s₁.heap.get? a = some { cls := .type "list", data := .seq vs.toArray }) (hi : IntsAre vs ns) (hl : ns.length ≤ sizeLine) (hr : Room k callerA)
    (F : ∀ base : Heap, K.In base → base.Ns mainGlobals mg → FnOk P w K mg base CX k fa fd [x] sp) (hbind : ∀ (s : Shared) (u : Value), BindsTo s fd ⟨[u], []⟩ [(x, u)])
    (hsp : ∀ H : Hp, Only H → SqL K H a (ns.map V.int) → sp [.ref a] H (fun v _ => v = .bl true) fun _ _ _ => False)
    (hCX : ∀ H e s', CX [] H s₁ (fun _ _ _ => False) e s' → False) :
    codeAny (model P w) callerA (.call (.ref fa) ⟨[.ref a], []⟩) (fun r s' => r = .ok (.ret (.bool true)) ∧ OldK s₁.heap s'.heap ∧ s'.os = s₁.os ∧ AllBare s'.gens) s₁ := by
  have rv := vals_ints hi
  have lenV := hi.length
  -- from an abstract heap in which nothing but the script may be tracked
  have core : ∀ H : Hp, Only H → SqL K H a (ns.map V.int) → HOk P w H s₁.heap → (∀ b, H b ≠ none → b = a) → (H a ≠ none → K.lookup a = none) →
      codeAny (model P w) callerA (.call (.ref fa) ⟨[.ref a], []⟩) (fun r s' => r = .ok (.ret (.bool true)) ∧ OldK s₁.heap s'.heap ∧ s'.os = s₁.os ∧ AllBare s'.gens) s₁ := by
    intro H hO hS hok hA hK
    have base_of : ∀ {b : Addr} {o : Obj}, s₁.heap.get? b = some o → H b = none → (hidT s₁.heap H).get? b = some o := fun e n => hidT_get e n
    have noA : ∀ {b : Addr} {o : Obj} {es : Array DictEntry} {ep : Nat}, s₁.heap.get? b = some o → o.data = .dict es ep → H b = none := fun {b o es ep} e d => by
      cases q : H b with
      | none => rfl
      | some u =>
        have e' : b = a := hA b (by rw [q]; simp)
        subst e'
        rw [ha] at e; cases e
        have d' : Data.seq vs.toArray _ = Data.dict es ep := d
        cases d'
    have nsK : ∀ {b : Addr} {m : Str → Option Value}, s₁.heap.Ns b m → (hidT s₁.heap H).Ns b m := fun {b m} ⟨o, es, ep, e, d, r⟩ => ⟨o, es, ep, base_of e (noA e d), d, r⟩
    have hKb : K.In (hidT s₁.heap H) := fun b o e => base_of (KX b o e) (by
      cases q : H b with
      | none => rfl
      | some u =>
        have e' : b = a := hA b (by rw [q]; simp)
        subst e'
        rw [hK (by rw [q]; simp)] at e; cases e)
    have hM : Mod K mg (hidT s₁.heap H) := ⟨hKb, nsK hns, ⟨mb, nsK hb, hbb⟩, let ⟨mc, h1, h2⟩ := hlim; ⟨mc, nsK h1, h2⟩⟩
    have e0 : Env0 P w K mg (hidT s₁.heap H) callerA [] s₁ H := ⟨rfl, hM, fun b o e => of_hidT e, Nat.le_of_eq (hidT_size _ _), trivial, fun b hb => absurd (show b ∈ ([] : List Addr) from hb) (by simp), hok, .of_eq hg⟩
    refine codeAny_mono ((F _ hKb (nsK hns)).run callerA [] s₁ H ⟨[.ref a], []⟩ [.ref a] [.ref a] _ _ hr e0 (hbind s₁ (.ref a)) (.cons rfl .nil) (hsp H hO hS)) fun r s' h => ?_
    cases r with
    | error e => exact (hCX H e s' h).elim
    | ok fl =>
      cases fl with
      | next => exact False.elim h
      | brk => exact False.elim h
      | cont => exact False.elim h
      | ret u =>
        obtain ⟨v, H', os, bare, un, hok', r', q⟩ := h
        have q' : v = .bl true := q
        subst q'
        obtain rfl : u = Value.bool true := r'
        refine ⟨rfl, OldK.of_keep fun b o e => ?_, os, bare⟩
        cases q : H b with
        | none => exact un.keep b o e q (by intro z; exact absurd (show b ∈ ([] : List Addr) from z) (by simp)) (by simp)
        | some u =>
          rcases hO b with z | ⟨ob, xs, z⟩
          · rw [q] at z; cases z
          · have z2 := un.frzs b ob _ z
            obtain ⟨e1, _⟩ := hok b _ z
            obtain ⟨e2, _⟩ := hok' b _ z2
            rw [e] at e1; cases e1
            exact e2
  cases hk : K.lookup a with
  | some o =>
    -- the script is one of the module's own objects
    have e := KX a o hk
    rw [ha] at e
    cases e
    refine core (fun _ => none) (fun _ => .inl rfl) (.inr ⟨_, vs.toArray, _, hk, rfl, rfl, rfl, by rw [List.size_toArray, lenV]; exact hl, by simpa using rv⟩) (fun b u z => by have z' : (none : Option HO) = some u := z; cases z') (fun b z => absurd rfl z) fun z => absurd rfl z
  | none =>
    refine core (fun b => if b = a then some (.frz { cls := .type "list", data := .seq vs.toArray } (.lst (ns.map V.int))) else none) (fun b => ?_) (.inl (.inr ⟨{ cls := .type "list", data := .seq vs.toArray }, if_pos rfl⟩)) (fun b u z => ?_) (fun b z => ?_) fun _ => hk
    · by_cases hb : b = a
      · exact .inr ⟨_, _, if_pos hb⟩
      · exact .inl (if_neg hb)
    · by_cases hb : b = a
      · have z' := (if_pos hb).symm.trans z
        cases z'
        subst hb
        exact ⟨ha, by rw [List.length_map]; exact hl, vs, _, rv, ha⟩
      · have z' := (if_neg hb).symm.trans z
        cases z'
    · by_cases hb : b = a
      · exact hb
      · exact absurd (if_neg hb) z
end L2

namespace L2
open PySem PySem.Spec PyProof.Rows

/-- the goal that k_head leaves (case hc), from the law's promise. F gives the function object fd (K's own) once, then the promise over every base -/
theorem walk_of {l : PySem.W.OpenLaw} {n k : Nat} {q : Program} {loose : List Str} {XP : (Str → Option Value) → Heap → Prop} {YP : World → Heap → Prop} {d : DefRec} {K : Params → PySem.W.Frag} {CX : World → CXT} {sp : World → Sp} {x : Str}
    (hn : l.most = some n) (hn2 : n ≤ sizeLine) (hdf : d.params.defaults = []) (hr : Room k callerA)
    (hY : ∀ (w : World) (h : Heap), YP w h → (K w.params).In h)
    (F : ∀ (w : World) (mg : Str → Option Value) (fa : Addr) (h : Heap), (K w.params).In h → h.Ns mainGlobals mg → mg d.name = some (.ref fa) →
      ∃ fd : FuncData, (∀ (s : Shared) (u : Value), BindsTo s fd ⟨[u], []⟩ [(x, u)]) ∧
        ∀ base : Heap, (K w.params).In base → base.Ns mainGlobals mg → FnOk l.prog w (K w.params) mg base (CX w) k fa fd [x] (sp w))
    (hsp : ∀ (w : World) (H : Hp) (a : Addr) (ns : List Int), ns.length ≤ n → Only H → SqL (K w.params) H a (ns.map V.int) → sp w [.ref a] H (fun v _ => v = .bl true) fun _ _ _ => False)
    (hCX : ∀ (w : World) (H : Hp) (s : Shared) (e : Value) (s' : Shared), CX w [] H s (fun _ _ _ => False) e s' → False) :
    PySem.W.WalkO q loose XP YP l.row.toRowW d [] (fun f vs => PySem.call f vs) := by
  refine Att.attach_call hn hdf fun w s₀ s₁ mg mb fa o pm cd doc a vs ns G Y ho hd hcd hmg hobj hints hlen hg => ?_
  have KX := hY w _ Y
  obtain ⟨fd, hb, hF⟩ := F w mg fa _ KX G.T.g hmg
  exact law_call KX G.T.g G.T.b G.T.builtins G.T.nolimit hg hobj hints (Nat.le_trans hlen hn2) hr hF hb (fun H hO hS => hsp w H a ns hlen hO hS) fun H e s' => hCX w H s₁ e s'
end L2

/- THE LAST THEOREM (shape; LID, My.* are yours):
   My.Adr: a structure of the addresses that your layer names (classes, functions); My.Txt K t: a structure (Prop) of the equations over K;
   My.txt_mk : {K} {implicit addresses ..} (e1 : nsIn K mainGlobals "law" = some (some (.ref f))) (e2 : K.lookup f = some ⟨oc, od, .func (fnOf "law" "law" params body scope dV kV doc pm an cdv ct), sl⟩) (e3 : codeIn K cdv "law" = true) .. : ∃ t, My.Txt K t

set_option maxRecDepth 100000 in
set_option maxHeartbeats 0 in
theorem PySem.Challenge.cw_LID_holds : PySem.Challenge.rw_LID.Holds := by
  w_on; o_law; k_head; (case hw => w_witness2)
  k_fill
  refine L2.walk_of (l := PySem.Challenge.rw_LID) (n := 63) (k := 40) (x := "script") (CX := fun w => ..) (sp := fun _ => My.sp_law) rfl (by decide) rfl ⟨rfl, by decide, by decide⟩ (fun w h Y => PySem.W.kIn_of Y) ?F ?S ?C
  case F =>
    intro w mg fa h KX G hmg
    have T : ∃ t, My.Txt (L2.KOf KX) t := by
      dsimp only [L2.KOf]                          -- K must stand as «<heap const> w.params» for k_is
      refine' My.txt_mk ?e1 ?e2 ?e3 ..
      (case e1 => PySem.W.k_is)                    -- in the order: a name -> its address -> its object -> its parts
      (case e2 => PySem.W.k_is)
      ..
    obtain ⟨t, T⟩ := T
    have e0 := hmg.symm.trans (PySem.W.mg_of KX G T.law)
    cases e0                                       -- fa is the law's own address
    exact ⟨_, fun s u => .of_eq rfl, fun base kb nb => My.law_fn T kb nb⟩     -- if «.of_eq rfl» comes too early: refine' ⟨_, ?b, fun base kb nb => My.law_fn T kb nb⟩; exact fun s u => .of_eq rfl
  case S => exact fun w H a ns hl hO hS => ..
  case C => exact ..
(the tactic k_is has no namespace: write k_is) -/

/-! SHORT WORDS over the layer: a def of the text, its body, what a loop and a test want. -/
namespace L2
open PySem PySem.Spec PyProof.Rows

/-! ### the text by places -/
/-- the j-th statement of a class's body -/
noncomputable def inClass (s : Stmt) (j : Nat) : Stmt := match s with
  | .ClassDef _ _ _ body _ _ _ _ _ _ _ => body.getD j (.Pass ⟨0, 0, 0, 0⟩)
  | _ => .Pass ⟨0, 0, 0, 0⟩
noncomputable def defArgs (s : Stmt) : Arguments := match s with
  | .FunctionDef _ a _ _ _ _ _ _ _ _ => a
  | _ => { posonlyargs := [], args := [], vararg := none, kwonlyargs := [], kw_defaults := [], kwarg := none, defaults := [] }
noncomputable def defBody (s : Stmt) : List Stmt := match s with
  | .FunctionDef _ _ b _ _ _ _ _ _ _ => b
  | _ => []
noncomputable def defScope (s : Stmt) : Scope := match s with
  | .FunctionDef _ _ _ _ _ _ sc _ _ _ => sc
  | _ => { kind := .function, names := [], isGenerator := false, isCoroutine := false }

/-! ### no exception leaves a def -/
noncomputable abbrev CX0 : CXT := fun _ _ _ _ _ _ => False
noncomputable abbrev E0 : XK := fun _ _ _ => False
theorem pass0 {X : Cx} : Passes CX0 X E0 := fun _ _ _ _ _ _ _ h => h.elim

/-! ### a def (or method) of the text as it stands behind the top -/
structure Fun (K : PySem.W.Frag) (x qual : Str) (st : Stmt) (f : Addr) (fd : FuncData) : Prop where
  ex : ∃ (oc : Value) (od : Option Addr) (kV doc pm : Value) (an : Option Addr) (cdv ct : Value) (osl : Array (Option Value)),
    fd = PySem.W.fnOf x qual (defArgs st) (defBody st) (defScope st) .none kV doc pm an cdv ct ∧ K.lookup f = some ⟨oc, od, .func fd, osl⟩ ∧ PySem.W.codeIn K cdv qual = true
  kp : PySem.W.keepIn K (.ref f) = true
section
variable {P : Program} {w : World} {K : PySem.W.Frag} {mg : Str → Option Value} {base : Heap}
/-- THE RULE for a def: its body as a term of rules, and the reading of that term -/
theorem Fun.ok {x qual : Str} {st : Stmt} {f : Addr} {fd : FuncData} {N ps : List Str} {k : Nat} {sp : Sp} (F : Fun K x qual st f fd) (S : FnScope N ps (defScope st)) (len : ∀ vs H Q E, sp vs H Q E → vs.length = ps.length)
    (hbody : ∀ (cdv : Value) (A : Around) (outer : List Env) (s : Shared) (H : Hp) (vs : List V) (Q : VK) (E : XK), Room k (A.deeper (envOfC qual (defScope st) s.heap.objs.size f cdv)) → sp vs H Q E →
      ∃ t, PSs (cxOf CX0 P w K mg base N qual (defScope st) f cdv A outer s H E).nox (defBody st) t ∧ t { nx := fun _ H' => Q .non H', rt := Q } (start N vs) H) : FnOk P w K mg base CX0 (k + 1) f fd ps sp := by
  obtain ⟨oc, od, kV, doc, pm, an, cdv, ct, osl, rfl, lk, hcd⟩ := F.ex
  refine fn_of lk hcd S len fun A outer s H vs Q E hr hsp => ?_
  obtain ⟨t, h, q⟩ := hbody cdv A outer s H vs Q E hr hsp
  exact ⟨t, h.nox, q⟩
/-- how its arguments bind (no defaults): h is «fun _ _ _ _ _ _ us hl => match us, hl with | [_, _], _ => rfl», one _ a parameter -/
theorem Fun.binds {x qual : Str} {st : Stmt} {f : Addr} {fd : FuncData} {ps : List Str} (F : Fun K x qual st f fd)
    (h : ∀ (kV doc pm : Value) (an : Option Addr) (cdv ct : Value) (us : List Value), us.length = ps.length → bindArgs (PySem.W.fnOf x qual (defArgs st) (defBody st) (defScope st) .none kV doc pm an cdv ct) ⟨us, []⟩ = pure (ps.zip us)) : Binds K fd ps [] := by
  obtain ⟨oc, od, kV, doc, pm, an, cdv, ct, osl, rfl, lk, hcd⟩ := F.ex
  exact .all (h kV doc pm an cdv ct)
theorem fun_mk {x qual : Str} {st : Stmt} {f : Addr} {oc : Value} {od an : Option Addr} {osl : Array (Option Value)} {kV doc pm cdv ct : Value} (l : K.lookup f = some ⟨oc, od, .func (PySem.W.fnOf x qual (defArgs st) (defBody st) (defScope st) .none kV doc pm an cdv ct), osl⟩)
    (c : PySem.W.codeIn K cdv qual = true) (k : PySem.W.keepIn K (.ref f) = true) : Fun K x qual st f (PySem.W.fnOf x qual (defArgs st) (defBody st) (defScope st) .none kV doc pm an cdv ct) := ⟨⟨oc, od, kV, doc, pm, an, cdv, ct, osl, rfl, l, c⟩, k⟩
end
theorem small1000 {n : Nat} (h : n ≤ 1000) : n < sizeLine := Nat.lt_of_le_of_lt h (by decide)

/-! ### expressions in short: the name that stands in the i-th slot -/
section
variable {X : Cx}
theorem pv (i : Nat) {x : Str} {pos : Pos} (hN : X.N[i]? = some x := by rfl) (hv : Vis X.env.scope x := by first | exact Or.inl rfl | exact Or.inr (Or.inl rfl) | exact Or.inr (Or.inr rfl)) (hd : (x == ("__debug__" : Str)) = false := by decide)
    (hcd : (x == ("__classdict__" : Str)) = false := by decide) : PE X (.Name x pos) (tVar i) := pe_var hN hv hd hcd
end

/-! ### tests -/
theorem iteF {A B : Prop} (h : B) : if false = true then A else B := by
  rw [if_neg Bool.false_ne_true]
  exact h
theorem iteT {A B : Prop} (h : A) : if true = true then A else B := by
  rw [if_pos rfl]
  exact h
theorem ite2 {c A B : Prop} [Decidable c] (h1 : c → A) (h2 : ¬ c → B) : if c then A else B := by
  by_cases h : c
  · rw [if_pos h]
    exact h1 h
  · rw [if_neg h]
    exact h2 h
/-! ### heaps -/
/-- all that was tracked is as it was -/
noncomputable def Same (H H' : Hp) : Prop := ∀ b o, H b = some o → H' b = some o
theorem Same.refl (H : Hp) : Same H H := fun _ _ h => h
theorem Same.trans {H H1 H2 : Hp} (a : Same H H1) (b : Same H1 H2) : Same H H2 := fun c o h => b c o (a c o h)
theorem Same.free {H H' : Hp} (e : Same H H') {l : Addr} (h : H' l = Option.none) : H l = Option.none := by
  cases q : H l with
  | none => rfl
  | some o =>
    rw [e l o q] at h
    cases h
theorem Same.seq {K : PySem.W.Frag} {H H' : Hp} {a : Addr} {xs : List V} (e : Same H H') (h : SqL K H a xs) : SqL K H' a xs := by
  rcases h with (h | ⟨o, h⟩) | h
  · exact .inl (.inl (e _ _ h))
  · exact .inl (.inr ⟨o, e _ _ h⟩)
  · exact .inr h

/-! ### a dict's pairs: keys that differ -/
end L2

set_option Elab.async false
set_option linter.all false
set_option maxRecDepth 100000
/-! EXTENSION 1: list comprehensions, enumerate -/
namespace L2
open PySem PySem.Spec PyProof.Rows

/-! ### the cells that a block captures -/
theorem cellOf_eq {env : Env} {x : Str} {c : Addr} (h : env.cells.lookup x = some c) : cellOf env x = pure c := by
  unfold cellOf
  rw [h]
noncomputable def closOf (env : Env) : List (Str × NameKind) → List (Str × Addr) → List (Str × Addr)
  | [], cs => cs
  | (n, k) :: r, cs => closOf env r (if k == .free then (n, (env.cells.lookup n).getD 0) :: cs else cs)
theorem clos_go {env : Env} : ∀ (ns : List (Str × NameKind)) (cs : List (Str × Addr)), (∀ n, (n, NameKind.free) ∈ ns → ∃ c, env.cells.lookup n = some c) →
    (forIn (m := Sem) ns cs fun x r => match x with
      | (name, kind) => if (kind == NameKind.free) = true then do let c ← cellOf env name; pure (ForInStep.yield ((name, c) :: r)) else pure (ForInStep.yield r)) = pure (closOf env ns cs)
  | [], cs, _ => rfl
  | (n, k) :: r, cs, h => by
    rw [List.forIn_cons]
    by_cases hk : (k == NameKind.free) = true
    · have ek : k = .free := by simpa using hk
      obtain ⟨c, e⟩ := h n (by rw [ek]; exact List.mem_cons_self)
      simp only [hk, if_true, cellOf_eq e]
      have q := clos_go r ((n, c) :: cs) fun m hm => h m (List.mem_cons_of_mem _ hm)
      show (forIn (m := Sem) r ((n, c) :: cs) _) = pure (closOf env r (if (k == .free) = true then (n, (env.cells.lookup n).getD 0) :: cs else cs))
      rw [if_pos hk, e]
      exact q
    · simp only [hk]
      have q := clos_go r cs fun m hm => h m (List.mem_cons_of_mem _ hm)
      show (forIn (m := Sem) r cs _) = pure (closOf env r (if (k == .free) = true then (n, (env.cells.lookup n).getD 0) :: cs else cs))
      rw [if_neg hk]
      exact q
theorem closureFor_ok {scope : Scope} {env : Env} (h : ∀ n, (n, NameKind.free) ∈ scope.names → ∃ c, env.cells.lookup n = some c) : closureFor scope env = pure (closOf env scope.names []) := by
  have e := clos_go scope.names [] h
  unfold closureFor
  show (forIn (m := Sem) scope.names [] (fun x r => match x with
      | (name, kind) => if (kind == NameKind.free) = true then do let c ← cellOf env name; pure (ForInStep.yield ((name, c) :: r)) else pure (ForInStep.yield r)) >>= fun s => pure s) = _
  rw [e]
  rfl
theorem closOf_sub {env : Env} {x : Str} {c : Addr} : ∀ (ns : List (Str × NameKind)) (cs : List (Str × Addr)), (∀ n, (n, NameKind.free) ∈ ns → ∃ c, env.cells.lookup n = some c) → (cs.lookup x = some c → env.cells.lookup x = some c) →
    (closOf env ns cs).lookup x = some c → env.cells.lookup x = some c
  | [], _, _, h0, h => h0 h
  | (n, k) :: r, cs, hf, h0, h => by
    unfold closOf at h
    refine closOf_sub r _ (fun m hm => hf m (List.mem_cons_of_mem _ hm)) (fun q => ?_) h
    by_cases hk : (k == NameKind.free) = true
    · have ek : k = .free := by simpa using hk
      subst ek
      obtain ⟨d, e⟩ := hf n List.mem_cons_self
      rw [if_pos hk, e, List.lookup_cons] at q
      by_cases hx : (x == n) = true
      · have ex : x = n := by simpa using hx
        rw [hx] at q
        subst ex
        rw [e]; exact q
      · simp only [hx] at q
        exact h0 q
    · rw [if_neg hk] at q
      exact h0 q
theorem closOf_has {env : Env} {x : Str} : ∀ (ns : List (Str × NameKind)) (cs : List (Str × Addr)), ((cs.lookup x).isSome = true ∨ (x, NameKind.free) ∈ ns) → ((closOf env ns cs).lookup x).isSome = true
  | [], _, h => h.elim id fun z => absurd z (by simp)
  | (n, k) :: r, cs, h => by
    unfold closOf
    refine closOf_has r _ ?_
    rcases h with h | h
    · refine .inl ?_
      split
      · rw [List.lookup_cons]
        split
        · rfl
        · exact h
      · exact h
    · rcases List.mem_cons.mp h with e | h
      · cases e
        refine .inl ?_
        rw [if_pos (show (NameKind.free == NameKind.free) = true from rfl), List.lookup_cons]
        simp
      · exact .inr h

/-! ### the block -/
/-- the values at a block's entry: none for its own names, the place in the def's frame for a captured one -/
noncomputable def capSt (cap : List (Option Nat)) (σ : St) : St := cap.map fun o => o.bind fun j => (σ[j]?).join
/-- the block's context -/
noncomputable def cxComp (X : Cx) (scope : Scope) (N' : List Str) (fp : List Addr) (pins : List (Addr × Obj)) (s₃ : Shared) (H₃ : Hp) : Cx where
  prog := X.prog
  w := X.w
  K := X.K
  mg := X.mg
  base := X.base
  A := X.A
  N := N'
  s₀ := s₃
  H₀ := H₃
  env := compEnvC scope (closOf X.env scope.names []) s₃.heap.objs.size X.env
  outer := X.stack
  stack := X.stack
  ex := fp
  fn := fun _ => false
  calm := X.calm
  pn := X.pn ++ pins
  xe := fun _ _ => False
/-- what of the text a block must have: N' its names (own and captured), cap where the captured ones stand in the def's frame -/
structure CompOk (X : Cx) (scope : Scope) (N' : List Str) (cap : List (Option Nat)) : Prop where
  kind : scope.kind = .function
  nocell : ∀ y ∈ scope.names, y.2 ≠ .cell
  loc : ∀ y ∈ scope.names, y.2 = .local → scope.names.lookup y.1 = some .local
  fr : ∀ y ∈ scope.names, y.2 = .free → X.env.kindOf y.1 = some .cell
  frl : ∀ y ∈ scope.names, y.2 = .free → scope.names.lookup y.1 = some .free
  nd : N'.Nodup
  len : cap.length = N'.length
  cap : ∀ (i j : Nat) (x : Str), cap[i]? = some (some j) → N'[i]? = some x → X.N[j]? = some x ∧ (x, NameKind.free) ∈ scope.names

section
variable {X : Cx} {scope : Scope} {N' : List Str} {cap : List (Option Nat)} {fp : List Addr} {pins : List (Addr × Obj)} {s : Shared} {σ : St} {H : Hp}
theorem CompOk.clos (S : CompOk X scope N' cap) (ok : X.Ok) : ∀ n, (n, NameKind.free) ∈ scope.names → ∃ c, X.env.cells.lookup n = some c := fun n hn => ok.has n (.inl (S.fr _ hn rfl))
theorem relabel_kind {env : Env} {x : Str} : ∀ {names : List (Str × NameKind)} {k : NameKind},
    (names.map fun (n, k) => if (k == NameKind.free && env.scope.kind == .function && env.kindOf n == some .cell) then (n, NameKind.cell) else (n, k)).lookup x = some k → k = .cell ∨ k = .free → (∀ y ∈ names, y.2 ≠ .cell) → (x, NameKind.free) ∈ names
  | [], _, h, _, _ => by simp at h
  | (n, q) :: r, k, h, hk, hc => by
    have h' : List.lookup x ((if (q == NameKind.free && env.scope.kind == .function && env.kindOf n == some .cell) = true then (n, NameKind.cell) else (n, q)) :: (r.map fun (n, k) => if (k == NameKind.free && env.scope.kind == .function && env.kindOf n == some .cell) then (n, NameKind.cell) else (n, k))) = some k := h
    by_cases hx : (x == n) = true
    · have ex : x = n := by simpa using hx
      subst ex
      by_cases hq : (q == NameKind.free && env.scope.kind == .function && env.kindOf x == some .cell) = true
      · have : q = .free := by
          rw [Bool.and_eq_true, Bool.and_eq_true] at hq
          simpa using hq.1.1
        subst this
        exact List.mem_cons_self
      · rw [if_neg hq, List.lookup_cons, hx] at h'
        have e : q = k := Option.some.inj h'
        subst e
        rcases hk with hk | hk
        · exact absurd hk (hc _ List.mem_cons_self)
        · rw [hk]; exact List.mem_cons_self
    · have hx' : (x == n) = false := by simpa using hx
      refine List.mem_cons_of_mem _ (relabel_kind (env := env) (k := k) ?_ hk fun y hy => hc y (List.mem_cons_of_mem _ hy))
      split at h'
      · rw [List.lookup_cons, hx'] at h'; exact h'
      · rw [List.lookup_cons, hx'] at h'; exact h'
theorem relabel_free {env : Env} {x : Str} (hf : env.scope.kind = .function) (hx : env.kindOf x = some .cell) : ∀ {names : List (Str × NameKind)}, names.lookup x = some .free →
    (names.map fun (n, k) => if (k == NameKind.free && env.scope.kind == .function && env.kindOf n == some .cell) then (n, NameKind.cell) else (n, k)).lookup x = some .cell
  | [], h => by simp at h
  | (n, k) :: r, h => by
    show List.lookup x ((if (k == NameKind.free && env.scope.kind == .function && env.kindOf n == some .cell) = true then (n, NameKind.cell) else (n, k)) :: _) = _
    cases hxn : x == n with
    | true =>
      have e : x = n := by simpa using hxn
      subst e
      simp only [List.lookup_cons, hxn] at h
      have ek : k = .free := Option.some.inj h
      subst ek
      rw [if_pos (by rw [hf, hx]; rfl), List.lookup_cons, hxn]
    | false =>
      simp only [List.lookup_cons, hxn] at h
      have ih := relabel_free hf hx h
      split
      · rw [List.lookup_cons, hxn]; exact ih
      · rw [List.lookup_cons, hxn]; exact ih

theorem CompOk.ok (S : CompOk X scope N' cap) (I : Inv X pins σ H s) (hf : ∀ b ∈ fp, FpOk X pins H b) (hex : ∀ b ∈ fp, ∃ o, s.heap.get? b = some o) : (cxComp X scope N' fp pins s H).Ok where
  mod := I.ok.mod
  kind := S.kind
  glob := I.ok.glob
  blt := I.ok.blt
  above := Nat.le_refl _
  inj := fun x y c h1 h2 => I.ok.inj x y c (closOf_sub _ _ (S.clos I.ok) (fun z => by simp at z) h1) (closOf_sub _ _ (S.clos I.ok) (fun z => by simp at z) h2)
  has := fun x hx => by
    have hm : (x, NameKind.free) ∈ scope.names := by
      rcases hx with hx | hx
      · exact relabel_kind (env := X.env) hx (.inl rfl) S.nocell
      · exact relabel_kind (env := X.env) hx (.inr rfl) S.nocell
    exact Option.isSome_iff_exists.mp (closOf_has scope.names [] (.inr hm))
  cab := fun x c h => by cases h
  hd := I.ok.hd
  frames := I.ok.frames
  stk := .inl rfl
  exf := fun b hb => by
    obtain ⟨o, e⟩ := hex b hb
    refine ⟨Nat.ne_of_lt (Heap.lt_size e), fun x c h => (hf b hb).2.2.2.2.1 x c (closOf_sub _ _ (S.clos I.ok) (fun z => by simp at z) h)⟩
  bs := I.bs
  bsz := Nat.le_trans I.ok.bsz I.sz
  noex := fun b o e hb => by
    rcases (hf b hb).2.2.2.1 with z | z
    · exact I.ok.noex b o e z
    · exact absurd (Nat.lt_of_lt_of_le (Heap.lt_size e) (Nat.le_trans I.ok.bsz z)) (Nat.lt_irrefl _)
  exfs := fun b hb hs => by
    rcases List.mem_cons.mp (I.stkSub b hs) with z | z
    · exact (hf b hb).2.1 z
    · exact (hf b hb).2.2.1 z
  funs := I.stack
  frf := I.stkFree

/-- a captured name, read in the block -/
theorem CompOk.look (S : CompOk X scope N' cap) (I : Inv X pins σ H s) {h₁ : Heap} {m : Str → Option Value} (cellK : ∀ x c v, X.env.cells.lookup x = some c → s.heap.IsCell c v → h₁.IsCell c v) (i : Nat) (x : Str) (v : V) (h1 : N'[i]? = some x) (h2 : (capSt cap σ)[i]? = some (some v)) :
    ∃ u, RelV v u ∧ Look (compEnvC scope (closOf X.env scope.names []) s.heap.objs.size X.env) h₁ m x u := by
  have clsub : ∀ x c, (closOf X.env scope.names []).lookup x = some c → X.env.cells.lookup x = some c := fun x c h => closOf_sub _ _ (S.clos I.ok) (fun z => by simp at z) h
  have h2' : ((cap[i]?).map fun o => o.bind fun j => (σ[j]?).join) = some (some v) := by
    have := h2
    unfold capSt at this
    rw [List.getElem?_map] at this
    exact this
  cases ec : cap[i]? with
  | none => rw [ec] at h2'; cases h2'
  | some o =>
    cases o with
    | none => rw [ec] at h2'; cases h2'
    | some j =>
      rw [ec] at h2'
      obtain ⟨hN, hfree⟩ := S.cap i j x ec h1
      have h2'' : (σ[j]?).join = some v := Option.some.inj h2'
      have hv : σ[j]? = some (some v) := by
        cases ej : σ[j]? with
        | none => rw [ej] at h2''; cases h2''
        | some y =>
          cases y with
          | none => rw [ej] at h2''; cases h2''
          | some z =>
            rw [ej] at h2''
            have e : z = v := Option.some.inj h2''
            rw [e]
      have hkind := S.fr _ hfree rfl
      obtain ⟨m0, hn0, hl0⟩ := I.loc
      obtain ⟨u, r, l⟩ := hl0 j x v hN hv (.inr (.inl hkind))
      refine ⟨u, r, ?_⟩
      rcases l with ⟨hk, _⟩ | ⟨hk, c, hc, hcell⟩
      · have z : X.env.kindOf x = some .cell := hkind
        rw [hk] at z; cases z
      · obtain ⟨c', hc'⟩ := Option.isSome_iff_exists.mp (closOf_has (env := X.env) (x := x) scope.names [] (.inr hfree))
        have ecc : c' = c := by
          have := clsub x c' hc'
          rw [hc] at this
          exact (Option.some.inj this).symm
        subst ecc
        exact .inr ⟨.inl (relabel_free I.ok.kind hkind (S.frl _ hfree rfl)), c', hc', cellK x c' _ hc hcell⟩
/-- the block's entry -/
theorem CompOk.start (S : CompOk X scope N' cap) (I : Inv X pins σ H s) (hf : ∀ b ∈ fp, FpOk X pins H b) (hex : ∀ b ∈ fp, ∃ o, s.heap.get? b = some o) {h₁ : Heap} {tk : Nat} {m : Str → Option Value} (hns : h₁.Ns s.heap.objs.size m)
    (kp : ∀ b o, s.heap.get? b = some o → h₁.get? b = some o) : Inv (cxComp X scope N' fp pins s H) [] (capSt cap σ) H { s with heap := h₁, toks := tk } := by
  have clsub : ∀ x c, (closOf X.env scope.names []).lookup x = some c → X.env.cells.lookup x = some c := fun x c h => closOf_sub _ _ (S.clos I.ok) (fun z => by simp at z) h
  have cellK : ∀ {c : Addr} {v : Option Value}, s.heap.IsCell c v → h₁.IsCell c v := fun {c v} ⟨o, e, d⟩ => ⟨o, kp c o e, d⟩
  refine ⟨S.ok I hf hex, rfl, I.bare, Un.kept kp, ⟨m, hns, fun i x v h1 h2 h3 => S.look I (fun _ _ _ _ z => cellK z) i x v h1 h2⟩, fun x c h => ?_, I.hok.fresh (Nat.le_refl _), fun x c h => I.freeC x c (clsub x c h), fun p hp => ?_, I.hok.kept kp, ?_⟩
  · obtain ⟨v, z⟩ := I.cell x c (clsub x c h)
    exact ⟨v, cellK z⟩
  · have hp0 : p ∈ (X.pn ++ pins) ++ [] := hp
    have hp' : p ∈ X.pn ++ pins := by rw [List.append_nil] at hp0; exact hp0
    obtain ⟨e, n, ne, nf, d⟩ := I.pin p hp'
    refine ⟨kp _ _ e, n, Nat.ne_of_lt (Heap.lt_size e), fun z => ?_, d⟩
    rcases List.mem_cons.mp (I.stkSub p.1 z) with q | q
    · exact ne q
    · exact nf q
  · unfold capSt
    rw [List.length_map]
    exact S.len
/-- .. at a turn's head: the block's own names are forgotten, the captured ones stand -/
theorem CompOk.again (S : CompOk X scope N' cap) (I : Inv X pins σ H s) (hf : ∀ b ∈ fp, FpOk X pins H b) {σ8 : St} {H8 : Hp} {s8 : Shared} (I8 : Inv (cxComp X scope N' fp pins s H) [] σ8 H8 s8) : Inv (cxComp X scope N' fp pins s H) [] (capSt cap σ) H8 s8 := by
  obtain ⟨m, hn, _⟩ := I8.loc
  refine ⟨I8.ok, I8.os, I8.bare, I8.base, ⟨m, hn, fun i x v h1 h2 h3 => S.look I (fun y c u hc hu => ?_) i x v h1 h2⟩, I8.cell, I8.free, I8.freeC, I8.pin, I8.hok, ?_⟩
  · obtain ⟨o, e, d⟩ := hu
    obtain ⟨sl, q⟩ := I8.base.any e (I.freeC y c hc) fun hb => (hf c hb).2.2.2.2.1 y c hc rfl
    exact ⟨_, q, d⟩
  · unfold capSt
    rw [List.length_map]
    exact S.len

/-- behind the block: the def's state again -/
theorem CompOk.back {H2 H' : Hp} {s2 s3 s' : Shared} {σ' : St} {acc : Addr} {h'' : Heap} (S : CompOk X scope N' cap) (I2 : Inv X pins σ H2 s2) (hf : ∀ b ∈ fp, FpOk X pins H2 b) {o : HO}
    (e3 : s3.heap.objs.size = s2.heap.objs.size + 1) (k3 : ∀ b u, s2.heap.get? b = some u → s3.heap.get? b = some u) (ha : acc = s2.heap.objs.size) (o3 : s3.os = s2.os)
    (I' : Inv (cxComp X scope N' fp pins s3 (upd H2 acc o)) [] σ' H' s') (sb : Heap.SameBut s3.heap.objs.size s'.heap h'') : Inv X pins σ H' { s' with heap := h'' } := by
  have u1 : Un (frs X.stack) fp H2 (upd H2 acc o) s2.heap s3.heap := Un.laid k3 (by rw [ha]; exact Nat.le_refl _) (I2.hok.fresh (by rw [ha]; exact Nat.le_refl _))
  have u2 : Un (frs X.stack) fp H2 H' s2.heap s'.heap := u1.trans I'.base
  have old : ∀ b ob, s2.heap.get? b = some ob → b ≠ s3.heap.objs.size := fun b ob e => by
    have := Heap.lt_size e
    rw [e3]
    exact Nat.ne_of_lt (Nat.lt_succ_of_lt this)
  have hC : H' s3.heap.objs.size = none := I'.free
  have u3 : Un (frs X.stack) fp H2 H' s2.heap h'' :=
    ⟨fun b ob e n hb hx => (sb.2 b (old b ob e)).trans (u2.keep b ob e n hb hx), fun b ob e n hb hx => by
      obtain ⟨sl, q⟩ := u2.slot b ob e n hb hx
      exact ⟨sl, (sb.2 b (old b ob e)).trans q⟩, u2.free, fun b ob e hx => by
      obtain ⟨o', q⟩ := u2.there b ob e hx
      exact ⟨o', (sb.2 b (old b ob e)).trans q⟩, u2.tups, u2.frzs, u2.tbls⟩
  have hok : HOk X.prog X.w H' h'' := fun b ob e => (I'.hok b ob e).stay (fun c v hc q => (sb.2 c (by
    rintro rfl
    rcases hc with z | z
    · rw [← z, hC] at e; cases e
    · rw [hC] at z; cases z)).trans q) (fun _ q => q) fun _ _ q => q
  refine I2.call' (s' := { s' with heap := h'' }) (ch := fp) (I'.os.trans o3) u3 hok I'.bare fun b hb => ?_
  obtain ⟨_, f1, _, f3, f4, f5⟩ := hf b hb
  exact ⟨f3, f1, f4, f5⟩

/-! ### the rule -/
/-- the tests of a block: none, or one -/
noncomputable def PTs (X : Cx) (ifs : List Expr) (t : TT) : Prop :=
  ∀ (pins : List (Addr × Obj)) (s : Shared) (σ : St) (H : Hp) (Q : Bool → Hp → Prop), Inv X pins σ H s → t σ H Q →
    wpAny (model X.prog X.w) X.A (forIn ifs true fun c r => if r = true then do let ok ← isTrue c X.env (eval c X.env); pure (ForInStep.yield ok) else pure (ForInStep.yield r)) (TP X pins σ Q) X.xe s
noncomputable def tTrue : TT := fun _ H Q => Q true H
theorem pts_nil : PTs X [] tTrue := fun _ _ _ H _ I h => wpAny_tests_nil ⟨H, I, h⟩
theorem pts_one {c : Expr} {t : TT} (h : PT X c t) : PTs X [c] t := fun pins s σ H Q I hq => wpAny_tests_one (h pins s σ H Q I hq)

/-- [elt for tg in iter if c]: W the invariant by the turn, a measure and the heap (the new list at acc) -/
noncomputable def tComp (wi : TI) (cap : List (Option Nat)) (g : TG) (tc : TT) (te : TE) : TE := fun σ H Q => wi σ H fun J H1 => ∀ acc, H1 acc = none → ∃ W : Nat → Nat → Hp → Prop, (∃ m, W 0 m (upd H1 acc (.lst []))) ∧ ∀ i m H, W i m H →
  (J.stop i H ∧ Q (.ref acc) H) ∨ (J.go i H ∧ ∀ x H', J.yld i H x H' → g x (capSt cap σ) H' fun σ2 H2 => tc σ2 H2 fun b H3 => if b = true then te σ2 H3 fun y H4 => ∃ xs, H4 acc = some (.lst xs) ∧ xs.length < sizeLine ∧
    ∃ m', m' < m ∧ W (i + 1) m' (upd H4 acc (.lst (xs ++ [y]))) else ∃ m', m' < m ∧ W (i + 1) m' H3)

theorem comp_loop {elt target iter : PySem.Expr} {ifs : List PySem.Expr} {scope : Scope} {pos : Pos} {it acc : Value} {env : Env} {prog : Program} {w : World} {A : Around} {s : Shared} {R : Result → Shared → Prop} (I : Nat → Shared → Prop)
    (turn : ∀ n s, I n s → wpAny (model prog w) A (pyNext it) (fun r s₁ => match r with
      | none => R (.ok .next) s₁
      | some v => wpAny (model prog w) A (letOwnedTupleGo target it v) (fun _ s₀ => wpAny (model prog w) A (assign target env v) (fun _ s₂ =>
          wpAny (model prog w) A (forIn ifs true fun c r => if r = true then do let ok ← isTrue c env (eval c env); pure (ForInStep.yield ok) else pure (ForInStep.yield r)) (fun ok s₃ => if ok = true then wpAny (model prog w) A (eval elt env) (fun x s₄ =>
            wpAny (model prog w) A (call (.builtin "list.append") [acc, x]) (fun _ s₅ => ∃ m, m < n ∧ I m s₅) (fun _ _ => False) s₄) (fun _ _ => False) s₃
            else ∃ m, m < n ∧ I m s₃) (fun _ _ => False) s₂)
          (fun _ _ => False) s₀) (fun _ _ => False) s₁) (fun _ _ => False) s)
    (n : Nat) (h : I n s) : codeAny (model prog w) A (.compLoop (.ListComp elt [⟨target, iter, ifs, 0⟩] scope pos) 0 it acc env) R s := by
  refine codeAny_loop rfl I (fun n s hI => ?_) n h
  show wpAny _ A ((compTurn (.ListComp elt [⟨target, iter, ifs, 0⟩] scope pos) 0 it acc env).onRaise (fun x => do noteFrame x env; theTreesLotGoes x)) _ _ s
  refine wpAny_noted ?_
  rw [compTurn_list]
  refine wpAny_bind (wpAny_standAt (wpAny_bind (wpAny_mono (turn n s hI) (fun r s₁ h₁ => ?_) fun _ _ z => z.elim)))
  cases r with
  | none => exact wpAny_pure h₁
  | some v =>
    refine wpAny_bind (wpAny_mono h₁ (fun _ s₀ h₀' => ?_) fun _ _ z => z.elim)
    refine wpAny_bind (wpAny_mono h₀' (fun _ s₂ h₂ => ?_) fun _ _ z => z.elim)
    refine wpAny_bind (wpAny_mono h₂ (fun okb s₃ h₃ => ?_) fun _ _ z => z.elim)
    cases okb with
    | false => exact wpAny_pure ⟨rfl, h₃⟩
    | true => exact wpAny_bind (wpAny_bind (wpAny_mono h₃ (fun x s₄ h₄ => wpAny_bind (wpAny_mono h₄ (fun _ s₅ h₅ => wpAny_pure (wpAny_pure ⟨rfl, h₅⟩)) fun _ _ z => z.elim)) fun _ _ z => z.elim))

/-- the block from its entry on; RR: what is wanted behind it -/
theorem comp_block {elt tg iter : Expr} {ifs : List Expr} {pos : Pos} {g : TG} {tc : TT} {te : TE} {Q : VK} {s2 : Shared} {H2 : Hp} {it : Addr} {tn : Nat → Heap → Prop} {J : It} {E : Value → Shared → Prop} {RR : Value → Addr → Result → Shared → Prop}
    (S : CompOk X scope N' cap) (hc : X.calm = true) (hg : ∀ fp pins s H, PG (cxComp X scope N' fp pins s H) tg g) (hts : ∀ fp pins s H, PTs (cxComp X scope N' fp pins s H) ifs tc) (he : ∀ fp pins s H, PE (cxComp X scope N' fp pins s H) elt te)
    (I2 : Inv X pins σ H2 s2) (T : Turn X.prog X.w X.K tg J fp it tn) (st2 : tn 0 s2.heap) (f2 : ∀ b ∈ fp, FpOk X pins H2 b)
    (h : ∀ acc, H2 acc = none → ∃ W : Nat → Nat → Hp → Prop, (∃ m, W 0 m (upd H2 acc (.lst []))) ∧ ∀ i m H, W i m H →
      (J.stop i H ∧ Q (.ref acc) H) ∨ (J.go i H ∧ ∀ x H', J.yld i H x H' → g x (capSt cap σ) H' fun σ2 H2 => tc σ2 H2 fun b H3 => if b = true then te σ2 H3 fun y H4 => ∃ xs, H4 acc = some (.lst xs) ∧ xs.length < sizeLine ∧
        ∃ m', m' < m ∧ W (i + 1) m' (upd H4 acc (.lst (xs ++ [y]))) else ∃ m', m' < m ∧ W (i + 1) m' H3))
    (hRR : ∀ C s' H', (∃ m, s'.heap.Ns C m) → (∀ h'', Heap.SameBut C s'.heap h'' → Inv X pins σ H' { s' with heap := h'' }) → Q (.ref s2.heap.objs.size) H' → H' C = none → s2.heap.objs.size < C →
      RR (.ref s2.heap.objs.size) C (.ok .next) s') :
    wpAny (model X.prog X.w) X.A (newList []) (fun acc s₃ => wpAny (model X.prog X.w) X.A (newFunctionEnv scope X.env.globals (closOf X.env scope.names []) [] X.env.qual none .none (some X.env)) (fun cenv s₄ =>
      codeAny (model X.prog X.w) X.A (.compStart (.ListComp elt [⟨tg, iter, ifs, 0⟩] scope pos) 0 (.ref it) acc { cenv with scope := relabel scope X.env }) (RR acc cenv.locals) s₄) E s₃) E s2 := by
  refine wpAny_newObj_type (wpAny_newFunctionEnv S.nocell (by intro y hy; simp at hy) (fun h₁ hns₁ hsb₁ => ?_) S.kind)
  dsimp only at hns₁ hsb₁ ⊢
  have hfr : H2 s2.heap.objs.size = none := I2.hok.fresh (Nat.le_refl _)
  generalize hH3 : s2.heap.push { cls := .type "list", dict := none, data := .seq ([] : List Value).toArray } = h3 at hns₁ hsb₁ ⊢
  have e3 : h3.objs.size = s2.heap.objs.size + 1 := by rw [← hH3, Heap.size_push]
  have k3 : ∀ b u, s2.heap.get? b = some u → h3.get? b = some u := fun b u e => by rw [← hH3]; exact Heap.get?_push_of_some _ e
  -- the state with the new list
  have I3 : Inv X pins σ (upd H2 s2.heap.objs.size (.lst [])) { s2 with heap := h3, toks := s2.toks } := by
    refine I2.laid (t' := s2.toks) k3 (Nat.le_refl _) ?_
    exact ⟨Nat.zero_le _, [], 0, .nil, by rw [← hH3]; exact Heap.get?_push_size _ rfl⟩
  have f3 : ∀ b ∈ fp, FpOk X pins (upd H2 s2.heap.objs.size (.lst [])) b := fun b hb => by
    obtain ⟨o, e, _⟩ := T.obj _ _ st2 b hb
    exact ⟨by rw [upd_ne (Nat.ne_of_lt (Heap.lt_size e))]; exact (f2 b hb).1, (f2 b hb).2⟩
  have ex3 : ∀ b ∈ fp, ∃ o, h3.get? b = some o := fun b hb => by
    obtain ⟨o, e, _⟩ := T.obj _ _ st2 b hb
    exact ⟨o, k3 b o e⟩
  have kp : ∀ b o, h3.get? b = some o → h₁.get? b = some o := fun b o e => hsb₁.extBut b o (Nat.ne_of_lt (Heap.lt_size e)) (Heap.get?_push_of_some _ e)
  have I4 := S.start (fp := fp) (tk := s2.toks + ([] : List (Str × Value)).length) I3 f3 ex3 hns₁ kp
  have st4 : tn 0 h₁ := T.keep _ _ _ st2 fun b _ o e => kp b o (k3 b o e)
  obtain ⟨W, ⟨m0, w0⟩, turn⟩ := h s2.heap.objs.size hfr
  let X' := cxComp X scope N' fp pins { s2 with heap := h3, toks := s2.toks } (upd H2 s2.heap.objs.size (.lst []))
  have stat : ∀ {pins' : List (Addr × Obj)} {H' : Hp}, (∀ p ∈ pins', p.1 ∉ fp) → (∀ b ∈ fp, H' b = none) → ∀ b ∈ fp, FpOk X' pins' H' b := fun {pins' H'} hpn hn b hb => by
    obtain ⟨o, e⟩ := ex3 b hb
    refine ⟨hn b hb, Nat.ne_of_lt (Heap.lt_size e), fun z => ?_, .inl hb, fun x c hx => (f3 b hb).2.2.2.2.1 x c (closOf_sub _ _ (S.clos I2.ok) (fun z => by simp at z) hx), fun p hp => ?_⟩
    · rcases List.mem_cons.mp (I2.stkSub b z) with q | q
      · exact (f2 b hb).2.1 q
      · exact (f2 b hb).2.2.1 q
    · rcases List.mem_append.mp hp with q | q
      · exact (f2 b hb).2.2.2.2.2 p q
      · exact fun z => hpn p q (z ▸ hb)
  have loop : codeAny (model X.prog X.w) X.A (.compLoop (.ListComp elt [⟨tg, iter, ifs, 0⟩] scope pos) 0 (.ref it) (.ref s2.heap.objs.size) X'.env) (RR (.ref s2.heap.objs.size) h3.objs.size) { s2 with heap := h₁, toks := s2.toks + ([] : List (Str × Value)).length } := by
    refine comp_loop (fun n s' => ∃ i H', Inv X' [] (capSt cap σ) H' s' ∧ tn i s'.heap ∧ (∀ b ∈ fp, H' b = none) ∧ W i n H') ?_ m0 ⟨0, _, I4, st4, fun b hb => (f3 b hb).1, w0⟩
    rintro n s5 ⟨i, H5, I5, st5, fr5, w5⟩
    rcases turn i n H5 w5 with ⟨stop, qn⟩ | ⟨go, step⟩
    · refine wpAny_mono (T.done X' rfl rfl rfl hc i [] s5 (capSt cap σ) H5 (fun _ _ => False) I5 (stat (fun _ z => absurd z (by simp)) fr5) st5 stop) (fun r s6 ⟨hr, I6⟩ => ?_) fun _ _ z => z
      subst hr
      refine hRR _ s6 H5 ?_ (fun h'' sb => S.back I2 f2 (s3 := { s2 with heap := h3, toks := s2.toks }) e3 k3 rfl rfl I6 sb) qn I6.free (by rw [e3]; exact Nat.lt_succ_self _)
      obtain ⟨m, hn, _⟩ := I6.loc
      exact ⟨m, hn⟩
    · refine wpAny_mono (T.item X' rfl rfl rfl hc i [] s5 (capSt cap σ) H5 (fun _ _ => False) I5 (stat (fun _ z => absurd z (by simp)) fr5) st5 go) (fun r s6 ⟨u, hr, h6⟩ => ?_) fun _ _ z => z
      subst hr
      refine wpAny_mono h6 (fun _ s7 ⟨x, H7, I7, r7, y7, st7, fr7⟩ => ?_) fun _ _ z => z
      have I7' := I7.pinned (stat (fun _ z => absurd z (by simp)) fr7) (T.obj _ _ st7)
      have again : ∀ {σ8 : St} {H8 : Hp} {s8 : Shared}, Inv X' ([] ++ pinsAt fp s7.heap) σ8 H8 s8 → (∃ m', m' < n ∧ W (i + 1) m' H8) → ∃ m, m < n ∧ ∃ i H', Inv X' [] (capSt cap σ) H' s8 ∧ tn i s8.heap ∧ (∀ b ∈ fp, H' b = none) ∧ W i m H' := fun {σ8 H8 s8} I8 n8 => by
        obtain ⟨m', hm, w8⟩ := n8
        have pn : ∀ b ∈ fp, ∃ o, s7.heap.get? b = some o ∧ s8.heap.get? b = some o ∧ H8 b = none := fun b hb => by
          obtain ⟨o, e, d⟩ := T.obj _ _ st7 b hb
          have q := I8.pin (b, o) (List.mem_append_right _ (List.mem_append_right _ (mem_pinsAt hb e)))
          exact ⟨o, e, q.1, q.2.1⟩
        refine ⟨m', hm, i + 1, H8, S.again I3 f3 I8.unpinned, T.keep _ _ _ st7 fun b hb o e => ?_, fun b hb => ?_, w8⟩
        · obtain ⟨o', e', q, _⟩ := pn b hb
          rw [e] at e'; cases e'
          exact q
        · obtain ⟨_, _, _, q⟩ := pn b hb
          exact q
      refine wpAny_mono (hg fp pins _ _ _ s7 (capSt cap σ) H7 x u _ I7' r7 (step x H7 y7)) (fun _ s8 ⟨σ8, H8, I8, q8⟩ => ?_) fun _ _ z => z
      refine wpAny_mono (hts fp pins _ _ _ s8 σ8 H8 _ I8 q8) (fun b s9 ⟨H9, I9, q9⟩ => ?_) fun _ _ z => z
      cases b with
      | false => exact again I9 q9
      | true =>
        refine wpAny_mono (he fp pins _ _ _ s9 σ8 H9 _ I9 q9) (fun u s10 ⟨y, H10, I10, r10, xs, hx, hl, q10⟩ => ?_) fun _ _ z => z
        refine wpAny_mono (mt_append (X := X') _ s10 σ8 H10 (.ref s2.heap.objs.size) [y] (.ref s2.heap.objs.size) [u] (fun _ H' => ∃ m', m' < n ∧ W (i + 1) m' H') I10 rfl (.cons r10 .nil) ⟨_, xs, y, rfl, rfl, hx, hl, q10⟩) (fun _ s11 ⟨_, H11, I11, _, q11⟩ => again I11 q11) fun _ _ z => z
  exact codeAny_compStart_list loop (T.self _ 0 _ _ _ st4 loop)

/-- [..] as a value -/
theorem pe_comp {elt tg iter : Expr} {ifs : List Expr} {pos : Pos} {wi : TI} {g : TG} {tc : TT} {te : TE} (S : CompOk X scope N' cap) (hc : X.calm = true) (hi : PI X tg iter wi) (hg : ∀ fp pins s H, PG (cxComp X scope N' fp pins s H) tg g)
    (hts : ∀ fp pins s H, PTs (cxComp X scope N' fp pins s H) ifs tc) (he : ∀ fp pins s H, PE (cxComp X scope N' fp pins s H) elt te) (hs : ∀ x, foldedSetIterable iter X.env x = pure x := by intro _; rfl) :
    PE X (.ListComp elt [⟨tg, iter, ifs, 0⟩] scope pos) (tComp wi cap g tc te) := by
  intro pins s σ H Q I h
  rw [eval_ListComp]
  refine wpAny_comprehension_free (use := none) rfl hs (closureFor_ok (S.clos I.ok)) S.kind S.loc (thn (hi pins s σ H _ I h) fun v s1 h1 => thn h1 fun itv s2 h2 => ?_)
  obtain ⟨it, fp, tn, J, H2, e, I2, T, st2, f2, hW⟩ := h2
  subst e
  refine comp_block (RR := fun acc C => compPost (model X.prog X.w) X.A X.xe none (EP X pins σ Q) acc C) S hc hg hts he I2 T st2 f2 hW ?_
  intro C s' H' ⟨m, hn⟩ hI hq _ _
  exact ⟨m, hn, fun h'' sb => ⟨.ref s2.heap.objs.size, H', hI h'' sb, rfl, hq⟩⟩

end

/-! ### enumerate of a list -/
end L2

set_option Elab.async false
set_option linter.all false
set_option maxRecDepth 100000
/-! EXTENSION 2: data in the heap; ==, != of data; isinstance, min, set, len of a set -/
namespace L2
open PySem PySem.Spec PyProof.Rows

theorem Same.seqT {K : PySem.W.Frag} {H H' : Hp} {a : Addr} {xs : List V} (e : Same H H') (h : SqT K H a xs) : SqT K H' a xs := by
  rcases h with (h | ⟨o, h⟩) | h
  · exact .inl (.inl (e _ _ h))
  · exact .inl (.inr ⟨o, e _ _ h⟩)
  · exact .inr h
theorem Same.new {H : Hp} {p : Addr} {o : HO} (h : H p = none) : Same H (upd H p o) := fun b u e => by rw [upd_ne (ne_of_none e h)]; exact e
theorem Same.out {H0 H : Hp} {p : Addr} {o : HO} (s : Same H0 H) (h : H0 p = none) : Same H0 (upd H p o) := fun b u e => by rw [upd_ne (ne_of_none e h)]; exact s b u e

/-! ### data -/
mutual
noncomputable def Rep (K : PySem.W.Frag) (H : Hp) : PyData → V → Prop
  | .none, v => v = .non
  | .bool b, v => v = .bl b
  | .int i, v => v = .int i
  | .str x, v => v = .str x
  | .list ds, v => ∃ a vs, v = .ref a ∧ SqL K H a vs ∧ RepAll K H ds vs
  | .tuple ds, v => ∃ a vs, v = .ref a ∧ SqT K H a vs ∧ RepAll K H ds vs
  | .dict _, _ => False
noncomputable def RepAll (K : PySem.W.Frag) (H : Hp) : List PyData → List V → Prop
  | [], vs => vs = []
  | d :: ds, vs => ∃ v r, vs = v :: r ∧ Rep K H d v ∧ RepAll K H ds r
end
section
variable {K : PySem.W.Frag} {H H' : Hp}
mutual
theorem Rep.mono (s : Same H H') : ∀ {d : PyData} {v : V}, Rep K H d v → Rep K H' d v
  | .none, _, h => h
  | .bool _, _, h => h
  | .int _, _, h => h
  | .str _, _, h => h
  | .list ds, _, ⟨a, vs, e, q, r⟩ => ⟨a, vs, e, s.seq q, RepAll.mono s r⟩
  | .tuple ds, _, ⟨a, vs, e, q, r⟩ => ⟨a, vs, e, s.seqT q, RepAll.mono s r⟩
  | .dict _, _, h => h
theorem RepAll.mono (s : Same H H') : ∀ {ds : List PyData} {vs : List V}, RepAll K H ds vs → RepAll K H' ds vs
  | [], _, h => h
  | _ :: _, _, ⟨v, r, e, q, t⟩ => ⟨v, r, e, q.mono s, RepAll.mono s t⟩
end
theorem RepAll.length : ∀ {ds : List PyData} {vs : List V}, RepAll K H ds vs → vs.length = ds.length
  | [], _, h => by rw [h]; rfl
  | _ :: _, _, ⟨v, r, e, _, t⟩ => by rw [e, List.length_cons, List.length_cons, RepAll.length t]
theorem RepAll.get : ∀ {ds : List PyData} {vs : List V} {i : Nat} {d : PyData}, RepAll K H ds vs → ds[i]? = some d → ∃ v, vs[i]? = some v ∧ Rep K H d v
  | [], _, _, _, _, e => by simp at e
  | x :: ds, _, 0, d, ⟨v, r, e, q, t⟩, h => by
    subst e
    have z : x = d := by simpa using h
    subst z
    exact ⟨v, rfl, q⟩
  | _ :: ds, _, i + 1, d, ⟨v, r, e, q, t⟩, h => by
    subst e
    obtain ⟨y, h1, h2⟩ := RepAll.get (i := i) (d := d) t (by simpa using h)
    exact ⟨y, by simpa using h1, h2⟩
theorem RepAll.snoc : ∀ {ds : List PyData} {vs : List V} {d : PyData} {v : V}, RepAll K H ds vs → Rep K H d v → RepAll K H (ds ++ [d]) (vs ++ [v])
  | [], _, _, v, h, q => by rw [h]; exact ⟨v, [], rfl, q, rfl⟩
  | _ :: _, _, _, _, ⟨y, r, e, q, t⟩, p => by subst e; exact ⟨y, _, rfl, q, RepAll.snoc t p⟩
theorem repAll_ints : ∀ ns : List Int, RepAll K H (ns.map PyData.int) (ns.map V.int)
  | [] => rfl
  | n :: ns => ⟨.int n, _, rfl, rfl, repAll_ints ns⟩
theorem repAll_ints_eq : ∀ {ns : List Int} {vs : List V}, RepAll K H (ns.map PyData.int) vs → vs = ns.map V.int
  | [], _, h => h
  | n :: ns, _, ⟨v, r, e, q, t⟩ => by
    have q' : v = .int n := q
    rw [e, q', repAll_ints_eq t]; rfl
theorem Rep.intsT {ns : List Int} {a : Addr} (h : SqT K H a (ns.map V.int)) : Rep K H (.tuple (ns.map .int)) (.ref a) := ⟨a, _, rfl, h, repAll_ints ns⟩
theorem Rep.of_intsT {ns : List Int} {v : V} (h : Rep K H (.tuple (ns.map .int)) v) : ∃ a, v = .ref a ∧ SqT K H a (ns.map V.int) := by
  obtain ⟨a, vs, e, q, r⟩ := h
  rw [repAll_ints_eq r] at q
  exact ⟨a, e, q⟩
end

/-! ### read by the machine's own relation -/
section
variable {X : Cx} {pins : List (Addr × Obj)} {σ : St} {H : Hp} {s : Shared}
mutual
theorem Rep.reads (I : Inv X pins σ H s) : ∀ {d : PyData} {v : V} {u : Value}, Rep X.K H d v → RelV v u → ∃ as, Reads s.heap u d as
  | .none, _, _, h, r => by cases h; cases r; exact ⟨_, .none⟩
  | .bool b, _, _, h, r => by cases h; cases r; exact ⟨_, .bool b⟩
  | .int i, _, _, h, r => by cases h; obtain ⟨t, rfl⟩ := r; exact ⟨_, .int i t⟩
  | .str x, _, _, h, r => by cases h; obtain ⟨t, rfl⟩ := r; exact ⟨_, .str x t⟩
  | .list ds, _, _, ⟨a, vs, e, q, t⟩, r => by
    subst e
    cases r
    obtain ⟨its, rv, ⟨o, n, e1, e2, e3, e4⟩, _⟩ := I.list q
    obtain ⟨as, ra⟩ := RepAll.reads I t rv
    exact ⟨_, .list e1 e2 e4 (by simpa using ra)⟩
  | .tuple ds, _, _, ⟨a, vs, e, q, t⟩, r => by
    subst e
    cases r
    obtain ⟨its, rv, ⟨o, e1, e2, n, e4⟩, _⟩ := I.tuple q
    obtain ⟨as, ra⟩ := RepAll.reads I t rv
    exact ⟨_, .tuple e1 e2 e4 (by simpa using ra)⟩
  | .dict _, _, _, h, _ => h.elim
theorem RepAll.reads (I : Inv X pins σ H s) : ∀ {ds : List PyData} {vs : List V} {us : List Value}, RepAll X.K H ds vs → Vals vs us → ∃ as, ReadsAll s.heap us ds as
  | [], _, _, h, r => by cases h; cases r; exact ⟨_, .nil⟩
  | _ :: _, _, _, ⟨v, w', e, q, t⟩, r => by
    subst e
    cases r with
    | cons r1 r2 =>
      obtain ⟨as, h1⟩ := q.reads I r1
      obtain ⟨bs, h2⟩ := RepAll.reads I t r2
      exact ⟨_, .cons h1 h2⟩
end
end

/-! ### ==, != of data -/
section
variable {X : Cx}
noncomputable def rEqD (K : PySem.W.Frag) (u : Nat) : R2 := fun x y H Q => ∃ da db, Rep K H da x ∧ Rep K H db y ∧ da.canLay0 = true ∧ db.canLay0 = true ∧ u + min da.depth db.depth < cLine ∧ Q (.bl (PyData.eqv da db)) H
noncomputable def rNeD (K : PySem.W.Frag) (u : Nat) : R2 := fun x y H Q => ∃ da db, Rep K H da x ∧ Rep K H db y ∧ da.canLay0 = true ∧ db.canLay0 = true ∧ u + min da.depth db.depth < cLine ∧ Q (.bl (!PyData.eqv da db)) H
theorem op_eqD : OpR X (compareOp .Eq) (rEqD X.K X.A.units) := by
  intro pins s σ H x y v u Q I rx ry ⟨da, db, ha, hb, ca, cb, hu, q⟩
  obtain ⟨as, ra⟩ := ha.reads I rx
  obtain ⟨bs, rb⟩ := hb.reads I ry
  exact SeqAt.compareEq_reads ra rb ca cb hu ⟨.bl _, H, I, rfl, q⟩
theorem op_neD : OpR X (compareOp .NotEq) (rNeD X.K X.A.units) := by
  intro pins s σ H x y v u Q I rx ry ⟨da, db, ha, hb, ca, cb, hu, q⟩
  obtain ⟨as, ra⟩ := ha.reads I rx
  obtain ⟨bs, rb⟩ := hb.reads I ry
  exact SeqAt.compareNe_reads ra rb ca cb hu ⟨.bl _, H, I, rfl, q⟩

/-! ### isinstance with one built-in class -/
theorem call_isi : CallR X (.builtin "isinstance") (fun xs H Q => ∃ x n t b, xs = [x, .ty n] ∧ TyOf X.K H x t ∧ PySem.W.kitOne X.K t (.type n) = some b ∧ Q (.bl b) H) := by
  intro pins s σ H xs us Q I r ⟨x, n, t, b, e, ty, k, q⟩
  subst e
  obtain ⟨u, w', e, ru, rw'⟩ := Vals.two r
  subst e
  cases rw'
  exact isinst_ok I ru ty k fun tk => ⟨.bl _, H, I.tok tk, rfl, q⟩
/-! ### set(list of ints), len of it -/
theorem call_setL (hc : X.calm = true) : CallR X (.type "set") (fun xs H Q => ∃ (a : Addr) (ns : List Int), xs = [.ref a] ∧ SqL X.K H a (ns.map V.int) ∧ ns.length + 1 < scanBound ∧
    ∀ p, H p = none → Q (.ref p) (upd H p (.set (fun k' => (firstMet (fun i => ns.getD i 0) ns.length).any (· == k')) (firstMet (fun i => ns.getD i 0) ns.length).length))) := by
  intro pins s σ H xs us Q I r ⟨a, ns, e, hq, hb, q⟩
  subst e
  obtain ⟨u, e, ru⟩ := Vals.one r
  subst e
  cases ru
  obtain ⟨its, rv, p, hz⟩ := I.list hq
  have hl := rv.length
  rw [List.length_map] at hl
  have esz : its.toArray.size = ns.length := by simp [hl]
  refine call_set_list (I.ok.hd hc) p.isList (ns := ns) (by simpa using intsAre_of rv) (by rw [esz]; exact hb) fun h' tk so kp => ?_
  rw [esz] at so
  exact ⟨.ref s.heap.objs.size, _, I.laid (o := .set (fun k' => (firstMet (fun i => ns.getD i 0) ns.length).any (· == k')) (firstMet (fun i => ns.getD i 0) ns.length).length) (fun b o e => kp b o (Heap.lt_size e) e) (Nat.le_refl _) so, rfl, q _ (I.hok.fresh (Nat.le_refl _))⟩
theorem call_lenS : CallR X (.builtin "len") (fun xs H Q => ∃ (a : Addr) (S : Int → Bool) (n : Nat), xs = [.ref a] ∧ H a = some (.set S n) ∧ Q (.int n) H) := by
  intro pins s σ H xs us Q I r ⟨a, S, n, e, hq, q⟩
  subst e
  obtain ⟨u, e, ru⟩ := Vals.one r
  subst e
  cases ru
  obtain ⟨o, es, ep, t, e1, e2, e3, e4, e5, e6, e7, e8⟩ := (show s.heap.SetOf (intKind X.prog X.w) a S n from I.hok a _ hq)
  subst e8
  refine call_len_set e1 e2 e3 e7 ?_ ⟨.int _, H, I.tok _, ⟨_, rfl⟩, q⟩
  have : es.size < 2 ^ 62 := Nat.lt_of_lt_of_le e6 (by decide)
  omega

/-! ### min, max of a list of ints -/
theorem call_minL (hc : X.calm = true) : CallR X (.builtin "min") (fun xs H Q => ∃ (a : Addr) (ns : List Int), xs = [.ref a] ∧ SqL X.K H a (ns.map V.int) ∧ 0 < ns.length ∧ ∀ m, m ∈ ns → (∀ n ∈ ns, m ≤ n) → Q (.int m) H) := by
  intro pins s σ H xs us Q I r ⟨a, ns, e, hq, hne, q⟩
  subst e
  obtain ⟨u, e, ru⟩ := Vals.one r
  subst e
  cases ru
  obtain ⟨its, rv, p, hz⟩ := I.list hq
  have hi : IntsAre its ns := intsAre_of rv
  have hl := p.isList
  obtain ⟨xs, e⟩ := hi.allInts.items
  have hns : ns = xs.toList.map (·.1) := by
    rw [← hi.numsOf, ← nums_intItems, ← e]
  have hsz : 0 < xs.size := by
    have h3 := hne; rw [hns, List.length_map, Array.length_toList] at h3; exact h3
  rw [e] at hl
  refine min_intList (I.ok.hd hc) hl hsz fun v h' tk hv hk => ?_
  obtain ⟨t, rfl⟩ := intItems_at hv
  obtain ⟨h1, h2⟩ := argBest_lt (numAt xs) (xs.size - 1)
  refine ⟨.int _, H, I.kept hk, ⟨t, rfl⟩, q _ ?_ fun a ha => ?_⟩
  · rw [hns, numAt_eq]; exact getD_mem (by rw [List.length_map, Array.length_toList]; omega)
  · rw [hns] at ha
    obtain ⟨j, hj, rfl⟩ := mem_getD ha
    rw [List.length_map, Array.length_toList] at hj
    rw [← numAt_eq]; exact h2 j (by omega)
end
end L2

set_option Elab.async false
set_option linter.all false
set_option maxRecDepth 100000
/-! EXTENSION 3: blocks by a check; a block by an invariant; hidden lists -/
namespace L2
open PySem PySem.Spec PyProof.Rows

/-! ### a block's text, by a check -/
noncomputable def compChk (scope dsc : Scope) (N0 N2 : List Str) (cap : List (Option Nat)) : Bool :=
  (scope.kind == .function) && (scope.names.all fun y => y.2 != .cell) && (scope.names.all fun y => y.2 != .local || scope.names.lookup y.1 == some .local) &&
  (scope.names.all fun y => y.2 != .free || dsc.names.lookup y.1 == some .cell) && (scope.names.all fun y => y.2 != .free || scope.names.lookup y.1 == some .free) && decide N2.Nodup && (cap.length == N2.length) &&
  ((List.range cap.length).all fun i => match cap[i]?, N2[i]? with
    | some (some j), some x => N0[j]? == some x && scope.names.any (fun y => y.1 == x && y.2 == .free)
    | _, _ => true)
theorem compOk_of {X : Cx} {scope dsc : Scope} {N0 N2 : List Str} {cap : List (Option Nat)} (hd : X.env.scope = dsc) (hN : X.N = N0) (h : compChk scope dsc N0 N2 cap = true) : CompOk X scope N2 cap := by
  unfold compChk at h
  simp only [Bool.and_eq_true] at h
  obtain ⟨⟨⟨⟨⟨⟨⟨h1, h2⟩, h3⟩, h4⟩, h5⟩, h6⟩, h7⟩, h8⟩ := h
  rw [List.all_eq_true] at h2 h3 h4 h5 h8
  refine ⟨by simpa using h1, fun y hy e => ?_, fun y hy e => ?_, fun y hy e => ?_, fun y hy e => ?_, of_decide_eq_true h6, by simpa using h7, fun i j x e1 e2 => ?_⟩
  · have := h2 y hy; rw [e] at this; exact absurd this (by decide)
  · have := h3 y hy; rw [e] at this; simpa using this
  · have := h4 y hy
    rw [e] at this
    show X.env.scope.names.lookup y.1 = some .cell
    rw [hd]
    simpa using this
  · have := h5 y hy; rw [e] at this; simpa using this
  · have hi : i < cap.length := (List.getElem?_eq_some_iff.mp e1).1
    have q := h8 i (List.mem_range.mpr hi)
    rw [e1, e2] at q
    simp only [Bool.and_eq_true] at q
    refine ⟨by rw [hN]; simpa using q.1, ?_⟩
    obtain ⟨y, hy, z⟩ := List.any_eq_true.mp q.2
    simp only [Bool.and_eq_true] at z
    have e3 : y.1 = x := by simpa using z.1
    have e4 : y.2 = .free := by simpa using z.2
    rw [← e3, ← e4]
    exact hy

/-! ### a block by an invariant: P turn, items, heap; the heap keeps what it had ahead (H1), the new list is at acc -/
noncomputable def CW (H1 : Hp) (acc : Addr) (n : Nat) (P : Nat → List V → Hp → Prop) : Nat → Nat → Hp → Prop :=
  fun i m H => m = n - i ∧ i ≤ n ∧ Same H1 H ∧ ∃ ys, H acc = some (.lst ys) ∧ P i ys H
theorem comp_by {J : It} {n : Nat} {cap : List (Option Nat)} {g : TG} {tc : TT} {te : TE} {σ : St} {Qr : Hp → Prop} {H1 : Hp} {acc : Addr} (P : Nat → List V → Hp → Prop) (hacc : H1 acc = none)
    (go : ∀ i H, i < n → Same H1 H → J.go i H) (stop : ∀ H, Same H1 H → J.stop n H) (h0 : P 0 [] (upd H1 acc (.lst [])))
    (step : ∀ i ys H, i < n → Same H1 H → H acc = some (.lst ys) → P i ys H → ∀ x H', J.yld i H x H' → g x (capSt cap σ) H' fun σ2 H2 => tc σ2 H2 fun b H3 => if b = true then te σ2 H3 fun y H4 => ∃ xs, H4 acc = some (.lst xs) ∧ xs.length < sizeLine ∧
      ∃ m', m' < n - i ∧ CW H1 acc n P (i + 1) m' (upd H4 acc (.lst (xs ++ [y]))) else ∃ m', m' < n - i ∧ CW H1 acc n P (i + 1) m' H3)
    (fin : ∀ ys H, Same H1 H → H acc = some (.lst ys) → P n ys H → Qr H) :
    ∃ W : Nat → Nat → Hp → Prop, (∃ m, W 0 m (upd H1 acc (.lst []))) ∧ ∀ i m H, W i m H →
      (J.stop i H ∧ Qr H) ∨ (J.go i H ∧ ∀ x H', J.yld i H x H' → g x (capSt cap σ) H' fun σ2 H2 => tc σ2 H2 fun b H3 => if b = true then te σ2 H3 fun y H4 => ∃ xs, H4 acc = some (.lst xs) ∧ xs.length < sizeLine ∧
        ∃ m', m' < m ∧ W (i + 1) m' (upd H4 acc (.lst (xs ++ [y]))) else ∃ m', m' < m ∧ W (i + 1) m' H3) := by
  refine ⟨CW H1 acc n P, ⟨n, rfl, Nat.zero_le _, Same.new hacc, [], upd_same, h0⟩, ?_⟩
  rintro i m H ⟨rfl, hi, s, ys, hy, p⟩
  by_cases hlt : i < n
  · exact .inr ⟨go i H hlt s, step i ys H hlt s hy p⟩
  · have e : i = n := by omega
    subst e
    exact .inl ⟨stop H s, fin ys H s hy p⟩
/-- a turn's end with one item more -/
theorem comp_add {H1 H4 : Hp} {acc : Addr} {n i : Nat} {P : Nat → List V → Hp → Prop} {ys : List V} {y : V} (hacc : H1 acc = none) (hi : i < n) (s : Same H1 H4) (hy : H4 acc = some (.lst ys)) (hl : ys.length < sizeLine) (p : P (i + 1) (ys ++ [y]) (upd H4 acc (.lst (ys ++ [y])))) :
    ∃ xs, H4 acc = some (.lst xs) ∧ xs.length < sizeLine ∧ ∃ m', m' < n - i ∧ CW H1 acc n P (i + 1) m' (upd H4 acc (.lst (xs ++ [y]))) :=
  ⟨ys, hy, hl, n - (i + 1), by omega, rfl, hi, s.out hacc, _, upd_same, p⟩
/-- .. with none -/
theorem comp_skip {H1 H3 : Hp} {acc : Addr} {n i : Nat} {P : Nat → List V → Hp → Prop} {ys : List V} (hi : i < n) (s : Same H1 H3) (hy : H3 acc = some (.lst ys)) (p : P (i + 1) ys H3) : ∃ m', m' < n - i ∧ CW H1 acc n P (i + 1) m' H3 :=
  ⟨n - (i + 1), by omega, rfl, hi, s, _, hy, p⟩
theorem itl_go {K : PySem.W.Frag} {a : Addr} {xs : List V} {H1 : Hp} (h : SqL K H1 a xs) : ∀ i H, i < xs.length → Same H1 H → (Itl K a).go i H := fun i H hi s => ⟨xs, xs[i], s.seq h, by simp [hi]⟩
theorem itl_stop {K : PySem.W.Frag} {a : Addr} {xs : List V} {H1 : Hp} (h : SqL K H1 a xs) : ∀ H, Same H1 H → (Itl K a).stop xs.length H := fun H s => ⟨xs, s.seq h, Nat.le_refl _⟩
theorem itr_go {lo : Int} {n : Nat} {H1 : Hp} : ∀ i H, i < n → Same H1 H → (Itr lo n).go i H := fun i H hi s => hi
theorem itr_stop {lo : Int} {n : Nat} {H1 : Hp} : ∀ H, Same H1 H → (Itr lo n).stop n H := fun H s => Nat.le_refl n

/-! ### all but one list -/
noncomputable def hide (H : Hp) (l : Addr) : Hp := fun b => if b = l then none else H b
theorem hide_upd {H : Hp} {l : Addr} {o : HO} : hide (upd H l o) l = hide H l := by
  funext b
  unfold hide
  by_cases e : b = l
  · rw [if_pos e, if_pos e]
  · rw [if_neg e, if_neg e, upd_ne e]
theorem hide_same {H : Hp} {l : Addr} : Same (hide H l) H := fun b o e => by
  unfold hide at e
  split at e
  · cases e
  · exact e
theorem hide_at {H : Hp} {l b : Addr} {o : HO} (h : H b = some o) (n : b ≠ l) : hide H l b = some o := by
  unfold hide; rw [if_neg n]; exact h
theorem Same.hide {H H' : Hp} {l : Addr} (s : Same H H') : Same (L2.hide H l) (L2.hide H' l) := fun b o e => by
  have n : b ≠ l := fun z => by unfold L2.hide at e; rw [if_pos z] at e; cases e
  exact hide_at (s b o (hide_same b o e)) n

/-! ### items of data by their place -/
theorem atI_ge {α : Type} {xs : List α} {i : Int} {v : α} (h0 : 0 ≤ i) (h : xs[i.toNat]? = some v) : atI xs i = some v := by
  obtain ⟨k, rfl⟩ := Int.eq_ofNat_of_zero_le h0
  exact atI_nat (by simpa using h)
theorem atI_ints {ns : List Int} {i : Int} (h0 : 0 ≤ i) (h : i < ns.length) : atI (ns.map V.int) i = some (.int (ns.getD i.toNat 0)) := by
  have hk : i.toNat < ns.length := by omega
  refine atI_ge h0 ?_
  rw [List.getElem?_map, List.getD_eq_getElem?_getD, List.getElem?_eq_getElem hk]
  rfl

/-! ### rules with the written part named (within a block the reading must not name the block's state) -/
section
variable {X : Cx}
theorem ix_listK (K : PySem.W.Frag) (h : X.K = K) : IxR X (rIxL K) := by subst h; exact ix_list
theorem ix_tupK (K : PySem.W.Frag) (h : X.K = K) : IxR X (rIxT K) := by subst h; exact ix_tup
theorem pe_fldK (K : PySem.W.Frag) (h : X.K = K) {e : Expr} {f : Str} {pos : Pos} {ta : TE} (he : PE X e ta) (hb : attributeBase e f X.env (eval e X.env) = eval e X.env) : PE X (.Attribute e f pos) (tFld K ta f) := by subst h; exact pe_fld he hb
/-! ### argument lists by a cheap check -/
noncomputable def nostar : Expr → Bool
  | .Starred _ _ => false
  | _ => true
theorem starEach_ns {e : Expr} {es : List Expr} {env : Env} (h : nostar e = true) : starEach (e :: es) env = (false, eval e env) :: starEach es env := by
  cases e <;> first | rfl | (exact Bool.noConfusion h) | simp [starEach]
theorem pa_c {e : Expr} {es : List Expr} {te : TE} {t : TA} (ha : PE X e te) (hr : PA X es t) (hs : nostar e = true := by rfl) : PA X (e :: es) (tCons te t) := pa_cons ha hr (starEach_ns hs)

/-! ### written data -/
end
end L2

set_option Elab.async false
set_option linter.all false
set_option maxRecDepth 100000
/-! EXTENSION 4: dicts: setdefault, a walk over the keys; all of a list of truths -/
namespace L2
open PySem PySem.Spec PyProof.Rows


/-! ### for k in d -/
/-! ### all([..]) -/
end L2

set_option Elab.async false
set_option linter.all false
/-! pairs of houses: what leads where (plain mathematics) -/
namespace Gr
/-! ### the neighbours of a house, by the pairs' numbers -/
/-! ### lists without a double -/
/-! ### the houses come to from one, each with its step back -/
/-! ### a way -/
/-! ### the parts -/
end Gr

set_option Elab.async false
set_option linter.all false
set_option maxRecDepth 100000
/-! lists of pairs, a dict of lists of pairs, a dict of steps back, in the heap -/
namespace L2
open PySem Gr


/-! ### tuples of two numbers -/
/-! ### for each house the list of its pairs -/

/-! ### the steps back -/
/-- a test by a value's truth, named -/
noncomputable def tTruth (K : PySem.W.Frag) (ta : TE) : TT := fun σ H Q => ta σ H fun x H' => ∃ k, TruV K x H' k ∧ Q k H'
theorem pt_truthN {X : Cx} {a : Expr} {ta : TE} (ha : PE X a ta) (he : ∀ whole, isTrue a X.env whole = (do let v ← whole; standAt a.pos; holding [v] (truthy v))) : PT X a (tTruth X.K ta) := pt_truth ha he
end L2

set_option Elab.async false
set_option linter.all false
set_option maxRecDepth 100000
/-! EXTENSION 5: range objects, list(range(n)) -/
namespace L2
open PySem PySem.Spec PyProof.Rows
section
variable {X : Cx}
theorem call_rangeO : CallR X (.type "range") (fun xs H Q => ∃ j : Int, xs = [.int j] ∧ ∀ p, H p = none → Q (.ref p) (upd H p (.rng 0 j))) := by
  intro pins s σ H xs us Q I r ⟨j, e, q⟩
  subst e
  obtain ⟨u, e, ru⟩ := Vals.one r
  subst e
  obtain ⟨t, rfl⟩ := ru
  refine call_range_1 ⟨.ref s.heap.objs.size, _, I.laid (a := s.heap.objs.size) (o := .rng 0 j) (fun b o e => Heap.get?_push_of_some _ e) (Nat.le_refl _) ?_, rfl, q _ (I.hok.fresh (Nat.le_refl _))⟩
  exact ⟨_, _, _, Heap.get?_push_size _ rfl⟩
theorem vals_range {acc : Array Value} {n : Nat} (hl : acc.size = n) (h : ∀ (i : Nat) (v : Value), acc[i]? = some v → ∃ t, v = Value.int (0 + (i : Int) * 1) t) : Vals ((List.range n).map fun k => V.int (k : Nat)) acc.toList := by
  have key : ∀ (us : List Value) (m : Nat), (∀ (i : Nat) (v : Value), us[i]? = some v → ∃ t, v = Value.int ((m + i : Nat) : Int) t) → Vals ((List.range' m us.length).map fun k => V.int (k : Nat)) us := by
    intro us
    induction us with
    | nil => intro m _; exact .nil
    | cons u us ih =>
      intro m hh
      rw [List.length_cons, List.range'_succ, List.map_cons]
      refine .cons (hh 0 u rfl) (ih (m + 1) fun i v e => ?_)
      obtain ⟨t, q⟩ := hh (i + 1) v (by simpa using e)
      exact ⟨t, by rw [q]; congr 1; omega⟩
  have := key acc.toList 0 fun i v e => by
    obtain ⟨t, q⟩ := h i v (by simpa using e)
    exact ⟨t, by rw [q]; congr 1; omega⟩
  rw [Array.length_toList, hl, ← List.range_eq_range'] at this
  exact this
theorem call_listR (hc : X.calm = true) : CallR X (.type "list") (fun xs H Q => ∃ (p : Addr) (j : Nat), xs = [.ref p] ∧ H p = some (.rng 0 j) ∧ j ≤ 1000 ∧ ∀ l, H l = none → Q (.ref l) (upd H l (.lst ((List.range j).map fun k => .int (k : Nat))))) := by
  intro pins s σ H xs us Q I r ⟨p, j, e, hp, hj, q⟩
  subst e
  obtain ⟨u, e, ru⟩ := Vals.one r
  subst e
  cases ru
  obtain ⟨t, u, v, hr⟩ := (show ObjOk X.prog X.w H s.heap p (.rng 0 j) from I.hok p _ hp)
  refine call_list_range (I.ok.hd hc) (n := j) hr (small_one (by omega) (by omega) (by omega) (by omega)) (by rw [rangeSize_one]; split <;> omega) (by omega) fun h' tk acc' c' hk hS hi => ?_
  obtain ⟨hsz, hit⟩ := hi
  have hv := vals_range hsz hit
  refine ⟨.ref s.heap.objs.size, _, I.laid (a := s.heap.objs.size) (o := .lst ((List.range j).map fun k => .int (k : Nat))) hk (Nat.le_refl _) ⟨?_, acc'.toList, c', hv, by simpa using hS⟩, rfl, q _ (I.hok.fresh (Nat.le_refl _))⟩
  rw [List.length_map, List.length_range]
  exact Nat.le_of_lt (small1000 hj)
end
end L2

set_option Elab.async false
set_option linter.all false
/-! rounds, marks (plain mathematics) -/
namespace Gr
/-! ### marks -/
end Gr

set_option Elab.async false
set_option linter.all false
namespace Gr
end Gr

set_option Elab.async false
set_option linter.all false
set_option maxRecDepth 100000
/-! EXTENSION 6: an exception on its way: what its notes change -/
namespace L2
open PySem PySem.Spec PyProof.Rows

/-- an exception at e, its newest entry at T with the mark fl -/
noncomputable def Fly (h : Heap) (e T : Addr) (cls fl : Value) : Prop :=
  ∃ oe vs oT ts, h.get? e = some oe ∧ oe.cls = cls ∧ oe.dict = none ∧ oe.data = .fields vs ∧ vs[1]? = some (.ref T) ∧ T ≠ e ∧ h.get? T = some oT ∧ oT.data = .fields ts ∧ ts[3]? = some fl
/-- of the frames at F the slots may have changed, the records at R may have turned, all else stands -/
structure Trn (F R : List Addr) (h h' : Heap) : Prop where
  keep : ∀ b o, b ∉ F → b ∉ R → h.get? b = some o → h'.get? b = some o
  slot : ∀ b o, b ∈ F → b ∉ R → h.get? b = some o → ∃ sl, h'.get? b = some { o with slots := sl }
theorem Trn.mono {F R R' : List Addr} {h h' : Heap} (t : Trn F R h h') (hs : ∀ b ∈ R, b ∈ R') : Trn F R' h h' :=
  ⟨fun b o h1 h2 e => t.keep b o h1 (fun z => h2 (hs b z)) e, fun b o h1 h2 e => t.slot b o h1 (fun z => h2 (hs b z)) e⟩
theorem Trn.trans {F R : List Addr} {h h1 h2 : Heap} (a : Trn F R h h1) (b : Trn F R h1 h2) : Trn F R h h2 :=
  ⟨fun c o q1 q2 e => b.keep c o q1 q2 (a.keep c o q1 q2 e), fun c o q1 q2 e => by
    obtain ⟨sl, e1⟩ := a.slot c o q1 q2 e
    obtain ⟨sl2, e2⟩ := b.slot c _ q1 q2 e1
    exact ⟨sl2, e2⟩⟩
theorem Trn.upd1 {F : List Addr} {h : Heap} {a : Addr} {g : Obj → Obj} : Trn F [a] h (h.update a g) :=
  ⟨fun b o _ h2 e => (Heap.get?_update_other _ _ (fun z => h2 (by simp [z]))).trans e, fun b o _ h2 e => ⟨o.slots, (Heap.get?_update_other _ _ (fun z => h2 (by simp [z]))).trans e⟩⟩

theorem dict_mapF {f : Array Value → Array Value} {o : Obj} : (Obj.mapFields f o).dict = o.dict := by
  obtain ⟨c, d, da, sl⟩ := o
  cases da <;> rfl
section
variable {M : Model} {A : Around} {E : Value → Shared → Prop} {s : Shared} {base : Heap} {env : Env} {outer : List Env} {L e : Addr}
theorem frames_not (hl : s.heap.FunFrames base (env :: outer)) {oe : Obj} {vs : Array Value} (he : s.heap.get? e = some oe) (hd : oe.data = .fields vs) : e ∉ frs (env :: outer) := fun hm => by
  obtain ⟨_, o, ho, hnf⟩ := hl.mem hm
  rw [he] at ho
  cases ho
  exact hnf vs hd
/-- the new entry -/
theorem entry_new {oe : Obj} {vs : Array Value} {head : Value} {b1 : Bool} {Q : Unit → Shared → Prop} (hfr : A.frames = some (env :: outer)) (hl : s.heap.FunFrames base (env :: outer)) (hf : env.frame = some L)
    (he : s.heap.get? e = some oe) (hdc : oe.dict = none) (hd : oe.data = .fields vs) (hsz : 1 < vs.size)
    (h : ∀ h', Fly h' e s.heap.objs.size oe.cls (rawInt L) → Trn (frs (env :: outer)) [e] s.heap h' → Q () { s with heap := h' }) :
    wpAny M A (do let fv ← frameOf env; let pl ← entryPlaceOf L b1; let tb ← EntryCells.newEntry head fv .none (rawInt L) .none pl; setField (.ref e) 1 tb) Q E s := by
  have hne := frames_not hl he hd
  refine wpAny_bind (wpAny_frameOf_fun hfr hl hf fun g1 so => ?_)
  obtain ⟨so1, so2, so3⟩ := so
  refine wpAny_bind (wpAny_entryPlaceOf fun pl okp => ?_)
  unfold EntryCells.newEntry newFields
  refine wpAny_bind (wpAny_newObj_type ?_ (okp.sizeOk5 _ _ _ _ _))
  have q1 : g1.get? e = some oe := (so2 e hne).trans he
  have nTe : g1.objs.size ≠ e := Nat.ne_of_gt (Heap.lt_size q1)
  refine wpAny_setField (Heap.get?_push_of_some _ q1) hd hsz (h _ ?_ ?_)
  · have hd' := Obj.data_mapFields hd (·.setIfInBounds 1 (Value.ref g1.objs.size))
    have qT := (Heap.get?_update_other _ (Obj.mapFields (·.setIfInBounds 1 (Value.ref g1.objs.size))) (Ne.symm nTe)).trans (Heap.get?_push_size g1 (o := { cls := .type "traceback", dict := none, data := .fields ([head, .ref L, .none, rawInt L, .none] ++ (if pl.isEmpty then List.replicate 6 Value.none else pl)).toArray }) rfl)
    rw [← so1]
    refine ⟨_, _, _, _, Heap.get?_update_self _ (Heap.get?_push_of_some _ q1) (Obj.isFreed_of_fields hd'), Obj.cls_mapFields _ _, ?_, hd', ?_, nTe, qT, rfl, ?_⟩
    · rw [dict_mapF]
      exact hdc
    · simp [hsz]
    · rcases okp with rfl | ⟨_, _, _, _, _, _, _, rfl⟩ <;> simp
  · refine ⟨fun b o h1 h2 eb => ?_, fun b o h1 h2 eb => ?_⟩
    · rw [Heap.get?_update_other _ _ (fun z => h2 (by simp [z]))]
      exact Heap.get?_push_of_some _ ((so2 b h1).trans eb)
    · obtain ⟨sl, q⟩ := so3 b o eb
      refine ⟨sl, ?_⟩
      rw [Heap.get?_update_other _ _ (fun z => h2 (by simp [z]))]
      exact Heap.get?_push_of_some _ q
/-- a note of an exception that was just made -/
theorem note_first {oe : Obj} {vs : Array Value} {Q : Unit → Shared → Prop} (hfr : A.frames = some (env :: outer)) (hl : s.heap.FunFrames base (env :: outer)) (hf : env.frame = some L)
    (he : s.heap.get? e = some oe) (hdc : oe.dict = none) (hd : oe.data = .fields vs) (h1 : vs[1]? = some .none)
    (h : ∀ h', Fly h' e s.heap.objs.size oe.cls (rawInt L) → Trn (frs (env :: outer)) [e] s.heap h' → Q () { s with heap := h' }) : wpAny M A (noteFrame (.ref e) env) Q E s := by
  unfold noteFrame
  simp only [hf]
  refine wpAny_bind (wpAny_field he hd h1 ?_)
  rw [if_neg (by decide)]
  exact entry_new hfr hl hf he hdc hd (Array.getElem?_eq_some_iff.mp h1).1 h
/-- .. of one that came from a callee -/
theorem note_next {T : Addr} {cls : Value} {Q : Unit → Shared → Prop} (hfr : A.frames = some (env :: outer)) (hl : s.heap.FunFrames base (env :: outer)) (hf : env.frame = some L) (fl : Fly s.heap e T cls .none)
    (h : ∀ h', Fly h' e s.heap.objs.size cls (rawInt L) → Trn (frs (env :: outer)) [e, T] s.heap h' → Q () { s with heap := h' }) : wpAny M A (noteFrame (.ref e) env) Q E s := by
  obtain ⟨oe, vs, oT, ts, he, hc, hdc, hd, h1, nT, hT, hdT, h3⟩ := fl
  subst hc
  unfold noteFrame
  simp only [hf]
  refine wpAny_bind (wpAny_field he hd h1 ?_)
  rw [if_pos (by simp)]
  refine wpAny_bind (wpAny_field hT hdT h3 ?_)
  rw [if_neg (by simp [rawInt])]
  refine wpAny_bind (wpAny_setField hT hdT (Array.getElem?_eq_some_iff.mp h3).1 ?_)
  have nTf := frames_not (e := T) hl hT hdT
  have hsz : (s.heap.update T (Obj.mapFields (·.setIfInBounds 3 Value.none))).objs.size = s.heap.objs.size := Heap.size_after_update ..
  have other : ∀ b, b ≠ T → (s.heap.update T (Obj.mapFields (·.setIfInBounds 3 Value.none))).get? b = s.heap.get? b := fun b hb => Heap.get?_update_other _ _ (Ne.symm hb)
  refine entry_new (s := { s with heap := s.heap.update T (Obj.mapFields (·.setIfInBounds 3 Value.none)) }) (base := base) hfr (hl.of_keeps fun b o hb hnf => ⟨o, (other b fun z => ?_).trans hb, rfl⟩) hf ((other e (Ne.symm nT)).trans he) hdc hd (Array.getElem?_eq_some_iff.mp h1).1 fun h' f' t' => ?_
  · rw [z, hT] at hb
    cases hb
    exact hnf ts hdT
  · have f2 : Fly h' e s.heap.objs.size oe.cls (rawInt L) := hsz ▸ f'
    exact h h' f2 ((Trn.upd1.mono (by simp)).trans (t'.mono (by simp)))
/-- the mark is taken away -/
theorem flight_none {T : Addr} {cls fl : Value} {Q : Unit → Shared → Prop} (f : Fly s.heap e T cls fl) (h : ∀ h', Fly h' e T cls .none → (∀ F, Trn F [T] s.heap h') → h'.objs.size = s.heap.objs.size → Q () { s with heap := h' }) :
    wpAny M A (setFlight (.ref e) none) Q E s := by
  obtain ⟨oe, vs, oT, ts, he, hc, hdc, hd, h1, nT, hT, hdT, h3⟩ := f
  have hs3 : 3 < ts.size := (Array.getElem?_eq_some_iff.mp h3).1
  unfold setFlight
  refine wpAny_bind (wpAny_field he hd h1 ?_)
  rw [if_pos (by simp)]
  refine wpAny_setField hT hdT hs3 (h _ ?_ (fun F => Trn.upd1) (Heap.size_after_update ..))
  have hdT' := Obj.data_mapFields hdT (·.setIfInBounds 3 ((none : Option Addr).elim Value.none fun f => rawInt f))
  exact ⟨oe, vs, _, _, (Heap.get?_update_other _ _ nT).trans he, hc, hdc, hd, h1, nT, Heap.get?_update_self _ hT (Obj.isFreed_of_fields hdT'), hdT', by simp [hs3]⟩
end
end L2

set_option Elab.async false
set_option linter.all false
set_option maxRecDepth 100000
namespace L2
open PySem PySem.Spec PyProof.Rows
/-! ### the state through a note -/
theorem ObjOk.there {P : Program} {w : World} {H : Hp} {h : Heap} {a : Addr} : ∀ {o : HO}, ObjOk P w H h a o → ∃ ob, h.get? a = some ob
  | .lst _, ⟨_, _, _, _, e⟩ => ⟨_, e⟩
  | .tup _, ⟨_, _, _, o, e, _⟩ => ⟨o, e⟩
  | .dK _, ⟨_, _, _, _, o, _, _, e, _⟩ => ⟨o, e⟩
  | .dT _, ⟨_, _, _, _, o, _, _, e, _⟩ => ⟨o, e⟩
  | .set _ _, ⟨o, _, _, _, e, _⟩ => ⟨o, e⟩
  | .ins _ _ _, ⟨_, _, _, e, _⟩ => ⟨_, e⟩
  | .own _, e => e
  | .xd _, ⟨_, n, _⟩ => let ⟨o, e, _⟩ := lookIn_ns n; ⟨o, e⟩
  | .met _ _, e => ⟨_, e⟩
  | .rng _ _, ⟨_, _, _, e⟩ => ⟨_, e⟩
  | .frz o _, ⟨e, _⟩ => ⟨o, e⟩
  | .tbl _, e => ⟨_, e⟩
  | .ext _, ⟨_, e, _⟩ => e
theorem HOk.trn {P : Program} {w : World} {H : Hp} {h h' : Heap} {F R : List Addr} (ok : HOk P w H h) (t : Trn F R h h') (hF : ∀ b ∈ F, H b = none) (hR : ∀ b ∈ R, H b = none) : HOk P w H h' := fun a o e =>
  (ok a o e).stay (fun b u hb q => t.keep b u (fun z => by
    have := hF b z
    rcases hb with rfl | hb
    · rw [e] at this; cases this
    · rw [hb] at this; cases this) (fun z => by
    have := hR b z
    rcases hb with rfl | hb
    · rw [e] at this; cases this
    · rw [hb] at this; cases this) q) (fun _ q => q) fun _ _ q => q
/-- a record that may turn: new since the entry -/
noncomputable def Rec (X : Cx) (pins : List (Addr × Obj)) (H : Hp) (b : Addr) : Prop :=
  H b = none ∧ b ≠ X.env.locals ∧ b ∉ X.fs ∧ X.s₀.heap.get? b = none ∧ (∀ x c, X.env.cells.lookup x = some c → c ≠ b) ∧ ∀ p ∈ X.pn ++ pins, p.1 ≠ b
section
variable {X : Cx} {pins : List (Addr × Obj)} {σ : St} {H H' : Hp} {s : Shared} {h' : Heap}
theorem Inv.recd (I : Inv X pins σ H s) (hex : X.ex = []) {b : Addr} (hn : H' b = none) (hb : s.heap.get? b = none) : Rec X pins H' b := by
  refine ⟨hn, fun z => ?_, fun z => ?_, ?_, fun x c e z => ?_, fun p hp z => ?_⟩
  · obtain ⟨m, ⟨o, _, _, ho, _⟩, _⟩ := I.loc
    rw [← z, hb] at ho; cases ho
  · obtain ⟨_, o, ho, _⟩ := I.funs.mem z
    rw [hb] at ho; cases ho
  · cases q : X.s₀.heap.get? b with
    | none => rfl
    | some o =>
      obtain ⟨o', e⟩ := I.base.there b o q (by rw [hex]; simp)
      rw [hb] at e; cases e
  · obtain ⟨v, o, ho, _⟩ := I.cell x c e
    rw [z, hb] at ho; cases ho
  · have := (I.pin p hp).1
    rw [z, hb] at this; cases this
theorem Inv.recd_new (I : Inv X pins σ H s) (hex : X.ex = []) : Rec X pins H s.heap.objs.size := by
  refine I.recd hex (I.hok.fresh (Nat.le_refl _)) ?_
  cases q : s.heap.get? s.heap.objs.size with
  | none => rfl
  | some o => exact absurd (Heap.lt_size q) (Nat.lt_irrefl _)
/-- all frames' slots and the records at R may have turned -/
theorem Inv.trn {R : List Addr} {t' : Nat} (I : Inv X pins σ H s) (hR : ∀ b ∈ R, Rec X pins H b) (t : Trn (frs X.stack) R s.heap h') : Inv X pins σ H { s with heap := h', toks := t' } := by
  have hFn : ∀ b ∈ frs X.stack, H b = none := fun b hb => I.stkFree b hb
  have any : ∀ b o, b ∉ R → s.heap.get? b = some o → ∃ sl, h'.get? b = some { o with slots := sl } := fun b o hr e => by
    by_cases hb : b ∈ frs X.stack
    · exact t.slot b o hb hr e
    · exact ⟨o.slots, t.keep b o hb hr e⟩
  have keepF : ∀ b o, b ≠ X.env.locals → b ∉ X.fs → b ∉ R → s.heap.get? b = some o → h'.get? b = some o := fun b o hL hb hr e =>
    t.keep b o (fun z => (List.mem_cons.mp (I.stkSub b z)).elim hL hb) hr e
  have neL : ∀ b o, X.s₀.heap.get? b = some o → b ≠ X.env.locals := fun b o e => Nat.ne_of_lt (Nat.lt_of_lt_of_le (Heap.lt_size e) I.ok.above)
  have neR : ∀ b o, X.s₀.heap.get? b = some o → b ∉ R := fun b o e z => by rw [(hR b z).2.2.2.1] at e; cases e
  have cellK : ∀ x c, X.env.cells.lookup x = some c → ∀ v, s.heap.IsCell c v → h'.IsCell c v := fun x c e v ⟨o, ho, hd⟩ => by
    obtain ⟨sl, q⟩ := any c o (fun z => (hR c z).2.2.2.2.1 x c e rfl) ho
    exact ⟨_, q, hd⟩
  refine ⟨I.ok, I.os, I.bare, ⟨fun b o e n hb hx => ?_, fun b o e n hb hx => ?_, I.base.free, fun b o e hx => ?_, I.base.tups, I.base.frzs, I.base.tbls⟩, ?_, fun x c e => ?_, I.free, I.freeC, fun p hp => ?_, I.hok.trn t hFn (fun b hb => (hR b hb).1), I.len⟩
  · exact keepF b o (neL b o e) hb (neR b o e) (I.base.keep b o e n hb hx)
  · obtain ⟨sl, e1⟩ := I.base.slot b o e n hb hx
    obtain ⟨sl', e2⟩ := any b _ (neR b o e) e1
    exact ⟨sl', e2⟩
  · obtain ⟨o', e1⟩ := I.base.there b o e hx
    obtain ⟨sl, e2⟩ := any b _ (neR b o e) e1
    exact ⟨_, e2⟩
  · obtain ⟨m, ⟨o, es, ep, ho, r⟩, hl⟩ := I.loc
    obtain ⟨sl, q⟩ := any _ o (fun z => (hR _ z).2.1 rfl) ho
    refine ⟨m, ⟨_, es, ep, q, r⟩, fun i x v e1 e2 e3 => ?_⟩
    obtain ⟨u, ru, l⟩ := hl i x v e1 e2 e3
    refine ⟨u, ru, ?_⟩
    rcases l with l | ⟨k, c, e, z⟩
    · exact .inl l
    · exact .inr ⟨k, c, e, cellK x c e _ z⟩
  · obtain ⟨v, z⟩ := I.cell x c e
    exact ⟨v, cellK x c e v z⟩
  · obtain ⟨e, n, ne, nf, d⟩ := I.pin p hp
    exact ⟨keepF p.1 p.2 ne nf (fun z => (hR p.1 z).2.2.2.2.2 p hp rfl) e, n, ne, nf, d⟩
end

/-! ### an exception here; an exception behind a call -/
noncomputable def XP (X : Cx) (pins : List (Addr × Obj)) (σ : St) (E : XK) (e : Value) (s' : Shared) : Prop :=
  ∃ ea T cls H', e = .ref ea ∧ Inv X pins σ H' s' ∧ Fly s'.heap ea T cls .none ∧ Rec X pins H' ea ∧ Rec X pins H' T ∧ E cls none H'
noncomputable def CX1 (P : Program) (w : World) : CXT := fun outer H s E e s' =>
  ∃ ea T cls H', e = .ref ea ∧ s'.os = s.os ∧ AllBare s'.gens ∧ Un (frs outer) [] H H' s.heap s'.heap ∧ HOk P w H' s'.heap ∧ Fly s'.heap ea T cls .none ∧ s.heap.get? ea = none ∧ s.heap.get? T = none ∧ H' ea = none ∧ H' T = none ∧ E cls none H'
theorem xp_of {X : Cx} {pins : List (Addr × Obj)} {σ : St} {H : Hp} {s s' : Shared} {E : XK} {e : Value} (I : Inv X pins σ H s) (hex : X.ex = []) (h : CX1 X.prog X.w X.stack H s E e s') : XP X pins σ E e s' := by
  obtain ⟨ea, T, cls, H', he, os, bare, un, hok, fl, n1, n2, h1, h2, q⟩ := h
  exact ⟨ea, T, cls, H', he, I.call' (ch := []) os un hok bare (fun b z => absurd z (by simp)), fl, I.recd hex h1 n1, I.recd hex h2 n2, q⟩
/-- .. leaves the frame -/
theorem un_trn {X : Cx} {pins : List (Addr × Obj)} {σ : St} {H : Hp} {s : Shared} {R : List Addr} {h' : Heap} (I : Inv X pins σ H s) (hex : X.ex = []) (hR : ∀ b ∈ R, Rec X pins H b) (t : Trn (frs X.stack) R s.heap h') : Un X.fs [] X.H₀ H X.s₀.heap h' := by
  have := (I.trn (t' := s.toks) hR t).base
  rw [hex] at this
  exact this
section
variable {P : Program} {w : World} {K : PySem.W.Frag} {mg : Str → Option Value} {base : Heap} {N : List Str} {qual : Str} {scope : Scope} {f : Addr} {cd : Value} {A : Around} {outer : List Env} {s0 : Shared} {H0 : Hp} {E : XK}
theorem xe_of {pins : List (Addr × Obj)} {σ : St} {e : Value} {s : Shared} (h : XP (cxOf (CX1 P w) P w K mg base N qual scope f cd A outer s0 H0 E) pins σ E e s) : (cxOf (CX1 P w) P w K mg base N qual scope f cd A outer s0 H0 E).xe e s := by
  obtain ⟨ea, T, cls, H', rfl, I, fl, r1, r2, q⟩ := h
  show wpAny _ _ (leaving _ (.ref ea)) _ _ s
  unfold leaving
  refine wpAny_bind (note_next (base := base) I.ok.frames I.stack rfl fl fun h1 f1 t1 => ?_)
  refine flight_none f1 fun h2 f2 t2 sz => ?_
  have rn := I.recd_new rfl
  have hR : ∀ b ∈ [ea, T, s.heap.objs.size], Rec (cxOf (CX1 P w) P w K mg base N qual scope f cd A outer s0 H0 E) pins H' b := by
    intro b hb
    simp only [List.mem_cons, List.not_mem_nil, or_false] at hb
    rcases hb with z | z | z
    · rw [z]; exact r1
    · rw [z]; exact r2
    · rw [z]; exact rn
  have t12 : Trn (frs (cxOf (CX1 P w) P w K mg base N qual scope f cd A outer s0 H0 E).stack) [ea, T, s.heap.objs.size] s.heap h2 := (t1.mono (by simp)).trans ((t2 _).mono (by simp))
  have J := I.trn (t' := s.toks) hR t12
  exact ⟨ea, _, cls, H', rfl, I.os, I.bare, un_trn I rfl hR t12, J.hok, f2, r1.2.2.2.1, rn.2.2.2.1, r1.1, rn.1, q⟩
theorem pass1 : Passes (CX1 P w) (cxOf (CX1 P w) P w K mg base N qual scope f cd A outer s0 H0 E) E := fun pins σ H s e s' I h => xe_of (xp_of I rfl h)
/-- a def that may raise -/
theorem Fun.okX {x qual : Str} {st : Stmt} {f : Addr} {fd : FuncData} {N ps : List Str} {k : Nat} {sp : Sp} (F : Fun K x qual st f fd) (S : FnScope N ps (defScope st)) (len : ∀ vs H Q E, sp vs H Q E → vs.length = ps.length)
    (hbody : ∀ (cdv : Value) (A : Around) (outer : List Env) (s : Shared) (H : Hp) (vs : List V) (Q : VK) (E : XK), Room k (A.deeper (envOfC qual (defScope st) s.heap.objs.size f cdv)) → sp vs H Q E →
      ∃ t, PSs (cxOf (CX1 P w) P w K mg base N qual (defScope st) f cdv A outer s H E) (defBody st) t ∧ t { nx := fun _ H' => Q .non H', rt := Q } (start N vs) H) : FnOk P w K mg base (CX1 P w) (k + 1) f fd ps sp := by
  obtain ⟨oc, od, kV, doc, pm, an, cdv, ct, osl, rfl, lk, hcd⟩ := F.ex
  exact fn_of lk hcd S len fun A outer s H vs Q E hr hsp => hbody cdv A outer s H vs Q E hr hsp
end
/-- a callee that may raise, and does not here -/
theorem passF {P : Program} {w : World} {X : Cx} : Passes (CX1 P w) X E0 := fun _ _ _ _ _ _ _ h => by
  obtain ⟨_, _, _, _, _, _, _, _, _, _, _, _, _, _, q⟩ := h
  exact q.elim
end L2

set_option Elab.async false
set_option linter.all false
set_option maxRecDepth 100000
namespace L2
open PySem PySem.Spec PyProof.Rows

/-! ### an own class of errors under ValueError -/
abbrev veMro : List Value := [.type "ValueError", .type "Exception", .type "BaseException", .type "object"]
structure ExcC (K : PySem.W.Frag) (C : Addr) : Prop where
  ex : PySem.W.excIn K C veMro "ValueError.__new__" = true
  ga : PySem.W.findIn K (.ref C) "__getattribute__" = some (some (.builtin "BaseException.__getattribute__"))
  gb : PySem.W.findIn K (.ref C) "__getattr__" = some none
  hd : PySem.W.hasDictIn K C = true
  ca : PySem.W.findIn K (.ref C) "__class__" = some (some (.builtin "object.__class__"))
  cg : PySem.W.specialIn K (.builtin "object.__class__") "__get__" = some (some (.builtin "getset_descriptor.__get__"))
  ct : PySem.W.takesIn K (.builtin "object.__class__") = some true
  mo : PySem.W.mroIn K C (.type "object") = some true
  mb : PySem.W.mroIn K C (.type "BaseException") = some true
theorem exc_obj {K : PySem.W.Frag} {h : Heap} {C : Addr} {bmB : List Value} {nw : String} (X : K.In h) (q : PySem.W.excIn K C bmB nw = true) :
    ∃ bm N nm qn bs hc sn su ab col dd k0 k1 k2 k3 k5 mN, h.get? C = some (excClassObj nm qn C N bs bm hc sn su ab col dd k0 k1 k2 k3 k5 nw) ∧ h.Ns N mN ∧ mN "__init__" = none ∧ OwnTail h bmB bm ∧ bm.contains (.type "BaseException") = bmB.contains (.type "BaseException") := by
  unfold PySem.W.excIn at q
  split at q
  · rename_i dd cd sl ho
    obtain ⟨nm, bs, mro, ns, qn, hc, sn, su, ab, col, del⟩ := cd
    obtain ⟨sl⟩ := sl
    split at q
    · rename_i D bm k0 k1 k2 k3 n k5 hm hs
      simp only [Bool.and_eq_true, beq_iff_eq, Bool.not_eq_true'] at q
      obtain ⟨⟨⟨⟨⟨e1, e2⟩, e3⟩, e4⟩, e5⟩, e6⟩ := q
      dsimp only at hm hs e3 e5 e6
      subst e1 e2 hm hs e3
      have T := PySem.W.tail_of_in X e4
      exact ⟨bm, ns, nm, qn, bs, hc, sn, su, ab, col, dd, k0, k1, k2, k3, k5, h.nsMap ns, X _ _ ho, .of_isNs (PySem.W.isNs_of_in X e5), PySem.W.nsMap_none_of_in X e5 e6, T, T.hasType rfl⟩
    · cases q
  · cases q

/-! ### raise C(..) -/
section
variable {P : Program} {w : World} {K : PySem.W.Frag} {mg : Str → Option Value} {base : Heap} {N : List Str} {qual : Str} {scope : Scope} {f : Addr} {cd : Value} {A : Around} {outer : List Env} {s0 : Shared} {H0 : Hp} {E : XK}
theorem raised {pins : List (Addr × Obj)} {σ : St} {H : Hp} {s : Shared} {h' : Heap} {e C : Addr} {vs : List Value} (I : Inv (cxOf (CX1 P w) P w K mg base N qual scope f cd A outer s0 H0 E) pins σ H s) (hm : Heap.MadeExcOf s.heap h' e (.ref C) vs)
    (q : E (.ref C) none H) : (cxOf (CX1 P w) P w K mg base N qual scope f cd A outer s0 H0 E).xe (.ref e) { s with heap := h' } := by
  have hHe : H e = none := by
    cases z : H e with
    | none => rfl
    | some o =>
      obtain ⟨ob, eo⟩ := (I.hok e o z).there
      rw [hm.new] at eo; cases eo
  have r1 := I.recd rfl hHe hm.new
  have I1 : Inv (cxOf (CX1 P w) P w K mg base N qual scope f cd A outer s0 H0 E) pins σ H { s with heap := h' } := I.kept (t' := s.toks) hm.keeps
  obtain ⟨t, he, _, _⟩ := hm.there
  show wpAny _ _ (leaving _ (.ref e)) _ _ _
  unfold leaving
  refine wpAny_bind (note_first (base := base) I1.ok.frames I1.stack rfl he rfl rfl rfl fun h1 f1 t1 => ?_)
  refine flight_none f1 fun h2 f2 t2 sz => ?_
  have rn := I1.recd_new rfl
  have hR : ∀ b ∈ [e, h'.objs.size], Rec (cxOf (CX1 P w) P w K mg base N qual scope f cd A outer s0 H0 E) pins H b := by
    intro b hb
    simp only [List.mem_cons, List.not_mem_nil, or_false] at hb
    rcases hb with z | z
    · rw [z]; exact r1
    · rw [z]; exact rn
  have t12 : Trn (frs (cxOf (CX1 P w) P w K mg base N qual scope f cd A outer s0 H0 E).stack) [e, h'.objs.size] h' h2 := (t1.mono (by simp)).trans ((t2 _).mono (by simp))
  have J := I1.trn (t' := s.toks) hR t12
  exact ⟨e, _, .ref C, H, rfl, I.os, I.bare, un_trn I1 rfl hR t12, J.hok, f2, r1.2.2.2.1, rn.2.2.2.1, r1.1, rn.1, q⟩
theorem ps_raise {x : Str} {C : Addr} {a : Expr} {np cpos pos : Pos} {te : TE} (hg : Gl (cxOf (CX1 P w) P w K mg base N qual scope f cd A outer s0 H0 E) x) (hm : mg x = some (.ref C)) (hx : ExcC K C) (hh : A.handled = none)
    (ha : PE (cxOf (CX1 P w) P w K mg base N qual scope f cd A outer s0 H0 E) a te) (hdb : (x == ("__debug__" : Str)) = false := by decide)
    (tr : backTo cpos (starEach [a] (cxOf (CX1 P w) P w K mg base N qual scope f cd A outer s0 H0 E).env) = [(false, eval a (cxOf (CX1 P w) P w K mg base N qual scope f cd A outer s0 H0 E).env)] := by rfl) :
    PS (cxOf (CX1 P w) P w K mg base N qual scope f cd A outer s0 H0 E) (.Raise (some (.Call (.Name x np) [a] [] cpos)) none pos) (fun _ σ H => te σ H fun _ H1 => E (.ref C) none H1) := by
  intro pins s σ H D I h
  obtain ⟨bm, Nn, nm, qn, bs, hc, sn, su, ab, col, dd, k0, k1, k2, k3, k5, mN, hC, hN, hni, T, hb⟩ := exc_obj I.ok.mod.kin hx.ex
  refine wpAny_Raise_call_subT (C := C) (nm := nm) (q := qn) (N := Nn) (bs := bs) (bm := bm) (hdct := hc) (sn := sn) (sub := su) (ab := ab) (col := col) (dd := dd) (k0 := k0) (k1 := k1) (k2 := k2) (k3 := k3) (k5 := k5) PySem.F.excBase_ValueError (by rw [hb]; decide) hh (by rw [tr]; rfl) hni (ld_glob I hg hm ⟨rfl, ?_⟩ hdb)
  rw [tr]
  refine Calls.evalArgs_plain (Calls.spliced_cons (thn (ha pins s σ H _ I h) fun v s1 ⟨y, H1, I1, ry, q1⟩ => Calls.spliced_nil ?_))
  exact ⟨rfl, by show 1 ≤ sizeLine; decide, I1.bk _ _ hC, hN.keeps I1.bk, T.keeps I1.bk, fun h' e hmd => raised I1 hmd q1⟩
end
end L2

set_option Elab.async false
set_option linter.all false
set_option maxRecDepth 100000
namespace L2
open PySem PySem.Spec PyProof.Rows
/-! ### an exception that is held: isinstance, except -/
/-- an exception of the class at C stands at a (kept by what is true of its object) -/
noncomputable def ExcO (a C : Addr) : HO := .ext fun h => ∃ o vs, h.get? a = some o ∧ o.cls = .ref C ∧ o.dict = none ∧ o.data = .fields vs
theorem excO_ok {P : Program} {w : World} {H : Hp} {h : Heap} {a C : Addr} {o : Obj} {vs : Array Value} (e : h.get? a = some o) (c : o.cls = .ref C) (d : o.dict = none) (q : o.data = .fields vs) : ObjOk P w H h a (ExcO a C) :=
  ⟨⟨o, vs, e, c, d, q⟩, ⟨o, e⟩, fun _ _ ⟨o1, v1, e1, r⟩ k => ⟨o1, v1, k _ e1, r⟩⟩
theorem exc_class {K : PySem.W.Frag} {prog : Program} {w : World} {A : Around} {E : Value → Shared → Prop} {s : Shared} {x D : Addr} {o : Obj} {Q : Option Value → Shared → Prop} (X : K.In s.heap) (J : PySem.W.InstAt s.heap x o D none) (c : ExcC K D)
    (hf : PySem.W.findObj K D none "__class__" = some (.bind (.builtin "getset_descriptor.__get__") (.builtin "object.__class__"))) (k : Q (some (.ref D)) { s with toks := s.toks + 1 }) : wpAny (model prog w) A (getAttr? (.ref x) "__class__") Q E s := by
  obtain ⟨hh, g, d, t, os⟩ := s
  have L0 := J.type (M := model prog w)
  have L1 := PySem.W.looks_findIn (M := model prog w) X c.ga
  have L2 := PySem.W.looks_findIn (M := model prog w) X c.gb
  have L3 := PySem.W.looks_mroIn (M := model prog w) X c.mb
  have L4 := PySem.W.looks_find (M := model prog w) X J hf
  have hk : builtinKind "BaseException.__getattribute__" = some .slot := by decide +kernel
  have hsplit : splitId "BaseException.__getattribute__" = some ("BaseException", "__getattribute__") := by decide +kernel
  have ha := F.args_bexc_ga (.ref x) (.str "__class__" t)
  unfold getAttr? getAttrBy? getAttrBy
  refine wpAny_bind (wpAny_mkText (wpAny_bind (wpAny_attempt (wpAny_holding (wpAny_bind (L0.at (wpAny_bind (L1.at ?_))))))))
  show wpAny _ _ (getAttrByItsOwn _ _ _ _ _ _) _ _ _
  unfold getAttrByItsOwn
  refine wpAny_bind (m := typeLookup (.ref D) "__getattr__") (L2.at ?_)
  refine wpAny_bind (wpAny_attempt (wpAny_holding ?_))
  show wpAny _ _ (boundAndCalled _ _ _) _ _ _
  unfold boundAndCalled
  rw [F.excAttr_ValueError.ga.bind (.ref x)]
  refine wpAny_bind (wpAny_pure ?_)
  refine wpAny_call (codeAny_call_builtin F.excAttr_ValueError.ga.plain F.entry_bexc_ga ?_)
  have LI : PySem.W.Looks (model prog w) hh (isInstance (.ref x) (.type "BaseException")) true := L0.andThen L3
  simp only [checkBuiltinCall, hk, hsplit]
  refine wpAny_bind (LI.at ?_)
  simp only [Bool.not_true, Bool.false_eq_true, if_false]
  repeat (first | assumption | with_reducible refine PySem.W.Looks.at (by assumption) ?_ | wp_step)
  refine PySem.W.class_get (s := ⟨hh, g, d, t + 1, os⟩) (ox := o) (od := none) X J c.mo ?_
  refine wpAny_pure ?_
  exact PySem.W.handed_on rfl (wpAny_pure k)
theorem kitx_exc {K : PySem.W.Frag} {x D : Addr} (c : ExcC K D) : PySem.W.KitX K (.ref x) (.ref D) (fun h => ∃ o vs, h.get? x = some o ∧ o.cls = .ref D ∧ o.dict = none ∧ o.data = .fields vs) where
  ty := fun M h _ ⟨o, vs, e, hc, _⟩ => hc ▸ (PySem.W.Looks.ld e).andThen .now
  it := fun M h X _ => by
    obtain ⟨q, hq, _⟩ := PySem.W.any_some c.hd
    unfold PySem.W.clsIn at hq
    split at hq
    · rename_i ho
      intro A' Q' E' s' k z
      unfold isType loadHead
      exact wpAny_bind (wpAny_loadPart (k _ _ (X _ _ ho)) (wpAny_pure z))
    · cases hq
  ne := fun h tp dd its n sl X htp => by
    obtain ⟨q, hq, _⟩ := PySem.W.any_some c.hd
    refine Bool.eq_false_iff.mpr fun z => ?_
    have e : D = tp := Value.ref.inj (beq_iff_eq.mp z)
    subst e
    unfold PySem.W.clsIn at hq
    split at hq
    · rename_i ho
      have z := (X _ _ ho).symm.trans htp
      cases z
    · cases hq
  ca := fun {prog w A E Q s} X ⟨o, vs, e, hc, hd, hq⟩ k => by
    have J : PySem.W.InstAt s.heap x o D none := ⟨e, hc, by unfold PySem.W.notCls; rw [hq], by rw [hd]; trivial⟩
    have hf : PySem.W.findObj K D none "__class__" = some (.bind (.builtin "getset_descriptor.__get__") (.builtin "object.__class__")) := by
      obtain ⟨cdd, h1, _⟩ := PySem.W.any_some c.hd
      unfold PySem.W.findObj
      rw [h1, Option.bind_some, c.ca, Option.bind_some]
      simp [c.cg, c.ct]
    exact exc_class X J c hf k
section
variable {X : Cx}
/-- isinstance(e, C'), e an exception of the class at C -/
theorem call_isiE : CallR X (.builtin "isinstance") (fun xs H Q => ∃ (a C : Addr) (c : V) (cv : Value) (b : Bool), xs = [.ref a, c] ∧ H a = some (ExcO a C) ∧ ExcC X.K C ∧ (c = .ty "ValueError" ∧ cv = .type "ValueError" ∨ ∃ D, c = .ref D ∧ cv = .ref D) ∧ PySem.W.kitOne X.K (.ref C) cv = some b ∧ Q (.bl b) H) := by
  intro pins s σ H xs us Q I r ⟨a, C, c, cv, b, e, hq, hx, hc, k, q⟩
  subst e
  obtain ⟨u, w', e, ru, rw'⟩ := Vals.two r
  subst e
  cases ru
  have hcv : w' = cv := by
    rcases hc with ⟨h1, h2⟩ | ⟨D, h1, h2⟩
    · subst h1 h2; exact rw'
    · subst h1 h2; exact rw'
  subst hcv
  obtain ⟨p, _, _⟩ := (show ObjOk X.prog X.w H s.heap a (ExcO a C) from I.hok a _ hq)
  exact PySem.W.kia_one (kitx_exc hx) I.kIn p k (fun z => nomatch z) fun tk => ⟨.bl _, H, I.tok tk, rfl, q⟩
noncomputable def rIsiE (K : PySem.W.Frag) : List V → Hp → VK → Prop := fun xs H Q => ∃ (a C : Addr) (c : V) (cv : Value) (b : Bool), xs = [.ref a, c] ∧ H a = some (ExcO a C) ∧ ExcC K C ∧ (c = .ty "ValueError" ∧ cv = .type "ValueError" ∨ ∃ D, c = .ref D ∧ cv = .ref D) ∧ PySem.W.kitOne K (.ref C) cv = some b ∧ Q (.bl b) H
theorem call_isiEK (K : PySem.W.Frag) (hK : X.K = K) : CallR X (.builtin "isinstance") (rIsiE K) := by
  subst hK
  exact call_isiE
end
theorem kitCls_of {K : PySem.W.Frag} {t : Value} {D : Addr} {b : Bool} (hd : PySem.W.hasDictIn K D = true) (ty : PySem.W.typeIn K (.ref D) = some (.type "type")) (sb : PySem.W.subIn K t (.ref D) = some b) : PySem.W.kitCls K t (.ref D) = some b := by
  obtain ⟨q, hq, _⟩ := PySem.W.any_some hd
  unfold PySem.W.kitCls
  simp [hq, ty, sb]
theorem kitBase_of {K : PySem.W.Frag} {D : Addr} (sb : PySem.W.subIn K (.ref D) (.type "BaseException") = some true) : PySem.W.kitCls K (.ref D) (.type "BaseException") = some true := by
  unfold PySem.W.kitCls
  dsimp only
  rw [if_pos (by decide +kernel), sb]
theorem exc_match {K : PySem.W.Frag} {M : Model} {A : Around} {E : Value → Shared → Prop} {s : Shared} {e C D : Addr} {o : Obj} {Q : Bool → Shared → Prop} (X : K.In s.heap) (he : s.heap.get? e = some o) (hc : o.cls = .ref C) (hs : PySem.W.kitCls K (.ref C) (.ref D) = some true)
    (hb : PySem.W.kitCls K (.ref D) (.type "BaseException") = some true) (q : Q true s) : wpAny M A (excMatches (.ref e) (.ref D)) Q E s := by
  obtain ⟨t1, t2, t3⟩ := PySem.W.kit_cls (M := M) X hs
  obtain ⟨_, _, t6⟩ := PySem.W.kit_cls (M := M) X hb
  have te : PySem.W.Looks M s.heap (typeOf (.ref e)) (.ref C) := hc ▸ (PySem.W.Looks.ld he).andThen .now
  have i1 : PySem.W.Looks M s.heap (isInstance (.ref D) (.type "tuple")) false := t1.andThen (.of_pure tc_notTuple)
  have i2 : PySem.W.Looks M s.heap (isExcClass (.ref D)) true := by
    unfold isExcClass
    exact t2.andThen t6
  unfold excMatches
  refine wpAny_bind (m := isInstance (.ref D) (.type "tuple")) (i1.here ?_)
  dsimp only
  rw [if_neg Bool.false_ne_true]
  refine wpAny_bind (wpAny_pure ?_)
  rw [List.forIn_cons]
  refine wpAny_bind (wpAny_bind (wpAny_bind (m := isExcClass (.ref D)) (i2.here ?_)))
  rw [if_neg (by decide)]
  refine wpAny_pure ?_
  (try dsimp only)
  rw [List.forIn_nil]
  refine wpAny_pure ?_
  refine wpAny_bind (te.here ?_)
  rw [List.forIn_cons]
  refine wpAny_bind (wpAny_bind (wpAny_bind (t3.here ?_)))
  rw [if_pos rfl]
  exact wpAny_pure (wpAny_pure (wpAny_pure q))
end L2

set_option Elab.async false
set_option linter.all false
set_option maxRecDepth 100000
namespace L2
open PySem PySem.Spec PyProof.Rows
/-! ### expressions that may raise; try .. except C as n -/
noncomputable def PEX (X : Cx) (e : Expr) (t : St → Hp → VK → XK → Prop) : Prop :=
  ∀ (pins : List (Addr × Obj)) (s : Shared) (σ : St) (H : Hp) (Q : VK) (E : XK), Inv X pins σ H s → t σ H Q E → wpAny (model X.prog X.w) X.A (eval e X.env) (EP X pins σ Q) (XP X pins σ E) s
section
variable {X : Cx} {k : Nat} {f C : Addr} {fd : FuncData} {ps : List Str} {sp : Sp} {dvs : List V} {ds : List Value} {x m : Str} {p pos apos : Pos} {e o : Expr} {es : List Expr} {ta : TE} {t : TA}
theorem run_fnX {pins : List (Addr × Obj)} {σ : St} {H : Hp} {s : Shared} {Q : VK} {E : XK} {us : List Value} {vs : List V} (F : FnOk X.prog X.w X.K X.mg X.base (CX1 X.prog X.w) k f fd ps sp) (hr : Room k X.A) (hb : Binds X.K fd ps ds) (hd : Vals dvs ds) (hex : X.ex = [])
    (I : Inv X pins σ H s) (r : Vals vs us) (h : sp (vs ++ dvs) H Q E) : wpAny (model X.prog X.w) X.A (call (.ref f) us) (EP X pins σ Q) (XP X pins σ E) s := by
  have r2 : Vals (vs ++ dvs) (us ++ ds) := r.append hd
  have hl : (us ++ ds).length = ps.length := by rw [← r2.length]; exact F.len _ _ _ _ h
  refine wpAny_call (codeAny_mono (F.run X.A X.stack s H ⟨us, []⟩ (us ++ ds) (vs ++ dvs) Q E hr I.env0 (hb s us I.kIn hl) r2 h) fun r s' hq => ?_)
  cases r with
  | error e => exact xp_of I hex hq
  | ok fl =>
    cases fl with
    | ret u => exact I.after hq
    | next => exact False.elim hq
    | brk => exact False.elim hq
    | cont => exact False.elim hq
noncomputable def tCallX (sp : Sp) (dvs : List V) (t : TA) : St → Hp → VK → XK → Prop := fun σ H Q E => t σ H fun vs H1 => sp (vs ++ dvs) H1 Q E
theorem PA.nx (ha : PA X.nox es t) {pos : Pos} {pins : List (Addr × Obj)} {s : Shared} {σ : St} {H : Hp} {Q : List V → Hp → Prop} {XE : Value → Shared → Prop} (I : Inv X pins σ H s) (h : t σ H Q) :
    wpAny (model X.prog X.w) X.A (spliced (backTo pos (starEach es X.env))) (AP X pins σ Q) XE s :=
  wpAny_mono (ha pos pins s σ H Q (I.wish _) h) (fun us s1 ⟨vs, H1, I1, r⟩ => ⟨vs, H1, I1.unwish, r⟩) fun _ _ z => z.elim
theorem pex_call (F : FnOk X.prog X.w X.K X.mg X.base (CX1 X.prog X.w) k f fd ps sp) (hr : Room k X.A) (hg : Gl X x) (hm : X.mg x = some (.ref f)) (hk : PySem.W.keepIn X.K (.ref f) = true) (hb : Binds X.K fd ps ds) (hd : Vals dvs ds) (hex : X.ex = [])
    (ha : PA X.nox (e :: es) t) (hdb : (x == ("__debug__" : Str)) = false := by decide) (he : starEach (e :: es) X.env = (false, eval e X.env) :: starEach es X.env := by rfl) (hpl : (backTo pos (starEach es X.env)).any (·.1) = false := by rfl) :
    PEX X (.Call (.Name x p) (e :: es) [] pos) (tCallX sp dvs t) := by
  intro pins s σ H Q E I h
  refine wpAny_Call_Name_kw (ld_glob I hg hm ?_ hdb)
  refine PySem.W.callWith_K (h₀ := X.base) I.ok.mod.kin hk (thn (ha.nx I h) fun us s1 ⟨vs, H1, I1, r, q⟩ => ⟨I1.kIn, ?_⟩) he hpl
  exact run_fnX F hr hb hd hex I1 r q
end

/-- within the except suite -/
noncomputable def Cx.held (X : Cx) (ea : Addr) : Cx := { X with A := X.A.mark (some (.ref ea)), calm := false, xe := fun _ _ => False }
theorem Cx.Ok.held {X : Cx} (ok : X.Ok) (ea : Addr) : (X.held ea).Ok := ⟨ok.mod, ok.kind, ok.glob, ok.blt, ok.above, ok.inj, ok.has, ok.cab, (fun z => by cases z), ok.frames, ok.stk, ok.exf, ok.bs, ok.bsz, ok.noex, ok.exfs, ok.funs, ok.frf⟩
theorem Inv.held {X : Cx} {pins : List (Addr × Obj)} {σ : St} {H : Hp} {s : Shared} (I : Inv X pins σ H s) (ea : Addr) : Inv (X.held ea) pins σ H s := ⟨I.ok.held ea, I.os, I.bare, I.base, I.loc, I.cell, I.free, I.freeC, I.pin, I.hok, I.len⟩
theorem Inv.unheld {X : Cx} {pins : List (Addr × Obj)} {σ : St} {H : Hp} {s : Shared} {ea : Addr} (ok : X.Ok) (I : Inv (X.held ea) pins σ H s) : Inv X pins σ H s := ⟨ok, I.os, I.bare, I.base, I.loc, I.cell, I.free, I.freeC, I.pin, I.hok, I.len⟩
/-- the name of an except clause goes -/
theorem name_gone {X : Cx} {M : Model} {A : Around} {E : Value → Shared → Prop} {pins : List (Addr × Obj)} {σ : St} {H : Hp} {s : Shared} {i : Nat} {n : Str} {pos : Pos} {Q : Unit → Shared → Prop} (I : Inv X pins σ H s) (hN : X.N.Nodup) (hi : X.N[i]? = some n) (hl : X.env.kindOf n = some .local)
    (h : ∀ s', Inv X pins (σ.set i none) H s' → Q () s') : wpAny M A (do bindName X.env n .none; unbindBehindTheSuite X.env n pos) Q E s := by
  obtain ⟨m, hn, hloc⟩ := I.loc
  refine wpAny_nameGoes_keeps hl hn (by rw [I.ok.kind]; rfl) fun h' v hn' sb => h _ ?_
  have kb : ∀ b o, b ≠ X.env.locals → s.heap.get? b = some o → h'.get? b = some o := fun b o hb e => (sb.2 b hb).trans e
  have cellK : ∀ x c, X.env.cells.lookup x = some c → ∀ u, s.heap.IsCell c u → h'.IsCell c u := fun x c e u ⟨o, ho, hd⟩ => ⟨o, kb c o (I.cne x c e) ho, hd⟩
  have neL : ∀ b o, X.s₀.heap.get? b = some o → b ≠ X.env.locals := fun b o e => Nat.ne_of_lt (Nat.lt_of_lt_of_le (Heap.lt_size e) I.ok.above)
  have tL : ∀ b u, H b = some u → b ≠ X.env.locals := fun b u e z => by rw [z, I.free] at e; cases e
  refine ⟨I.ok, I.os, I.bare, ⟨fun b o e n' hb hx => kb b o (neL b o e) (I.base.keep b o e n' hb hx), fun b o e n' hb hx => ?_, I.base.free, fun b o e hx => ?_, I.base.tups, I.base.frzs, I.base.tbls⟩, ⟨_, hn', fun j y u e1 e2 e3 => ?_⟩, fun x c e => ?_, I.free, I.freeC, fun p hp => ?_, fun b o e => ?_, ?_⟩
  · obtain ⟨sl, e1⟩ := I.base.slot b o e n' hb hx
    exact ⟨sl, kb b _ (neL b o e) e1⟩
  · obtain ⟨o', e1⟩ := I.base.there b o e hx
    exact ⟨o', kb b o' (neL b o e) e1⟩
  · have nij : j ≠ i := fun z => by
      subst z
      rw [List.getElem?_set] at e2
      split at e2
      · split at e2 <;> cases e2
      · rename_i z; exact absurd rfl z
    rw [List.getElem?_set_ne (Ne.symm nij)] at e2
    obtain ⟨u', r, l⟩ := hloc j y u e1 e2 e3
    have nyn : y ≠ n := fun z => nij (nodup_ix hN e1 (z ▸ hi))
    refine ⟨u', r, ?_⟩
    rcases l with ⟨k1, k2⟩ | ⟨k1, c, k2, k3⟩
    · refine .inl ⟨k1, ?_⟩
      show (if y = n then v else m y) = some u'
      rw [if_neg nyn]; exact k2
    · exact .inr ⟨k1, c, k2, cellK y c k2 _ k3⟩
  · obtain ⟨u, z⟩ := I.cell x c e
    exact ⟨u, cellK x c e u z⟩
  · obtain ⟨e, n', ne, nf, d⟩ := I.pin p hp
    exact ⟨kb p.1 p.2 ne e, n', ne, nf, d⟩
  · refine (I.hok b o e).stay (fun c u hc q => kb c u ?_ q) (fun _ q => q) fun _ _ q => q
    rcases hc with rfl | hc
    · exact tL _ _ e
    · exact tL _ _ hc
  · rw [List.length_set]; exact I.len
/-- a record of ours is tracked from here on -/
theorem Inv.track {X : Cx} {pins : List (Addr × Obj)} {σ : St} {H : Hp} {s : Shared} {a : Addr} {o : HO} (I : Inv X pins σ H s) (r : Rec X pins H a) (new : ObjOk X.prog X.w (upd H a o) s.heap a o) : Inv X pins σ (upd H a o) s := by
  obtain ⟨q1, q2, q3, q4, q5, q6⟩ := r
  have ne : ∀ b u, H b = some u → b ≠ a := fun b u e z => by rw [z, q1] at e; cases e
  have st : ∀ b u, H b = some u → upd H a o b = some u := fun b u e => by rw [upd_ne (ne b u e)]; exact e
  refine ⟨I.ok, I.os, I.bare, ⟨I.base.keep, I.base.slot, fun b ob e n hx => ?_, I.base.there, fun b xs e => st _ _ (I.base.tups b xs e), fun b ob u e => st _ _ (I.base.frzs b ob u e), fun b ps e => ?_⟩, I.loc, I.cell, ?_, fun x c e => ?_, fun p hp => ?_, fun b u e => ?_, I.len⟩
  · rw [upd_ne (fun z => by rw [z, q4] at e; cases e)]
    exact I.base.free b ob e n hx
  · obtain ⟨m1, e1⟩ := I.base.tbls b ps e
    exact ⟨m1, st _ _ e1⟩
  · rw [upd_ne (Ne.symm q2)]; exact I.free
  · rw [upd_ne (q5 x c e)]; exact I.freeC x c e
  · obtain ⟨e, n, nl, nf, d⟩ := I.pin p hp
    exact ⟨e, by rw [upd_ne (q6 p hp)]; exact n, nl, nf, d⟩
  · by_cases hb : b = a
    · subst hb; rw [upd_same] at e; cases e; exact new
    · rw [upd_ne hb] at e
      exact (I.hok b u e).stay (fun _ _ _ q => q) (fun c q => st _ _ q) fun c xs q => st _ _ q
/-- try: e except C as n: suite -/
noncomputable def tTry (K : PySem.W.Frag) (t : St → Hp → VK → XK → Prop) (D : Addr) (i : Nat) (ts : TS) : TS := fun En σ H => t σ H (fun _ H1 => En.nx σ H1) fun cls _ H1 => ∃ C, cls = .ref C ∧ PySem.W.kitCls K (.ref C) (.ref D) = some true ∧
  ∀ ea, H1 ea = none → ts { nx := fun σ' H' => En.nx (σ'.set i none) H', rt := En.rt, bk := fun σ' H' => En.bk (σ'.set i none) H', ct := fun σ' H' => En.ct (σ'.set i none) H' } (σ.set i (some (.ref ea))) (upd H1 ea (ExcO ea C))
theorem ps_try {X : Cx} {e : Expr} {t : St → Hp → VK → XK → Prop} {x n : Str} {D L : Addr} {i : Nat} {ts : TS} {b0 : Stmt} {suite : List Stmt} {np p2 hp pos : Pos} (hb : PEX X e t) (hg : Gl X x) (hm : X.mg x = some (.ref D)) (hD : PySem.W.kitCls X.K (.ref D) (.type "BaseException") = some true)
    (hN : X.N.Nodup) (hi : X.N[i]? = some n) (hl : X.env.scope.names.lookup n = some .local) (hex : X.ex = []) (hst : X.stack = X.env :: X.outer) (hf : X.env.frame = some L)
    (hs : ∀ ea, PSs (X.held ea) (b0 :: suite) ts) (hw : swapsWith e none p2.line X.env = pure false := by rfl) (hdb : (x == ("__debug__" : Str)) = false := by decide) :
    PS X (.Try [.Expr e p2] [.ExceptHandler (some (.Name x np)) (some n) (b0 :: suite) hp] [] [] pos) (tTry X.K t D i ts) := by
  intro pins s σ H En I h
  refine wpAny_Try_except (wpAny_execs_cons (wpAny_Expr_any (wpAny_mono (hb pins s σ H _ _ I h) (fun v s1 ⟨y, H1, I1, r1, q1⟩ => ?_) fun ev s1 hx => ?_) I.quiet hw))
  · exact wpAny_execs_nil (wpAny_execs_nil ⟨σ, H1, I1, q1⟩)
  · obtain ⟨ea, T, cls, H1, rfl, I1, fl, r1, r2, C, rfl, hk, q⟩ := hx
    have hfr : X.A.frames = some (X.env :: X.outer) := by rw [← hst]; exact I1.ok.frames
    have hfu : s1.heap.FunFrames X.base (X.env :: X.outer) := by rw [← hst]; exact I1.stack
    refine note_next hfr hfu hf fl fun h1 f1 t1 => ?_
    refine flight_none f1 fun h2 f2 t2 sz => ?_
    have rn := I1.recd_new hex
    have hR : ∀ b ∈ [ea, T, s1.heap.objs.size], Rec X pins H1 b := by
      intro b hb
      simp only [List.mem_cons, List.not_mem_nil, or_false] at hb
      rcases hb with z | z | z
      · rw [z]; exact r1
      · rw [z]; exact r2
      · rw [z]; exact rn
    have t12 : Trn (frs X.stack) [ea, T, s1.heap.objs.size] s1.heap h2 := by rw [hst]; exact (t1.mono (by simp)).trans ((t2 _).mono (by simp))
    have I2 : Inv X pins σ H1 { s1 with heap := h2 } := I1.trn (t' := s1.toks) hR t12
    have I2h := I2.held ea
    obtain ⟨oe, vs, oT, tts, he, hc, hdc, hd, hv1, nT, hT, hdT, h3⟩ := id f2
    refine wpAny_handleBy_cons (codeAny_handlers_test (ld_glob (X := X.held ea) I2h hg hm ?_ hdb)) (by intro q; cases q)
    refine exc_match I2.kIn he hc hk hD ?_
    rw [if_pos rfl]
    refine codeAny_handlers_suite_as ?_
    refine flight_none (s := { s1 with heap := h2 }) f2 fun h4 f4 t4 sz4 => ?_
    have I4 : Inv X pins σ H1 { s1 with heap := h4 } := I2.trn (t' := s1.toks) (R := [s1.heap.objs.size]) (fun b hb => by
      have z : b = s1.heap.objs.size := by simpa using hb
      rw [z]; exact rn) (t4 _)
    obtain ⟨oe4, vs4, _, _, he4, hc4, hdc4, hd4, _⟩ := id f4
    have I5 : Inv X pins σ (upd H1 ea (ExcO ea C)) { s1 with heap := h4 } := I4.track r1 (excO_ok he4 hc4 hdc4 hd4)
    refine store_ok (X := X.held ea) (v := .ref ea) (I5.held ea) hN hi (.inl hl) rfl (fun s6 I6 => ?_) (.inr hl)
    refine wpAny_mono (hs ea pins s6 _ _ _ I6 (q ea r1.1)) (fun fw s7 q7 => ?_) fun _ _ z => z.elim
    cases fw with
    | next => obtain ⟨σ7, H7, I7, q7⟩ := q7; exact name_gone (I7.unheld I.ok) hN hi hl fun s8 I8 => ⟨_, H7, I8, q7⟩
    | cont => obtain ⟨σ7, H7, I7, q7⟩ := q7; exact name_gone (I7.unheld I.ok) hN hi hl fun s8 I8 => ⟨_, H7, I8, q7⟩
    | brk => obtain ⟨σ7, H7, I7, q7⟩ := q7; exact name_gone (I7.unheld I.ok) hN hi hl fun s8 I8 => ⟨_, H7, I8, q7⟩
    | ret v => obtain ⟨x7, σ7, H7, I7, r7, q7⟩ := q7; exact name_gone (I7.unheld I.ok) hN hi hl fun s8 I8 => ⟨x7, _, H7, I8, r7, q7⟩
end L2

set_option Elab.async false
set_option linter.all false
set_option maxRecDepth 100000
/-! EXTENSION 7: f-strings, list.insert -/
namespace L2
open PySem PySem.Spec PyProof.Rows
end L2

set_option linter.all false
/-! Own work: rows, offers, dues, rounds (the mathematics; no model in it). A row's by: -1 for none. -/
namespace RM
structure Row where
  hd : Int
  co : Int
  ho : Int
  by_ : Int
deriving DecidableEq
noncomputable def lt (r s : Row) : Prop := r.hd < s.hd ∨ (r.hd = s.hd ∧ (r.co < s.co ∨ (r.co = s.co ∧ (r.ho < s.ho ∨ (r.ho = s.ho ∧ r.by_ < s.by_)))))
instance (r s : Row) : Decidable (lt r s) := by unfold lt; infer_instance
noncomputable def le (r s : Row) : Prop := ¬ lt s r
instance (r s : Row) : Decidable (le r s) := by unfold le; infer_instance
/-- a town: names, and ropes by their numbers -/
structure Net where
  n : Nat
  nm : Nat → Int
  a : Nat → Nat
  b : Nat → Nat
  c : Nat → Int
  live : List Nat
  inj : ∀ i j, i < n → j < n → nm i = nm j → i = j
  ab : ∀ k ∈ live, a k < n ∧ b k < n ∧ a k ≠ b k
  c1 : ∀ k ∈ live, 1 ≤ c k
section
variable (N : Net)
noncomputable def own (h : Nat) : Row := ⟨N.nm h, 0, 0, -1⟩
end
variable {N : Net}
noncomputable def upd (R : Nat → Row) (h : Nat) (d : Row) : Nat → Row := fun x => if x = h then d else R x
/-! ### there are rows at rest, just one -/
/-! ### parts; heads -/
/-! ### hanging -/
/-! ### a fall touches those beyond alone -/
/-! ### how many rounds -/
end RM

set_option linter.all false
/-! labels that go along live ropes (the mathematics; no model in it) -/
namespace RM
variable {N : Net}
end RM

set_option Elab.async false
set_option linter.all false
set_option maxRecDepth 100000
/-! EXTENSION 8: t < u of tuples that are told apart by ints, though they hold None -/
namespace L2
open PySem PySem.Spec PyProof.Rows
section
open PySem.SeqAt
open PySem.AutoSeq1 (wpAny_loadPart')
open PySem.MeetsSeq PySem.MeetsSeq2 PySem.MeetsSeq3
end
end L2
/-! rows -/
namespace RM
open PySem L2
/-- a row's by, as a value: None where it is below nought -/
noncomputable def byV (b : Int) : V := if b < 0 then .non else .int b
noncomputable abbrev rowV (r : Row) : List V := [.int r.hd, .int r.co, .int r.ho, byV r.by_]
theorem byV_non {b : Int} (h : b < 0) : byV b = .non := if_pos h
theorem byV_int {b : Int} (h : 0 ≤ b) : byV b = .int b := if_neg (by omega)
end RM

set_option Elab.async false
set_option linter.all false
set_option maxRecDepth 100000
/-! EXTENSION 9: min of rows: of two, of a list -/
namespace L2
open PySem PySem.Spec PyProof.Rows
end L2

set_option Elab.async false
set_option linter.all false
set_option maxRecDepth 100000
namespace L2
open PySem PySem.Spec PyProof.Rows RM
section
variable {X : Cx}
/-- two rows that ints tell apart -/
noncomputable def Apart (r s : RM.Row) : Prop := r.hd ≠ s.hd ∨ r.co ≠ s.co ∨ r.ho ≠ s.ho ∨ (0 ≤ r.by_ ∧ 0 ≤ s.by_)
end
end L2

set_option Elab.async false
set_option linter.all false
set_option maxRecDepth 100000
/-! EXTENSION 10: == of data within comprehensions; rows as data -/
namespace L2
open PySem PySem.Spec PyProof.Rows
end L2
namespace RM
open PySem L2
end RM

set_option Elab.async false
set_option linter.all false
set_option maxRecDepth 100000
/-! EXTENSION 11: zip of two lists -/
namespace L2
open PySem PySem.Spec PyProof.Rows
end L2

set_option Elab.async false
set_option linter.all false
set_option maxRecDepth 100000
/-! EXTENSION 12: max of a list of ints -/
namespace L2
open PySem PySem.Spec PyProof.Rows
end L2

set_option Elab.async false
set_option linter.all false
set_option maxRecDepth 100000
/-! EXTENSION 13: rows by their first three -/
namespace RM
open PySem L2
end RM
namespace L2
open PySem PySem.Spec PyProof.Rows
end L2
namespace L2
open PySem PySem.Spec PyProof.Rows
end L2

set_option Elab.async false
set_option linter.all false
set_option maxRecDepth 100000
/-! EXTENSION 14: for over zip(..) -/
namespace L2
open PySem PySem.Spec PyProof.Rows
end L2

set_option Elab.async false
set_option linter.all false
set_option maxRecDepth 100000
set_option maxHeartbeats 4000000
/-! DATA: towns, ropes, rows, lists of them, as they stand on the heap -/
namespace TW
open PySem L2 PyProof.Rows
open RM (rowV byV byV_non byV_int)
seal L2.PE L2.PA L2.PT L2.PW L2.PS L2.PSs L2.PG L2.PGs L2.PI L2.PTs
/-! whole -/
/-! joins -/
/-- a rope's five numbers -/
structure RopeOk (n : Int) (a b c d e : Int) : Prop where
  a0 : 0 ≤ a
  a1 : a < n
  b0 : 0 ≤ b
  b1 : b < n
  ab : a ≠ b
  c1 : 1 ≤ c
  d1 : 1 ≤ d
  d4 : d ≤ 4
  e1 : 1 ≤ e
  e7 : e ≤ 7
noncomputable abbrev five (a b c d e : Int) : List V := [.int a, .int b, .int c, .int d, .int e]
/-! ropes -/
/-- a rope -/
structure R5 where
  a : Int
  b : Int
  c : Int
  d : Int
  e : Int
noncomputable abbrev R5.vs (r : R5) : List V := five r.a r.b r.c r.d r.e
noncomputable abbrev R5.ns (r : R5) : List Int := [r.a, r.b, r.c, r.d, r.e]
noncomputable def R5.D (r : R5) : PyData := .tuple (r.ns.map .int)
noncomputable abbrev R5.Ok (n : Int) (r : R5) : Prop := RopeOk n r.a r.b r.c r.d r.e
/-- a list of ropes stands at l -/
noncomputable def Ropes (K : PySem.W.Frag) (H : Hp) (l : Addr) (rs : List R5) : Prop := Rep K H (.list (rs.map R5.D)) (.ref l)
section
variable {K : PySem.W.Frag} {H H' : Hp} {l : Addr} {rs : List R5}
theorem Ropes.mono (s : Same H H') (h : Ropes K H l rs) : Ropes K H' l rs := Rep.mono s h
theorem Ropes.at (h : Ropes K H l rs) : ∃ vs, SqL K H l vs ∧ vs.length = rs.length ∧ ∀ (i : Nat) r, rs[i]? = some r → ∃ p, vs[i]? = some (.ref p) ∧ SqT K H p r.vs := by
  obtain ⟨a, vs, e, q, r⟩ := h
  cases e
  refine ⟨vs, q, by rw [r.length, List.length_map], fun i x hx => ?_⟩
  obtain ⟨v, h1, h2⟩ := r.get (i := i) (d := x.D) (by rw [List.getElem?_map, hx]; rfl)
  obtain ⟨p, e, h3⟩ := Rep.of_intsT (ns := x.ns) h2
  subst e
  exact ⟨p, h1, h3⟩
end
theorem firstMet_nodup : ∀ (ns : List Int), ns.Nodup → (firstMet (fun i => ns.getD i 0) ns.length).length = ns.length := by
  intro ns hn
  have e : (List.range ns.length).map (fun i => ns.getD i 0) = ns := by
    apply List.ext_getElem
    · simp
    · intro i h1 h2
      simp at h1
      simp [List.getD_eq_getElem?_getD, h1]
  have key : ∀ (xs acc : List Int), (acc ++ xs).Nodup → xs.foldl step_dedup acc = acc ++ xs := by
    intro xs
    induction xs with
    | nil => intro acc _; simp
    | cons x xs ih =>
      intro acc h
      have hx : x ∉ acc := fun hm => by
        rw [List.nodup_append] at h
        exact h.2.2 x hm x (by simp) rfl
      have e1 : step_dedup acc x = acc ++ [x] := by
        unfold step_dedup
        simp [hx]
      rw [List.foldl_cons, e1, ih _ (by simpa using h)]
      simp
  unfold firstMet
  rw [e, key ns [] (by simpa using hn)]
  simp
/-! init -/
theorem putF_new {f : Str} {v : V} : ∀ {fs : List (Str × V)} {names : List Str}, fs.map (·.1) = names → names.contains f = false → putF f v fs = fs ++ [(f, v)]
  | [], _, _, _ => rfl
  | (g, u) :: r, _, e, h => by
    subst e
    rw [List.map_cons, List.contains_cons, Bool.or_eq_false_iff] at h
    have hn : ¬ g = f := fun z => by
      have := h.1
      rw [z] at this
      simp at this
    show (if g = f then (g, v) :: r else (g, u) :: putF f v r) = _
    rw [if_neg hn, putF_new rfl h.2]
    rfl
/-- all but one object of another kind stands -/
theorem sqL_but {K : PySem.W.Frag} {H H' : Hp} {p C dx : Addr} {fs : List (Str × V)} {a : Addr} {xs : List V} (k : ∀ b o, H b = some o → b ≠ p → H' b = some o) (hp : H p = some (.ins C dx fs)) (h : SqL K H a xs) : SqL K H' a xs := by
  rcases h with (h | ⟨o, h⟩) | h
  · exact .inl (.inl (k _ _ h (ne_of h hp (by intro z; cases z))))
  · exact .inl (.inr ⟨o, k _ _ h (ne_of h hp (by intro z; cases z))⟩)
  · exact .inr h
theorem sqT_but {K : PySem.W.Frag} {H H' : Hp} {p C dx : Addr} {fs : List (Str × V)} {a : Addr} {xs : List V} (k : ∀ b o, H b = some o → b ≠ p → H' b = some o) (hp : H p = some (.ins C dx fs)) (h : SqT K H a xs) : SqT K H' a xs := by
  rcases h with (h | ⟨o, h⟩) | h
  · exact .inl (.inl (k _ _ h (ne_of h hp (by intro z; cases z))))
  · exact .inl (.inr ⟨o, k _ _ h (ne_of h hp (by intro z; cases z))⟩)
  · exact .inr h
mutual
theorem rep_but {K : PySem.W.Frag} {H H' : Hp} {p C dx : Addr} {fs : List (Str × V)} (k : ∀ b o, H b = some o → b ≠ p → H' b = some o) (hp : H p = some (.ins C dx fs)) : ∀ {d : PyData} {v : V}, Rep K H d v → Rep K H' d v
  | .none, _, h => h
  | .bool _, _, h => h
  | .int _, _, h => h
  | .str _, _, h => h
  | .list ds, _, ⟨a, vs, e, q, r⟩ => ⟨a, vs, e, sqL_but k hp q, repAll_but k hp r⟩
  | .tuple ds, _, ⟨a, vs, e, q, r⟩ => ⟨a, vs, e, sqT_but k hp q, repAll_but k hp r⟩
  | .dict _, _, h => h
theorem repAll_but {K : PySem.W.Frag} {H H' : Hp} {p C dx : Addr} {fs : List (Str × V)} (k : ∀ b o, H b = some o → b ≠ p → H' b = some o) (hp : H p = some (.ins C dx fs)) : ∀ {ds : List PyData} {vs : List V}, RepAll K H ds vs → RepAll K H' ds vs
  | [], _, h => h
  | _ :: _, _, ⟨v, r, e, q, t⟩ => ⟨v, r, e, rep_but k hp q, repAll_but k hp t⟩
end
noncomputable abbrev flds (ln lr : Addr) (n m : Nat) : List (Str × V) := [("house_names", .ref ln), ("rope_tuples", .ref lr), ("size", .int n), ("many", .int m)]
/-- a town stands at p, its own lists at ln and lr -/
structure TownAt (K : PySem.W.Frag) (C : Addr) (H : Hp) (p ln lr : Addr) (ns : List Int) (rs : List R5) : Prop where
  ob : ∃ dx, H p = some (.ins C dx (flds ln lr ns.length rs.length))
  nl : H ln = some (.lst (ns.map V.int))
  rl : ∃ vs, H lr = some (.lst vs) ∧ RepAll K H (rs.map R5.D) vs
section
variable {K : PySem.W.Frag} {C : Addr} {H H' : Hp} {p ln lr : Addr} {ns : List Int} {rs : List R5}
theorem TownAt.mono (s : Same H H') (h : TownAt K C H p ln lr ns rs) : TownAt K C H' p ln lr ns rs := by
  obtain ⟨⟨dx, h1⟩, h2, vs, h3, h4⟩ := h
  exact ⟨⟨dx, s _ _ h1⟩, s _ _ h2, vs, s _ _ h3, h4.mono s⟩
end
/-! nmrope -/
/-! numbers -/
theorem eqV_int (a x : Int) : eqV (.int a) (.int x) = decide (x = a) := by
  show (a == x) = decide (x = a)
  by_cases e : x = a
  · rw [decide_eq_true e, e]; exact beq_self_eq_true a
  · rw [decide_eq_false e]; exact beq_eq_false_iff_ne.mpr (Ne.symm e)
theorem inV_ints (x : Int) (xs : List Int) : inV (.int x) (xs.map V.int) = decide (x ∈ xs) := by
  unfold inV
  induction xs with
  | nil => simp
  | cons y ys ih =>
    rw [List.map_cons, List.any_cons, ih, eqV_int]
    by_cases h1 : x = y
    · subst h1; simp
    · by_cases h2 : x ∈ ys
      · simp [h1, h2]
      · simp [h1, h2]
theorem flat_ints (xs : List Int) : (xs.map V.int).all flatV = true := by
  rw [List.all_eq_true]
  intro v hv
  obtain ⟨x, _, rfl⟩ := List.mem_map.mp hv
  rfl
noncomputable def above (xs : List Int) (x : Int) : Nat := (xs.filter fun y => decide (x ≤ y)).length
theorem above_lt {xs : List Int} {x : Int} (h : x ∈ xs) : above xs (x + 1) < above xs x := by
  unfold above
  induction xs with
  | nil => cases h
  | cons y ys ih =>
    have mono : (ys.filter fun y => decide (x + 1 ≤ y)).length ≤ (ys.filter fun y => decide (x ≤ y)).length := by
      clear ih h
      induction ys with
      | nil => simp
      | cons z zs ih2 =>
        simp only [List.filter_cons]
        by_cases h1 : x + 1 ≤ z
        · rw [if_pos (by simpa using h1), if_pos (by simp; omega)]; simp; exact ih2
        · rw [if_neg (by simpa using h1)]
          split
          · simp; omega
          · exact ih2
    simp only [List.filter_cons]
    by_cases hy : x = y
    · subst hy
      rw [if_neg (by simp; omega), if_pos (by simp)]
      simp; omega
    · have h2 : x ∈ ys := by
        rcases List.mem_cons.mp h with e | e
        · exact absurd e hy
        · exact e
      have := ih h2
      by_cases h1 : x + 1 ≤ y
      · rw [if_pos (by simpa using h1), if_pos (by simp; omega)]; simp; exact this
      · rw [if_neg (by simpa using h1), if_neg (by simp; omega)]; exact this
noncomputable def isNum (x : Int) : Prop := 0 ≤ x ∧ x < 1000000007
theorem at3p {x y z i : Int} (B : Int) (hx : 0 < x ∧ x ≤ B) (hy : 0 < y ∧ y ≤ B) (hz : 0 < z ∧ z ≤ B) (h0 : 0 ≤ i) (h3 : i < 3) : ∃ w, (0 < w ∧ w ≤ B) ∧ atI [V.int x, V.int y, V.int z] i = some (.int w) := by
  have : i = 0 ∨ i = 1 ∨ i = 2 := by omega
  rcases this with rfl | rfl | rfl
  · exact ⟨x, hx, rfl⟩
  · exact ⟨y, hy, rfl⟩
  · exact ⟨z, hz, rfl⟩
theorem at_head {xs : List Int} (h : 1 ≤ xs.length) : ∃ x, x ∈ xs ∧ atI (xs.map V.int) 0 = some (.int x) := by
  cases xs with
  | nil => simp at h
  | cons x xs => exact ⟨x, by simp, atI_nat (j := 0) rfl⟩
/-! wropes -/
theorem at2 {x z i : Int} (h0 : 0 ≤ i) (h3 : i < 2) : ∃ y, (y = x ∨ y = z) ∧ atI [V.int x, V.int z] i = some (.int y) := by
  have : i = 0 ∨ i = 1 := by omega
  rcases this with rfl | rfl
  · exact ⟨x, .inl rfl, rfl⟩
  · exact ⟨z, .inr rfl, rfl⟩
theorem at4 {x y z u i : Int} (lo hi : Int) (hx : lo ≤ x ∧ x ≤ hi) (hy : lo ≤ y ∧ y ≤ hi) (hz : lo ≤ z ∧ z ≤ hi) (hu : lo ≤ u ∧ u ≤ hi) (h0 : 0 ≤ i) (h4 : i < 4) : ∃ w, (lo ≤ w ∧ w ≤ hi) ∧ atI [V.int x, V.int y, V.int z, V.int u] i = some (.int w) := by
  have : i = 0 ∨ i = 1 ∨ i = 2 ∨ i = 3 := by omega
  rcases this with rfl | rfl | rfl | rfl
  · exact ⟨x, hx, rfl⟩
  · exact ⟨y, hy, rfl⟩
  · exact ⟨z, hz, rfl⟩
  · exact ⟨u, hu, rfl⟩
theorem ends_ok {n x y : Int} (hn : 2 ≤ n) : 0 ≤ x % n ∧ x % n < n ∧ 0 ≤ (x % n + 1 + y % (n - 1)) % n ∧ (x % n + 1 + y % (n - 1)) % n < n ∧ x % n ≠ (x % n + 1 + y % (n - 1)) % n := by
  have h1 := Int.emod_nonneg x (show n ≠ 0 by omega)
  have h2 := Int.emod_lt_of_pos x (show 0 < n by omega)
  have h3 := Int.emod_nonneg y (show n - 1 ≠ 0 by omega)
  have h4 := Int.emod_lt_of_pos y (show 0 < n - 1 by omega)
  have h5 := Int.emod_nonneg (x % n + 1 + y % (n - 1)) (show n ≠ 0 by omega)
  have h6 := Int.emod_lt_of_pos (x % n + 1 + y % (n - 1)) (show 0 < n by omega)
  refine ⟨h1, h2, h5, h6, ?_⟩
  generalize x % n = a at *
  generalize y % (n - 1) = b at *
  by_cases hlt : a + 1 + b < n
  · rw [Int.emod_eq_of_lt (by omega) hlt]; omega
  · rw [← Int.sub_emod_right, Int.emod_eq_of_lt (by omega) (by omega)]; omega
theorem ifS_by {c : TT} {t u r : TS} {D : Ends} {σ : L2.St} {H : Hp} (J : L2.St → Hp → Prop) (hn : ∀ σ H, J σ H → r D σ H) (h : (∀ σ H, J σ H → r D σ H) → tIfS c t u { D with nx := r D } σ H) : tSeq (tIfS c t u) r D σ H := h hn
/-! anyrow -/
/-! live -/
noncomputable abbrev natsV (ks : List Nat) : List V := ks.map fun k => V.int (k : Nat)
theorem natsV_snoc (ks : List Nat) (k : Nat) : natsV (ks ++ [k]) = natsV ks ++ [V.int (k : Nat)] := by
  unfold natsV
  rw [List.map_append]
  rfl
/-! near -/
/-! wdue -/
/-! fit -/
theorem ints_lay : ∀ ns : List Int, PyData.canLayAll0 (ns.map .int) = true
  | [] => rfl
  | n :: ns => by
    show (PyData.canLay0 (.int n) && PyData.canLayAll0 (ns.map .int)) = true
    rw [ints_lay ns]; rfl
theorem ints_deep : ∀ ns : List Int, PyData.depthAll (ns.map .int) = 0
  | [] => rfl
  | n :: ns => by
    show max (PyData.depth (.int n)) (PyData.depthAll (ns.map .int)) = 0
    rw [ints_deep ns]; rfl
/-! truth -/
/-! ownrows -/
/-! townat -/
/-! own -/
/-! due -/
theorem natsV_ints (ks : List Nat) : natsV ks = (ks.map fun k : Nat => (k : Int)).map V.int := by
  unfold natsV
  rw [List.map_map]
  rfl
theorem inV_nats (x : Nat) (xs : List Nat) : inV (.int (x : Nat)) (natsV xs) = decide (x ∈ xs) := by
  rw [natsV_ints, inV_ints]
  by_cases h : x ∈ xs
  · rw [decide_eq_true h]
    exact decide_eq_true (List.mem_map.mpr ⟨x, h, rfl⟩)
  · rw [decide_eq_false h]
    refine decide_eq_false fun z => h ?_
    obtain ⟨y, hy, e⟩ := List.mem_map.mp z
    have : y = x := by omega
    exact this ▸ hy
theorem flat_nats (xs : List Nat) : (natsV xs).all flatV = true := by rw [natsV_ints]; exact flat_ints _
/-! resting -/
/-! rowsdata -/
theorem cut_ints (ns : List Int) (a b : Nat) : ∃ cs : List Int, cutV (ns.map V.int) (some (a : Int)) (some (b : Int)) = cs.map V.int ∧ cs.length ≤ b - a := by
  refine ⟨(ns.drop (HT.sIx ns.length 0 (some (a : Int)))).take (HT.sIx ns.length ns.length (some (b : Int)) - HT.sIx ns.length 0 (some (a : Int))), ?_, ?_⟩
  · unfold cutV
    rw [List.length_map, List.map_take, List.map_drop]
  · rw [HT.sIx_nat, HT.sIx_nat, List.length_take, List.length_drop]
    omega
theorem snoc_at {α : Type} {xs : List α} {x y : α} {j : Nat} (h : (xs ++ [x])[j]? = some y) : xs[j]? = some y ∨ (j = xs.length ∧ y = x) := by
  by_cases hj : j < xs.length
  · rw [List.getElem?_append_left hj] at h
    exact .inl h
  · have := (List.getElem?_eq_some_iff.mp h).1
    rw [List.length_append] at this
    have e : j = xs.length := by have : j < xs.length + 1 := this; omega
    subst e
    rw [List.getElem?_append_right (Nat.le_refl _), Nat.sub_self] at h
    cases h
    exact .inr ⟨rfl, rfl⟩
/-! sets, rounds -/
/-! rests -/
/-! labels; what leads on, as data -/
theorem ixN_nat {n i : Nat} (h : i < n) : ixN n (i : Int) = some i := by
  unfold ixN
  rw [if_pos (by omega), if_pos (by omega)]
  simp
/-! the best of what leads on -/
end TW

set_option Elab.async false
set_option linter.all false
set_option maxRecDepth 100000
set_option maxHeartbeats 4000000
/-! DATA 2: by what houses hang -/
namespace TW
open PySem L2 PyProof.Rows
open RM (rowV byV byV_non byV_int)
seal L2.PE L2.PA L2.PT L2.PW L2.PS L2.PSs L2.PG L2.PGs L2.PI L2.PTs
section
open Classical
end
/-! what a law tells of a town -/
end TW

set_option Elab.async false
set_option linter.all false
set_option maxRecDepth 100000
/-! EXTENSION 15: sorted of a list of ints -/
namespace L2
open PySem PySem.Spec PyProof.Rows
theorem vals_of_ints {us : List Value} {ns : List Int} (h : IntsAre us ns) : Vals (ns.map V.int) us := by
  induction h with
  | nil => exact .nil
  | cons n t _ ih => exact .cons ⟨t, rfl⟩ ih
section
variable {X : Cx}
noncomputable def rSorted (K : PySem.W.Frag) : List V → Hp → VK → Prop := fun xs H Q => ∃ (a : Addr) (ns : List Int), xs = [.ref a] ∧ SqL K H a (ns.map V.int) ∧ ns.length < 64 ∧ ∀ l (ns' : List Int), H l = none → ns'.Perm ns → ns'.Pairwise (· ≤ ·) → Q (.ref l) (upd H l (.lst (ns'.map V.int)))
theorem call_sorted : CallR X (.builtin "sorted") (rSorted X.K) := by
  intro pins s σ H xs us Q I r ⟨a, ns, e, hq, h64, q⟩
  subst e
  obtain ⟨u, e, ru⟩ := Vals.one r
  subst e
  cases ru
  obtain ⟨its, rv, p, hz⟩ := I.list hq
  have hi : IntsAre its ns := intsAre_of rv
  have hlen := IntsAre.length hi
  refine sorted_ints (vs := its) p.isList hi (by omega) fun out ns' a1 a2 a3 => ?_
  obtain ⟨e, he⟩ := sortedAll_at s.heap its out
  refine ⟨.ref (s.heap.objs.size + 1), _, I.laid (a := s.heap.objs.size + 1) (o := .lst (ns'.map V.int)) (t' := s.toks) (fun b o e => sortedAll_old e) (Nat.le_succ _) ⟨?_, out.toList, e, vals_of_ints a1, ?_⟩, rfl, q _ ns' (I.hok.fresh (Nat.le_succ _)) a2 a3⟩
  · rw [List.length_map, a2.length_eq]
    exact Nat.le_of_lt (small1000 (by omega))
  · rw [he]
end
end L2

set_option Elab.async false
set_option linter.all false
set_option maxRecDepth 100000
set_option maxHeartbeats 4000000
/-! DATA 3: ways up, open ropes -/
namespace TW
open PySem L2 PyProof.Rows
open RM (rowV byV byV_non byV_int)
seal L2.PE L2.PA L2.PT L2.PW L2.PS L2.PSs L2.PG L2.PGs L2.PI L2.PTs
end TW

set_option Elab.async false
set_option linter.all false
set_option maxRecDepth 100000
set_option maxHeartbeats 4000000
/-! DATA 4: the pairs of open ropes -/
namespace TW
open PySem L2 PyProof.Rows Gr
open RM (rowV byV byV_non byV_int)
end TW

set_option Elab.async false
set_option linter.all false
set_option maxRecDepth 100000
/-! EXTENSION 16: list(reversed(xs)), list(range(a, b)) -/
namespace L2
open PySem PySem.Calls PySem.Spec PyProof.Rows PyProof.V PySem.W
end L2
namespace L2
open PySem PySem.Calls PySem.Spec PyProof.Rows PyProof.V PySem.W
end L2

set_option Elab.async false
set_option linter.all false
set_option maxRecDepth 100000
set_option maxHeartbeats 4000000
/-! DATA 5: one way at most where ropes hold no ring -/
namespace Gr
end Gr
namespace TW
open PySem L2 PyProof.Rows Gr
end TW

set_option Elab.async false
set_option linter.all false
set_option maxRecDepth 100000
/-! EXTENSION 17: list(range(a, b)) -/
namespace L2
open PySem PySem.Calls PySem.Spec PyProof.Rows PyProof.V PySem.W
end L2
namespace TW
open PySem L2 PyProof.Rows Gr
end TW

set_option Elab.async false
set_option linter.all false
set_option maxRecDepth 100000
/-! strands: the wires that stand -/
namespace TW
open PySem L2 PyProof.Rows
/-- the wires that stand, by a row of truths -/
noncomputable def stand (b : List Bool) : List Nat := (List.range b.length).filter fun k => b.getD k false
theorem mem_stand {b : List Bool} {k : Nat} : k ∈ stand b ↔ b[k]? = some true := by
  unfold stand
  rw [List.mem_filter, List.mem_range, List.getD_eq_getElem?_getD]
  constructor
  · rintro ⟨h1, h2⟩
    rw [List.getElem?_eq_getElem h1] at h2 ⊢
    simpa using h2
  · intro h
    have h1 := (List.getElem?_eq_some_iff.mp h).1
    exact ⟨h1, by rw [h]; rfl⟩
theorem stand_rise (b : List Bool) : (stand b).Pairwise (· < ·) := List.Pairwise.filter _ List.pairwise_lt_range
theorem stand_len (b : List Bool) : (stand b).length ≤ b.length := by
  have := List.length_filter_le (fun k => b.getD k false) (List.range b.length)
  rw [List.length_range] at this
  exact this
theorem rise_ext : ∀ {xs ys : List Nat}, xs.Pairwise (· < ·) → ys.Pairwise (· < ·) → (∀ k, k ∈ xs ↔ k ∈ ys) → xs = ys
  | [], [], _, _, _ => rfl
  | [], y :: ys, _, _, h => absurd ((h y).mpr (by simp)) (by simp)
  | x :: xs, [], _, _, h => absurd ((h x).mp (by simp)) (by simp)
  | x :: xs, y :: ys, hx, hy, h => by
    rw [List.pairwise_cons] at hx hy
    have e : x = y := by
      have h1 := (h x).mp (by simp)
      have h2 := (h y).mpr (by simp)
      rw [List.mem_cons] at h1 h2
      rcases h1 with h1 | h1
      · exact h1
      · rcases h2 with h2 | h2
        · exact h2.symm
        · have := hx.1 _ h2
          have := hy.1 _ h1
          omega
    subst e
    rw [rise_ext hx.2 hy.2 fun k => ?_]
    constructor
    · intro hk
      rcases List.mem_cons.mp ((h k).mp (List.mem_cons_of_mem _ hk)) with rfl | z
      · exact absurd (hx.1 _ hk) (Nat.lt_irrefl _)
      · exact z
    · intro hk
      rcases List.mem_cons.mp ((h k).mpr (List.mem_cons_of_mem _ hk)) with rfl | z
      · exact absurd (hy.1 _ hk) (Nat.lt_irrefl _)
      · exact z
theorem stand_fall {b : List Bool} {k : Nat} : (stand b).filter (fun j => decide (j ≠ k)) = stand (b.set k false) := by
  refine rise_ext (List.Pairwise.filter _ (stand_rise b)) (stand_rise _) fun j => ?_
  rw [List.mem_filter, mem_stand, mem_stand, List.getElem?_set]
  by_cases e : k = j
  · subst e
    simp
  · rw [if_neg e]
    simp [Ne.symm e]
theorem stand_lay {b : List Bool} {k : Nat} {xs : List Nat} (hk : b[k]? = some false) (hp : xs.Perm (stand b ++ [k])) (hs : xs.Pairwise (· ≤ ·)) : xs = stand (b.set k true) := by
  have hn : (stand b ++ [k]).Nodup := by
    rw [List.nodup_append]
    refine ⟨(stand_rise b).imp fun z => Nat.ne_of_lt z, by simp, fun x hx y hy => ?_⟩
    have : y = k := by simpa using hy
    subst this
    intro e
    subst e
    rw [mem_stand, hk] at hx
    cases hx
  have hx := (hp.nodup_iff).mpr hn
  have hl : xs.Pairwise (· < ·) := (hs.and hx).imp fun z => Nat.lt_of_le_of_ne z.1 z.2
  refine rise_ext hl (stand_rise _) fun j => ?_
  have hlt := (List.getElem?_eq_some_iff.mp hk).1
  rw [hp.mem_iff, List.mem_append, mem_stand, mem_stand, List.getElem?_set, List.mem_singleton]
  by_cases e : k = j
  · subst e
    rw [if_pos rfl, if_pos hlt]
    simp
  · rw [if_neg e]
    simp [Ne.symm e]
theorem stand_full (n : Nat) : stand (List.replicate n true) = List.range n := by
  refine rise_ext (stand_rise _) List.pairwise_lt_range fun j => ?_
  rw [mem_stand, List.getElem?_replicate, List.mem_range]
  by_cases h : j < n
  · simp [h]
  · simp [h]
theorem nats_of_ints {w : List Nat} {xs : List Int} (hp : xs.Perm (w.map fun k : Nat => (k : Int))) (hs : xs.Pairwise (· ≤ ·)) : ∃ zs : List Nat, xs = zs.map (fun k : Nat => (k : Int)) ∧ zs.Perm w ∧ zs.Pairwise (· ≤ ·) := by
  have e : xs = (xs.map Int.toNat).map fun k : Nat => (k : Int) := by
    rw [List.map_map]
    refine Eq.symm ((List.map_congr_left fun x hx => ?_).trans (List.map_id xs))
    obtain ⟨k, _, rfl⟩ := List.mem_map.mp (hp.mem_iff.mp hx)
    rfl
  refine ⟨xs.map Int.toNat, e, ?_, ?_⟩
  · have := hp.map Int.toNat
    rw [List.map_map] at this
    have ff : (Int.toNat ∘ fun k : Nat => (k : Int)) = id := rfl
    rw [ff, List.map_id] at this
    exact this
  · rw [List.pairwise_map]
    exact hs.imp fun z => Int.toNat_le_toNat z
theorem rep_bl (k : Nat) : (List.replicate k [V.bl true]).flatten = (List.replicate k true).map V.bl := by
  induction k with
  | zero => rfl
  | succ k ih => rw [List.replicate_succ, List.flatten_cons, ih, List.replicate_succ]; rfl
noncomputable def standTo (b : List Bool) (n : Nat) : List Nat := (List.range n).filter fun k => b.getD k false
theorem standTo_succ (b : List Bool) (n : Nat) : standTo b (n + 1) = standTo b n ++ (if b.getD n false = true then [n] else []) := by
  unfold standTo
  rw [List.range_succ, List.filter_append]
  congr 1
  by_cases h : b.getD n false = true
  · rw [if_pos h, List.filter_cons, if_pos h]; rfl
  · rw [if_neg h, List.filter_cons, if_neg h]; rfl
theorem standTo_len (b : List Bool) (n : Nat) : (standTo b n).length ≤ n := by
  have := List.length_filter_le (fun k => b.getD k false) (List.range n)
  rw [List.length_range] at this
  exact this
/-- as many truths as a rope has wires -/
noncomputable def Fit (rs : List R5) (bs : List (List Bool)) : Prop := bs.length = rs.length ∧ ∀ (i : Nat) r b, rs[i]? = some r → bs[i]? = some b → (b.length : Int) = r.d
theorem Fit.set {rs : List R5} {bs : List (List Bool)} {i k : Nat} {b : List Bool} {x : Bool} (h : Fit rs bs) (hb : bs[i]? = some b) : Fit rs (bs.set i (b.set k x)) := by
  refine ⟨by rw [List.length_set]; exact h.1, fun j r b' e1 e2 => ?_⟩
  rw [List.getElem?_set] at e2
  by_cases z : i = j
  · subst z
    rw [if_pos rfl, if_pos (List.getElem?_eq_some_iff.mp hb).1] at e2
    cases e2
    rw [List.length_set]
    exact h.2 i r b e1 hb
  · rw [if_neg z] at e2
    exact h.2 j r b' e1 e2
theorem Fit.at {rs : List R5} {bs : List (List Bool)} {i : Nat} {r : R5} (h : Fit rs bs) (hr : rs[i]? = some r) : ∃ b, bs[i]? = some b ∧ (b.length : Int) = r.d := by
  have := (List.getElem?_eq_some_iff.mp hr).1
  exact ⟨_, List.getElem?_eq_getElem (by have := h.1; omega), h.2 i r _ hr (List.getElem?_eq_getElem (by have := h.1; omega))⟩
theorem Fit.ne {rs : List R5} {bs : List (List Bool)} (h : Fit rs bs) (hw : ∀ r ∈ rs, 1 ≤ r.d ∧ r.d ≤ 4) : ∀ b ∈ bs, b ≠ [] := fun b hb z => by
  subst z
  obtain ⟨i, hi⟩ := List.getElem?_of_mem hb
  have hl := (List.getElem?_eq_some_iff.mp hi).1
  have hr : rs[i]? = some (rs[i]'(by have := h.1; omega)) := List.getElem?_eq_getElem _
  have h1 := h.2 i _ _ hr hi
  have h2 := hw _ (List.mem_of_getElem? hr)
  rw [List.length_nil] at h1
  omega
theorem Fit.le {rs : List R5} {bs : List (List Bool)} (h : Fit rs bs) (hw : ∀ r ∈ rs, 1 ≤ r.d ∧ r.d ≤ 4) : ∀ w ∈ bs.map stand, w.length ≤ 4 := fun w hw' => by
  obtain ⟨b, hb, rfl⟩ := List.mem_map.mp hw'
  obtain ⟨i, hi⟩ := List.getElem?_of_mem hb
  have hl := (List.getElem?_eq_some_iff.mp hi).1
  have hr : rs[i]? = some (rs[i]'(by have := h.1; omega)) := List.getElem?_eq_getElem _
  have h1 := h.2 i _ _ hr hi
  have h2 := hw _ (List.mem_of_getElem? hr)
  have := stand_len b
  omega
theorem fit_full {rs : List R5} (hw : ∀ r ∈ rs, 1 ≤ r.d ∧ r.d ≤ 4) : Fit rs (rs.map fun r => List.replicate r.d.toNat true) := by
  refine ⟨by rw [List.length_map], fun i r b e1 e2 => ?_⟩
  rw [List.getElem?_map, e1] at e2
  cases e2
  rw [List.length_replicate]
  have := hw r (List.mem_of_getElem? e1)
  omega
theorem ws_full (rs : List R5) : (rs.map fun r => List.range r.d.toNat) = (rs.map fun r => List.replicate r.d.toNat true).map stand := by
  rw [List.map_map]
  refine List.map_congr_left fun r _ => ?_
  exact (stand_full _).symm
theorem ws_set {bs : List (List Bool)} {j : Nat} {b : List Bool} {w : List Nat} (e : w = stand b) : (bs.map stand).set j w = (bs.set j b).map stand := by rw [e, List.map_set]
/-- a list of truths, not an empty one -/
noncomputable def Bls (o : HO) : Prop := ∃ (b : Bool) (r : List Bool), o = .lst ((b :: r).map V.bl)
structure StrAt (C : Addr) (H : Hp) (p tp lu : Addr) (ws : List (List Nat)) : Prop where
  ob : ∃ dx, H p = some (.ins C dx [("town", .ref tp), ("upright", .ref lu)])
  up : ∃ ls : List Addr, H lu = some (.lst (ls.map V.ref)) ∧ ls.length = ws.length ∧ ∀ (i : Nat) l w, ls[i]? = some l → ws[i]? = some w → H l = some (.lst (natsV w))
section
variable {C : Addr} {H H' : Hp} {p tp lu : Addr} {ws : List (List Nat)}
theorem StrAt.mono (s : Same H H') (h : StrAt C H p tp lu ws) : StrAt C H' p tp lu ws := by
  obtain ⟨⟨dx, h1⟩, ls, h2, h3, h4⟩ := h
  exact ⟨⟨dx, s _ _ h1⟩, ls, s _ _ h2, h3, fun i l w a b => s _ _ (h4 i l w a b)⟩
theorem nats_refs {w : List Nat} {ls : List Addr} {i : Nat} {l : Addr} (e : ls[i]? = some l) : natsV w ≠ ls.map V.ref := by
  intro z
  have h1 : (natsV w)[i]? = some (V.ref l) := by rw [z, List.getElem?_map, e]; rfl
  rw [List.getElem?_map] at h1
  cases h2 : w[i]? with
  | none => rw [h2] at h1; cases h1
  | some k => rw [h2] at h1; cases h1
theorem StrAt.ne (h : StrAt C H p tp lu ws) : p ≠ lu := by
  obtain ⟨⟨dx, h1⟩, ls, h2, _⟩ := h
  exact ne_of h1 h2 (by intro z; cases z)
/-- strands stand where a list of truths is written anew -/
theorem StrAt.keep {x : Addr} {o : HO} (h : StrAt C H p tp lu ws) (hx : H x = some o) (ho : Bls o) (k : ∀ b u, H b = some u → b ≠ x → H' b = some u) : StrAt C H' p tp lu ws := by
  obtain ⟨b0, r0, rfl⟩ := ho
  obtain ⟨⟨dx, h1⟩, ls, h2, h3, h4⟩ := h
  refine ⟨⟨dx, k _ _ h1 (ne_of h1 hx (by intro z; cases z))⟩, ls, k _ _ h2 (ne_of h2 hx ?_), h3, fun i l w a b => k _ _ (h4 i l w a b) (ne_of (h4 i l w a b) hx ?_)⟩
  · intro z
    have z := HO.lst.inj z
    cases ls with
    | nil => cases z
    | cons a r => cases z
  · intro z
    have z := HO.lst.inj z
    cases w with
    | nil => cases z
    | cons a r => cases z
theorem StrAt.put {i : Nat} {q : Addr} {w : List Nat} {ls : List Addr} (h : StrAt C H p tp lu ws) (e : H lu = some (.lst (ls.map V.ref))) (hq : H q = some (.lst (natsV w))) (hi : i < ws.length) (k : ∀ b u, H b = some u → b ≠ lu → H' b = some u) (hu : H' lu = some (.lst ((ls.map V.ref).set i (.ref q)))) : StrAt C H' p tp lu (ws.set i w) := by
  have hne := h.ne
  obtain ⟨⟨dx, h1⟩, ls', h2, h3, h4⟩ := h
  rw [e] at h2
  have z := HO.lst.inj (Option.some.inj h2)
  have z : ls = ls' := by
    have := congrArg (List.map fun v => match v with | V.ref a => a | _ => 0) z
    rw [List.map_map, List.map_map] at this
    have ff : ((fun v => match v with | V.ref a => a | _ => 0) ∘ V.ref) = (id : Addr → Addr) := rfl
    rw [ff, List.map_id, List.map_id] at this
    exact this
  subst z
  have hl : i < ls.length := by omega
  have nq : q ≠ lu := by
    refine ne_of hq e fun z => ?_
    exact nats_refs (List.getElem?_eq_getElem hl) (HO.lst.inj z)
  refine ⟨⟨dx, k _ _ h1 hne⟩, ls.set i q, by rw [hu, List.map_set], by rw [List.length_set, List.length_set, h3], fun j l w' a b => ?_⟩
  rw [List.getElem?_set] at a b
  by_cases ej : i = j
  · subst ej
    rw [if_pos rfl, if_pos hl] at a
    rw [if_pos rfl, if_pos hi] at b
    cases a
    cases b
    exact k _ _ hq nq
  · rw [if_neg ej] at a b
    have hj := h4 j l w' a b
    exact k _ _ hj (ne_of hj e fun z => nats_refs a (HO.lst.inj z))
/-- the law's own rows of truths -/
structure Sts (H : Hp) (ls : Addr) (lis : List Addr) (bs : List (List Bool)) : Prop where
  at_ : H ls = some (.lst (lis.map V.ref))
  len : lis.length = bs.length
  nd : lis.Nodup
  it : ∀ (i : Nat) l b, lis[i]? = some l → bs[i]? = some b → H l = some (.lst (b.map V.bl))
theorem Sts.mono {ls : Addr} {lis : List Addr} {bs : List (List Bool)} (s : Same H H') (h : Sts H ls lis bs) : Sts H' ls lis bs := ⟨s _ _ h.at_, h.len, h.nd, fun i l b x y => s _ _ (h.it i l b x y)⟩
theorem Sts.put {ls : Addr} {lis : List Addr} {bs : List (List Bool)} {i : Nat} {l : Addr} {b : List Bool} (h : Sts H ls lis bs) (hi : lis[i]? = some l) (k : ∀ c u, H c = some u → c ≠ l → H' c = some u) (hl : H' l = some (.lst (b.map V.bl))) (hne : ls ≠ l) : Sts H' ls lis (bs.set i b) := by
  refine ⟨k _ _ h.at_ hne, by rw [List.length_set, h.len], h.nd, fun j l' b' x y => ?_⟩
  have hib : i < bs.length := by rw [← h.len]; exact (List.getElem?_eq_some_iff.mp hi).1
  rw [List.getElem?_set] at y
  by_cases e : i = j
  · subst e
    rw [if_pos rfl, if_pos hib] at y
    cases y
    rw [hi] at x
    cases x
    exact hl
  · rw [if_neg e] at y
    refine k _ _ (h.it j l' b' x y) fun z => e ?_
    subst z
    have h1 := List.getElem?_eq_some_iff.mp hi
    have h2 := List.getElem?_eq_some_iff.mp x
    obtain ⟨a1, a2⟩ := h1
    obtain ⟨c1, c2⟩ := h2
    exact (List.getElem_inj h.nd).mp (a2.trans c2.symm)
/-- .. stand where the strands' list is written anew -/
theorem Sts.keep {ls lu : Addr} {lis us : List Addr} {bs : List (List Bool)} (h : Sts H ls lis bs) (hb : ∀ b ∈ bs, b ≠ []) (hu : H lu = some (.lst (us.map V.ref))) (hne : ls ≠ lu) (k : ∀ c u, H c = some u → c ≠ lu → H' c = some u) : Sts H' ls lis bs := by
  refine ⟨k _ _ h.at_ hne, h.len, h.nd, fun i l b x y => k _ _ (h.it i l b x y) (ne_of (h.it i l b x y) hu fun z => ?_)⟩
  have z := HO.lst.inj z
  have nb := hb b (List.mem_of_getElem? y)
  cases b with
  | nil => exact nb rfl
  | cons c r =>
    cases us with
    | nil => cases z
    | cons => cases z
theorem TownAt.but {K : PySem.W.Frag} {C C' dx : Addr} {fs : List (Str × V)} {tp ln lr : Addr} {ns : List Int} {rs : List R5} (h : TownAt K C H tp ln lr ns rs) (k : ∀ b o, H b = some o → b ≠ p → H' b = some o) (hp : H p = some (.ins C' dx fs)) (ne : tp ≠ p) : TownAt K C H' tp ln lr ns rs := by
  obtain ⟨⟨d, h1⟩, h2, vs, h3, h4⟩ := h
  exact ⟨⟨d, k _ _ h1 ne⟩, k _ _ h2 (ne_of h2 hp (by intro z; cases z)), vs, k _ _ h3 (ne_of h3 hp (by intro z; cases z)), repAll_but k hp h4⟩
structure Apt (H6 : Hp) (lu ls : Addr) (lis : List Addr) : Prop where
  lu0 : H6 lu = none
  ne : ls ≠ lu
  it : ∀ l ∈ lis, H6 l = none ∧ l ≠ ls
/-- strands and the law's rows beside one another -/
structure Both (C : Addr) (H6 H : Hp) (sp tp lu ls : Addr) (lis : List Addr) (ws : List (List Nat)) (bs : List (List Bool)) : Prop where
  same : Same H6 H
  str : StrAt C H sp tp lu ws
  sts : Sts H ls lis bs
section
variable {H6 H H' : Hp} {C sp tp lu ls l : Addr} {lis : List Addr} {ws ws' : List (List Nat)} {bs : List (List Bool)} {b : List Bool} {j k : Nat} {x : Bool}
theorem Both.mono (s : Same H H') (h : Both C H6 H sp tp lu ls lis ws bs) : Both C H6 H' sp tp lu ls lis ws bs := ⟨h.same.trans s, h.str.mono s, h.sts.mono s⟩
theorem Both.turn (h : Both C H6 H sp tp lu ls lis ws bs) (A : Apt H6 lu ls lis) (hb : ∀ b ∈ bs, b ≠ []) (kp : ∀ b o, H b = some o → b ≠ lu → H' b = some o) (hW : StrAt C H' sp tp lu ws') : Both C H6 H' sp tp lu ls lis ws' bs := by
  obtain ⟨_, us, hu, _⟩ := h.str
  exact ⟨fun c o e => kp c o (h.same c o e) (ne_of_none e A.lu0), hW, h.sts.keep hb hu A.ne kp⟩
theorem Both.put (h : Both C H6 H sp tp lu ls lis ws bs) (A : Apt H6 lu ls lis) (hl : lis[j]? = some l) (hb : bs[j]? = some b) (ne : b ≠ []) : H l = some (.lst (b.map V.bl)) ∧ Both C H6 (upd H l (.lst ((b.map V.bl).set k (V.bl x)))) sp tp lu ls lis ws (bs.set j (b.set k x)) := by
  have hL := h.sts.it j l b hl hb
  have hm := List.mem_of_getElem? hl
  have kp : ∀ c u, H c = some u → c ≠ l → (upd H l (.lst ((b.map V.bl).set k (V.bl x)))) c = some u := fun c u e nc => by rw [upd_ne nc]; exact e
  refine ⟨hL, fun c o e => kp c o (h.same c o e) (ne_of_none e (A.it l hm).1), h.str.keep hL ?_ kp, h.sts.put hl kp ?_ (A.it l hm).2.symm⟩
  · cases b with
    | nil => exact absurd rfl ne
    | cons c r => exact ⟨c, r, rfl⟩
  · rw [upd_same, List.map_set]
end
end
end TW

set_option Elab.async false
set_option linter.all false
set_option maxRecDepth 100000
/-! EXTENSION 18: any -/
namespace L2
open PySem PySem.Spec PyProof.Rows
section
variable {X : Cx}
theorem call_absI : CallR X (.builtin "abs") (fun xs H Q => ∃ i : Int, xs = [.int i] ∧ Q (.int (if i < 0 then -i else i)) H) := by
  intro pins s σ H xs us Q I r ⟨i, e, q⟩
  subst e
  obtain ⟨u, e, ru⟩ := Vals.one r
  subst e
  obtain ⟨t, rfl⟩ := ru
  exact call_abs_int fun u tk => ⟨.int _, H, I.tok tk, ⟨_, rfl⟩, q⟩
theorem pt_truthK (K : PySem.W.Frag) (hK : X.K = K) {a : Expr} {ta : TE} (ha : PE X a ta) (he : ∀ whole, isTrue a X.env whole = (do let v ← whole; standAt a.pos; holding [v] (truthy v))) : PT X a (tTruth K ta) := by
  subst hK
  exact pt_truthN ha he
end
end L2

set_option Elab.async false
set_option linter.all false
set_option maxRecDepth 100000
/-! live ropes by strands; two sets of strands -/
namespace TW
open PySem L2 PyProof.Rows
noncomputable def letsB (e : Int) (g : Nat) : Bool := decide (e / 2 ^ g % 2 = 1)
theorem lets_bit {e z : Int} {g : Nat} (h1 : 1 ≤ e) (h7 : e ≤ 7) (hz : ([1, 2, 4] : List Int)[g]? = some z) : (!decide (Builtin.bitAnd e z = 0)) = letsB e g := by
  have hg : g = 0 ∨ g = 1 ∨ g = 2 := by
    have := (List.getElem?_eq_some_iff.mp hz).1
    simp at this
    omega
  have he : e = 1 ∨ e = 2 ∨ e = 3 ∨ e = 4 ∨ e = 5 ∨ e = 6 ∨ e = 7 := by omega
  rcases hg with rfl | rfl | rfl <;> cases hz <;> rcases he with rfl | rfl | rfl | rfl | rfl | rfl | rfl <;> decide +kernel
theorem bit3 {g : Nat} (h : g < 3) : ∃ z, ([1, 2, 4] : List Int)[g]? = some z := ⟨_, List.getElem?_eq_getElem (by simpa using h)⟩
noncomputable def isLive (rs : List R5) (ws : List (List Nat)) (g i : Nat) : Bool := match rs[i]?, ws[i]? with | some r, some w => (!w.isEmpty) && letsB r.e g | _, _ => false
noncomputable def liveTo (rs : List R5) (ws : List (List Nat)) (g n : Nat) : List Nat := (List.range n).filter (isLive rs ws g)
theorem liveTo_succ (rs : List R5) (ws : List (List Nat)) (g n : Nat) : liveTo rs ws g (n + 1) = liveTo rs ws g n ++ (if isLive rs ws g n = true then [n] else []) := by
  unfold liveTo
  rw [List.range_succ, List.filter_append]
  congr 1
  by_cases h : isLive rs ws g n = true
  · rw [if_pos h, List.filter_cons, if_pos h]; rfl
  · rw [if_neg h, List.filter_cons, if_neg h]; rfl
theorem liveTo_len (rs : List R5) (ws : List (List Nat)) (g n : Nat) : (liveTo rs ws g n).length ≤ n := by
  have := List.length_filter_le (isLive rs ws g) (List.range n)
  rw [List.length_range] at this
  exact this
section
variable {H6 H H' : Hp} {C sp tp lu ls lu1 : Addr} {lis lis1 us1 : List Addr} {ws : List (List Nat)} {bs : List (List Bool)}
theorem Both.free {q : Addr} (h : Both C H6 H sp tp lu ls lis ws bs) (hq : H q = none) : q ≠ lu ∧ q ∉ lis := by
  refine ⟨?_, fun hl => ?_⟩
  · obtain ⟨_, _, z, _⟩ := h.str
    exact (ne_of_none z hq).symm
  · obtain ⟨j, hj⟩ := List.getElem?_of_mem hl
    obtain ⟨b, hb⟩ : ∃ b, bs[j]? = some b := ⟨_, List.getElem?_eq_getElem (by rw [← h.sts.len]; exact (List.getElem?_eq_some_iff.mp hj).1)⟩
    exact (ne_of_none (h.sts.it j q b hj hb) hq) rfl
end
end TW

set_option Elab.async false
set_option linter.all false
set_option maxRecDepth 100000
namespace TW
open PySem L2 PyProof.Rows
theorem cut_tail (xs : List V) (k : Nat) (hk : 0 < k) : cutV xs (some (-(k : Int))) none = xs.drop (xs.length - k) := by
  unfold cutV HT.sIx
  show (xs.drop (if -(k : Int) < 0 then (-(k : Int) + (xs.length : Int)).toNat else _)).take (xs.length - (if -(k : Int) < 0 then (-(k : Int) + (xs.length : Int)).toNat else _)) = _
  rw [if_pos (by omega)]
  have e : (-(k : Int) + (xs.length : Int)).toNat = xs.length - k := by omega
  rw [e, List.take_of_length_le (by rw [List.length_drop]; exact Nat.le_refl _)]
/-- what strands refuse -/
noncomputable def BadS (rs : List R5) (ws : List (List Nat)) (m i x : Int) : Prop :=
  (m = 4 ∧ ¬ (0 ≤ i ∧ i < 3)) ∨ ((0 ≤ m ∧ m ≤ 3) ∧ ¬ (0 ≤ i ∧ i < (rs.length : Int))) ∨ (m = 0 ∧ ∃ (j : Nat) (w : List Nat), i = (j : Int) ∧ ws[j]? = some w ∧ ∀ k ∈ w, x ≠ ((k : Nat) : Int)) ∨
  (m = 1 ∧ ∃ (j : Nat) (w : List Nat) (r : R5), i = (j : Int) ∧ ws[j]? = some w ∧ rs[j]? = some r ∧ (¬ (0 ≤ x ∧ x < r.d) ∨ ∃ k ∈ w, x = ((k : Nat) : Int)))
/-- what a good deed makes of the wires -/
noncomputable def DoneS (rs : List R5) (ws : List (List Nat)) (m i x : Int) (ws' : List (List Nat)) : Prop :=
  ∃ (j k : Nat) (w : List Nat), i = (j : Int) ∧ x = (k : Int) ∧ ws[j]? = some w ∧
    ((m = 0 ∧ k ∈ w ∧ ws' = ws.set j (w.filter fun z => decide (z ≠ k))) ∨ (m = 1 ∧ ∃ w' r, rs[j]? = some r ∧ x < r.d ∧ k ∉ w ∧ w'.Perm (w ++ [k]) ∧ w'.Pairwise (· ≤ ·) ∧ ws' = ws.set j w'))
theorem DoneS.good {rs : List R5} {ws ws' : List (List Nat)} {m i x : Int} (h : DoneS rs ws m i x ws') (hl : ws.length = rs.length) : ¬ BadS rs ws m i x := by
  obtain ⟨j, k, w, e2, e3, e4, h⟩ := h
  have := (List.getElem?_eq_some_iff.mp e4).1
  rintro (b | b | ⟨b0, j', w', h1, h2, h3⟩ | ⟨b0, j', w', r', h1, h2, h3, h4⟩)
  · rcases h with h | h <;> have := h.1 <;> omega
  · exact b.2 ⟨by omega, by omega⟩
  · have : j = j' := by omega
    subst this
    rw [e4] at h2
    cases h2
    rcases h with ⟨_, h, _⟩ | ⟨h, _⟩
    · exact h3 k h e3
    · omega
  · have : j = j' := by omega
    subst this
    rw [e4] at h2
    cases h2
    rcases h with ⟨h, _⟩ | ⟨_, w2, r, e5, e6, e7, _⟩
    · omega
    · rw [e5] at h3
      cases h3
      rcases h4 with h4 | ⟨k', h4, h5⟩
      · exact h4 ⟨by omega, e6⟩
      · have : k = k' := by omega
        subst this
        exact e7 h4
section
variable {rs : List R5} {bs : List (List Bool)} {b : List Bool} {j kk : Nat} {r : R5} {x : Bool}
noncomputable abbrev whichI (x : Bool) : Int := if x = true then 1 else 0
theorem bad_turn (hj : j < rs.length) (hrj : rs[j]? = some r) (hb : bs[j]? = some b) (hk : b[kk]? = some x) : BadS rs (bs.map stand) (whichI x) (j : Int) (kk : Int) := by
  have hw : (bs.map stand)[j]? = some (stand b) := by rw [List.getElem?_map, hb]; rfl
  cases x with
  | true => exact .inr (.inr (.inr ⟨rfl, j, _, _, rfl, hw, hrj, .inr ⟨kk, mem_stand.mpr hk, rfl⟩⟩))
  | false =>
    refine .inr (.inr (.inl ⟨rfl, j, _, rfl, hw, fun k' hk' e => ?_⟩))
    have e : kk = k' := by omega
    subst e
    rw [mem_stand, hk] at hk'
    cases hk'
theorem which01 (x : Bool) : whichI x = 0 ∨ whichI x = 1 := by cases x; exact .inl rfl; exact .inr rfl
/-- the good deed -/
theorem done_turn {ws' : List (List Nat)} (hb : bs[j]? = some b) (hk : b[kk]? = some x) (h : DoneS rs (bs.map stand) (whichI (!x)) (j : Int) (kk : Int) ws') : ws' = (bs.set j (b.set kk (!x))).map stand := by
  have hw : (bs.map stand)[j]? = some (stand b) := by rw [List.getElem?_map, hb]; rfl
  obtain ⟨j', k', w, e2, e3, e4, h⟩ := h
  have : j = j' := by omega
  subst this
  have : kk = k' := by omega
  subst this
  rw [hw] at e4
  cases e4
  cases x with
  | true =>
    rcases h with ⟨_, _, h⟩ | ⟨h, _⟩
    · rw [h, stand_fall, ws_set rfl]; rfl
    · exact absurd h (by decide)
  | false =>
    rcases h with ⟨h, _⟩ | ⟨_, w', r', _, _, _, h1, h2, h⟩
    · exact absurd h (by decide)
    · rw [h, ws_set (stand_lay hk h1 h2)]; rfl
theorem good_turn (hj : j < rs.length) (hrj : rs[j]? = some r) (hb : bs[j]? = some b) (hk : b[kk]? = some x) (hd : (b.length : Int) = r.d) : ¬ BadS rs (bs.map stand) (whichI (!x)) (j : Int) (kk : Int) := by
  have hw : (bs.map stand)[j]? = some (stand b) := by rw [List.getElem?_map, hb]; rfl
  have hkl := (List.getElem?_eq_some_iff.mp hk).1
  rintro (b | b | ⟨b0, j', w', h1, h2, h3⟩ | ⟨b0, j', w', r', h1, h2, h3, h4⟩)
  · rcases which01 (!x) with h | h <;> rw [h] at b <;> have := b.1 <;> omega
  · exact b.2 ⟨by omega, by omega⟩
  · have : j = j' := by omega
    subst this
    rw [hw] at h2
    cases h2
    cases x with
    | true => exact h3 kk (mem_stand.mpr hk) rfl
    | false => exact absurd b0 (by decide)
  · have : j = j' := by omega
    subst this
    rw [hw] at h2
    cases h2
    rw [hrj] at h3
    cases h3
    cases x with
    | true => exact absurd b0 (by decide)
    | false =>
      rcases h4 with h4 | ⟨k', h4, h5⟩
      · exact h4 ⟨by omega, by omega⟩
      · have : kk = k' := by omega
        subst this
        rw [mem_stand, hk] at h4
        cases h4
end
theorem RepAll.dropN {K : PySem.W.Frag} {H : Hp} : ∀ (n : Nat) {ds : List PyData} {vs : List V}, RepAll K H ds vs → RepAll K H (ds.drop n) (vs.drop n)
  | 0, _, _, h => h
  | n + 1, [], vs, h => by cases h; exact rfl
  | n + 1, d :: ds, _, ⟨v, r, e, q, t⟩ => by subst e; exact RepAll.dropN n t
theorem RepAll.snoc {K : PySem.W.Frag} {H : Hp} {d : PyData} {v : V} (hd : Rep K H d v) : ∀ {ds : List PyData} {vs : List V}, RepAll K H ds vs → RepAll K H (ds ++ [d]) (vs ++ [v])
  | [], vs, h => by cases h; exact ⟨v, [], rfl, hd, rfl⟩
  | d' :: ds, _, ⟨v', r, e, q, t⟩ => by subst e; exact ⟨v', _, rfl, q, RepAll.snoc hd t⟩
end TW

set_option Elab.async false
set_option linter.all false
set_option maxRecDepth 100000
set_option maxHeartbeats 4000000
namespace K22
open PySem L2
noncomputable def top (i : Nat) : Stmt := PySem.Challenge.pw_knotless_k22_strands_refused.main.body.getD i (.Pass ⟨0, 0, 0, 0⟩)
noncomputable abbrev s_Townu_initu : Stmt := (inClass (top 18) 0)
noncomputable abbrev s_Town_rope : Stmt := (inClass (top 18) 2)
noncomputable abbrev s_Town_lets : Stmt := (inClass (top 18) 5)
noncomputable abbrev s_check_names : Stmt := (top 19)
noncomputable abbrev s_check_ropes : Stmt := (top 20)
noncomputable abbrev s_check_rope : Stmt := (top 21)
noncomputable abbrev s_joins_two : Stmt := (top 22)
noncomputable abbrev s_Strandsu_initu : Stmt := (inClass (top 24) 0)
noncomputable abbrev s_Strands_fall : Stmt := (inClass (top 24) 1)
noncomputable abbrev s_Strands_lay : Stmt := (inClass (top 24) 2)
noncomputable abbrev s_Strands_standing : Stmt := (inClass (top 24) 3)
noncomputable abbrev s_Strands_wire_for : Stmt := (inClass (top 24) 4)
noncomputable abbrev s_Strands_live : Stmt := (inClass (top 24) 5)
noncomputable abbrev s_wires_of : Stmt := (top 25)
noncomputable abbrev s_check_group : Stmt := (top 26)
noncomputable abbrev s_w_cell_at : Stmt := (top 28)
noncomputable abbrev s_w_numbers : Stmt := (top 29)
noncomputable abbrev s_w_names : Stmt := (top 30)
noncomputable abbrev s_w_ropes : Stmt := (top 31)
noncomputable abbrev s_w_done : Stmt := (top 32)
noncomputable abbrev s_w_refused : Stmt := (top 33)
noncomputable abbrev s_w_out : Stmt := (top 34)
noncomputable abbrev s_w_odd : Stmt := (top 35)
noncomputable abbrev s_law : Stmt := (top 36)
theorem sc_Townu_initu : FnScope ["self", "names", "ropes"] ["self", "names", "ropes"] (defScope s_Townu_initu) := ⟨rfl, rfl, rfl, by decide +kernel, rfl, by decide +kernel, by decide +kernel⟩
theorem sc_Town_rope : FnScope ["self", "number"] ["self", "number"] (defScope s_Town_rope) := ⟨rfl, rfl, rfl, by decide +kernel, rfl, by decide +kernel, by decide +kernel⟩
theorem sc_Town_lets : FnScope ["self", "rope", "group"] ["self", "rope", "group"] (defScope s_Town_lets) := ⟨rfl, rfl, rfl, by decide +kernel, rfl, by decide +kernel, by decide +kernel⟩
theorem sc_check_names : FnScope ["names"] ["names"] (defScope s_check_names) := ⟨rfl, rfl, rfl, by decide +kernel, rfl, by decide +kernel, by decide +kernel⟩
theorem sc_check_ropes : FnScope ["size", "ropes", "rope"] ["size", "ropes"] (defScope s_check_ropes) := ⟨rfl, rfl, rfl, by decide +kernel, rfl, by decide +kernel, by decide +kernel⟩
theorem sc_check_rope : FnScope ["size", "rope"] ["size", "rope"] (defScope s_check_rope) := ⟨rfl, rfl, rfl, by decide +kernel, rfl, by decide +kernel, by decide +kernel⟩
theorem sc_joins_two : FnScope ["size", "one", "other"] ["size", "one", "other"] (defScope s_joins_two) := ⟨rfl, rfl, rfl, by decide +kernel, rfl, by decide +kernel, by decide +kernel⟩
theorem sc_Strandsu_initu : FnScope ["self", "town"] ["self", "town"] (defScope s_Strandsu_initu) := ⟨rfl, rfl, rfl, by decide +kernel, rfl, by decide +kernel, by decide +kernel⟩
theorem nd_Strandsu_initu_c0 : (["rope", "town"] : List Str).Nodup := by decide +kernel
theorem sc_Strands_fall : FnScope ["self", "rope", "wire", "ahead"] ["self", "rope", "wire"] (defScope s_Strands_fall) := ⟨rfl, rfl, rfl, by decide +kernel, rfl, by decide +kernel, by decide +kernel⟩
theorem nd_Strands_fall_c0 : (["each", "wire"] : List Str).Nodup := by decide +kernel
theorem sc_Strands_lay : FnScope ["self", "rope", "wire", "ahead"] ["self", "rope", "wire"] (defScope s_Strands_lay) := ⟨rfl, rfl, rfl, by decide +kernel, rfl, by decide +kernel, by decide +kernel⟩
theorem sc_Strands_standing : FnScope ["self", "rope"] ["self", "rope"] (defScope s_Strands_standing) := ⟨rfl, rfl, rfl, by decide +kernel, rfl, by decide +kernel, by decide +kernel⟩
theorem sc_Strands_wire_for : FnScope ["self", "rope", "number", "stand"] ["self", "rope", "number"] (defScope s_Strands_wire_for) := ⟨rfl, rfl, rfl, by decide +kernel, rfl, by decide +kernel, by decide +kernel⟩
theorem sc_Strands_live : FnScope ["self", "group"] ["self", "group"] (defScope s_Strands_live) := ⟨rfl, rfl, rfl, by decide +kernel, rfl, by decide +kernel, by decide +kernel⟩
theorem nd_Strands_live_c0 : (["rope", "group", "self"] : List Str).Nodup := by decide +kernel
theorem sc_wires_of : FnScope ["town", "rope"] ["town", "rope"] (defScope s_wires_of) := ⟨rfl, rfl, rfl, by decide +kernel, rfl, by decide +kernel, by decide +kernel⟩
theorem sc_check_group : FnScope ["group"] ["group"] (defScope s_check_group) := ⟨rfl, rfl, rfl, by decide +kernel, rfl, by decide +kernel, by decide +kernel⟩
theorem sc_w_cell_at : FnScope ["_law_script", "_law_k"] ["_law_script", "_law_k"] (defScope s_w_cell_at) := ⟨rfl, rfl, rfl, by decide +kernel, rfl, by decide +kernel, by decide +kernel⟩
theorem sc_w_numbers : FnScope ["_law_cell", "_law_many", "_law_number", "_law_found", "_law_k"] ["_law_cell", "_law_many"] (defScope s_w_numbers) := ⟨rfl, rfl, rfl, by decide +kernel, rfl, by decide +kernel, by decide +kernel⟩
theorem sc_w_names : FnScope ["_law_size", "_law_cell", "_law_numbers_here", "_law_most", "_law_far", "_law_names_here", "_law_number", "_law_name"] ["_law_size", "_law_cell"] (defScope s_w_names) := ⟨rfl, rfl, rfl, by decide +kernel, rfl, by decide +kernel, by decide +kernel⟩
theorem sc_w_ropes : FnScope ["_law_size", "_law_cell", "_law_ropes_here", "_law_many", "_law_number", "_law_one", "_law_other", "_law_cost", "_law_lets"] ["_law_size", "_law_cell"] (defScope s_w_ropes) := ⟨rfl, rfl, rfl, by decide +kernel, rfl, by decide +kernel, by decide +kernel⟩
theorem sc_w_done : FnScope ["_law_strands", "_law_which", "_law_rope", "_law_wire"] ["_law_strands", "_law_which", "_law_rope", "_law_wire"] (defScope s_w_done) := ⟨rfl, rfl, rfl, by decide +kernel, rfl, by decide +kernel, by decide +kernel⟩
theorem sc_w_refused : FnScope ["_law_strands", "_law_which", "_law_rope", "_law_wire", "_law_kept", "e", "_law_other"] ["_law_strands", "_law_which", "_law_rope", "_law_wire"] (defScope s_w_refused) := ⟨rfl, rfl, rfl, by decide +kernel, rfl, by decide +kernel, by decide +kernel⟩
theorem sc_w_out : FnScope ["_law_many", "_law_cell", "_law_far"] ["_law_many", "_law_cell"] (defScope s_w_out) := ⟨rfl, rfl, rfl, by decide +kernel, rfl, by decide +kernel, by decide +kernel⟩
theorem sc_w_odd : FnScope ["_law_strands", "_law_ropes_here", "_law_rope", "_law_wire", "_law_cell", "_law_which", "_law_number"] ["_law_strands", "_law_ropes_here", "_law_rope", "_law_wire", "_law_cell"] (defScope s_w_odd) := ⟨rfl, rfl, rfl, by decide +kernel, rfl, by decide +kernel, by decide +kernel⟩
theorem sc_law : FnScope ["_law_script", "_law_size", "_law_ropes_here", "_law_town", "_law_strands", "_law_states", "_law_cell", "_law_rope", "_law_wire", "_law_stands"] ["_law_script"] (defScope s_law) := ⟨rfl, rfl, rfl, by decide +kernel, rfl, by decide +kernel, by decide +kernel⟩
theorem nd_law_c0 : (["_law_row"] : List Str).Nodup := by decide +kernel
theorem nd_law_c1 : (["_law_wire", "_law_rope", "_law_states"] : List Str).Nodup := by decide +kernel
set_option genInjectivity false in
structure Ad where
  f_Townu_initu : Addr
  d_Townu_initu : FuncData
  f_Town_rope : Addr
  d_Town_rope : FuncData
  f_Town_lets : Addr
  d_Town_lets : FuncData
  f_check_names : Addr
  d_check_names : FuncData
  f_check_ropes : Addr
  d_check_ropes : FuncData
  f_check_rope : Addr
  d_check_rope : FuncData
  f_joins_two : Addr
  d_joins_two : FuncData
  f_Strandsu_initu : Addr
  d_Strandsu_initu : FuncData
  f_Strands_fall : Addr
  d_Strands_fall : FuncData
  f_Strands_lay : Addr
  d_Strands_lay : FuncData
  f_Strands_standing : Addr
  d_Strands_standing : FuncData
  f_Strands_wire_for : Addr
  d_Strands_wire_for : FuncData
  f_Strands_live : Addr
  d_Strands_live : FuncData
  f_wires_of : Addr
  d_wires_of : FuncData
  f_check_group : Addr
  d_check_group : FuncData
  f_w_cell_at : Addr
  d_w_cell_at : FuncData
  f_w_numbers : Addr
  d_w_numbers : FuncData
  f_w_names : Addr
  d_w_names : FuncData
  f_w_ropes : Addr
  d_w_ropes : FuncData
  f_w_done : Addr
  d_w_done : FuncData
  f_w_refused : Addr
  d_w_refused : FuncData
  f_w_out : Addr
  d_w_out : FuncData
  f_w_odd : Addr
  d_w_odd : FuncData
  f_law : Addr
  d_law : FuncData
  a_Town : Addr
  a_Strands : Addr
  a_KnotError : Addr
  a_NoWire : Addr
  a_NoGroup : Addr
  a_Apart : Addr
  a_BadTown : Addr
  a_NoCaller : Addr
  a_NoCopy : Addr
  a_NoHouse : Addr
  a_NoLetter : Addr
  a_NoText : Addr
  q_MOST_HOUSES : Tok
  q_MOST_ROPES : Tok
  q_MOST_WIRES : Tok
  q_ALL_GROUPS : Tok
  a_GROUP_BITS : Addr
structure Txt (K : PySem.W.Frag) (mg : Str → Option Value) (t : Ad) : Prop where
  F_Townu_initu : Fun K "__init__" "Town.__init__" s_Townu_initu t.f_Townu_initu t.d_Townu_initu
  B_Townu_initu : Binds K t.d_Townu_initu ["self", "names", "ropes"] []
  K_Town : Mk K t.a_Town t.f_Townu_initu
  F_Town_rope : Fun K "rope" "Town.rope" s_Town_rope t.f_Town_rope t.d_Town_rope
  B_Town_rope : Binds K t.d_Town_rope ["self", "number"] []
  m_Town_rope : Meth K t.a_Town "rope" t.f_Town_rope
  F_Town_lets : Fun K "lets" "Town.lets" s_Town_lets t.f_Town_lets t.d_Town_lets
  B_Town_lets : Binds K t.d_Town_lets ["self", "rope", "group"] []
  m_Town_lets : Meth K t.a_Town "lets" t.f_Town_lets
  F_check_names : Fun K "check_names" "check_names" s_check_names t.f_check_names t.d_check_names
  B_check_names : Binds K t.d_check_names ["names"] []
  g_check_names : mg "check_names" = some (.ref t.f_check_names)
  F_check_ropes : Fun K "check_ropes" "check_ropes" s_check_ropes t.f_check_ropes t.d_check_ropes
  B_check_ropes : Binds K t.d_check_ropes ["size", "ropes"] []
  g_check_ropes : mg "check_ropes" = some (.ref t.f_check_ropes)
  F_check_rope : Fun K "check_rope" "check_rope" s_check_rope t.f_check_rope t.d_check_rope
  B_check_rope : Binds K t.d_check_rope ["size", "rope"] []
  g_check_rope : mg "check_rope" = some (.ref t.f_check_rope)
  F_joins_two : Fun K "joins_two" "joins_two" s_joins_two t.f_joins_two t.d_joins_two
  B_joins_two : Binds K t.d_joins_two ["size", "one", "other"] []
  g_joins_two : mg "joins_two" = some (.ref t.f_joins_two)
  F_Strandsu_initu : Fun K "__init__" "Strands.__init__" s_Strandsu_initu t.f_Strandsu_initu t.d_Strandsu_initu
  B_Strandsu_initu : Binds K t.d_Strandsu_initu ["self", "town"] []
  K_Strands : Mk K t.a_Strands t.f_Strandsu_initu
  F_Strands_fall : Fun K "fall" "Strands.fall" s_Strands_fall t.f_Strands_fall t.d_Strands_fall
  B_Strands_fall : Binds K t.d_Strands_fall ["self", "rope", "wire"] []
  m_Strands_fall : Meth K t.a_Strands "fall" t.f_Strands_fall
  F_Strands_lay : Fun K "lay" "Strands.lay" s_Strands_lay t.f_Strands_lay t.d_Strands_lay
  B_Strands_lay : Binds K t.d_Strands_lay ["self", "rope", "wire"] []
  m_Strands_lay : Meth K t.a_Strands "lay" t.f_Strands_lay
  F_Strands_standing : Fun K "standing" "Strands.standing" s_Strands_standing t.f_Strands_standing t.d_Strands_standing
  B_Strands_standing : Binds K t.d_Strands_standing ["self", "rope"] []
  m_Strands_standing : Meth K t.a_Strands "standing" t.f_Strands_standing
  F_Strands_wire_for : Fun K "wire_for" "Strands.wire_for" s_Strands_wire_for t.f_Strands_wire_for t.d_Strands_wire_for
  B_Strands_wire_for : Binds K t.d_Strands_wire_for ["self", "rope", "number"] []
  m_Strands_wire_for : Meth K t.a_Strands "wire_for" t.f_Strands_wire_for
  F_Strands_live : Fun K "live" "Strands.live" s_Strands_live t.f_Strands_live t.d_Strands_live
  B_Strands_live : Binds K t.d_Strands_live ["self", "group"] []
  m_Strands_live : Meth K t.a_Strands "live" t.f_Strands_live
  F_wires_of : Fun K "wires_of" "wires_of" s_wires_of t.f_wires_of t.d_wires_of
  B_wires_of : Binds K t.d_wires_of ["town", "rope"] []
  g_wires_of : mg "wires_of" = some (.ref t.f_wires_of)
  F_check_group : Fun K "check_group" "check_group" s_check_group t.f_check_group t.d_check_group
  B_check_group : Binds K t.d_check_group ["group"] []
  g_check_group : mg "check_group" = some (.ref t.f_check_group)
  F_w_cell_at : Fun K "_law_cell_at" "_law_cell_at" s_w_cell_at t.f_w_cell_at t.d_w_cell_at
  B_w_cell_at : Binds K t.d_w_cell_at ["_law_script", "_law_k"] []
  g_w_cell_at : mg "_law_cell_at" = some (.ref t.f_w_cell_at)
  F_w_numbers : Fun K "_law_numbers" "_law_numbers" s_w_numbers t.f_w_numbers t.d_w_numbers
  B_w_numbers : Binds K t.d_w_numbers ["_law_cell", "_law_many"] []
  g_w_numbers : mg "_law_numbers" = some (.ref t.f_w_numbers)
  F_w_names : Fun K "_law_names" "_law_names" s_w_names t.f_w_names t.d_w_names
  B_w_names : Binds K t.d_w_names ["_law_size", "_law_cell"] []
  g_w_names : mg "_law_names" = some (.ref t.f_w_names)
  F_w_ropes : Fun K "_law_ropes" "_law_ropes" s_w_ropes t.f_w_ropes t.d_w_ropes
  B_w_ropes : Binds K t.d_w_ropes ["_law_size", "_law_cell"] []
  g_w_ropes : mg "_law_ropes" = some (.ref t.f_w_ropes)
  F_w_done : Fun K "_law_done" "_law_done" s_w_done t.f_w_done t.d_w_done
  B_w_done : Binds K t.d_w_done ["_law_strands", "_law_which", "_law_rope", "_law_wire"] []
  g_w_done : mg "_law_done" = some (.ref t.f_w_done)
  F_w_refused : Fun K "_law_refused" "_law_refused" s_w_refused t.f_w_refused t.d_w_refused
  B_w_refused : Binds K t.d_w_refused ["_law_strands", "_law_which", "_law_rope", "_law_wire"] []
  g_w_refused : mg "_law_refused" = some (.ref t.f_w_refused)
  F_w_out : Fun K "_law_out" "_law_out" s_w_out t.f_w_out t.d_w_out
  B_w_out : Binds K t.d_w_out ["_law_many", "_law_cell"] []
  g_w_out : mg "_law_out" = some (.ref t.f_w_out)
  F_w_odd : Fun K "_law_odd" "_law_odd" s_w_odd t.f_w_odd t.d_w_odd
  B_w_odd : Binds K t.d_w_odd ["_law_strands", "_law_ropes_here", "_law_rope", "_law_wire", "_law_cell"] []
  g_w_odd : mg "_law_odd" = some (.ref t.f_w_odd)
  F_law : Fun K "law" "law" s_law t.f_law t.d_law
  B_law : Binds K t.d_law ["_law_script"] []
  g_law : mg "law" = some (.ref t.f_law)
  c_Town : Cls K t.a_Town
  g_Town : mg "Town" = some (.ref t.a_Town)
  n_Town_house_names : NoAttr K t.a_Town "house_names"
  n_Town_rope_tuples : NoAttr K t.a_Town "rope_tuples"
  n_Town_size : NoAttr K t.a_Town "size"
  n_Town_many : NoAttr K t.a_Town "many"
  c_Strands : Cls K t.a_Strands
  g_Strands : mg "Strands" = some (.ref t.a_Strands)
  n_Strands_town : NoAttr K t.a_Strands "town"
  n_Strands_upright : NoAttr K t.a_Strands "upright"
  g_KnotError : mg "KnotError" = some (.ref t.a_KnotError)
  b_KnotError : PySem.W.kitCls K (.ref t.a_KnotError) (.type "BaseException") = some true
  g_NoWire : mg "NoWire" = some (.ref t.a_NoWire)
  x_NoWire : ExcC K t.a_NoWire
  g_NoGroup : mg "NoGroup" = some (.ref t.a_NoGroup)
  x_NoGroup : ExcC K t.a_NoGroup
  g_Apart : mg "Apart" = some (.ref t.a_Apart)
  g_BadTown : mg "BadTown" = some (.ref t.a_BadTown)
  g_NoCaller : mg "NoCaller" = some (.ref t.a_NoCaller)
  g_NoCopy : mg "NoCopy" = some (.ref t.a_NoCopy)
  g_NoHouse : mg "NoHouse" = some (.ref t.a_NoHouse)
  g_NoLetter : mg "NoLetter" = some (.ref t.a_NoLetter)
  g_NoText : mg "NoText" = some (.ref t.a_NoText)
  i_NoWire_Apart : PySem.W.kitOne K (.ref t.a_NoWire) (.ref t.a_Apart) = some false
  i_NoWire_BadTown : PySem.W.kitOne K (.ref t.a_NoWire) (.ref t.a_BadTown) = some false
  i_NoWire_NoCaller : PySem.W.kitOne K (.ref t.a_NoWire) (.ref t.a_NoCaller) = some false
  i_NoWire_NoCopy : PySem.W.kitOne K (.ref t.a_NoWire) (.ref t.a_NoCopy) = some false
  i_NoWire_NoHouse : PySem.W.kitOne K (.ref t.a_NoWire) (.ref t.a_NoHouse) = some false
  i_NoWire_NoLetter : PySem.W.kitOne K (.ref t.a_NoWire) (.ref t.a_NoLetter) = some false
  i_NoWire_NoText : PySem.W.kitOne K (.ref t.a_NoWire) (.ref t.a_NoText) = some false
  i_NoGroup_Apart : PySem.W.kitOne K (.ref t.a_NoGroup) (.ref t.a_Apart) = some false
  i_NoGroup_BadTown : PySem.W.kitOne K (.ref t.a_NoGroup) (.ref t.a_BadTown) = some false
  i_NoGroup_NoCaller : PySem.W.kitOne K (.ref t.a_NoGroup) (.ref t.a_NoCaller) = some false
  i_NoGroup_NoCopy : PySem.W.kitOne K (.ref t.a_NoGroup) (.ref t.a_NoCopy) = some false
  i_NoGroup_NoHouse : PySem.W.kitOne K (.ref t.a_NoGroup) (.ref t.a_NoHouse) = some false
  i_NoGroup_NoLetter : PySem.W.kitOne K (.ref t.a_NoGroup) (.ref t.a_NoLetter) = some false
  i_NoGroup_NoText : PySem.W.kitOne K (.ref t.a_NoGroup) (.ref t.a_NoText) = some false
  i_NoWire_NoWire : PySem.W.kitOne K (.ref t.a_NoWire) (.ref t.a_NoWire) = some true
  i_NoWire_NoGroup : PySem.W.kitOne K (.ref t.a_NoWire) (.ref t.a_NoGroup) = some false
  i_NoGroup_NoWire : PySem.W.kitOne K (.ref t.a_NoGroup) (.ref t.a_NoWire) = some false
  i_NoGroup_NoGroup : PySem.W.kitOne K (.ref t.a_NoGroup) (.ref t.a_NoGroup) = some true
  i_NoWire_ValueError : PySem.W.kitOne K (.ref t.a_NoWire) (.type "ValueError") = some true
  i_NoGroup_ValueError : PySem.W.kitOne K (.ref t.a_NoGroup) (.type "ValueError") = some true
  h_NoWire_KnotError : PySem.W.kitCls K (.ref t.a_NoWire) (.ref t.a_KnotError) = some true
  h_NoGroup_KnotError : PySem.W.kitCls K (.ref t.a_NoGroup) (.ref t.a_KnotError) = some true
  k_MOST_HOUSES : mg "MOST_HOUSES" = some (.int 10 t.q_MOST_HOUSES)
  k_MOST_ROPES : mg "MOST_ROPES" = some (.int 20 t.q_MOST_ROPES)
  k_MOST_WIRES : mg "MOST_WIRES" = some (.int 4 t.q_MOST_WIRES)
  k_ALL_GROUPS : mg "ALL_GROUPS" = some (.int 7 t.q_ALL_GROUPS)
  k_GROUP_BITS : mg "GROUP_BITS" = some (.ref t.a_GROUP_BITS)
  s_GROUP_BITS : ∀ H, SqT K H t.a_GROUP_BITS [.int 1, .int 2, .int 4]
  n_len : mg "len" = none
  n_isinstance : mg "isinstance" = none
  n_int : mg "int" = none
  n_bool : mg "bool" = none
  n_list : mg "list" = none
  n_range : mg "range" = none
  n_min : mg "min" = none
  n_set : mg "set" = none
  n_sorted : mg "sorted" = none
  n_ValueError : mg "ValueError" = none
  n_abs : mg "abs" = none
theorem el1 {α : Type} {M : List α → Prop} (h : ∀ x0, M [x0]) : ∀ us : List α, us.length = 1 → M us
  | [_], _ => h _
theorem el2 {α : Type} {M : List α → Prop} (h : ∀ x0 x1, M [x0, x1]) : ∀ us : List α, us.length = 2 → M us
  | [_, _], _ => h _ _
theorem el3 {α : Type} {M : List α → Prop} (h : ∀ x0 x1 x2, M [x0, x1, x2]) : ∀ us : List α, us.length = 3 → M us
  | [_, _, _], _ => h _ _ _
theorem el4 {α : Type} {M : List α → Prop} (h : ∀ x0 x1 x2 x3, M [x0, x1, x2, x3]) : ∀ us : List α, us.length = 4 → M us
  | [_, _, _, _], _ => h _ _ _ _
theorem el5 {α : Type} {M : List α → Prop} (h : ∀ x0 x1 x2 x3 x4, M [x0, x1, x2, x3, x4]) : ∀ us : List α, us.length = 5 → M us
  | [_, _, _, _, _], _ => h _ _ _ _ _
theorem txt_mk {K : PySem.W.Frag} {h : Heap} {mg : Str → Option Value} (X : K.In h) (G : h.Ns mainGlobals mg) {oc_Townu_initu kV_Townu_initu dc_Townu_initu pm_Townu_initu cd_Townu_initu ct_Townu_initu : Value} {od_Townu_initu an_Townu_initu : Option Addr} {sl_Townu_initu : Array (Option Value)} {f_Townu_initu : Addr}
    {oc_Town_rope kV_Town_rope dc_Town_rope pm_Town_rope cd_Town_rope ct_Town_rope : Value} {od_Town_rope an_Town_rope : Option Addr} {sl_Town_rope : Array (Option Value)} {f_Town_rope : Addr}
    {oc_Town_lets kV_Town_lets dc_Town_lets pm_Town_lets cd_Town_lets ct_Town_lets : Value} {od_Town_lets an_Town_lets : Option Addr} {sl_Town_lets : Array (Option Value)} {f_Town_lets : Addr}
    {oc_check_names kV_check_names dc_check_names pm_check_names cd_check_names ct_check_names : Value} {od_check_names an_check_names : Option Addr} {sl_check_names : Array (Option Value)} {f_check_names : Addr}
    {oc_check_ropes kV_check_ropes dc_check_ropes pm_check_ropes cd_check_ropes ct_check_ropes : Value} {od_check_ropes an_check_ropes : Option Addr} {sl_check_ropes : Array (Option Value)} {f_check_ropes : Addr}
    {oc_check_rope kV_check_rope dc_check_rope pm_check_rope cd_check_rope ct_check_rope : Value} {od_check_rope an_check_rope : Option Addr} {sl_check_rope : Array (Option Value)} {f_check_rope : Addr}
    {oc_joins_two kV_joins_two dc_joins_two pm_joins_two cd_joins_two ct_joins_two : Value} {od_joins_two an_joins_two : Option Addr} {sl_joins_two : Array (Option Value)} {f_joins_two : Addr}
    {oc_Strandsu_initu kV_Strandsu_initu dc_Strandsu_initu pm_Strandsu_initu cd_Strandsu_initu ct_Strandsu_initu : Value} {od_Strandsu_initu an_Strandsu_initu : Option Addr} {sl_Strandsu_initu : Array (Option Value)} {f_Strandsu_initu : Addr}
    {oc_Strands_fall kV_Strands_fall dc_Strands_fall pm_Strands_fall cd_Strands_fall ct_Strands_fall : Value} {od_Strands_fall an_Strands_fall : Option Addr} {sl_Strands_fall : Array (Option Value)} {f_Strands_fall : Addr}
    {oc_Strands_lay kV_Strands_lay dc_Strands_lay pm_Strands_lay cd_Strands_lay ct_Strands_lay : Value} {od_Strands_lay an_Strands_lay : Option Addr} {sl_Strands_lay : Array (Option Value)} {f_Strands_lay : Addr}
    {oc_Strands_standing kV_Strands_standing dc_Strands_standing pm_Strands_standing cd_Strands_standing ct_Strands_standing : Value} {od_Strands_standing an_Strands_standing : Option Addr} {sl_Strands_standing : Array (Option Value)} {f_Strands_standing : Addr}
    {oc_Strands_wire_for kV_Strands_wire_for dc_Strands_wire_for pm_Strands_wire_for cd_Strands_wire_for ct_Strands_wire_for : Value} {od_Strands_wire_for an_Strands_wire_for : Option Addr} {sl_Strands_wire_for : Array (Option Value)} {f_Strands_wire_for : Addr}
    {oc_Strands_live kV_Strands_live dc_Strands_live pm_Strands_live cd_Strands_live ct_Strands_live : Value} {od_Strands_live an_Strands_live : Option Addr} {sl_Strands_live : Array (Option Value)} {f_Strands_live : Addr}
    {oc_wires_of kV_wires_of dc_wires_of pm_wires_of cd_wires_of ct_wires_of : Value} {od_wires_of an_wires_of : Option Addr} {sl_wires_of : Array (Option Value)} {f_wires_of : Addr}
    {oc_check_group kV_check_group dc_check_group pm_check_group cd_check_group ct_check_group : Value} {od_check_group an_check_group : Option Addr} {sl_check_group : Array (Option Value)} {f_check_group : Addr}
    {oc_w_cell_at kV_w_cell_at dc_w_cell_at pm_w_cell_at cd_w_cell_at ct_w_cell_at : Value} {od_w_cell_at an_w_cell_at : Option Addr} {sl_w_cell_at : Array (Option Value)} {f_w_cell_at : Addr}
    {oc_w_numbers kV_w_numbers dc_w_numbers pm_w_numbers cd_w_numbers ct_w_numbers : Value} {od_w_numbers an_w_numbers : Option Addr} {sl_w_numbers : Array (Option Value)} {f_w_numbers : Addr}
    {oc_w_names kV_w_names dc_w_names pm_w_names cd_w_names ct_w_names : Value} {od_w_names an_w_names : Option Addr} {sl_w_names : Array (Option Value)} {f_w_names : Addr}
    {oc_w_ropes kV_w_ropes dc_w_ropes pm_w_ropes cd_w_ropes ct_w_ropes : Value} {od_w_ropes an_w_ropes : Option Addr} {sl_w_ropes : Array (Option Value)} {f_w_ropes : Addr}
    {oc_w_done kV_w_done dc_w_done pm_w_done cd_w_done ct_w_done : Value} {od_w_done an_w_done : Option Addr} {sl_w_done : Array (Option Value)} {f_w_done : Addr}
    {oc_w_refused kV_w_refused dc_w_refused pm_w_refused cd_w_refused ct_w_refused : Value} {od_w_refused an_w_refused : Option Addr} {sl_w_refused : Array (Option Value)} {f_w_refused : Addr}
    {oc_w_out kV_w_out dc_w_out pm_w_out cd_w_out ct_w_out : Value} {od_w_out an_w_out : Option Addr} {sl_w_out : Array (Option Value)} {f_w_out : Addr}
    {oc_w_odd kV_w_odd dc_w_odd pm_w_odd cd_w_odd ct_w_odd : Value} {od_w_odd an_w_odd : Option Addr} {sl_w_odd : Array (Option Value)} {f_w_odd : Addr}
    {oc_law kV_law dc_law pm_law cd_law ct_law : Value} {od_law an_law : Option Addr} {sl_law : Array (Option Value)} {f_law : Addr}
    {C_Town : Addr}
    {C_Strands : Addr}
    {X_KnotError : Addr}
    {X_NoWire : Addr}
    {X_NoGroup : Addr}
    {X_Apart : Addr}
    {X_BadTown : Addr}
    {X_NoCaller : Addr}
    {X_NoCopy : Addr}
    {X_NoHouse : Addr}
    {X_NoLetter : Addr}
    {X_NoText : Addr}
    {q_MOST_HOUSES : Tok}
    {q_MOST_ROPES : Tok}
    {q_MOST_WIRES : Tok}
    {q_ALL_GROUPS : Tok}
    {a_GROUP_BITS : Addr} {od_GROUP_BITS : Option Addr} {n_GROUP_BITS : Nat} {t0_GROUP_BITS t1_GROUP_BITS t2_GROUP_BITS : Tok} {sl_GROUP_BITS : Array (Option Value)}
    (aC_Town : PySem.W.nsIn K mainGlobals "Town" = some (some (.ref C_Town)))
    (aC_Strands : PySem.W.nsIn K mainGlobals "Strands" = some (some (.ref C_Strands)))
    (a_Townu_initu : PySem.W.findIn K (.ref C_Town) "__init__" = some (some (.ref f_Townu_initu)))
    (i_Townu_initu : PySem.W.isFn K (.ref f_Townu_initu) = true)
    (l_Townu_initu : K.lookup f_Townu_initu = some ⟨oc_Townu_initu, od_Townu_initu, .func (PySem.W.fnOf "__init__" "Town.__init__" (defArgs s_Townu_initu) (defBody s_Townu_initu) (defScope s_Townu_initu) .none kV_Townu_initu dc_Townu_initu pm_Townu_initu an_Townu_initu cd_Townu_initu ct_Townu_initu), sl_Townu_initu⟩)
    (c_Townu_initu : PySem.W.codeIn K cd_Townu_initu "Town.__init__" = true)
    (k_Townu_initu : PySem.W.keepIn K (.ref f_Townu_initu) = true)
    (a_Town_rope : PySem.W.findIn K (.ref C_Town) "rope" = some (some (.ref f_Town_rope)))
    (i_Town_rope : PySem.W.isFn K (.ref f_Town_rope) = true)
    (l_Town_rope : K.lookup f_Town_rope = some ⟨oc_Town_rope, od_Town_rope, .func (PySem.W.fnOf "rope" "Town.rope" (defArgs s_Town_rope) (defBody s_Town_rope) (defScope s_Town_rope) .none kV_Town_rope dc_Town_rope pm_Town_rope an_Town_rope cd_Town_rope ct_Town_rope), sl_Town_rope⟩)
    (c_Town_rope : PySem.W.codeIn K cd_Town_rope "Town.rope" = true)
    (k_Town_rope : PySem.W.keepIn K (.ref f_Town_rope) = true)
    (a_Town_lets : PySem.W.findIn K (.ref C_Town) "lets" = some (some (.ref f_Town_lets)))
    (i_Town_lets : PySem.W.isFn K (.ref f_Town_lets) = true)
    (l_Town_lets : K.lookup f_Town_lets = some ⟨oc_Town_lets, od_Town_lets, .func (PySem.W.fnOf "lets" "Town.lets" (defArgs s_Town_lets) (defBody s_Town_lets) (defScope s_Town_lets) .none kV_Town_lets dc_Town_lets pm_Town_lets an_Town_lets cd_Town_lets ct_Town_lets), sl_Town_lets⟩)
    (c_Town_lets : PySem.W.codeIn K cd_Town_lets "Town.lets" = true)
    (k_Town_lets : PySem.W.keepIn K (.ref f_Town_lets) = true)
    (a_check_names : PySem.W.nsIn K mainGlobals "check_names" = some (some (.ref f_check_names)))
    (l_check_names : K.lookup f_check_names = some ⟨oc_check_names, od_check_names, .func (PySem.W.fnOf "check_names" "check_names" (defArgs s_check_names) (defBody s_check_names) (defScope s_check_names) .none kV_check_names dc_check_names pm_check_names an_check_names cd_check_names ct_check_names), sl_check_names⟩)
    (c_check_names : PySem.W.codeIn K cd_check_names "check_names" = true)
    (k_check_names : PySem.W.keepIn K (.ref f_check_names) = true)
    (a_check_ropes : PySem.W.nsIn K mainGlobals "check_ropes" = some (some (.ref f_check_ropes)))
    (l_check_ropes : K.lookup f_check_ropes = some ⟨oc_check_ropes, od_check_ropes, .func (PySem.W.fnOf "check_ropes" "check_ropes" (defArgs s_check_ropes) (defBody s_check_ropes) (defScope s_check_ropes) .none kV_check_ropes dc_check_ropes pm_check_ropes an_check_ropes cd_check_ropes ct_check_ropes), sl_check_ropes⟩)
    (c_check_ropes : PySem.W.codeIn K cd_check_ropes "check_ropes" = true)
    (k_check_ropes : PySem.W.keepIn K (.ref f_check_ropes) = true)
    (a_check_rope : PySem.W.nsIn K mainGlobals "check_rope" = some (some (.ref f_check_rope)))
    (l_check_rope : K.lookup f_check_rope = some ⟨oc_check_rope, od_check_rope, .func (PySem.W.fnOf "check_rope" "check_rope" (defArgs s_check_rope) (defBody s_check_rope) (defScope s_check_rope) .none kV_check_rope dc_check_rope pm_check_rope an_check_rope cd_check_rope ct_check_rope), sl_check_rope⟩)
    (c_check_rope : PySem.W.codeIn K cd_check_rope "check_rope" = true)
    (k_check_rope : PySem.W.keepIn K (.ref f_check_rope) = true)
    (a_joins_two : PySem.W.nsIn K mainGlobals "joins_two" = some (some (.ref f_joins_two)))
    (l_joins_two : K.lookup f_joins_two = some ⟨oc_joins_two, od_joins_two, .func (PySem.W.fnOf "joins_two" "joins_two" (defArgs s_joins_two) (defBody s_joins_two) (defScope s_joins_two) .none kV_joins_two dc_joins_two pm_joins_two an_joins_two cd_joins_two ct_joins_two), sl_joins_two⟩)
    (c_joins_two : PySem.W.codeIn K cd_joins_two "joins_two" = true)
    (k_joins_two : PySem.W.keepIn K (.ref f_joins_two) = true)
    (a_Strandsu_initu : PySem.W.findIn K (.ref C_Strands) "__init__" = some (some (.ref f_Strandsu_initu)))
    (i_Strandsu_initu : PySem.W.isFn K (.ref f_Strandsu_initu) = true)
    (l_Strandsu_initu : K.lookup f_Strandsu_initu = some ⟨oc_Strandsu_initu, od_Strandsu_initu, .func (PySem.W.fnOf "__init__" "Strands.__init__" (defArgs s_Strandsu_initu) (defBody s_Strandsu_initu) (defScope s_Strandsu_initu) .none kV_Strandsu_initu dc_Strandsu_initu pm_Strandsu_initu an_Strandsu_initu cd_Strandsu_initu ct_Strandsu_initu), sl_Strandsu_initu⟩)
    (c_Strandsu_initu : PySem.W.codeIn K cd_Strandsu_initu "Strands.__init__" = true)
    (k_Strandsu_initu : PySem.W.keepIn K (.ref f_Strandsu_initu) = true)
    (a_Strands_fall : PySem.W.findIn K (.ref C_Strands) "fall" = some (some (.ref f_Strands_fall)))
    (i_Strands_fall : PySem.W.isFn K (.ref f_Strands_fall) = true)
    (l_Strands_fall : K.lookup f_Strands_fall = some ⟨oc_Strands_fall, od_Strands_fall, .func (PySem.W.fnOf "fall" "Strands.fall" (defArgs s_Strands_fall) (defBody s_Strands_fall) (defScope s_Strands_fall) .none kV_Strands_fall dc_Strands_fall pm_Strands_fall an_Strands_fall cd_Strands_fall ct_Strands_fall), sl_Strands_fall⟩)
    (c_Strands_fall : PySem.W.codeIn K cd_Strands_fall "Strands.fall" = true)
    (k_Strands_fall : PySem.W.keepIn K (.ref f_Strands_fall) = true)
    (a_Strands_lay : PySem.W.findIn K (.ref C_Strands) "lay" = some (some (.ref f_Strands_lay)))
    (i_Strands_lay : PySem.W.isFn K (.ref f_Strands_lay) = true)
    (l_Strands_lay : K.lookup f_Strands_lay = some ⟨oc_Strands_lay, od_Strands_lay, .func (PySem.W.fnOf "lay" "Strands.lay" (defArgs s_Strands_lay) (defBody s_Strands_lay) (defScope s_Strands_lay) .none kV_Strands_lay dc_Strands_lay pm_Strands_lay an_Strands_lay cd_Strands_lay ct_Strands_lay), sl_Strands_lay⟩)
    (c_Strands_lay : PySem.W.codeIn K cd_Strands_lay "Strands.lay" = true)
    (k_Strands_lay : PySem.W.keepIn K (.ref f_Strands_lay) = true)
    (a_Strands_standing : PySem.W.findIn K (.ref C_Strands) "standing" = some (some (.ref f_Strands_standing)))
    (i_Strands_standing : PySem.W.isFn K (.ref f_Strands_standing) = true)
    (l_Strands_standing : K.lookup f_Strands_standing = some ⟨oc_Strands_standing, od_Strands_standing, .func (PySem.W.fnOf "standing" "Strands.standing" (defArgs s_Strands_standing) (defBody s_Strands_standing) (defScope s_Strands_standing) .none kV_Strands_standing dc_Strands_standing pm_Strands_standing an_Strands_standing cd_Strands_standing ct_Strands_standing), sl_Strands_standing⟩)
    (c_Strands_standing : PySem.W.codeIn K cd_Strands_standing "Strands.standing" = true)
    (k_Strands_standing : PySem.W.keepIn K (.ref f_Strands_standing) = true)
    (a_Strands_wire_for : PySem.W.findIn K (.ref C_Strands) "wire_for" = some (some (.ref f_Strands_wire_for)))
    (i_Strands_wire_for : PySem.W.isFn K (.ref f_Strands_wire_for) = true)
    (l_Strands_wire_for : K.lookup f_Strands_wire_for = some ⟨oc_Strands_wire_for, od_Strands_wire_for, .func (PySem.W.fnOf "wire_for" "Strands.wire_for" (defArgs s_Strands_wire_for) (defBody s_Strands_wire_for) (defScope s_Strands_wire_for) .none kV_Strands_wire_for dc_Strands_wire_for pm_Strands_wire_for an_Strands_wire_for cd_Strands_wire_for ct_Strands_wire_for), sl_Strands_wire_for⟩)
    (c_Strands_wire_for : PySem.W.codeIn K cd_Strands_wire_for "Strands.wire_for" = true)
    (k_Strands_wire_for : PySem.W.keepIn K (.ref f_Strands_wire_for) = true)
    (a_Strands_live : PySem.W.findIn K (.ref C_Strands) "live" = some (some (.ref f_Strands_live)))
    (i_Strands_live : PySem.W.isFn K (.ref f_Strands_live) = true)
    (l_Strands_live : K.lookup f_Strands_live = some ⟨oc_Strands_live, od_Strands_live, .func (PySem.W.fnOf "live" "Strands.live" (defArgs s_Strands_live) (defBody s_Strands_live) (defScope s_Strands_live) .none kV_Strands_live dc_Strands_live pm_Strands_live an_Strands_live cd_Strands_live ct_Strands_live), sl_Strands_live⟩)
    (c_Strands_live : PySem.W.codeIn K cd_Strands_live "Strands.live" = true)
    (k_Strands_live : PySem.W.keepIn K (.ref f_Strands_live) = true)
    (a_wires_of : PySem.W.nsIn K mainGlobals "wires_of" = some (some (.ref f_wires_of)))
    (l_wires_of : K.lookup f_wires_of = some ⟨oc_wires_of, od_wires_of, .func (PySem.W.fnOf "wires_of" "wires_of" (defArgs s_wires_of) (defBody s_wires_of) (defScope s_wires_of) .none kV_wires_of dc_wires_of pm_wires_of an_wires_of cd_wires_of ct_wires_of), sl_wires_of⟩)
    (c_wires_of : PySem.W.codeIn K cd_wires_of "wires_of" = true)
    (k_wires_of : PySem.W.keepIn K (.ref f_wires_of) = true)
    (a_check_group : PySem.W.nsIn K mainGlobals "check_group" = some (some (.ref f_check_group)))
    (l_check_group : K.lookup f_check_group = some ⟨oc_check_group, od_check_group, .func (PySem.W.fnOf "check_group" "check_group" (defArgs s_check_group) (defBody s_check_group) (defScope s_check_group) .none kV_check_group dc_check_group pm_check_group an_check_group cd_check_group ct_check_group), sl_check_group⟩)
    (c_check_group : PySem.W.codeIn K cd_check_group "check_group" = true)
    (k_check_group : PySem.W.keepIn K (.ref f_check_group) = true)
    (a_w_cell_at : PySem.W.nsIn K mainGlobals "_law_cell_at" = some (some (.ref f_w_cell_at)))
    (l_w_cell_at : K.lookup f_w_cell_at = some ⟨oc_w_cell_at, od_w_cell_at, .func (PySem.W.fnOf "_law_cell_at" "_law_cell_at" (defArgs s_w_cell_at) (defBody s_w_cell_at) (defScope s_w_cell_at) .none kV_w_cell_at dc_w_cell_at pm_w_cell_at an_w_cell_at cd_w_cell_at ct_w_cell_at), sl_w_cell_at⟩)
    (c_w_cell_at : PySem.W.codeIn K cd_w_cell_at "_law_cell_at" = true)
    (k_w_cell_at : PySem.W.keepIn K (.ref f_w_cell_at) = true)
    (a_w_numbers : PySem.W.nsIn K mainGlobals "_law_numbers" = some (some (.ref f_w_numbers)))
    (l_w_numbers : K.lookup f_w_numbers = some ⟨oc_w_numbers, od_w_numbers, .func (PySem.W.fnOf "_law_numbers" "_law_numbers" (defArgs s_w_numbers) (defBody s_w_numbers) (defScope s_w_numbers) .none kV_w_numbers dc_w_numbers pm_w_numbers an_w_numbers cd_w_numbers ct_w_numbers), sl_w_numbers⟩)
    (c_w_numbers : PySem.W.codeIn K cd_w_numbers "_law_numbers" = true)
    (k_w_numbers : PySem.W.keepIn K (.ref f_w_numbers) = true)
    (a_w_names : PySem.W.nsIn K mainGlobals "_law_names" = some (some (.ref f_w_names)))
    (l_w_names : K.lookup f_w_names = some ⟨oc_w_names, od_w_names, .func (PySem.W.fnOf "_law_names" "_law_names" (defArgs s_w_names) (defBody s_w_names) (defScope s_w_names) .none kV_w_names dc_w_names pm_w_names an_w_names cd_w_names ct_w_names), sl_w_names⟩)
    (c_w_names : PySem.W.codeIn K cd_w_names "_law_names" = true)
    (k_w_names : PySem.W.keepIn K (.ref f_w_names) = true)
    (a_w_ropes : PySem.W.nsIn K mainGlobals "_law_ropes" = some (some (.ref f_w_ropes)))
    (l_w_ropes : K.lookup f_w_ropes = some ⟨oc_w_ropes, od_w_ropes, .func (PySem.W.fnOf "_law_ropes" "_law_ropes" (defArgs s_w_ropes) (defBody s_w_ropes) (defScope s_w_ropes) .none kV_w_ropes dc_w_ropes pm_w_ropes an_w_ropes cd_w_ropes ct_w_ropes), sl_w_ropes⟩)
    (c_w_ropes : PySem.W.codeIn K cd_w_ropes "_law_ropes" = true)
    (k_w_ropes : PySem.W.keepIn K (.ref f_w_ropes) = true)
    (a_w_done : PySem.W.nsIn K mainGlobals "_law_done" = some (some (.ref f_w_done)))
    (l_w_done : K.lookup f_w_done = some ⟨oc_w_done, od_w_done, .func (PySem.W.fnOf "_law_done" "_law_done" (defArgs s_w_done) (defBody s_w_done) (defScope s_w_done) .none kV_w_done dc_w_done pm_w_done an_w_done cd_w_done ct_w_done), sl_w_done⟩)
    (c_w_done : PySem.W.codeIn K cd_w_done "_law_done" = true)
    (k_w_done : PySem.W.keepIn K (.ref f_w_done) = true)
    (a_w_refused : PySem.W.nsIn K mainGlobals "_law_refused" = some (some (.ref f_w_refused)))
    (l_w_refused : K.lookup f_w_refused = some ⟨oc_w_refused, od_w_refused, .func (PySem.W.fnOf "_law_refused" "_law_refused" (defArgs s_w_refused) (defBody s_w_refused) (defScope s_w_refused) .none kV_w_refused dc_w_refused pm_w_refused an_w_refused cd_w_refused ct_w_refused), sl_w_refused⟩)
    (c_w_refused : PySem.W.codeIn K cd_w_refused "_law_refused" = true)
    (k_w_refused : PySem.W.keepIn K (.ref f_w_refused) = true)
    (a_w_out : PySem.W.nsIn K mainGlobals "_law_out" = some (some (.ref f_w_out)))
    (l_w_out : K.lookup f_w_out = some ⟨oc_w_out, od_w_out, .func (PySem.W.fnOf "_law_out" "_law_out" (defArgs s_w_out) (defBody s_w_out) (defScope s_w_out) .none kV_w_out dc_w_out pm_w_out an_w_out cd_w_out ct_w_out), sl_w_out⟩)
    (c_w_out : PySem.W.codeIn K cd_w_out "_law_out" = true)
    (k_w_out : PySem.W.keepIn K (.ref f_w_out) = true)
    (a_w_odd : PySem.W.nsIn K mainGlobals "_law_odd" = some (some (.ref f_w_odd)))
    (l_w_odd : K.lookup f_w_odd = some ⟨oc_w_odd, od_w_odd, .func (PySem.W.fnOf "_law_odd" "_law_odd" (defArgs s_w_odd) (defBody s_w_odd) (defScope s_w_odd) .none kV_w_odd dc_w_odd pm_w_odd an_w_odd cd_w_odd ct_w_odd), sl_w_odd⟩)
    (c_w_odd : PySem.W.codeIn K cd_w_odd "_law_odd" = true)
    (k_w_odd : PySem.W.keepIn K (.ref f_w_odd) = true)
    (a_law : PySem.W.nsIn K mainGlobals "law" = some (some (.ref f_law)))
    (l_law : K.lookup f_law = some ⟨oc_law, od_law, .func (PySem.W.fnOf "law" "law" (defArgs s_law) (defBody s_law) (defScope s_law) .none kV_law dc_law pm_law an_law cd_law ct_law), sl_law⟩)
    (c_law : PySem.W.codeIn K cd_law "law" = true)
    (k_law : PySem.W.keepIn K (.ref f_law) = true)
    (pg_Town : PySem.W.plainGet K C_Town Str.empty = true)
    (hd_Town : PySem.W.hasDictIn K C_Town = true)
    (po_Town : PySem.W.plainOver K C_Town = true)
    (sa_Town : PySem.W.findIn K (.ref C_Town) "__setattr__" = some (some (.builtin "object.__setattr__")))
    (mk_Town : PySem.W.makesIn K C_Town = true)
    (kc_Town : PySem.W.keepIn K (.ref C_Town) = true)
    (nA_Town_house_names : PySem.W.findIn K (.ref C_Town) "house_names" = some none)
    (nA_Town_rope_tuples : PySem.W.findIn K (.ref C_Town) "rope_tuples" = some none)
    (nA_Town_size : PySem.W.findIn K (.ref C_Town) "size" = some none)
    (nA_Town_many : PySem.W.findIn K (.ref C_Town) "many" = some none)
    (pg_Strands : PySem.W.plainGet K C_Strands Str.empty = true)
    (hd_Strands : PySem.W.hasDictIn K C_Strands = true)
    (po_Strands : PySem.W.plainOver K C_Strands = true)
    (sa_Strands : PySem.W.findIn K (.ref C_Strands) "__setattr__" = some (some (.builtin "object.__setattr__")))
    (mk_Strands : PySem.W.makesIn K C_Strands = true)
    (kc_Strands : PySem.W.keepIn K (.ref C_Strands) = true)
    (nA_Strands_town : PySem.W.findIn K (.ref C_Strands) "town" = some none)
    (nA_Strands_upright : PySem.W.findIn K (.ref C_Strands) "upright" = some none)
    (aX_KnotError : PySem.W.nsIn K mainGlobals "KnotError" = some (some (.ref X_KnotError)))
    (xb_KnotError : PySem.W.subIn K (.ref X_KnotError) (.type "BaseException") = some true)
    (xd_KnotError : PySem.W.hasDictIn K X_KnotError = true)
    (xt_KnotError : PySem.W.typeIn K (.ref X_KnotError) = some (.type "type"))
    (aX_NoWire : PySem.W.nsIn K mainGlobals "NoWire" = some (some (.ref X_NoWire)))
    (xex_NoWire : PySem.W.excIn K X_NoWire veMro "ValueError.__new__" = true)
    (xga_NoWire : PySem.W.findIn K (.ref X_NoWire) "__getattribute__" = some (some (.builtin "BaseException.__getattribute__")))
    (xgb_NoWire : PySem.W.findIn K (.ref X_NoWire) "__getattr__" = some none)
    (xhd_NoWire : PySem.W.hasDictIn K X_NoWire = true)
    (xca_NoWire : PySem.W.findIn K (.ref X_NoWire) "__class__" = some (some (.builtin "object.__class__")))
    (xcg_NoWire : PySem.W.specialIn K (.builtin "object.__class__") "__get__" = some (some (.builtin "getset_descriptor.__get__")))
    (xct_NoWire : PySem.W.takesIn K (.builtin "object.__class__") = some true)
    (xmo_NoWire : PySem.W.mroIn K X_NoWire (.type "object") = some true)
    (xmb_NoWire : PySem.W.mroIn K X_NoWire (.type "BaseException") = some true)
    (aX_NoGroup : PySem.W.nsIn K mainGlobals "NoGroup" = some (some (.ref X_NoGroup)))
    (xex_NoGroup : PySem.W.excIn K X_NoGroup veMro "ValueError.__new__" = true)
    (xga_NoGroup : PySem.W.findIn K (.ref X_NoGroup) "__getattribute__" = some (some (.builtin "BaseException.__getattribute__")))
    (xgb_NoGroup : PySem.W.findIn K (.ref X_NoGroup) "__getattr__" = some none)
    (xhd_NoGroup : PySem.W.hasDictIn K X_NoGroup = true)
    (xca_NoGroup : PySem.W.findIn K (.ref X_NoGroup) "__class__" = some (some (.builtin "object.__class__")))
    (xcg_NoGroup : PySem.W.specialIn K (.builtin "object.__class__") "__get__" = some (some (.builtin "getset_descriptor.__get__")))
    (xct_NoGroup : PySem.W.takesIn K (.builtin "object.__class__") = some true)
    (xmo_NoGroup : PySem.W.mroIn K X_NoGroup (.type "object") = some true)
    (xmb_NoGroup : PySem.W.mroIn K X_NoGroup (.type "BaseException") = some true)
    (aX_Apart : PySem.W.nsIn K mainGlobals "Apart" = some (some (.ref X_Apart)))
    (aX_BadTown : PySem.W.nsIn K mainGlobals "BadTown" = some (some (.ref X_BadTown)))
    (aX_NoCaller : PySem.W.nsIn K mainGlobals "NoCaller" = some (some (.ref X_NoCaller)))
    (aX_NoCopy : PySem.W.nsIn K mainGlobals "NoCopy" = some (some (.ref X_NoCopy)))
    (aX_NoHouse : PySem.W.nsIn K mainGlobals "NoHouse" = some (some (.ref X_NoHouse)))
    (aX_NoLetter : PySem.W.nsIn K mainGlobals "NoLetter" = some (some (.ref X_NoLetter)))
    (aX_NoText : PySem.W.nsIn K mainGlobals "NoText" = some (some (.ref X_NoText)))
    (xi_NoWire_Apart : PySem.W.kitOne K (.ref X_NoWire) (.ref X_Apart) = some false)
    (xi_NoWire_BadTown : PySem.W.kitOne K (.ref X_NoWire) (.ref X_BadTown) = some false)
    (xi_NoWire_NoCaller : PySem.W.kitOne K (.ref X_NoWire) (.ref X_NoCaller) = some false)
    (xi_NoWire_NoCopy : PySem.W.kitOne K (.ref X_NoWire) (.ref X_NoCopy) = some false)
    (xi_NoWire_NoHouse : PySem.W.kitOne K (.ref X_NoWire) (.ref X_NoHouse) = some false)
    (xi_NoWire_NoLetter : PySem.W.kitOne K (.ref X_NoWire) (.ref X_NoLetter) = some false)
    (xi_NoWire_NoText : PySem.W.kitOne K (.ref X_NoWire) (.ref X_NoText) = some false)
    (xi_NoGroup_Apart : PySem.W.kitOne K (.ref X_NoGroup) (.ref X_Apart) = some false)
    (xi_NoGroup_BadTown : PySem.W.kitOne K (.ref X_NoGroup) (.ref X_BadTown) = some false)
    (xi_NoGroup_NoCaller : PySem.W.kitOne K (.ref X_NoGroup) (.ref X_NoCaller) = some false)
    (xi_NoGroup_NoCopy : PySem.W.kitOne K (.ref X_NoGroup) (.ref X_NoCopy) = some false)
    (xi_NoGroup_NoHouse : PySem.W.kitOne K (.ref X_NoGroup) (.ref X_NoHouse) = some false)
    (xi_NoGroup_NoLetter : PySem.W.kitOne K (.ref X_NoGroup) (.ref X_NoLetter) = some false)
    (xi_NoGroup_NoText : PySem.W.kitOne K (.ref X_NoGroup) (.ref X_NoText) = some false)
    (xi_NoWire_NoWire : PySem.W.kitOne K (.ref X_NoWire) (.ref X_NoWire) = some true)
    (xi_NoWire_NoGroup : PySem.W.kitOne K (.ref X_NoWire) (.ref X_NoGroup) = some false)
    (xi_NoGroup_NoWire : PySem.W.kitOne K (.ref X_NoGroup) (.ref X_NoWire) = some false)
    (xi_NoGroup_NoGroup : PySem.W.kitOne K (.ref X_NoGroup) (.ref X_NoGroup) = some true)
    (xi_NoWire_ValueError : PySem.W.kitOne K (.ref X_NoWire) (.type "ValueError") = some true)
    (xi_NoGroup_ValueError : PySem.W.kitOne K (.ref X_NoGroup) (.type "ValueError") = some true)
    (xh_NoWire_KnotError : PySem.W.subIn K (.ref X_NoWire) (.ref X_KnotError) = some true)
    (xh_NoGroup_KnotError : PySem.W.subIn K (.ref X_NoGroup) (.ref X_KnotError) = some true)
    (g_MOST_HOUSES : PySem.W.nsIn K mainGlobals "MOST_HOUSES" = some (some (.int 10 q_MOST_HOUSES)))
    (g_MOST_ROPES : PySem.W.nsIn K mainGlobals "MOST_ROPES" = some (some (.int 20 q_MOST_ROPES)))
    (g_MOST_WIRES : PySem.W.nsIn K mainGlobals "MOST_WIRES" = some (some (.int 4 q_MOST_WIRES)))
    (g_ALL_GROUPS : PySem.W.nsIn K mainGlobals "ALL_GROUPS" = some (some (.int 7 q_ALL_GROUPS)))
    (g_GROUP_BITS : PySem.W.nsIn K mainGlobals "GROUP_BITS" = some (some (.ref a_GROUP_BITS)))
    (o_GROUP_BITS : K.lookup a_GROUP_BITS = some ⟨.type "tuple", od_GROUP_BITS, .seq #[.int 1 t0_GROUP_BITS, .int 2 t1_GROUP_BITS, .int 4 t2_GROUP_BITS] n_GROUP_BITS, sl_GROUP_BITS⟩)
    (z_len : PySem.W.nsIn K mainGlobals "len" = some none)
    (z_isinstance : PySem.W.nsIn K mainGlobals "isinstance" = some none)
    (z_int : PySem.W.nsIn K mainGlobals "int" = some none)
    (z_bool : PySem.W.nsIn K mainGlobals "bool" = some none)
    (z_list : PySem.W.nsIn K mainGlobals "list" = some none)
    (z_range : PySem.W.nsIn K mainGlobals "range" = some none)
    (z_min : PySem.W.nsIn K mainGlobals "min" = some none)
    (z_set : PySem.W.nsIn K mainGlobals "set" = some none)
    (z_sorted : PySem.W.nsIn K mainGlobals "sorted" = some none)
    (z_ValueError : PySem.W.nsIn K mainGlobals "ValueError" = some none)
    (z_abs : PySem.W.nsIn K mainGlobals "abs" = some none) : ∃ t, Txt K mg t := by
  have F_Townu_initu := fun_mk (st := s_Townu_initu) l_Townu_initu c_Townu_initu k_Townu_initu
  have F_Town_rope := fun_mk (st := s_Town_rope) l_Town_rope c_Town_rope k_Town_rope
  have F_Town_lets := fun_mk (st := s_Town_lets) l_Town_lets c_Town_lets k_Town_lets
  have F_check_names := fun_mk (st := s_check_names) l_check_names c_check_names k_check_names
  have F_check_ropes := fun_mk (st := s_check_ropes) l_check_ropes c_check_ropes k_check_ropes
  have F_check_rope := fun_mk (st := s_check_rope) l_check_rope c_check_rope k_check_rope
  have F_joins_two := fun_mk (st := s_joins_two) l_joins_two c_joins_two k_joins_two
  have F_Strandsu_initu := fun_mk (st := s_Strandsu_initu) l_Strandsu_initu c_Strandsu_initu k_Strandsu_initu
  have F_Strands_fall := fun_mk (st := s_Strands_fall) l_Strands_fall c_Strands_fall k_Strands_fall
  have F_Strands_lay := fun_mk (st := s_Strands_lay) l_Strands_lay c_Strands_lay k_Strands_lay
  have F_Strands_standing := fun_mk (st := s_Strands_standing) l_Strands_standing c_Strands_standing k_Strands_standing
  have F_Strands_wire_for := fun_mk (st := s_Strands_wire_for) l_Strands_wire_for c_Strands_wire_for k_Strands_wire_for
  have F_Strands_live := fun_mk (st := s_Strands_live) l_Strands_live c_Strands_live k_Strands_live
  have F_wires_of := fun_mk (st := s_wires_of) l_wires_of c_wires_of k_wires_of
  have F_check_group := fun_mk (st := s_check_group) l_check_group c_check_group k_check_group
  have F_w_cell_at := fun_mk (st := s_w_cell_at) l_w_cell_at c_w_cell_at k_w_cell_at
  have F_w_numbers := fun_mk (st := s_w_numbers) l_w_numbers c_w_numbers k_w_numbers
  have F_w_names := fun_mk (st := s_w_names) l_w_names c_w_names k_w_names
  have F_w_ropes := fun_mk (st := s_w_ropes) l_w_ropes c_w_ropes k_w_ropes
  have F_w_done := fun_mk (st := s_w_done) l_w_done c_w_done k_w_done
  have F_w_refused := fun_mk (st := s_w_refused) l_w_refused c_w_refused k_w_refused
  have F_w_out := fun_mk (st := s_w_out) l_w_out c_w_out k_w_out
  have F_w_odd := fun_mk (st := s_w_odd) l_w_odd c_w_odd k_w_odd
  have F_law := fun_mk (st := s_law) l_law c_law k_law
  exact ⟨⟨f_Townu_initu, (PySem.W.fnOf "__init__" "Town.__init__" (defArgs s_Townu_initu) (defBody s_Townu_initu) (defScope s_Townu_initu) .none kV_Townu_initu dc_Townu_initu pm_Townu_initu an_Townu_initu cd_Townu_initu ct_Townu_initu), f_Town_rope, (PySem.W.fnOf "rope" "Town.rope" (defArgs s_Town_rope) (defBody s_Town_rope) (defScope s_Town_rope) .none kV_Town_rope dc_Town_rope pm_Town_rope an_Town_rope cd_Town_rope ct_Town_rope), f_Town_lets, (PySem.W.fnOf "lets" "Town.lets" (defArgs s_Town_lets) (defBody s_Town_lets) (defScope s_Town_lets) .none kV_Town_lets dc_Town_lets pm_Town_lets an_Town_lets cd_Town_lets ct_Town_lets), f_check_names, (PySem.W.fnOf "check_names" "check_names" (defArgs s_check_names) (defBody s_check_names) (defScope s_check_names) .none kV_check_names dc_check_names pm_check_names an_check_names cd_check_names ct_check_names), f_check_ropes, (PySem.W.fnOf "check_ropes" "check_ropes" (defArgs s_check_ropes) (defBody s_check_ropes) (defScope s_check_ropes) .none kV_check_ropes dc_check_ropes pm_check_ropes an_check_ropes cd_check_ropes ct_check_ropes), f_check_rope, (PySem.W.fnOf "check_rope" "check_rope" (defArgs s_check_rope) (defBody s_check_rope) (defScope s_check_rope) .none kV_check_rope dc_check_rope pm_check_rope an_check_rope cd_check_rope ct_check_rope), f_joins_two, (PySem.W.fnOf "joins_two" "joins_two" (defArgs s_joins_two) (defBody s_joins_two) (defScope s_joins_two) .none kV_joins_two dc_joins_two pm_joins_two an_joins_two cd_joins_two ct_joins_two), f_Strandsu_initu, (PySem.W.fnOf "__init__" "Strands.__init__" (defArgs s_Strandsu_initu) (defBody s_Strandsu_initu) (defScope s_Strandsu_initu) .none kV_Strandsu_initu dc_Strandsu_initu pm_Strandsu_initu an_Strandsu_initu cd_Strandsu_initu ct_Strandsu_initu), f_Strands_fall, (PySem.W.fnOf "fall" "Strands.fall" (defArgs s_Strands_fall) (defBody s_Strands_fall) (defScope s_Strands_fall) .none kV_Strands_fall dc_Strands_fall pm_Strands_fall an_Strands_fall cd_Strands_fall ct_Strands_fall), f_Strands_lay, (PySem.W.fnOf "lay" "Strands.lay" (defArgs s_Strands_lay) (defBody s_Strands_lay) (defScope s_Strands_lay) .none kV_Strands_lay dc_Strands_lay pm_Strands_lay an_Strands_lay cd_Strands_lay ct_Strands_lay), f_Strands_standing, (PySem.W.fnOf "standing" "Strands.standing" (defArgs s_Strands_standing) (defBody s_Strands_standing) (defScope s_Strands_standing) .none kV_Strands_standing dc_Strands_standing pm_Strands_standing an_Strands_standing cd_Strands_standing ct_Strands_standing), f_Strands_wire_for, (PySem.W.fnOf "wire_for" "Strands.wire_for" (defArgs s_Strands_wire_for) (defBody s_Strands_wire_for) (defScope s_Strands_wire_for) .none kV_Strands_wire_for dc_Strands_wire_for pm_Strands_wire_for an_Strands_wire_for cd_Strands_wire_for ct_Strands_wire_for), f_Strands_live, (PySem.W.fnOf "live" "Strands.live" (defArgs s_Strands_live) (defBody s_Strands_live) (defScope s_Strands_live) .none kV_Strands_live dc_Strands_live pm_Strands_live an_Strands_live cd_Strands_live ct_Strands_live), f_wires_of, (PySem.W.fnOf "wires_of" "wires_of" (defArgs s_wires_of) (defBody s_wires_of) (defScope s_wires_of) .none kV_wires_of dc_wires_of pm_wires_of an_wires_of cd_wires_of ct_wires_of), f_check_group, (PySem.W.fnOf "check_group" "check_group" (defArgs s_check_group) (defBody s_check_group) (defScope s_check_group) .none kV_check_group dc_check_group pm_check_group an_check_group cd_check_group ct_check_group), f_w_cell_at, (PySem.W.fnOf "_law_cell_at" "_law_cell_at" (defArgs s_w_cell_at) (defBody s_w_cell_at) (defScope s_w_cell_at) .none kV_w_cell_at dc_w_cell_at pm_w_cell_at an_w_cell_at cd_w_cell_at ct_w_cell_at), f_w_numbers, (PySem.W.fnOf "_law_numbers" "_law_numbers" (defArgs s_w_numbers) (defBody s_w_numbers) (defScope s_w_numbers) .none kV_w_numbers dc_w_numbers pm_w_numbers an_w_numbers cd_w_numbers ct_w_numbers), f_w_names, (PySem.W.fnOf "_law_names" "_law_names" (defArgs s_w_names) (defBody s_w_names) (defScope s_w_names) .none kV_w_names dc_w_names pm_w_names an_w_names cd_w_names ct_w_names), f_w_ropes, (PySem.W.fnOf "_law_ropes" "_law_ropes" (defArgs s_w_ropes) (defBody s_w_ropes) (defScope s_w_ropes) .none kV_w_ropes dc_w_ropes pm_w_ropes an_w_ropes cd_w_ropes ct_w_ropes), f_w_done, (PySem.W.fnOf "_law_done" "_law_done" (defArgs s_w_done) (defBody s_w_done) (defScope s_w_done) .none kV_w_done dc_w_done pm_w_done an_w_done cd_w_done ct_w_done), f_w_refused, (PySem.W.fnOf "_law_refused" "_law_refused" (defArgs s_w_refused) (defBody s_w_refused) (defScope s_w_refused) .none kV_w_refused dc_w_refused pm_w_refused an_w_refused cd_w_refused ct_w_refused), f_w_out, (PySem.W.fnOf "_law_out" "_law_out" (defArgs s_w_out) (defBody s_w_out) (defScope s_w_out) .none kV_w_out dc_w_out pm_w_out an_w_out cd_w_out ct_w_out), f_w_odd, (PySem.W.fnOf "_law_odd" "_law_odd" (defArgs s_w_odd) (defBody s_w_odd) (defScope s_w_odd) .none kV_w_odd dc_w_odd pm_w_odd an_w_odd cd_w_odd ct_w_odd), f_law, (PySem.W.fnOf "law" "law" (defArgs s_law) (defBody s_law) (defScope s_law) .none kV_law dc_law pm_law an_law cd_law ct_law), C_Town, C_Strands, X_KnotError, X_NoWire, X_NoGroup, X_Apart, X_BadTown, X_NoCaller, X_NoCopy, X_NoHouse, X_NoLetter, X_NoText, q_MOST_HOUSES, q_MOST_ROPES, q_MOST_WIRES, q_ALL_GROUPS, a_GROUP_BITS⟩, ⟨F_Townu_initu,
    (F_Townu_initu.binds (ps := ["self", "names", "ropes"]) fun _ _ _ _ _ _ => el3 fun _ _ _ => rfl),
    ⟨mk_Town, a_Townu_initu, i_Townu_initu, kc_Town⟩,
    F_Town_rope,
    (F_Town_rope.binds (ps := ["self", "number"]) fun _ _ _ _ _ _ => el2 fun _ _ => rfl),
    ⟨a_Town_rope, i_Town_rope, k_Town_rope⟩,
    F_Town_lets,
    (F_Town_lets.binds (ps := ["self", "rope", "group"]) fun _ _ _ _ _ _ => el3 fun _ _ _ => rfl),
    ⟨a_Town_lets, i_Town_lets, k_Town_lets⟩,
    F_check_names,
    (F_check_names.binds (ps := ["names"]) fun _ _ _ _ _ _ => el1 fun _ => rfl),
    (PySem.W.mg_of X G a_check_names),
    F_check_ropes,
    (F_check_ropes.binds (ps := ["size", "ropes"]) fun _ _ _ _ _ _ => el2 fun _ _ => rfl),
    (PySem.W.mg_of X G a_check_ropes),
    F_check_rope,
    (F_check_rope.binds (ps := ["size", "rope"]) fun _ _ _ _ _ _ => el2 fun _ _ => rfl),
    (PySem.W.mg_of X G a_check_rope),
    F_joins_two,
    (F_joins_two.binds (ps := ["size", "one", "other"]) fun _ _ _ _ _ _ => el3 fun _ _ _ => rfl),
    (PySem.W.mg_of X G a_joins_two),
    F_Strandsu_initu,
    (F_Strandsu_initu.binds (ps := ["self", "town"]) fun _ _ _ _ _ _ => el2 fun _ _ => rfl),
    ⟨mk_Strands, a_Strandsu_initu, i_Strandsu_initu, kc_Strands⟩,
    F_Strands_fall,
    (F_Strands_fall.binds (ps := ["self", "rope", "wire"]) fun _ _ _ _ _ _ => el3 fun _ _ _ => rfl),
    ⟨a_Strands_fall, i_Strands_fall, k_Strands_fall⟩,
    F_Strands_lay,
    (F_Strands_lay.binds (ps := ["self", "rope", "wire"]) fun _ _ _ _ _ _ => el3 fun _ _ _ => rfl),
    ⟨a_Strands_lay, i_Strands_lay, k_Strands_lay⟩,
    F_Strands_standing,
    (F_Strands_standing.binds (ps := ["self", "rope"]) fun _ _ _ _ _ _ => el2 fun _ _ => rfl),
    ⟨a_Strands_standing, i_Strands_standing, k_Strands_standing⟩,
    F_Strands_wire_for,
    (F_Strands_wire_for.binds (ps := ["self", "rope", "number"]) fun _ _ _ _ _ _ => el3 fun _ _ _ => rfl),
    ⟨a_Strands_wire_for, i_Strands_wire_for, k_Strands_wire_for⟩,
    F_Strands_live,
    (F_Strands_live.binds (ps := ["self", "group"]) fun _ _ _ _ _ _ => el2 fun _ _ => rfl),
    ⟨a_Strands_live, i_Strands_live, k_Strands_live⟩,
    F_wires_of,
    (F_wires_of.binds (ps := ["town", "rope"]) fun _ _ _ _ _ _ => el2 fun _ _ => rfl),
    (PySem.W.mg_of X G a_wires_of),
    F_check_group,
    (F_check_group.binds (ps := ["group"]) fun _ _ _ _ _ _ => el1 fun _ => rfl),
    (PySem.W.mg_of X G a_check_group),
    F_w_cell_at,
    (F_w_cell_at.binds (ps := ["_law_script", "_law_k"]) fun _ _ _ _ _ _ => el2 fun _ _ => rfl),
    (PySem.W.mg_of X G a_w_cell_at),
    F_w_numbers,
    (F_w_numbers.binds (ps := ["_law_cell", "_law_many"]) fun _ _ _ _ _ _ => el2 fun _ _ => rfl),
    (PySem.W.mg_of X G a_w_numbers),
    F_w_names,
    (F_w_names.binds (ps := ["_law_size", "_law_cell"]) fun _ _ _ _ _ _ => el2 fun _ _ => rfl),
    (PySem.W.mg_of X G a_w_names),
    F_w_ropes,
    (F_w_ropes.binds (ps := ["_law_size", "_law_cell"]) fun _ _ _ _ _ _ => el2 fun _ _ => rfl),
    (PySem.W.mg_of X G a_w_ropes),
    F_w_done,
    (F_w_done.binds (ps := ["_law_strands", "_law_which", "_law_rope", "_law_wire"]) fun _ _ _ _ _ _ => el4 fun _ _ _ _ => rfl),
    (PySem.W.mg_of X G a_w_done),
    F_w_refused,
    (F_w_refused.binds (ps := ["_law_strands", "_law_which", "_law_rope", "_law_wire"]) fun _ _ _ _ _ _ => el4 fun _ _ _ _ => rfl),
    (PySem.W.mg_of X G a_w_refused),
    F_w_out,
    (F_w_out.binds (ps := ["_law_many", "_law_cell"]) fun _ _ _ _ _ _ => el2 fun _ _ => rfl),
    (PySem.W.mg_of X G a_w_out),
    F_w_odd,
    (F_w_odd.binds (ps := ["_law_strands", "_law_ropes_here", "_law_rope", "_law_wire", "_law_cell"]) fun _ _ _ _ _ _ => el5 fun _ _ _ _ _ => rfl),
    (PySem.W.mg_of X G a_w_odd),
    F_law,
    (F_law.binds (ps := ["_law_script"]) fun _ _ _ _ _ _ => el1 fun _ => rfl),
    (PySem.W.mg_of X G a_law),
    ⟨pg_Town, hd_Town, po_Town, sa_Town⟩,
    (PySem.W.mg_of X G aC_Town),
    nA_Town_house_names,
    nA_Town_rope_tuples,
    nA_Town_size,
    nA_Town_many,
    ⟨pg_Strands, hd_Strands, po_Strands, sa_Strands⟩,
    (PySem.W.mg_of X G aC_Strands),
    nA_Strands_town,
    nA_Strands_upright,
    (PySem.W.mg_of X G aX_KnotError),
    (kitBase_of xb_KnotError),
    (PySem.W.mg_of X G aX_NoWire),
    ⟨xex_NoWire, xga_NoWire, xgb_NoWire, xhd_NoWire, xca_NoWire, xcg_NoWire, xct_NoWire, xmo_NoWire, xmb_NoWire⟩,
    (PySem.W.mg_of X G aX_NoGroup),
    ⟨xex_NoGroup, xga_NoGroup, xgb_NoGroup, xhd_NoGroup, xca_NoGroup, xcg_NoGroup, xct_NoGroup, xmo_NoGroup, xmb_NoGroup⟩,
    (PySem.W.mg_of X G aX_Apart),
    (PySem.W.mg_of X G aX_BadTown),
    (PySem.W.mg_of X G aX_NoCaller),
    (PySem.W.mg_of X G aX_NoCopy),
    (PySem.W.mg_of X G aX_NoHouse),
    (PySem.W.mg_of X G aX_NoLetter),
    (PySem.W.mg_of X G aX_NoText),
    xi_NoWire_Apart,
    xi_NoWire_BadTown,
    xi_NoWire_NoCaller,
    xi_NoWire_NoCopy,
    xi_NoWire_NoHouse,
    xi_NoWire_NoLetter,
    xi_NoWire_NoText,
    xi_NoGroup_Apart,
    xi_NoGroup_BadTown,
    xi_NoGroup_NoCaller,
    xi_NoGroup_NoCopy,
    xi_NoGroup_NoHouse,
    xi_NoGroup_NoLetter,
    xi_NoGroup_NoText,
    xi_NoWire_NoWire,
    xi_NoWire_NoGroup,
    xi_NoGroup_NoWire,
    xi_NoGroup_NoGroup,
    xi_NoWire_ValueError,
    xi_NoGroup_ValueError,
    (kitCls_of xd_KnotError xt_KnotError xh_NoWire_KnotError),
    (kitCls_of xd_KnotError xt_KnotError xh_NoGroup_KnotError),
    (PySem.W.mg_of X G g_MOST_HOUSES),
    (PySem.W.mg_of X G g_MOST_ROPES),
    (PySem.W.mg_of X G g_MOST_WIRES),
    (PySem.W.mg_of X G g_ALL_GROUPS),
    (PySem.W.mg_of X G g_GROUP_BITS),
    (fun H => .inr ⟨_, _, _, o_GROUP_BITS, rfl, rfl, (by show 3 ≤ sizeLine; decide), (.cons ⟨_, rfl⟩ (.cons ⟨_, rfl⟩ (.cons ⟨_, rfl⟩ .nil)))⟩),
    (PySem.W.mg_none_of X G z_len),
    (PySem.W.mg_none_of X G z_isinstance),
    (PySem.W.mg_none_of X G z_int),
    (PySem.W.mg_none_of X G z_bool),
    (PySem.W.mg_none_of X G z_list),
    (PySem.W.mg_none_of X G z_range),
    (PySem.W.mg_none_of X G z_min),
    (PySem.W.mg_none_of X G z_set),
    (PySem.W.mg_none_of X G z_sorted),
    (PySem.W.mg_none_of X G z_ValueError),
    (PySem.W.mg_none_of X G z_abs)⟩⟩
end K22

set_option Elab.async false
set_option linter.all false
set_option maxRecDepth 100000
set_option maxHeartbeats 4000000
namespace K22
open PySem L2 TW PyProof.Rows
open RM (rowV byV byV_non byV_int)
seal L2.PE L2.PA L2.PT L2.PW L2.PS L2.PSs L2.PG L2.PGs L2.PI L2.PTs
theorem cxOf_K {CX : CXT} {P : Program} {w : World} {K : PySem.W.Frag} {mg : Str → Option Value} {base : Heap} {N : List Str} {qual : Str} {scope : Scope} {f : Addr} {cd : Value} {A : Around} {outer : List Env} {s : Shared} {H : Hp} {E : XK} : (cxOf CX P w K mg base N qual scope f cd A outer s H E).K = K := rfl
section
variable {P : Program} {w : World} {K : PySem.W.Frag} {mg : Str → Option Value} {base : Heap}
noncomputable def spCell (K : PySem.W.Frag) : Sp := fun vs H Q _ => ∃ (a : Addr) (ns : List Int) (k : Int), vs = [.ref a, .int k] ∧ SqL K H a (ns.map V.int) ∧ 0 ≤ k ∧ Q (.int (ns.getD k.toNat 0)) H
theorem ok_w_cell_at {t : Ad} (T : Txt K mg t) : FnOk P w K mg base CX0 1 t.f_w_cell_at t.d_w_cell_at ["_law_script", "_law_k"]  (spCell K) := by
  refine T.F_w_cell_at.ok sc_w_cell_at (fun vs H Q E h => ?_) (fun cdv A outer s H vs Q E hr h => ?_)
  · obtain ⟨a, ns, i, rfl, _⟩ := h; rfl
  · obtain ⟨a, ns, i, rfl, hS, h0, k⟩ := h
    refine ⟨_, (pss_cons (ps_if (pt_cmpR op_lt (pv 1) (pe_callB call_len_seq (by rfl) T.n_len PySem.boot_len (pa_c (pv 0) pa_nil)) (nomark _)) (pss_one (ps_ret (pe_ix ix_list (pv 0) (pv 1) (fun _ _ => rfl)))) pss_nil)
      (pss_one (ps_ret pe_int))), ?_⟩
    try dsimp only [cxOf_K]
    refine ⟨_, rfl, _, rfl, a, _, rfl, .inl hS, _, _, rfl, rfl, _, rfl, ?_⟩
    refine ite2 (fun c => ?_) (fun c => ?_)
    · have hi : i < ns.length := by simpa using c
      refine ⟨_, rfl, _, rfl, a, _, _, _, rfl, rfl, hS, atI_ints h0 hi, k⟩
    · have hi : ¬ i < ns.length := by simpa using c
      have e : ns.getD i.toNat 0 = 0 := by
        rw [List.getD_eq_getElem?_getD, List.getElem?_eq_none (by omega)]; rfl
      rw [e] at k
      exact k
end
section
variable {P : Program} {w : World} {K : PySem.W.Frag} {mg : Str → Option Value} {base : Heap}
noncomputable def spJoins : Sp := fun vs H Q _ => ∃ (n a b : Int), vs = [.int n, .int a, .int b] ∧ 0 ≤ a ∧ a < n ∧ 0 ≤ b ∧ b < n ∧ a ≠ b ∧ Q (.bl true) H
theorem ok_joins_two {t : Ad} (T : Txt K mg t) : FnOk P w K mg base CX0 1 t.f_joins_two t.d_joins_two ["size", "one", "other"]  spJoins := by
  refine T.F_joins_two.ok sc_joins_two (fun vs H Q E h => ?_) (fun cdv A outer s H vs Q E hr h => ?_)
  · obtain ⟨_, _, _, rfl, _⟩ := h; rfl
  · obtain ⟨n, a, b, rfl, h1, h2, h3, h4, h5, k⟩ := h
    refine ⟨_, (pss_one (ps_ret (pe_and (pe_chain op_le op_lt pe_int (pv 1) (pv 0)) (pe_and (pe_chain op_le op_lt pe_int (pv 2) (pv 0)) (pe_one (pe_cmpR op_ne (pv 1) (pv 2) (nomark _))))))), ?_⟩
    try dsimp only [cxOf_K]
    simp [tRet, tAndV, tChain, rI0, tC, tVar, tOp, rNe, L2.start, scal, h1, h2, h3, h4, h5, k]
    intros; omega
noncomputable def spCheckRope (K : PySem.W.Frag) : Sp := fun vs H Q _ => ∃ (n : Int) (p : Addr) (a b c d e : Int), vs = [.int n, .ref p] ∧ SqT K H p (five a b c d e) ∧ RopeOk n a b c d e ∧ Q .non H
theorem ok_check_rope {t : Ad} (T : Txt K mg t) : FnOk P w K mg base CX0 2 t.f_check_rope t.d_check_rope ["size", "rope"]  (spCheckRope K) := by
  refine T.F_check_rope.ok sc_check_rope (fun vs H Q E h => ?_) (fun cdv A outer s H vs Q E hr h => ?_)
  · obtain ⟨n, p, a, b, c, d, e, rfl, _⟩ := h; rfl
  · obtain ⟨n, p, a, b, c, d, e, rfl, hp, ok, k⟩ := h
    obtain ⟨h1, h2, h3, h4, h5, h6, h7, h8, h9, h10⟩ := ok
    refine ⟨_, (pss_cons (ps_if (pt_cmpR op_ne (pe_callB call_len_seq (by rfl) T.n_len PySem.boot_len (pa_c (pv 1) pa_nil)) pe_int (nomark _)) pss_never pss_nil)
      (pss_cons (ps_if (pt_not (pt_val (pe_call (ok_joins_two T) (hr.mono (by decide)) rfl T.g_joins_two T.F_joins_two.kp T.B_joins_two .nil pass0 (pa_c (pv 0) (pa_c (pe_ix ix_tup (pv 1) pe_int (fun _ _ => rfl)) (pa_c (pe_ix ix_tup (pv 1) pe_int (fun _ _ => rfl)) pa_nil)))))) pss_never pss_nil)
      (pss_cons (ps_if (pt_cmpR op_lt (pe_ix ix_tup (pv 1) pe_int (fun _ _ => rfl)) pe_int (nomark _)) pss_never pss_nil)
      (pss_cons (ps_if (pt_not (pt_chain op_le op_le pe_int (pe_ix ix_tup (pv 1) pe_int (fun _ _ => rfl)) (pe_glob rfl T.k_MOST_WIRES (v := .int 4) ⟨_, rfl⟩))) pss_never pss_nil)
      (pss_one (ps_if (pt_not (pt_chain op_le op_le pe_int (pe_ix ix_tup (pv 1) pe_int (fun _ _ => rfl)) (pe_glob rfl T.k_ALL_GROUPS (v := .int 7) ⟨_, rfl⟩))) pss_never pss_nil)))))), ?_⟩
    try dsimp only [cxOf_K]
    refine ⟨_, rfl, p, _, rfl, .inr hp, rfl, _, rfl, iteF ?_⟩
    refine ⟨_, rfl, _, rfl, p, _, _, _, rfl, rfl, hp, rfl, _, rfl, p, _, _, _, rfl, rfl, hp, rfl, ?_⟩
    refine ⟨_, _, _, rfl, h1, h2, h3, h4, h5, _, rfl, iteF ?_⟩
    refine ⟨_, rfl, p, _, _, _, rfl, rfl, hp, rfl, _, _, rfl, rfl, _, rfl, ?_⟩
    rw [decide_eq_false (show ¬ c < 1 by omega)]
    refine iteF ?_
    refine ⟨_, rfl, p, _, _, _, rfl, rfl, hp, rfl, _, _, rfl, rfl, _, rfl, ?_⟩
    rw [decide_eq_true h7]
    refine iteT ?_
    refine ⟨_, _, rfl, rfl, _, rfl, ?_⟩
    rw [decide_eq_true h8]
    refine iteF ?_
    refine ⟨_, rfl, p, _, _, _, rfl, rfl, hp, rfl, _, _, rfl, rfl, _, rfl, ?_⟩
    rw [decide_eq_true h9]
    refine iteT ?_
    refine ⟨_, _, rfl, rfl, _, rfl, ?_⟩
    rw [decide_eq_true h10]
    refine iteF ?_
    exact k
end
end K22

set_option Elab.async false
set_option linter.all false
set_option maxRecDepth 100000
set_option maxHeartbeats 4000000
namespace K22
open PySem L2 TW PyProof.Rows
open RM (rowV byV byV_non byV_int)
seal L2.PE L2.PA L2.PT L2.PW L2.PS L2.PSs L2.PG L2.PGs L2.PI L2.PTs
section
variable {P : Program} {w : World} {K : PySem.W.Frag} {mg : Str → Option Value} {base : Heap}
noncomputable def spCheckRopes (K : PySem.W.Frag) : Sp := fun vs H Q _ => ∃ (n : Int) (l : Addr) (rs : List R5), vs = [.int n, .ref l] ∧ Ropes K H l rs ∧ rs.length ≤ 20 ∧ (∀ r ∈ rs, r.Ok n) ∧ Q .non H
theorem ok_check_ropes {t : Ad} (T : Txt K mg t) : FnOk P w K mg base CX0 3 t.f_check_ropes t.d_check_ropes ["size", "ropes"]  (spCheckRopes K) := by
  refine T.F_check_ropes.ok sc_check_ropes (fun vs H Q E h => ?_) (fun cdv A outer s H vs Q E hr h => ?_)
  · obtain ⟨n, l, rs, rfl, _⟩ := h; rfl
  · obtain ⟨n, l, rs, rfl, hR, hl, ok, k⟩ := h
    obtain ⟨us, hL, el, hg⟩ := hR.at
    refine ⟨_, (pss_cons (ps_if (pt_cmpR op_gt (pe_callB call_len_seq (by rfl) T.n_len PySem.boot_len (pa_c (pv 1) pa_nil)) (pe_glob rfl T.k_MOST_ROPES (v := .int 20) ⟨_, rfl⟩) (nomark _)) pss_never pss_nil)
      (pss_one (ps_for PassesOwn.never rfl (pi_list (pv 1)) (pg_name (i := 2) sc_check_ropes.nd rfl (Or.inl rfl)) (pss_one (ps_expr (pe_call (ok_check_rope T) (hr.mono (by decide)) rfl T.g_check_rope T.F_check_rope.kp T.B_check_rope .nil pass0 (pa_c (pv 0) (pa_c (pv 2) pa_nil)))))))), ?_⟩
    try dsimp only [cxOf_K]
    refine ⟨_, rfl, l, _, rfl, .inl hL, _, _, rfl, rfl, _, rfl, ?_⟩
    rw [decide_eq_false (show ¬ (20 : Int) < us.length by omega)]
    refine iteF ?_
    refine ⟨_, rfl, l, rfl, ⟨_, hL⟩, for_list (K := K) (a := l) (xs := us) (fun i σ H2 => H2 = H ∧ ∃ v, σ = [some (.int n), some (.ref l), v]) ⟨rfl, _, rfl⟩ (fun i σ H2 _ ⟨e, _⟩ => by rw [e]; exact hL) ?_ ?_⟩
    · rintro i y σ H2 hi ⟨rfl, v, rfl⟩
      have hil : i < us.length := (List.getElem?_eq_some_iff.mp hi).1
      have hir : rs[i]? = some rs[i] := by simp
      obtain ⟨p, h1, h2⟩ := hg i _ hir
      rw [hi] at h1
      cases h1
      refine ⟨_, rfl, _, rfl, n, p, _, _, _, _, _, rfl, h2, ok _ (List.mem_of_getElem? hir), rfl, _, rfl⟩
    · rintro σ H2 ⟨rfl, v, rfl⟩
      exact k
noncomputable def spCheckNames (K : PySem.W.Frag) : Sp := fun vs H Q _ => ∃ (l : Addr) (ns : List Int), vs = [.ref l] ∧ SqL K H l (ns.map V.int) ∧ 1 ≤ ns.length ∧ ns.length ≤ 10 ∧ (∀ n ∈ ns, 0 ≤ n) ∧ ns.Nodup ∧ ∀ H', Same H H' → Q .non H'
theorem ok_check_names {t : Ad} (T : Txt K mg t) : FnOk P w K mg base CX0 1 t.f_check_names t.d_check_names ["names"]  (spCheckNames K) := by
  refine T.F_check_names.ok sc_check_names (fun vs H Q E h => ?_) (fun cdv A outer s H vs Q E hr h => ?_)
  · obtain ⟨l, ns, rfl, _⟩ := h; rfl
  · obtain ⟨l, ns, rfl, hL, h1, h2, h3, h4, k⟩ := h
    refine ⟨_, (pss_cons (ps_if (pt_not (pt_chain op_le op_le pe_int (pe_callB call_len_seq (by rfl) T.n_len PySem.boot_len (pa_c (pv 0) pa_nil)) (pe_glob rfl T.k_MOST_HOUSES (v := .int 10) ⟨_, rfl⟩))) pss_never pss_nil)
      (pss_cons (ps_if (pt_cmpR op_lt (pe_callB (call_minL rfl) (by rfl) T.n_min boot_min (pa_c (pv 0) pa_nil)) pe_int (nomark _)) pss_never pss_nil)
      (pss_one (ps_if (pt_cmpR op_ne (pe_callB call_lenS (by rfl) T.n_len PySem.boot_len (pa_c (pe_callTy (call_setL rfl) (by rfl) T.n_set boot_set (pa_c (pv 0) pa_nil)) pa_nil)) (pe_callB call_len_seq (by rfl) T.n_len PySem.boot_len (pa_c (pv 0) pa_nil)) (nomark _)) pss_never pss_nil)))), ?_⟩
    try dsimp only [cxOf_K]
    refine ⟨_, rfl, l, _, rfl, .inl hL, _, _, rfl, rfl, _, rfl, ?_⟩
    rw [decide_eq_true (show (1 : Int) ≤ (ns.map V.int).length by rw [List.length_map]; omega)]
    refine iteT ?_
    refine ⟨_, _, rfl, rfl, _, rfl, ?_⟩
    rw [decide_eq_true (show ((ns.map V.int).length : Int) ≤ 10 by rw [List.length_map]; omega)]
    refine iteF ?_
    refine ⟨_, rfl, l, ns, rfl, hL, by omega, fun m hm hle => ?_⟩
    refine ⟨_, _, rfl, rfl, _, rfl, ?_⟩
    rw [decide_eq_false (show ¬ m < 0 by have := h3 m hm; omega)]
    refine iteF ?_
    refine ⟨_, rfl, l, ns, rfl, hL, Nat.lt_of_lt_of_le (show ns.length + 1 < 100 by omega) (by decide), fun p hp => ?_⟩
    have s1 := Same.new (o := .set (fun k' => (firstMet (fun i => ns.getD i 0) ns.length).any (· == k')) (firstMet (fun i => ns.getD i 0) ns.length).length) hp
    refine ⟨p, _, _, rfl, upd_same, _, rfl, l, _, rfl, .inl (s1.seq hL), rfl, _, rfl, ?_⟩
    rw [firstMet_nodup ns h4, List.length_map]
    simp only [decide_true, Bool.not_true]
    refine iteF ?_
    exact k _ (Same.new hp)
end
end K22

set_option Elab.async false
set_option linter.all false
set_option maxRecDepth 100000
set_option maxHeartbeats 4000000
namespace K22
open PySem L2 TW PyProof.Rows
open RM (rowV byV byV_non byV_int)
seal L2.PE L2.PA L2.PT L2.PW L2.PS L2.PSs L2.PG L2.PGs L2.PI L2.PTs
section
variable {P : Program} {w : World} {K : PySem.W.Frag} {mg : Str → Option Value} {base : Heap}
noncomputable def spInit (K : PySem.W.Frag) (C : Addr) : Sp := fun vs H Q _ => ∃ (p dx l1 l2 : Addr) (ns : List Int) (rs : List R5), vs = [.ref p, .ref l1, .ref l2] ∧ H p = some (.ins C dx []) ∧ SqL K H l1 (ns.map V.int) ∧ Ropes K H l2 rs ∧
  1 ≤ ns.length ∧ ns.length ≤ 10 ∧ (∀ n ∈ ns, 0 ≤ n) ∧ ns.Nodup ∧ rs.length ≤ 20 ∧ (∀ r ∈ rs, r.Ok ns.length) ∧
  ∀ ln lr H', H ln = none → H lr = none → TownAt K C H' p ln lr ns rs → (∀ b o, H b = some o → b ≠ p → H' b = some o) → Q .non H'
theorem ok_Townu_initu {t : Ad} (T : Txt K mg t) : FnOk P w K mg base CX0 4 t.f_Townu_initu t.d_Townu_initu ["self", "names", "ropes"]  (spInit K t.a_Town) := by
  refine T.F_Townu_initu.ok sc_Townu_initu (fun vs H Q E h => ?_) (fun cdv A outer s H vs Q E hr h => ?_)
  · obtain ⟨p, dx, l1, l2, ns, rs, rfl, _⟩ := h; rfl
  · obtain ⟨p, dx, l1, l2, ns, rs, rfl, hp, hL, hR, h1, h2, h3, h4, h5, h6, k⟩ := h
    refine ⟨_, (pss_cons (ps_expr (pe_call (ok_check_names T) (hr.mono (by decide)) rfl T.g_check_names T.F_check_names.kp T.B_check_names .nil pass0 (pa_c (pv 1) pa_nil)))
      (pss_cons (ps_expr (pe_call (ok_check_ropes T) (hr.mono (by decide)) rfl T.g_check_ropes T.F_check_ropes.kp T.B_check_ropes .nil pass0 (pa_c (pe_callB call_len_seq (by rfl) T.n_len PySem.boot_len (pa_c (pv 1) pa_nil)) (pa_c (pv 2) pa_nil))))
      (pss_cons (ps_fld (pv 0) (pe_callTy call_list_of (by rfl) T.n_list boot_list (pa_c (pv 1) pa_nil)) rfl)
      (pss_cons (ps_fld (pv 0) (pe_callTy call_list_of (by rfl) T.n_list boot_list (pa_c (pv 2) pa_nil)) rfl)
      (pss_cons (ps_fld (pv 0) (pe_callB call_len_seq (by rfl) T.n_len PySem.boot_len (pa_c (pv 1) pa_nil)) rfl)
      (pss_one (ps_fld (pv 0) (pe_callB call_len_seq (by rfl) T.n_len PySem.boot_len (pa_c (pv 2) pa_nil)) rfl))))))), ?_⟩
    try dsimp only [cxOf_K]
    refine ⟨_, rfl, l1, ns, rfl, hL, h1, h2, h3, h4, fun H1 s1 => ?_⟩
    refine ⟨_, rfl, l1, _, rfl, .inl (s1.seq hL), ?_⟩
    refine ⟨_, rfl, (ns.length : Int), l2, rs, by simp, hR.mono s1, h5, h6, ?_⟩
    have hp1 := s1 _ _ hp
    have hR1 := hR.mono s1
    have hL1 := s1.seq hL
    obtain ⟨_, us, e, hq, hra⟩ := id hR1
    cases e
    -- self.house_names = list(names)
    refine ⟨_, rfl, l1, _, rfl, .inl hL1, fun ln hn => ?_⟩
    have npn : p ≠ ln := ne_of_none hp1 hn
    have s2 := Same.new (o := .lst (ns.map V.int)) hn
    refine ⟨_, rfl, p, _, dx, [], rfl, s2 _ _ hp1, T.c_Town, T.n_Town_house_names, by decide, ?_⟩
    rw [putF_new (names := []) rfl rfl]
    generalize eH2 : upd (upd H1 ln (.lst (ns.map V.int))) p (.ins t.a_Town dx ([] ++ [(Str.ofString "house_names", V.ref ln)])) = H2
    have k2 : ∀ b o, H1 b = some o → b ≠ p → H2 b = some o := fun b o e nb => by rw [← eH2, upd_ne nb]; exact s2 _ _ e
    have hp2 : H2 p = some (.ins t.a_Town dx [(Str.ofString "house_names", V.ref ln)]) := by rw [← eH2]; exact upd_same
    have hn2 : H2 ln = some (.lst (ns.map V.int)) := by rw [← eH2, upd_ne (Ne.symm npn), upd_same]
    -- what is no instance of ours stands
    have fr2 : ∀ {b : Addr}, H1 b = none → b ≠ p → b ≠ ln → H2 b = none := fun {b} e n1 n2 => by rw [← eH2, upd_ne n1, upd_ne n2]; exact e
    have hL2 : SqL K H2 l1 (ns.map V.int) := sqL_but (fun b o e nb => k2 b o e nb) hp1 hL1
    have hq2 : SqL K H2 l2 us := sqL_but (fun b o e nb => k2 b o e nb) hp1 hq
    have hra2 : RepAll K H2 (rs.map R5.D) us := repAll_but (fun b o e nb => k2 b o e nb) hp1 hra
    -- self.rope_tuples = list(ropes)
    refine ⟨_, rfl, l2, _, rfl, .inl hq2, fun lr hr2 => ?_⟩
    have npr : p ≠ lr := ne_of_none hp2 hr2
    have s3 := Same.new (o := .lst us) hr2
    refine ⟨_, rfl, p, _, dx, _, rfl, s3 _ _ hp2, T.c_Town, T.n_Town_rope_tuples, (by show 1 < 1000; decide), ?_⟩
    rw [putF_new (names := ["house_names"]) rfl (by decide +kernel)]
    generalize eH3 : upd (upd H2 lr (.lst us)) p (.ins t.a_Town dx ([(Str.ofString "house_names", V.ref ln)] ++ [(Str.ofString "rope_tuples", V.ref lr)])) = H3
    have k3 : ∀ b o, H2 b = some o → b ≠ p → H3 b = some o := fun b o e nb => by rw [← eH3, upd_ne nb]; exact s3 _ _ e
    have hp3 : H3 p = some (.ins t.a_Town dx [(Str.ofString "house_names", V.ref ln), (Str.ofString "rope_tuples", V.ref lr)]) := by rw [← eH3]; exact upd_same
    have hr3 : H3 lr = some (.lst us) := by rw [← eH3, upd_ne (Ne.symm npr), upd_same]
    have hn3 := k3 _ _ hn2 (Ne.symm npn)
    have hL3 : SqL K H3 l1 (ns.map V.int) := sqL_but k3 hp2 hL2
    have hq3 : SqL K H3 l2 us := sqL_but k3 hp2 hq2
    have hra3 : RepAll K H3 (rs.map R5.D) us := repAll_but k3 hp2 hra2
    -- self.size = len(names)
    refine ⟨_, rfl, l1, _, rfl, .inl hL3, _, rfl, p, _, dx, _, rfl, hp3, T.c_Town, T.n_Town_size, (by show 2 < 1000; decide), ?_⟩
    rw [putF_new (names := ["house_names", "rope_tuples"]) rfl (by decide +kernel)]
    generalize eH4 : upd H3 p (.ins t.a_Town dx ([(Str.ofString "house_names", V.ref ln), (Str.ofString "rope_tuples", V.ref lr)] ++ [(Str.ofString "size", V.int ((ns.map V.int).length : Nat))])) = H4
    have k4 : ∀ b o, H3 b = some o → b ≠ p → H4 b = some o := fun b o e nb => by rw [← eH4, upd_ne nb]; exact e
    have hp4 : H4 p = some (.ins t.a_Town dx [(Str.ofString "house_names", V.ref ln), (Str.ofString "rope_tuples", V.ref lr), (Str.ofString "size", V.int ((ns.map V.int).length : Nat))]) := by rw [← eH4]; exact upd_same
    have hq4 : SqL K H4 l2 us := sqL_but k4 hp3 hq3
    have hra4 : RepAll K H4 (rs.map R5.D) us := repAll_but k4 hp3 hra3
    -- self.many = len(ropes)
    refine ⟨_, rfl, l2, _, rfl, .inl hq4, _, rfl, p, _, dx, _, rfl, hp4, T.c_Town, T.n_Town_many, (by show 3 < 1000; decide), ?_⟩
    rw [putF_new (names := ["house_names", "rope_tuples", "size"]) rfl (by decide +kernel)]
    have k5 : ∀ b o, H4 b = some o → b ≠ p → ∀ u, (upd H4 p u) b = some o := fun b o e nb u => by rw [upd_ne nb]; exact e
    have eus : us.length = rs.length := by rw [hra.length, List.length_map]
    refine k ln lr _ (s1.free hn) ?_ ⟨⟨dx, ?_⟩, ?_, us, ?_, repAll_but (fun b o e nb => k5 b o e nb _) hp4 hra4⟩ ?_
    · cases q : H lr with
      | none => rfl
      | some o =>
        have := k2 lr o (s1 _ _ q) (fun e => npr e.symm)
        rw [hr2] at this; cases this
    · rw [upd_same, eus, List.length_map]
      rfl
    · exact k5 _ _ (k4 _ _ hn3 (Ne.symm npn)) (Ne.symm npn) _
    · exact k5 _ _ (k4 _ _ hr3 (Ne.symm npr)) (Ne.symm npr) _
    · exact fun b o e nb => k5 _ _ (k4 _ _ (k3 _ _ (k2 _ _ (s1 _ _ e) nb) nb) nb) nb _
end
end K22

set_option Elab.async false
set_option linter.all false
set_option maxRecDepth 100000
set_option maxHeartbeats 4000000
namespace K22
open PySem L2 TW PyProof.Rows
open RM (rowV byV byV_non byV_int)
seal L2.PE L2.PA L2.PT L2.PW L2.PS L2.PSs L2.PG L2.PGs L2.PI L2.PTs
section
variable {P : Program} {w : World} {K : PySem.W.Frag} {mg : Str → Option Value} {base : Heap}
noncomputable def spRope (K : PySem.W.Frag) (C : Addr) : Sp := fun vs H Q _ => ∃ (p ln lr : Addr) (ns : List Int) (rs : List R5) (i : Nat) (r : R5), vs = [.ref p, .int i] ∧ TownAt K C H p ln lr ns rs ∧ rs[i]? = some r ∧ ∀ q, H q = some (.tup r.vs) ∨ SqT K H q r.vs → Q (.ref q) H
theorem ok_Town_rope {t : Ad} (T : Txt K mg t) : FnOk P w K mg base CX0 1 t.f_Town_rope t.d_Town_rope ["self", "number"]  (spRope K t.a_Town) := by
  refine T.F_Town_rope.ok sc_Town_rope (fun vs H Q E h => ?_) (fun cdv A outer s H vs Q E hr h => ?_)
  · obtain ⟨p, ln, lr, ns, rs, i, n, rfl, _⟩ := h; rfl
  · obtain ⟨p, ln, lr, ns, rs, i, r, rfl, hT, hi, k⟩ := h
    obtain ⟨⟨dx, hp⟩, hn, us, hr', hra⟩ := id hT
    obtain ⟨v, hv, hD⟩ := hra.get (i := i) (d := r.D) (by rw [List.getElem?_map, hi]; rfl)
    obtain ⟨q, e, hq⟩ := Rep.of_intsT (ns := r.ns) hD
    subst e
    refine ⟨_, (pss_one (ps_ret (pe_ix ix_list (pe_fld (pv 0) rfl) (pv 1) (fun _ _ => rfl)))), ?_⟩
    try dsimp only [cxOf_K]
    exact ⟨_, rfl, p, _, dx, _, _, rfl, hp, T.c_Town, T.n_Town_rope_tuples, rfl, _, rfl, lr, _, _, _, rfl, rfl, SqL.of hr', atI_nat hv, k q (.inr hq)⟩
end
end K22

set_option Elab.async false
set_option linter.all false
set_option maxRecDepth 100000
set_option maxHeartbeats 4000000
namespace K22
open PySem L2 TW PyProof.Rows
open RM (rowV byV byV_non byV_int)
seal L2.PE L2.PA L2.PT L2.PW L2.PS L2.PSs L2.PG L2.PGs L2.PI L2.PTs
section
variable {P : Program} {w : World} {K : PySem.W.Frag} {mg : Str → Option Value} {base : Heap}
noncomputable def spNumbers : Sp := fun vs H Q _ => ∃ (c : Int) (m : Nat), vs = [.int c, .int m] ∧ m ≤ 900 ∧ ∀ l (xs : List Int) H', Same H H' → H l = none → H' l = some (.lst (xs.map V.int)) → xs.length = m → (∀ x ∈ xs, isNum x) → Q (.ref l) H'
theorem ok_w_numbers {t : Ad} (T : Txt K mg t) : FnOk P w K mg base CX0 1 t.f_w_numbers t.d_w_numbers ["_law_cell", "_law_many"]  spNumbers := by
  refine T.F_w_numbers.ok sc_w_numbers (fun vs H Q E h => ?_) (fun cdv A outer s H vs Q E hr h => ?_)
  · obtain ⟨_, _, rfl, _⟩ := h; rfl
  · obtain ⟨c, m, rfl, hm, k⟩ := h
    refine ⟨_, (pss_cons (ps_set (i := 2) sc_w_numbers.nd rfl (Or.inl rfl) (pe_op op_mod (pv 0) pe_int))
      (pss_cons (ps_set (i := 3) sc_w_numbers.nd rfl (Or.inl rfl) (pe_lst pa_nil))
      (pss_cons (ps_for PassesOwn.never rfl (pi_range1 rfl T.n_range (pa_c (pv 1) pa_nil)) (pg_name (i := 4) sc_w_numbers.nd rfl (Or.inl rfl)) (pss_cons (ps_set (i := 2) sc_w_numbers.nd rfl (Or.inl rfl) (pe_op op_mod (pe_op op_add (pe_op op_add (pe_op op_mul (pv 2) (pe_op op_add (pe_op op_add (pv 2) (pe_op op_mul pe_int (pv 4))) pe_int)) (pe_op op_mul pe_int (pv 4))) pe_int) pe_int))
      (pss_one (ps_expr (pe_bm PySem.F.plainAttrs_list PySem.F.slot_list_append PySem.F.type_list_append mt_append (pv 3) (pa_c (pv 2) pa_nil))))))
      (pss_one (ps_ret (pv 3)))))), ?_⟩
    try dsimp only [cxOf_K]
    refine ⟨_, rfl, _, _, rfl, rfl, (by show (0 : Int) < 1000000007; decide), ?_⟩
    have hx0 : isNum (c % 1000000007) := ⟨Int.emod_nonneg _ (by decide), Int.emod_lt_of_pos _ (by decide)⟩
    show gName 2 (V.int (c % 1000000007)) _ _ _
    generalize c % 1000000007 = x0 at hx0
    refine ⟨Nat.zero_le _, fun l hl => ?_⟩
    refine ⟨_, rfl, (m : Int), rfl, by omega, by omega, ?_⟩
    refine for_range (n := ((m : Int)).toNat) (fun i σ H2 => Same H H2 ∧ ∃ (xs : List Int) (x : Int) (v4 : Option V), σ = [some (.int c), some (.int m), some (.int x), some (.ref l), v4] ∧ isNum x ∧ H2 l = some (.lst (xs.map V.int)) ∧ xs.length = i ∧ ∀ x ∈ xs, isNum x)
      ⟨Same.new hl, [], x0, none, rfl, hx0, upd_same, rfl, fun x hx => absurd hx (by simp)⟩ ?_ ?_
    · rintro i σ H2 hi ⟨s2, xs, x, v4, rfl, hx, hl2, ei, hxs⟩
      have b1 : -(2 ^ 64) < x ∧ x < 2 ^ 64 := ⟨by have := hx.1; omega, by have := hx.2; omega⟩
      refine ⟨_, rfl, _, rfl, _, rfl, _, _, rfl, rfl, .inl ⟨by decide, by decide⟩, _, _, rfl, rfl, _, _, rfl, rfl, _, _, rfl, rfl, .inl b1, _, rfl, _, _, rfl, rfl, .inl ⟨by decide, by decide⟩, _, _, rfl, rfl, _, _, rfl, rfl, _, _, rfl, rfl, (by show (0 : Int) < 1000000007; decide), ?_⟩
      have hy : isNum ((x * (x + 6 * (0 + (i : Int)) + 30011) + 20011 * (0 + (i : Int)) + 5) % 1000000007) := ⟨Int.emod_nonneg _ (by decide), Int.emod_lt_of_pos _ (by decide)⟩
      show gName 2 (V.int ((x * (x + 6 * (0 + (i : Int)) + 30011) + 20011 * (0 + (i : Int)) + 5) % 1000000007)) _ _ _
      generalize (x * (x + 6 * (0 + (i : Int)) + 30011) + 20011 * (0 + (i : Int)) + 5) % 1000000007 = y at hy
      refine ⟨_, rfl, .inl ⟨rfl, _, SqL.of hl2⟩, _, rfl, l, _, _, rfl, rfl, hl2, (by rw [List.length_map]; exact small1000 (by omega)), ?_⟩
      refine ⟨s2.out hl, xs ++ [y], _, _, rfl, hy, ?_, ?_, ?_⟩
      · rw [upd_same, List.map_append]; rfl
      · rw [List.length_append, ei]; rfl
      · intro u hu
        rcases List.mem_append.mp hu with z | z
        · exact hxs u z
        · rw [List.mem_singleton.mp z]
          exact hy
    · rintro σ H2 ⟨s2, xs, x, v4, rfl, hx, hl2, ei, hxs⟩
      exact ⟨_, rfl, k l xs H2 s2 hl hl2 (by omega) hxs⟩
noncomputable def spNames : Sp := fun vs H Q _ => ∃ (n : Nat) (c : Int), vs = [.int n, .int c] ∧ 1 ≤ n ∧ n ≤ 12 ∧
  ∀ l H' (xs : List Int), Same H H' → H l = none → H' l = some (.lst (xs.map V.int)) → xs.length = n → xs.Nodup → (∀ x ∈ xs, 0 ≤ x) → Q (.ref l) H'
theorem ok_w_names {t : Ad} (T : Txt K mg t) : FnOk P w K mg base CX0 2 t.f_w_names t.d_w_names ["_law_size", "_law_cell"]  spNames := by
  refine T.F_w_names.ok sc_w_names (fun vs H Q E h => ?_) (fun cdv A outer s H vs Q E hr h => ?_)
  · obtain ⟨_, _, rfl, _⟩ := h; rfl
  · obtain ⟨n, c, rfl, hn1, hn, k⟩ := h
    refine ⟨_, (pss_cons (ps_set (i := 2) sc_w_names.nd rfl (Or.inl rfl) (pe_call (ok_w_numbers T) (hr.mono (by decide)) rfl T.g_w_numbers T.F_w_numbers.kp T.B_w_numbers .nil pass0 (pa_c (pv 1) (pa_c (pv 0) pa_nil))))
      (pss_cons (ps_set (i := 3) sc_w_names.nd rfl (Or.inl rfl) (pe_ix ix_list (pe_lst (pa_c pe_int (pa_c pe_int (pa_c pe_int pa_nil)))) (pe_op op_mod (pe_ix ix_list (pv 2) pe_int (fun _ _ => rfl)) pe_int) (fun _ _ => rfl)))
      (pss_cons (ps_set (i := 4) sc_w_names.nd rfl (Or.inl rfl) (pe_ix ix_list (pe_lst (pa_c pe_int (pa_c pe_int (pa_c (pe_op op_add (pe_op op_pow pe_int pe_int) pe_int) pa_nil)))) (pe_op op_mod (pe_op op_fdiv (pe_ix ix_list (pv 2) pe_int (fun _ _ => rfl)) pe_int) pe_int) (fun _ _ => rfl)))
      (pss_cons (ps_set (i := 5) sc_w_names.nd rfl (Or.inl rfl) (pe_lst pa_nil))
      (pss_cons (ps_for PassesOwn.never rfl (pi_list (pv 2)) (pg_name (i := 6) sc_w_names.nd rfl (Or.inl rfl)) (pss_cons (ps_set (i := 7) sc_w_names.nd rfl (Or.inl rfl) (pe_op op_mul (pe_op op_mod (pe_op op_fdiv (pv 6) pe_int) (pv 3)) (pv 4)))
      (pss_cons (ps_while PassesOwn.never (pt_cmpR op_in_seq (pv 7) (pv 5) (by with_unfolding_all rfl)) (pss_one (ps_set (i := 7) sc_w_names.nd rfl (Or.inl rfl) (pe_op op_add (pv 7) pe_int))))
      (pss_one (ps_expr (pe_bm PySem.F.plainAttrs_list PySem.F.slot_list_append PySem.F.type_list_append mt_append (pv 5) (pa_c (pv 7) pa_nil)))))))
      (pss_one (ps_ret (pv 5)))))))), ?_⟩
    try dsimp only [cxOf_K]
    refine ⟨_, rfl, _, rfl, c, n, rfl, by omega, fun q ms H1 s1 hq0 hq el hnum => ?_⟩
    obtain ⟨m0, hm0, ea⟩ := at_head (xs := ms) (by omega)
    have hm0' := hnum m0 hm0
    -- most
    obtain ⟨w1, hw1, ew1⟩ := at3p (x := 9) (y := 30) (z := 1000000007) (i := m0 % 3) 1000000007 (by decide) (by decide) (by decide) (Int.emod_nonneg _ (by decide)) (Int.emod_lt_of_pos _ (by decide))
    refine ⟨(by show 3 ≤ sizeLine; decide), fun l1 h1 => ?_⟩
    have t1 := Same.new (o := .lst [.int 9, .int 30, .int 1000000007]) h1
    refine ⟨_, rfl, q, _, _, _, rfl, rfl, SqL.of (t1 _ _ hq), ea, _, _, rfl, rfl, (by show (0 : Int) < 3; decide), l1, _, _, _, rfl, rfl, SqL.of upd_same, ew1, ?_⟩
    -- far
    obtain ⟨w2, hw2, ew2⟩ := at3p (x := 1) (y := 1) (z := 10 ^ (50 : Int).toNat + 9) (i := m0 / 3 % 3) (10 ^ 51) (by decide) (by decide) (by decide) (Int.emod_nonneg _ (by decide)) (Int.emod_lt_of_pos _ (by decide))
    refine ⟨_, _, rfl, rfl, ⟨by decide, by decide, by decide⟩, _, _, rfl, rfl, (by show 3 ≤ sizeLine; decide), fun l2 h2 => ?_⟩
    have t2 := t1.trans (Same.new (o := .lst [.int 1, .int 1, .int (10 ^ (50 : Int).toNat + 9)]) h2)
    refine ⟨_, rfl, q, _, _, _, rfl, rfl, SqL.of (t2 _ _ hq), ea, _, _, rfl, rfl, ⟨by decide, by decide⟩, _, _, rfl, rfl, (by show (0 : Int) < 3; decide), l2, _, _, _, rfl, rfl, SqL.of upd_same, ew2, ?_⟩
    refine ⟨Nat.zero_le _, fun l hl => ?_⟩
    have t3 := s1.trans t2
    have hq3 := Same.new (o := .lst []) hl _ _ (t2 _ _ hq)
    have hl0 : H l = none := t3.free hl
    refine ⟨_, rfl, q, rfl, ⟨_, SqL.of hq3⟩, for_list (K := K) (a := q) (xs := ms.map V.int) (fun i σ H2 => Same H H2 ∧ H2 q = some (.lst (ms.map V.int)) ∧ ∃ (xs : List Int) (v6 v7 : Option V), σ = [some (.int n), some (.int c), some (.ref q), some (.int w1), some (.int w2), some (.ref l), v6, v7] ∧ H2 l = some (.lst (xs.map V.int)) ∧ xs.length = i ∧ xs.Nodup ∧ ∀ x ∈ xs, 0 ≤ x)
      ⟨t3.trans (Same.new hl), hq3, [], none, none, rfl, upd_same, rfl, List.nodup_nil, fun x hx => absurd hx (by simp)⟩ (fun i σ H2 _ z => SqL.of z.2.1) ?_ ?_⟩
    · rintro i y σ H2 hi ⟨s2, hq2, xs, v6, v7, rfl, hx, ei, nd, nn⟩
      have him : i < ms.length := by
        have := (List.getElem?_eq_some_iff.mp hi).1
        rw [List.length_map] at this
        exact this
      rw [List.getElem?_map, List.getElem?_eq_getElem him] at hi
      cases hi
      have hy := hnum _ (List.getElem_mem him)
      have nlq : l ≠ q := fun e => by subst e; rw [t2 _ _ hq] at hl; cases hl
      have hz0 : 0 ≤ ms[i] / 9 % w1 * w2 := Int.mul_nonneg (Int.emod_nonneg _ (by omega)) (by omega)
      have hzb : -(2 ^ 64) < ms[i] / 9 % w1 ∧ ms[i] / 9 % w1 < 2 ^ 64 := by
        have q1 := Int.emod_nonneg (ms[i] / 9) (show w1 ≠ 0 by omega)
        have q2 := Int.emod_lt_of_pos (ms[i] / 9) hw1.1
        omega
      refine ⟨_, rfl, _, _, rfl, rfl, ⟨by decide, by decide⟩, _, rfl, _, _, rfl, rfl, (by show 0 < w1; exact hw1.1), _, rfl, _, _, rfl, rfl, .inl hzb, ?_⟩
      show gName 7 (V.int (ms[i] / 9 % w1 * w2)) _ _ _
      generalize ms[i] / 9 % w1 * w2 = z at hz0
      refine while_by (fun σ H3 => H3 = H2 ∧ ∃ (x : Int) (v6 : Option V), 0 ≤ x ∧ σ = [some (.int n), some (.int c), some (.ref q), some (.int w1), some (.int w2), some (.ref l), v6, some (.int x)])
        (fun (σ : L2.St) (_ : Hp) => match σ[7]? with | some (some (V.int x)) => above xs x | _ => 0) ⟨rfl, _, _, hz0, rfl⟩ ?_ ?_
      · rintro σ H3 ⟨rfl, x, w6, hx0, rfl⟩
        refine ⟨_, rfl, _, rfl, l, _, rfl, .inl (SqL.of hx), rfl, flat_ints xs, _, rfl, ?_⟩
        dsimp only
        rw [if_neg Bool.false_ne_true, inV_ints]
        refine ite2 (fun c => ?_) (fun c => ?_)
        · have hm : x ∈ xs := of_decide_eq_true c
          exact ⟨_, rfl, _, _, rfl, rfl, ⟨rfl, x + 1, _, by omega, rfl⟩, above_lt hm⟩
        · have hm : x ∉ xs := fun z => c (decide_eq_true z)
          refine ⟨_, rfl, .inl ⟨rfl, _, SqL.of hx⟩, _, rfl, l, _, _, rfl, rfl, hx, ?_, ?_⟩
          · rw [List.length_map]; exact small1000 (by omega)
          · refine ⟨s2.out hl0, by rw [upd_ne (Ne.symm nlq)]; exact hq2, xs ++ [x], _, _, rfl, ?_, ?_, ?_, ?_⟩
            · rw [upd_same, List.map_append]; rfl
            · simp [ei]
            · rw [List.nodup_append]
              refine ⟨nd, by simp, fun y hy z hz => ?_⟩
              have : z = x := by simpa using hz
              rw [this]
              exact fun e => hm (e ▸ hy)
            · intro y hy
              rcases List.mem_append.mp hy with z | z
              · exact nn y z
              · have : y = x := by simpa using z
                rw [this]; exact hx0
      · rintro σ H3 Q1 Q2 hq ⟨v, e1, u, e2, q, ys, e3, e4, e5, e6, b, e7, e8⟩
        exact ⟨v, e1, u, e2, q, ys, e3, e4, e5, e6, b, e7, hq _ _ e8⟩
    · rintro σ H2 ⟨s2, hq2, xs, v6, v7, rfl, hx, ei, nd, nn⟩
      rw [List.length_map] at ei
      exact ⟨_, rfl, k l H2 xs s2 hl0 hx (by omega) nd nn⟩
end
end K22

set_option Elab.async false
set_option linter.all false
set_option maxRecDepth 100000
set_option maxHeartbeats 4000000
namespace K22
open PySem L2 TW PyProof.Rows
open RM (rowV byV byV_non byV_int)
seal L2.PE L2.PA L2.PT L2.PW L2.PS L2.PSs L2.PG L2.PGs L2.PI L2.PTs
section
variable {P : Program} {w : World} {K : PySem.W.Frag} {mg : Str → Option Value} {base : Heap}
noncomputable def spRopes (K : PySem.W.Frag) : Sp := fun vs H Q _ => ∃ (n : Nat) (c : Int), vs = [.int n, .int c] ∧ 1 ≤ n ∧ n ≤ 10 ∧
  ∀ l us H' (rs : List R5), Same H H' → H l = none → H' l = some (.lst us) → RepAll K (hide H' l) (rs.map R5.D) us → rs.length ≤ 20 → (∀ r ∈ rs, r.Ok n) → Q (.ref l) H'
theorem ok_w_ropes {t : Ad} (T : Txt K mg t) : FnOk P w K mg base CX0 2 t.f_w_ropes t.d_w_ropes ["_law_size", "_law_cell"]  (spRopes K) := by
  refine T.F_w_ropes.ok sc_w_ropes (fun vs H Q E h => ?_) (fun cdv A outer s H vs Q E hr h => ?_)
  · obtain ⟨_, _, rfl, _⟩ := h; rfl
  · obtain ⟨n, c, rfl, hn1, hn, k⟩ := h
    refine ⟨_, (pss_cons (ps_set (i := 2) sc_w_ropes.nd rfl (Or.inl rfl) (pe_lst pa_nil))
      (pss_cons (ps_if (pt_cmpR op_gt (pv 0) pe_int (nomark _)) (pss_cons (ps_set (i := 3) sc_w_ropes.nd rfl (Or.inl rfl) (pe_ix ix_list (pe_lst (pa_c (pe_op op_mod (pe_op op_fdiv (pv 1) pe_int) pe_int) (pa_c (pe_op op_add (pe_op op_mul pe_int (pv 0)) (pe_op op_mod (pe_op op_fdiv (pv 1) pe_int) (pe_op op_sub pe_int (pe_op op_mul pe_int (pv 0))))) pa_nil))) (pe_callTy call_int1 (by rfl) T.n_int boot_int (pa_c (pe_cmpR op_gt (pe_op op_mod (pv 1) pe_int) pe_int (nomark _)) pa_nil)) (fun _ _ => rfl)))
      (pss_one (ps_for PassesOwn.never rfl (pi_list (pe_call (ok_w_numbers T) (hr.mono (by decide)) rfl T.g_w_numbers T.F_w_numbers.kp T.B_w_numbers .nil pass0 (pa_c (pv 1) (pa_c (pv 3) pa_nil)))) (pg_name (i := 4) sc_w_ropes.nd rfl (Or.inl rfl)) (pss_cons (ps_set (i := 5) sc_w_ropes.nd rfl (Or.inl rfl) (pe_op op_mod (pv 4) (pv 0)))
      (pss_cons (ps_set (i := 6) sc_w_ropes.nd rfl (Or.inl rfl) (pe_op op_mod (pe_op op_add (pe_op op_add (pv 5) pe_int) (pe_op op_mod (pe_op op_fdiv (pv 4) pe_int) (pe_op op_sub (pv 0) pe_int))) (pv 0)))
      (pss_cons (ps_set (i := 7) sc_w_ropes.nd rfl (Or.inl rfl) (pe_op op_add pe_int (pe_op op_mod (pe_op op_fdiv (pv 4) pe_int) pe_int)))
      (pss_cons (ps_if (pt_cmpR op_eq (pe_op op_mod (pe_op op_fdiv (pv 4) pe_int) pe_int) pe_int (nomark _)) (pss_one (ps_set (i := 7) sc_w_ropes.nd rfl (Or.inl rfl) (pe_op op_add (pe_op op_mul (pe_op op_add pe_int (pe_op op_mod (pe_op op_fdiv (pv 4) pe_int) pe_int)) (pe_op op_pow pe_int pe_int)) (pe_op op_mod (pv 4) pe_int)))) pss_nil)
      (pss_cons (ps_set (i := 8) sc_w_ropes.nd rfl (Or.inl rfl) (pe_ix ix_list (pe_lst (pa_c pe_int (pa_c pe_int (pa_c pe_int (pa_c (pe_op op_add pe_int (pe_op op_mod (pe_op op_fdiv (pv 4) pe_int) pe_int)) pa_nil))))) (pe_op op_mod (pe_op op_fdiv (pv 4) pe_int) pe_int) (fun _ _ => rfl)))
      (pss_one (ps_expr (pe_bm PySem.F.plainAttrs_list PySem.F.slot_list_append PySem.F.type_list_append mt_append (pv 2) (pa_c (pe_tup (pa_c (pv 5) (pa_c (pv 6) (pa_c (pv 7) (pa_c (pe_op op_add pe_int (pe_op op_mod (pe_op op_fdiv (pv 4) pe_int) pe_int)) (pa_c (pv 8) pa_nil)))))) pa_nil)))))))))))) pss_nil)
      (pss_one (ps_ret (pv 2))))), ?_⟩
    try dsimp only [cxOf_K]
    refine ⟨Nat.zero_le _, fun l hl => ?_⟩
    have s0 := Same.new (o := .lst []) hl
    refine ⟨_, rfl, _, _, rfl, rfl, _, rfl, ?_⟩
    refine ite2 (fun e => ?_) (fun e => ?_)
    case refine_2 => exact ⟨_, rfl, k l [] _ [] s0 hl upd_same rfl (Nat.zero_le _) fun r hr' => absurd hr' (by simp)⟩
    have h2 : 2 ≤ (n : Int) := by
      have := of_decide_eq_true e
      omega
    -- many
    obtain ⟨m, hm, hm20⟩ : ∃ m : Nat, (∀ y : Int, y = c / 3 % 21 ∨ y = 2 * (n : Int) + c / 3 % (21 - 2 * (n : Int)) → 0 ≤ y ∧ y ≤ 20) ∧ m = 0 := ⟨0, fun y hy => by
      have q1 := Int.emod_nonneg (c / 3) (show (21 : Int) ≠ 0 by decide)
      have q2 := Int.emod_lt_of_pos (c / 3) (show (0 : Int) < 21 by decide)
      have q3 := Int.emod_nonneg (c / 3) (show 21 - 2 * (n : Int) ≠ 0 by omega)
      have q4 := Int.emod_lt_of_pos (c / 3) (show 0 < 21 - 2 * (n : Int) by omega)
      rcases hy with rfl | rfl <;> omega, rfl⟩
    refine ⟨_, rfl, _, _, rfl, rfl, ⟨by decide, by decide⟩, _, _, rfl, rfl, (by show (0 : Int) < 21; decide), _, rfl, _, _, rfl, rfl, .inl ⟨by decide, by decide⟩, _, rfl, _, _, rfl, rfl, ⟨by decide, by decide⟩, _, rfl, _, _, rfl, rfl, .inl ⟨by decide, by decide⟩, _, _, rfl, rfl, _, _, rfl, rfl, (by show 0 < 21 - 2 * (n : Int); omega), _, _, rfl, rfl, ?_⟩
    refine ⟨(by show 2 ≤ sizeLine; decide), fun l1 h1 => ?_⟩
    have s1 := s0.trans (Same.new (o := .lst [.int (c / 3 % 21), .int (2 * (n : Int) + c / 3 % (21 - 2 * (n : Int)))]) h1)
    have hl1 := Same.new (o := .lst [.int (c / 3 % 21), .int (2 * (n : Int) + c / 3 % (21 - 2 * (n : Int)))]) h1 _ _ (upd_same (H := H) (a := l) (o := .lst []))
    refine ⟨_, rfl, _, _, rfl, rfl, (by show (0 : Int) < 3; decide), _, _, rfl, rfl, .inr ⟨_, rfl, ?_⟩⟩
    obtain ⟨y, hy, ey⟩ := at2 (x := c / 3 % 21) (z := 2 * (n : Int) + c / 3 % (21 - 2 * (n : Int))) (i := if decide ((0 : Int) < c % 3) then 1 else 0) (by split <;> decide) (by split <;> decide)
    refine ⟨l1, _, _, _, rfl, rfl, SqL.of upd_same, ey, ?_⟩
    obtain ⟨y0, y20⟩ := hm y hy
    obtain ⟨m', hm'⟩ : ∃ m' : Nat, y = (m' : Int) := ⟨y.toNat, by omega⟩
    subst hm'
    -- the numbers
    refine ⟨_, rfl, _, rfl, c, m', rfl, by omega, fun q ms H2 t2 hq0 hq eln hnum => ?_⟩
    have s2 := s1.trans t2
    have hl2 := t2 _ _ hl1
    refine ⟨q, rfl, ⟨_, SqL.of hq⟩, for_list (K := K) (a := q) (xs := ms.map V.int) (fun i σ H3 => Same H H3 ∧ H3 q = some (.lst (ms.map V.int)) ∧ ∃ (us : List V) (rs : List R5) (v4 v5 v6 v7 v8 : Option V), σ = [some (.int n), some (.int c), some (.ref l), some (.int m'), v4, v5, v6, v7, v8] ∧ H3 l = some (.lst us) ∧ rs.length = i ∧ RepAll K (hide H3 l) (rs.map R5.D) us ∧ ∀ r ∈ rs, r.Ok n)
      ⟨s2, hq, [], [], _, _, _, _, _, rfl, hl2, rfl, rfl, fun r hr' => absurd hr' (by simp)⟩ (fun i σ H3 _ z => SqL.of z.2.1) ?_ ?_⟩
    · rintro i y σ H3 hi ⟨s3, hq3, us, rs, v4, v5, v6, v7, v8, rfl, hl3, el, hra, ok⟩
      have him : i < ms.length := by
        have := (List.getElem?_eq_some_iff.mp hi).1
        rw [List.length_map] at this
        exact this
      rw [List.getElem?_map, List.getElem?_eq_getElem him] at hi
      cases hi
      have hx := hnum _ (List.getElem_mem him)
      have nlq : l ≠ q := fun e => by subst e; rw [hl1] at hq0; cases hq0
      show gName 4 (V.int ms[i]) _ _ _
      generalize ms[i] = x at hx
      obtain ⟨o1, o2, o3, o4, o5⟩ := ends_ok (n := n) (x := x) (y := x / 16) h2
      refine ⟨_, rfl, _, rfl, _, _, rfl, rfl, (by show (0 : Int) < n; omega), ?_⟩
      refine ⟨_, rfl, _, _, rfl, rfl, _, rfl, _, _, rfl, rfl, ⟨by decide, by decide⟩, _, rfl, _, _, rfl, rfl, _, _, rfl, rfl, (by show 0 < (n : Int) - 1; omega), _, _, rfl, rfl, _, rfl, _, _, rfl, rfl, (by show (0 : Int) < n; omega), ?_⟩
      refine ⟨_, rfl, _, _, rfl, rfl, ⟨by decide, by decide⟩, _, _, rfl, rfl, (by show (0 : Int) < 4; decide), _, _, rfl, rfl, ?_⟩
      dsimp only [gName]
      refine ifS_by (fun σ H4 => H4 = H3 ∧ ∃ z : Int, 1 ≤ z ∧ σ = [some (.int n), some (.int c), some (.ref l), some (.int m'), some (.int x), some (.int (x % n)), some (.int ((x % n + 1 + x / 16 % ((n : Int) - 1)) % n)), some (.int z), v8]) ?nx0 ?me0
      case me0 =>
        intro kj
        have q1 := Int.emod_nonneg (x / 256) (show (4 : Int) ≠ 0 by decide)
        refine ⟨_, rfl, _, _, rfl, rfl, ⟨by decide, by decide⟩, _, _, rfl, rfl, (by show (0 : Int) < 8; decide), rfl, _, rfl, ?_⟩
        refine ite2 (fun e => ?_) (fun e => ?_)
        case refine_2 => exact kj _ _ ⟨rfl, 1 + x / 256 % 4, by omega, rfl⟩
        have q2 := Int.emod_nonneg (x / 8192) (show (1000 : Int) ≠ 0 by decide)
        have q3 := Int.emod_nonneg x (show (3 : Int) ≠ 0 by decide)
        have q4 := Int.emod_lt_of_pos (x / 8192) (show (0 : Int) < 1000 by decide)
        refine ⟨_, rfl, _, _, rfl, rfl, ⟨by decide, by decide⟩, _, _, rfl, rfl, (by show (0 : Int) < 1000; decide), _, _, rfl, rfl, _, _, rfl, rfl, ⟨by decide, by decide, by decide⟩, _, _, rfl, rfl, .inl ⟨by omega, by omega⟩, _, rfl, _, _, rfl, rfl, (by show (0 : Int) < 3; decide), _, _, rfl, rfl, ?_⟩
        refine kj _ _ ⟨rfl, (1 + x / 8192 % 1000) * 10 ^ (55 : Int).toNat + x % 3, ?_, rfl⟩
        have : (1 : Int) ≤ (1 + x / 8192 % 1000) * 10 ^ (55 : Int).toNat := by
          have h55 : (1 : Int) ≤ 10 ^ (55 : Int).toNat := by decide
          have := Int.mul_le_mul (show (1 : Int) ≤ 1 + x / 8192 % 1000 by omega) h55 (by decide) (by omega)
          omega
        omega
      rintro σ4 H4 ⟨rfl, z, hz, rfl⟩
      have q1 := Int.emod_nonneg (x / 8192) (show (7 : Int) ≠ 0 by decide)
      have q2 := Int.emod_lt_of_pos (x / 8192) (show (0 : Int) < 7 by decide)
      obtain ⟨lt, hlt, elt⟩ := at4 (x := 7) (y := 7) (z := 7) (u := 1 + x / 8192 % 7) (i := x / 1048576 % 4) 1 7 (by decide) (by decide) (by decide) ⟨by omega, by omega⟩ (Int.emod_nonneg _ (by decide)) (Int.emod_lt_of_pos _ (by decide))
      refine ⟨_, rfl, _, _, rfl, rfl, ⟨by decide, by decide⟩, _, _, rfl, rfl, (by show (0 : Int) < 7; decide), _, _, rfl, rfl, (by show 4 ≤ sizeLine; decide), fun l4 h4 => ?_⟩
      have t4 := Same.new (o := .lst [.int 7, .int 7, .int 7, .int (1 + x / 8192 % 7)]) h4
      refine ⟨_, rfl, _, _, rfl, rfl, ⟨by decide, by decide⟩, _, _, rfl, rfl, (by show (0 : Int) < 4; decide), l4, _, _, _, rfl, rfl, SqL.of upd_same, elt, ?_⟩
      have q5 := Int.emod_nonneg (x / 4194304) (show (4 : Int) ≠ 0 by decide)
      have q6 := Int.emod_lt_of_pos (x / 4194304) (show (0 : Int) < 4 by decide)
      refine ⟨_, rfl, .inl ⟨rfl, _, SqL.of (t4 _ _ hl3)⟩, _, rfl, _, rfl, _, rfl, _, rfl, _, _, rfl, rfl, ⟨by decide, by decide⟩, _, _, rfl, rfl, (by show (0 : Int) < 4; decide), _, _, rfl, rfl, _, rfl, (by show 5 ≤ sizeLine; decide), fun p hp => ?_⟩
      have t5 := t4.trans (Same.new (o := .tup (five (x % n) ((x % n + 1 + x / 16 % ((n : Int) - 1)) % n) z (1 + x / 4194304 % 4) lt)) hp)
      refine ⟨l, _, _, rfl, rfl, t5 _ _ hl3, (by rw [hra.length, List.length_map]; exact small1000 (by omega)), ?_⟩
      have npl : p ≠ l := fun e => by subst e; rw [t4 _ _ hl3] at hp; cases hp
      refine ⟨(s3.trans t5).out hl, by rw [upd_ne (Ne.symm nlq)]; exact t5 _ _ hq3, _, rs ++ [⟨x % n, (x % n + 1 + x / 16 % ((n : Int) - 1)) % n, z, 1 + x / 4194304 % 4, lt⟩], _, _, _, _, _, rfl, upd_same, by rw [List.length_append, el]; rfl, ?_, ?_⟩
      · rw [hide_upd, List.map_append]
        exact (hra.mono (Same.hide t5)).snoc (Rep.intsT (ns := R5.ns ⟨x % n, (x % n + 1 + x / 16 % ((n : Int) - 1)) % n, z, 1 + x / 4194304 % 4, lt⟩) (SqT.of (hide_at upd_same npl)))
      · intro r hr'
        rcases List.mem_append.mp hr' with q | q
        · exact ok r q
        · rw [List.mem_singleton.mp q]
          exact ⟨o1, o2, o3, o4, o5, hz, by show 1 ≤ 1 + x / 4194304 % 4; omega, by show 1 + x / 4194304 % 4 ≤ 4; omega, hlt.1, hlt.2⟩
    · rintro σ H3 ⟨s3, hq3, us, rs, v4, v5, v6, v7, v8, rfl, hl3, el, hra, ok⟩
      rw [List.length_map] at el
      exact ⟨_, rfl, k l us H3 rs s3 hl hl3 hra (by omega) ok⟩
end
end K22

set_option Elab.async false
set_option linter.all false
set_option maxRecDepth 100000
set_option maxHeartbeats 4000000
namespace K22
open PySem L2 TW PyProof.Rows
open RM (rowV byV byV_non byV_int)
seal L2.PE L2.PA L2.PT L2.PW L2.PS L2.PSs L2.PG L2.PGs L2.PI L2.PTs
section
variable {P : Program} {w : World} {K : PySem.W.Frag} {mg : Str → Option Value} {base : Heap}
noncomputable def spLets (K : PySem.W.Frag) (C : Addr) : Sp := fun vs H Q _ => ∃ (p ln lr : Addr) (ns : List Int) (rs : List R5) (i : Nat) (r : R5) (g : Nat) (z : Int), vs = [.ref p, .int i, .int g] ∧ TownAt K C H p ln lr ns rs ∧ rs[i]? = some r ∧ ([1, 2, 4] : List Int)[g]? = some z ∧ Q (.bl (!decide (Builtin.bitAnd r.e z = 0))) H
theorem ok_Town_lets {t : Ad} (T : Txt K mg t) : FnOk P w K mg base CX0 1 t.f_Town_lets t.d_Town_lets ["self", "rope", "group"]  (spLets K t.a_Town) := by
  refine T.F_Town_lets.ok sc_Town_lets (fun vs H Q E h => ?_) (fun cdv A outer s H vs Q E hr h => ?_)
  · obtain ⟨p, ln, lr, ns, rs, i, n, h, z, rfl, _⟩ := h; rfl
  · obtain ⟨p, ln, lr, ns, rs, i, r, g, z, rfl, hT, hi, hz, k⟩ := h
    obtain ⟨⟨dx, hp⟩, hn, us, hr', hra⟩ := id hT
    obtain ⟨v, hv, hD⟩ := hra.get (i := i) (d := r.D) (by rw [List.getElem?_map, hi]; rfl)
    obtain ⟨q, e, hq⟩ := Rep.of_intsT (ns := r.ns) hD
    subst e
    refine ⟨_, (pss_one (ps_ret (pe_cmpR op_ne (pe_op op_and (pe_ix ix_tup (pe_ix ix_list (pe_fld (pv 0) rfl) (pv 1) (fun _ _ => rfl)) pe_int (fun _ _ => rfl)) (pe_ix ix_tup (pe_glob rfl T.k_GROUP_BITS (v := .ref t.a_GROUP_BITS) rfl) (pv 2) (fun _ _ => rfl))) pe_int (nomark _)))), ?_⟩
    try dsimp only [cxOf_K]
    refine ⟨_, rfl, p, _, dx, _, _, rfl, hp, T.c_Town, T.n_Town_rope_tuples, rfl, _, rfl, lr, _, _, _, rfl, rfl, SqL.of hr', atI_nat hv, ?_⟩
    refine ⟨q, _, _, _, rfl, rfl, hq, rfl, ?_⟩
    have hb : ([.int 1, .int 2, .int 4] : List V)[g]? = some (.int z) := by
      have e : ([.int 1, .int 2, .int 4] : List V) = ([1, 2, 4] : List Int).map V.int := rfl
      rw [e, List.getElem?_map, hz]; rfl
    refine ⟨_, rfl, _, _, _, _, rfl, rfl, T.s_GROUP_BITS H, atI_nat hb, _, _, rfl, rfl, rfl, ?_⟩
    have e : decide (V.int (Builtin.bitAnd r.e z) = V.int 0) = decide (Builtin.bitAnd r.e z = 0) := by simp
    rw [e]
    exact k
end
end K22

set_option Elab.async false
set_option linter.all false
set_option maxRecDepth 100000
set_option maxHeartbeats 4000000
namespace K22
open PySem L2 TW PyProof.Rows
open RM (rowV byV byV_non byV_int)
seal L2.PE L2.PA L2.PT L2.PW L2.PS L2.PSs L2.PG L2.PGs L2.PI L2.PTs
section
variable {P : Program} {w : World} {K : PySem.W.Frag} {mg : Str → Option Value} {base : Heap}
noncomputable def spWiresOf (K : PySem.W.Frag) (C : Addr) : Sp := fun vs H Q _ => ∃ (p ln lr : Addr) (ns : List Int) (rs : List R5) (i : Nat) (r : R5), vs = [.ref p, .int i] ∧ TownAt K C H p ln lr ns rs ∧ rs[i]? = some r ∧ Q (.int r.d) H
theorem ok_wires_of {t : Ad} (T : Txt K mg t) : FnOk P w K mg base CX0 2 t.f_wires_of t.d_wires_of ["town", "rope"]  (spWiresOf K t.a_Town) := by
  refine T.F_wires_of.ok sc_wires_of (fun vs H Q E h => ?_) (fun cdv A outer s H vs Q E hr h => ?_)
  · obtain ⟨p, ln, lr, ns, rs, i, r, rfl, _⟩ := h; rfl
  · obtain ⟨p, ln, lr, ns, rs, i, r, rfl, hT, hi, k⟩ := h
    obtain ⟨⟨dx, hp⟩, _⟩ := id hT
    refine ⟨_, (pss_one (ps_ret (pe_ix ix_tup (pe_meth (pv 0) T.c_Town T.m_Town_rope (ok_Town_rope T) (hr.mono (by decide)) T.B_Town_rope .nil pass0 (pa_c (pv 1) pa_nil)) pe_int (fun _ _ => rfl)))), ?_⟩
    try dsimp only [cxOf_K]
    refine ⟨_, rfl, p, dx, _, rfl, hp, rfl, _, rfl, p, ln, lr, ns, rs, i, r, rfl, hT, hi, fun q hq => ?_⟩
    have hq : SqT K H q r.vs := hq.elim SqT.of id
    exact ⟨q, _, _, _, rfl, rfl, hq, rfl, k⟩
noncomputable def spStrInit (K : PySem.W.Frag) (CT C : Addr) : Sp := fun vs H Q _ => ∃ (p dx tp ln lr : Addr) (ns : List Int) (rs : List R5), vs = [.ref p, .ref tp] ∧ H p = some (.ins C dx []) ∧ TownAt K CT H tp ln lr ns rs ∧ rs.length ≤ 20 ∧ (∀ r ∈ rs, 1 ≤ r.d ∧ r.d ≤ 4) ∧
  ∀ lu H', H lu = none → StrAt C H' p tp lu (rs.map fun r => List.range r.d.toNat) → (∀ b o, H b = some o → b ≠ p → H' b = some o) → Q .non H'
theorem ok_Strandsu_initu {t : Ad} (T : Txt K mg t) : FnOk P w K mg base CX0 3 t.f_Strandsu_initu t.d_Strandsu_initu ["self", "town"]  (spStrInit K t.a_Town t.a_Strands) := by
  refine T.F_Strandsu_initu.ok sc_Strandsu_initu (fun vs H Q E h => ?_) (fun cdv A outer s H vs Q E hr h => ?_)
  · obtain ⟨_, _, _, _, _, _, _, rfl, _⟩ := h; rfl
  · obtain ⟨p, dx, tp, ln, lr, ns, rs, rfl, hp, hT, h20, hw, k⟩ := h
    refine ⟨_, (pss_cons (ps_fld (pv 0) (pv 1) rfl)
      (pss_one (ps_fld (pv 0) (pe_comp (compOk_of (dsc := defScope s_Strandsu_initu) (N0 := ["self", "town"]) (N2 := ["rope", "town"]) (cap := [none, some 1]) rfl rfl (by decide +kernel)) rfl (pi_range1 rfl T.n_range (pa_c (pe_fld (pv 1) rfl) pa_nil)) (fun _ _ _ _ => by exact (pg_name (i := 0) nd_Strandsu_initu_c0 rfl (Or.inl rfl))) (fun _ _ _ _ => by exact pts_nil) (fun _ _ _ _ => by exact (pe_callTy (call_listR rfl) (by rfl) T.n_list boot_list (pa_c (pe_callTy call_rangeO (by rfl) T.n_range boot_range (pa_c (pe_call (ok_wires_of T) (hr.mono (by decide)) rfl T.g_wires_of T.F_wires_of.kp T.B_wires_of .nil pass0 (pa_c (pv 1) (pa_c (pv 0) pa_nil))) pa_nil)) pa_nil)))) rfl))), ?_⟩
    try dsimp only [cxOf_K]
    obtain ⟨⟨dt, htp⟩, _⟩ := id hT
    have ntp : tp ≠ p := ne_of htp hp fun z => by have := (HO.ins.inj z).2.2; cases this
    refine ⟨_, rfl, _, rfl, p, _, dx, [], rfl, hp, T.c_Strands, T.n_Strands_town, by decide, ?_⟩
    rw [putF_new (names := []) rfl rfl]
    generalize eH1 : upd H p (.ins t.a_Strands dx ([] ++ [(Str.ofString "town", V.ref tp)])) = H1
    have k1 : ∀ b o, H b = some o → b ≠ p → H1 b = some o := fun b o e nb => by rw [← eH1, upd_ne nb]; exact e
    have hp1 : H1 p = some (.ins t.a_Strands dx [(Str.ofString "town", V.ref tp)]) := by rw [← eH1]; exact upd_same
    have hT1 := hT.but k1 hp ntp
    obtain ⟨⟨dt, htp1⟩, _⟩ := id hT1
    refine ⟨_, rfl, tp, _, dt, _, _, rfl, htp1, T.c_Town, T.n_Town_many, rfl, _, rfl, (by show -(2 ^ 62) ≤ ((rs.length : Nat) : Int); omega), (by show ((rs.length : Nat) : Int) < 2 ^ 62; omega), fun acc hacc => ?_⟩
    refine comp_by (n := (((rs.length : Nat) : Int)).toNat) (fun i ys H2 => ∃ ls : List Addr, ys = ls.map V.ref ∧ ls.length = i ∧ ∀ (j : Nat) l r, ls[j]? = some l → rs[j]? = some r → H2 l = some (.lst (natsV (List.range r.d.toNat))) ∧ l ≠ acc) hacc itr_go itr_stop ⟨[], rfl, rfl, fun j l r e => by simp at e⟩ ?_ ?_
    · rintro i ys H2 hi s2 hy ⟨ls, rfl, el, hls⟩ x H3 ⟨rfl, rfl⟩
      have hi : i < rs.length := by simpa using hi
      have hir : rs[i]? = some rs[i] := List.getElem?_eq_getElem hi
      have wi := hw _ (List.mem_of_getElem? hir)
      obtain ⟨d, ed⟩ : ∃ d : Nat, rs[i].d = (d : Int) := ⟨rs[i].d.toNat, by omega⟩
      refine ⟨_, rfl, _, rfl, tp, ln, lr, ns, rs, i, rs[i], (by show [V.ref tp, V.int (0 + (i : Int))] = _; rw [Int.zero_add]), hT1.mono s2, hir, ?_⟩
      refine ⟨rs[i].d, rfl, fun q hq => ?_⟩
      have s3 := Same.new (o := .rng 0 rs[i].d) hq
      refine ⟨q, d, rfl, (by rw [upd_same, ed]), by omega, fun l hl => ?_⟩
      have s4 := s3.trans (Same.new (o := .lst ((List.range d).map fun k => V.int (k : Nat))) hl)
      have hy4 := s4 _ _ hy
      have hl4 : (upd (upd H3 q (.rng 0 rs[i].d)) l (.lst ((List.range d).map fun k => V.int (k : Nat)))) l = some (.lst (natsV (List.range d))) := upd_same
      have nla : l ≠ acc := (ne_of_none (s3 _ _ hy) hl).symm
      generalize upd (upd H3 q (.rng 0 rs[i].d)) l (.lst ((List.range d).map fun k => V.int (k : Nat))) = H4 at s4 hy4 hl4
      refine comp_add hacc (by simpa using hi) (s2.trans s4) hy4 (by rw [List.length_map, el]; exact small1000 (by omega)) ⟨ls ++ [l], by rw [List.map_append]; rfl, by rw [List.length_append, el]; rfl, fun j l' r e1 e2 => ?_⟩
      rcases snoc_at e1 with e1 | ⟨rfl, rfl⟩
      · obtain ⟨z1, z2⟩ := hls j l' r e1 e2
        exact ⟨by rw [upd_ne z2]; exact s4 _ _ z1, z2⟩
      · rw [el, hir] at e2
        cases e2
        rw [ed, Int.toNat_natCast]
        exact ⟨by rw [upd_ne nla]; exact hl4, nla⟩
    · rintro ys H2 s2 hy ⟨ls, rfl, el, hls⟩
      have el : ls.length = rs.length := by simpa using el
      have npa : p ≠ acc := ne_of_none hp1 hacc
      have hp2 := s2 _ _ hp1
      refine ⟨_, rfl, p, _, dx, _, rfl, hp2, T.c_Strands, T.n_Strands_upright, (by show 1 < 1000; decide), ?_⟩
      rw [putF_new (names := ["town"]) rfl (by decide +kernel)]
      refine k acc _ ?_ ⟨⟨dx, upd_same⟩, ls, by rw [upd_ne (Ne.symm npa)]; exact hy, by rw [List.length_map]; exact el, fun i l w e1 e2 => ?_⟩ fun b o e nb => by rw [upd_ne nb]; exact s2 _ _ (k1 _ _ e nb)
      · cases q : H acc with
        | none => rfl
        | some o =>
          by_cases z : acc = p
          · exact absurd z.symm npa
          · have := k1 _ _ q z
            rw [hacc] at this; cases this
      · rw [List.getElem?_map] at e2
        cases e3 : rs[i]? with
        | none => rw [e3] at e2; cases e2
        | some r =>
          rw [e3] at e2
          cases e2
          have z := (hls i l r e1 e3).1
          rw [upd_ne (ne_of z hp2 (by intro z; cases z))]
          exact z
end
end K22

set_option Elab.async false
set_option linter.all false
set_option maxRecDepth 100000
set_option maxHeartbeats 4000000
namespace K22
open PySem L2 TW PyProof.Rows
open RM (rowV byV byV_non byV_int)
seal L2.PE L2.PA L2.PT L2.PW L2.PS L2.PSs L2.PG L2.PGs L2.PI L2.PTs
section
variable {P : Program} {w : World} {K : PySem.W.Frag} {mg : Str → Option Value} {base : Heap}
noncomputable def spStanding (K : PySem.W.Frag) (CT C NW : Addr) : Sp := fun vs H Q E => ∃ (p tp lu ln lr : Addr) (ns : List Int) (rs : List R5) (ws : List (List Nat)) (i : Int), vs = [.ref p, .int i] ∧ TownAt K CT H tp ln lr ns rs ∧ StrAt C H p tp lu ws ∧ ws.length = rs.length ∧
  (∀ (j : Nat) w l H', i = (j : Int) → ws[j]? = some w → Same H H' → H l = none → H' l = some (.lst (natsV w)) → Q (.ref l) H') ∧ (¬ (0 ≤ i ∧ i < rs.length) → E (.ref NW) none H)
theorem ok_Strands_standing {t : Ad} (T : Txt K mg t) : FnOk P w K mg base (CX1 P w) 1 t.f_Strands_standing t.d_Strands_standing ["self", "rope"]  (spStanding K t.a_Town t.a_Strands t.a_NoWire) := by
  refine T.F_Strands_standing.okX sc_Strands_standing (fun vs H Q E h => ?_) (fun cdv A outer s H vs Q E hr h => ?_)
  · obtain ⟨_, _, _, _, _, _, _, _, _, rfl, _⟩ := h; rfl
  · obtain ⟨p, tp, lu, ln, lr, ns, rs, ws, i, rfl, hT, hW, ew, k, kx⟩ := h
    obtain ⟨⟨dx, hp⟩, ls, hlu, els, hls⟩ := id hW
    obtain ⟨⟨dt, htp⟩, _⟩ := id hT
    refine ⟨_, (pss_cons (ps_if (pt_not (pt_chain op_le op_lt pe_int (pv 1) (pe_fld (pe_fld (pv 0) rfl) rfl))) (pss_one (ps_raise rfl T.g_NoWire T.x_NoWire hr.hd pe_str)) pss_nil)
      (pss_one (ps_ret (pe_callTy call_list_of (by rfl) T.n_list boot_list (pa_c (pe_ix ix_list (pe_fld (pv 0) rfl) (pv 1) (fun _ _ => rfl)) pa_nil))))), ?_⟩
    try dsimp only [cxOf_K]
    refine ⟨_, rfl, _, _, rfl, rfl, _, rfl, ?_⟩
    by_cases h0 : 0 ≤ i
    case neg =>
      rw [decide_eq_false h0]
      exact iteF ⟨_, rfl, iteT (kx fun z => h0 z.1)⟩
    rw [decide_eq_true h0]
    refine iteT ?_
    refine ⟨_, rfl, p, _, dx, _, _, rfl, hp, T.c_Strands, T.n_Strands_town, rfl, tp, _, dt, _, _, rfl, htp, T.c_Town, T.n_Town_many, rfl, _, _, rfl, rfl, _, rfl, ?_⟩
    by_cases h1 : i < (rs.length : Int)
    case neg =>
      rw [decide_eq_false h1]
      exact iteT (kx fun z => h1 z.2)
    rw [decide_eq_true h1]
    refine iteF ?_
    obtain ⟨j, rfl⟩ : ∃ j : Nat, i = (j : Int) := ⟨i.toNat, by omega⟩
    have hj : j < ws.length := by omega
    have hwj : ws[j]? = some ws[j] := List.getElem?_eq_getElem hj
    have hlj : ls[j]? = some ls[j] := List.getElem?_eq_getElem (by omega)
    have hat : atI (ls.map V.ref) (j : Int) = some (.ref ls[j]) := atI_nat (by rw [List.getElem?_map, hlj]; rfl)
    refine ⟨_, rfl, p, _, dx, _, _, rfl, hp, T.c_Strands, T.n_Strands_upright, rfl, _, rfl, lu, _, _, _, rfl, rfl, SqL.of hlu, hat, ls[j], _, rfl, .inl (SqL.of (hls j _ _ hlj hwj)), fun l hl => ?_⟩
    exact k j _ l _ rfl hwj (Same.new hl) hl upd_same
noncomputable def spWireFor (K : PySem.W.Frag) (CT C NW : Addr) : Sp := fun vs H Q E => ∃ (p tp lu ln lr : Addr) (ns : List Int) (rs : List R5) (ws : List (List Nat)) (i x : Int), vs = [.ref p, .int i, .int x] ∧ TownAt K CT H tp ln lr ns rs ∧ StrAt C H p tp lu ws ∧ ws.length = rs.length ∧
  (∀ (j : Nat) w H', i = (j : Int) → ws[j]? = some w → Same H H' → (w = [] → Q .non H') ∧ (∀ k : Nat, w[(x % (w.length : Int)).toNat]? = some k → w ≠ [] → Q (.int (k : Nat)) H')) ∧ (¬ (0 ≤ i ∧ i < rs.length) → E (.ref NW) none H)
theorem ok_Strands_wire_for {t : Ad} (T : Txt K mg t) : FnOk P w K mg base (CX1 P w) 2 t.f_Strands_wire_for t.d_Strands_wire_for ["self", "rope", "number"]  (spWireFor K t.a_Town t.a_Strands t.a_NoWire) := by
  refine T.F_Strands_wire_for.okX sc_Strands_wire_for (fun vs H Q E h => ?_) (fun cdv A outer s H vs Q E hr h => ?_)
  · obtain ⟨_, _, _, _, _, _, _, _, _, _, rfl, _⟩ := h; rfl
  · obtain ⟨p, tp, lu, ln, lr, ns, rs, ws, i, x, rfl, hT, hW, ew, k, kx⟩ := h
    obtain ⟨⟨dx, hp⟩, _⟩ := id hW
    refine ⟨_, (pss_cons (ps_set (i := 3) sc_Strands_wire_for.nd rfl (Or.inl rfl) (pe_meth (pv 0) T.c_Strands T.m_Strands_standing (ok_Strands_standing T) (hr.mono (by decide)) T.B_Strands_standing .nil pass1 (pa_c (pv 1) pa_nil)))
      (pss_cons (ps_if (pt_cmpR op_eqD (pv 3) (pe_lst pa_nil) (nomark _)) (pss_one (ps_ret pe_non)) pss_nil)
      (pss_one (ps_ret (pe_ix ix_list (pv 3) (pe_op op_mod (pv 2) (pe_callB call_len_seq (by rfl) T.n_len PySem.boot_len (pa_c (pv 3) pa_nil))) (fun _ _ => rfl)))))), ?_⟩
    try dsimp only [cxOf_K]
    refine ⟨_, rfl, p, dx, _, rfl, hp, rfl, _, rfl, p, tp, lu, ln, lr, ns, rs, ws, i, rfl, hT, hW, ew, fun j w' l H1 ej hj s1 hl0 hl => ?_, kx⟩
    refine ⟨_, rfl, Nat.zero_le _, fun q hq => ?_⟩
    have s2 := Same.new (o := .lst []) hq
    have hl2 := s2 _ _ hl
    refine ⟨.list ((w'.map fun k : Nat => (k : Int)).map .int), .list [], ⟨l, _, rfl, SqL.of hl2, (by rw [natsV_ints]; exact repAll_ints _)⟩, ⟨q, _, rfl, SqL.of upd_same, rfl⟩, ints_lay _, rfl, Nat.lt_of_le_of_lt (Nat.add_le_add_left (Nat.le_trans (Nat.min_le_right _ _) (by decide)) _) hr.units, _, rfl, ?_⟩
    obtain ⟨k1, k2⟩ := k j w' _ ej hj (s1.trans s2)
    cases w' with
    | nil => exact iteT (k1 rfl)
    | cons y ys =>
      refine iteF ?_
      have hpos : (0 : Int) < (((y :: ys).length : Nat) : Int) := by rw [List.length_cons]; omega
      have hm0 := Int.emod_nonneg x (show (((y :: ys).length : Nat) : Int) ≠ 0 by omega)
      have hm1 := Int.emod_lt_of_pos x hpos
      have hlt : (x % (((y :: ys).length : Nat) : Int)).toNat < (y :: ys).length := by omega
      refine ⟨_, rfl, _, rfl, _, rfl, l, _, rfl, .inl (SqL.of hl2), _, _, rfl, (by rw [List.length_map]), hpos, ?_⟩
      obtain ⟨z, hz⟩ : ∃ z, (y :: ys)[(x % (((y :: ys).length : Nat) : Int)).toNat]? = some z := ⟨_, List.getElem?_eq_getElem hlt⟩
      refine ⟨l, _, _, V.int (z : Nat), rfl, rfl, SqL.of hl2, ?_, k2 z hz (by intro z; cases z)⟩
      rw [show x % (((y :: ys).length : Nat) : Int) = (((x % (((y :: ys).length : Nat) : Int)).toNat : Nat) : Int) by omega]
      exact atI_nat (by rw [List.getElem?_map, hz]; rfl)
end
end K22

set_option Elab.async false
set_option linter.all false
set_option maxRecDepth 100000
set_option maxHeartbeats 4000000
namespace K22
open PySem L2 TW PyProof.Rows
open RM (rowV byV byV_non byV_int)
seal L2.PE L2.PA L2.PT L2.PW L2.PS L2.PSs L2.PG L2.PGs L2.PI L2.PTs
section
variable {P : Program} {w : World} {K : PySem.W.Frag} {mg : Str → Option Value} {base : Heap}
noncomputable def spFall (K : PySem.W.Frag) (CT C NW : Addr) : Sp := fun vs H Q E => ∃ (p tp lu ln lr : Addr) (ns : List Int) (rs : List R5) (ws : List (List Nat)) (i x : Int), vs = [.ref p, .int i, .int x] ∧ TownAt K CT H tp ln lr ns rs ∧ StrAt C H p tp lu ws ∧ ws.length = rs.length ∧ (∀ w ∈ ws, w.length ≤ 4) ∧
  (∀ (j k : Nat) w H', i = (j : Int) → x = (k : Int) → ws[j]? = some w → k ∈ w → StrAt C H' p tp lu (ws.set j (w.filter fun z => decide (z ≠ k))) → (∀ b o, H b = some o → b ≠ lu → H' b = some o) → Q (.bl (w.filter fun z => decide (z ≠ k)).isEmpty) H') ∧
  (¬ (0 ≤ i ∧ i < rs.length) → E (.ref NW) none H) ∧ (∀ (j : Nat) w H', i = (j : Int) → ws[j]? = some w → (∀ k ∈ w, x ≠ (k : Nat)) → Same H H' → E (.ref NW) none H')
theorem ok_Strands_fall {t : Ad} (T : Txt K mg t) : FnOk P w K mg base (CX1 P w) 2 t.f_Strands_fall t.d_Strands_fall ["self", "rope", "wire"]  (spFall K t.a_Town t.a_Strands t.a_NoWire) := by
  refine T.F_Strands_fall.okX sc_Strands_fall (fun vs H Q E h => ?_) (fun cdv A outer s H vs Q E hr h => ?_)
  · obtain ⟨_, _, _, _, _, _, _, _, _, _, rfl, _⟩ := h; rfl
  · obtain ⟨p, tp, lu, ln, lr, ns, rs, ws, i, x, rfl, hT, hW, ew, h4, k, kx, ky⟩ := h
    obtain ⟨⟨dx, hp⟩, ls, hlu, els, hls⟩ := id hW
    refine ⟨_, (pss_cons (ps_set (i := 3) sc_Strands_fall.nd rfl (Or.inl rfl) (pe_meth (pv 0) T.c_Strands T.m_Strands_standing (ok_Strands_standing T) (hr.mono (by decide)) T.B_Strands_standing .nil pass1 (pa_c (pv 1) pa_nil)))
      (pss_cons (ps_if (pt_cmpR op_notIn_seq (pv 2) (pv 3) (by with_unfolding_all rfl)) (pss_one (ps_raise rfl T.g_NoWire T.x_NoWire hr.hd pe_str)) pss_nil)
      (pss_cons (ps_asg (pe_comp (compOk_of (dsc := defScope s_Strands_fall) (N0 := ["self", "rope", "wire", "ahead"]) (N2 := ["each", "wire"]) (cap := [none, some 2]) rfl rfl (by decide +kernel)) rfl (pi_list (pv 3)) (fun _ _ _ _ => by exact (pg_name (i := 0) nd_Strands_fall_c0 rfl (Or.inl rfl))) (fun _ _ _ _ => by exact (pts_one (pt_cmpR op_ne (pv 0) (pv 1) (nomark _)))) (fun _ _ _ _ => by exact (pv 0))) (pg_sub (pe_fld (pv 0) rfl) (pv 1) set_list))
      (pss_one (ps_ret (pe_cmpR op_eqD (pe_ix ix_list (pe_fld (pv 0) rfl) (pv 1) (fun _ _ => rfl)) (pe_lst pa_nil) (nomark _))))))), ?_⟩
    try dsimp only [cxOf_K]
    refine ⟨_, rfl, p, dx, _, rfl, hp, rfl, _, rfl, p, tp, lu, ln, lr, ns, rs, ws, i, rfl, hT, hW, ew, fun j w' l H1 ej hj s1 hl0 hl => ?_, kx⟩
    subst ej
    have hjl := (List.getElem?_eq_some_iff.mp hj).1
    have w4 := h4 _ (List.mem_of_getElem? hj)
    refine ⟨_, rfl, _, rfl, l, _, rfl, .inl (SqL.of hl), rfl, flat_nats w', _, rfl, ?_⟩
    dsimp only
    rw [if_pos rfl, natsV_ints, inV_ints]
    by_cases hc : x ∈ w'.map fun k : Nat => (k : Int)
    case neg =>
      rw [decide_eq_false hc]
      exact iteT (ky j w' H1 rfl hj (fun z hz e => hc (List.mem_map.mpr ⟨z, hz, e.symm⟩)) s1)
    rw [decide_eq_true hc]
    refine iteF ?_
    obtain ⟨kk, hkk, rfl⟩ := List.mem_map.mp hc
    refine ⟨_, rfl, l, rfl, ⟨_, SqL.of hl⟩, fun acc hacc => ?_⟩
    have hC := SqL.of (K := K) hl
    refine comp_by (n := (natsV w').length) (fun i ys _ => ys = natsV ((w'.take i).filter fun z => decide (z ≠ kk))) hacc (itl_go hC) (itl_stop hC) rfl ?_ ?_
    · rintro i ys H2 hi s2 hy rfl y H3 ⟨rfl, hv⟩
      have hv := hv _ (s2.seq hC)
      have hi' : i < w'.length := by rw [List.length_map] at hi; exact hi
      have hwi : w'[i]? = some w'[i] := List.getElem?_eq_getElem hi'
      rw [List.getElem?_map, hwi] at hv
      cases hv
      refine ⟨_, rfl, _, rfl, rfl, _, rfl, ?_⟩
      have et : w'.take (i + 1) = w'.take i ++ [w'[i]] := by rw [List.take_add_one, hwi]; rfl
      by_cases hz : w'[i] = kk
      · have e1 : decide (V.int (w'[i] : Nat) = V.int (kk : Nat)) = true := decide_eq_true (by rw [hz])
        rw [e1]
        refine iteF (comp_skip hi s2 hy ?_)
        rw [et, List.filter_append, hz]
        simp
      · have e1 : decide (V.int (w'[i] : Nat) = V.int (kk : Nat)) = false := decide_eq_false fun q => hz (by have := V.int.inj q; omega)
        rw [e1]
        refine iteT ⟨_, rfl, comp_add hacc hi s2 hy ?_ ?_⟩
        · rw [List.length_map]
          have := List.length_filter_le (fun z => decide (z ≠ kk)) (w'.take i)
          rw [List.length_take] at this
          exact small1000 (by omega)
        · rw [et, List.filter_append, ← natsV_snoc]
          simp [hz]
    · rintro ys H2 s2 hy rfl
      rw [List.length_map, List.take_length] at hy
      have s12 := s1.trans s2
      have hu2 := s12 _ _ hlu
      have hp2 := s12 _ _ hp
      have hlj : j < ls.length := by omega
      refine ⟨_, rfl, p, _, dx, _, _, rfl, hp2, T.c_Strands, T.n_Strands_upright, rfl, _, rfl, lu, _, _, j, rfl, rfl, hu2, (by rw [List.length_map]; exact ixN_nat hlj), ?_⟩
      have hW2 := hW.mono s12
      generalize eH3 : upd H2 lu (.lst ((ls.map V.ref).set j (.ref acc))) = H3
      have k3 : ∀ b o, H2 b = some o → b ≠ lu → H3 b = some o := fun b o e nb => by rw [← eH3, upd_ne nb]; exact e
      have hu3 : H3 lu = some (.lst ((ls.map V.ref).set j (.ref acc))) := by rw [← eH3]; exact upd_same
      have hW3 := hW2.put hu2 hy hjl k3 hu3
      have hacc3 : H3 acc = some (.lst (natsV (w'.filter fun z => decide (z ≠ kk)))) := k3 _ _ hy (ne_of hy hu2 fun z => nats_refs (List.getElem?_eq_getElem hlj) (HO.lst.inj z))
      obtain ⟨⟨dx3, hp3⟩, _⟩ := id hW3
      refine ⟨_, rfl, p, _, dx3, _, _, rfl, hp3, T.c_Strands, T.n_Strands_upright, rfl, _, rfl, lu, _, _, V.ref acc, rfl, rfl, SqL.of hu3, atI_nat (by rw [List.getElem?_set, if_pos rfl, if_pos (by rw [List.length_map]; exact hlj)]), Nat.zero_le _, fun q hq => ?_⟩
      have s4 := Same.new (o := .lst []) hq
      refine ⟨.list (((w'.filter fun z => decide (z ≠ kk)).map fun k : Nat => (k : Int)).map .int), .list [], ⟨acc, _, rfl, SqL.of (s4 _ _ hacc3), (by rw [natsV_ints]; exact repAll_ints _)⟩, ⟨q, _, rfl, SqL.of upd_same, rfl⟩, ints_lay _, rfl, Nat.lt_of_le_of_lt (Nat.add_le_add_left (Nat.le_trans (Nat.min_le_right _ _) (by decide)) _) hr.units, ?_⟩
      have z := k j kk w' _ rfl rfl hj hkk (hW3.mono s4) (fun b o e nb => s4 _ _ (k3 _ _ (s12 _ _ e) nb))
      cases e : w'.filter fun z => decide (z ≠ kk) with
      | nil => rw [e] at z; exact z
      | cons a r => rw [e] at z; exact z
noncomputable def spLay (K : PySem.W.Frag) (CT C NW : Addr) : Sp := fun vs H Q E => ∃ (p tp lu ln lr : Addr) (ns : List Int) (rs : List R5) (ws : List (List Nat)) (i x : Int), vs = [.ref p, .int i, .int x] ∧ TownAt K CT H tp ln lr ns rs ∧ StrAt C H p tp lu ws ∧ ws.length = rs.length ∧ (∀ w ∈ ws, w.length ≤ 4) ∧
  (∀ (j k : Nat) w w' r H', i = (j : Int) → x = (k : Int) → ws[j]? = some w → rs[j]? = some r → x < r.d → k ∉ w → w'.Perm (w ++ [k]) → w'.Pairwise (· ≤ ·) → StrAt C H' p tp lu (ws.set j w') → (∀ b o, H b = some o → b ≠ lu → H' b = some o) → Q (.bl w.isEmpty) H') ∧
  (¬ (0 ≤ i ∧ i < rs.length) → E (.ref NW) none H) ∧ (∀ (j : Nat) w r H', i = (j : Int) → ws[j]? = some w → rs[j]? = some r → ¬ (0 ≤ x ∧ x < r.d) ∨ (∃ k ∈ w, x = (k : Nat)) → Same H H' → E (.ref NW) none H')
theorem ok_Strands_lay {t : Ad} (T : Txt K mg t) : FnOk P w K mg base (CX1 P w) 3 t.f_Strands_lay t.d_Strands_lay ["self", "rope", "wire"]  (spLay K t.a_Town t.a_Strands t.a_NoWire) := by
  refine T.F_Strands_lay.okX sc_Strands_lay (fun vs H Q E h => ?_) (fun cdv A outer s H vs Q E hr h => ?_)
  · obtain ⟨_, _, _, _, _, _, _, _, _, _, rfl, _⟩ := h; rfl
  · obtain ⟨p, tp, lu, ln, lr, ns, rs, ws, i, x, rfl, hT, hW, ew, h4, k, kx, ky⟩ := h
    obtain ⟨⟨dx, hp⟩, ls, hlu, els, hls⟩ := id hW
    refine ⟨_, (pss_cons (ps_set (i := 3) sc_Strands_lay.nd rfl (Or.inl rfl) (pe_meth (pv 0) T.c_Strands T.m_Strands_standing (ok_Strands_standing T) (hr.mono (by decide)) T.B_Strands_standing .nil pass1 (pa_c (pv 1) pa_nil)))
      (pss_cons (ps_if (PW.pt (pw_or (pt_not (pt_chain op_le op_lt pe_int (pv 2) (pe_call (ok_wires_of T) (hr.mono (by decide)) rfl T.g_wires_of T.F_wires_of.kp T.B_wires_of .nil pass0 (pa_c (pe_fld (pv 0) rfl) (pa_c (pv 1) pa_nil))))) (pw_or1 (pt_cmpR op_in_seq (pv 2) (pv 3) (by with_unfolding_all rfl))))) (pss_one (ps_raise rfl T.g_NoWire T.x_NoWire hr.hd pe_str)) pss_nil)
      (pss_cons (ps_asg (pe_callB call_sorted (by rfl) T.n_sorted boot_sorted (pa_c (pe_op op_cat (pv 3) (pe_lst (pa_c (pv 2) pa_nil))) pa_nil)) (pg_sub (pe_fld (pv 0) rfl) (pv 1) set_list))
      (pss_one (ps_ret (pe_cmpR op_eqD (pv 3) (pe_lst pa_nil) (nomark _))))))), ?_⟩
    try dsimp only [cxOf_K]
    refine ⟨_, rfl, p, dx, _, rfl, hp, rfl, _, rfl, p, tp, lu, ln, lr, ns, rs, ws, i, rfl, hT, hW, ew, fun j w' l H1 ej hj s1 hl0 hl => ?_, kx⟩
    subst ej
    have hjl := (List.getElem?_eq_some_iff.mp hj).1
    have w4 := h4 _ (List.mem_of_getElem? hj)
    have hrj : rs[j]? = some rs[j] := List.getElem?_eq_getElem (by omega)
    have hp1 := s1 _ _ hp
    have hT1 := hT.mono s1
    refine ⟨_, rfl, _, _, rfl, rfl, _, rfl, ?_⟩
    by_cases h0 : 0 ≤ x
    case neg =>
      rw [decide_eq_false h0]
      exact iteF ⟨_, rfl, iteT (iteT (ky j w' _ H1 rfl hj hrj (.inl fun z => h0 z.1) s1))⟩
    rw [decide_eq_true h0]
    refine iteT ?_
    refine ⟨_, rfl, p, _, dx, _, _, rfl, hp1, T.c_Strands, T.n_Strands_town, rfl, _, rfl, tp, ln, lr, ns, rs, j, rs[j], rfl, hT1, hrj, _, _, rfl, rfl, _, rfl, ?_⟩
    by_cases h1 : x < rs[j].d
    case neg =>
      rw [decide_eq_false h1]
      exact iteT (iteT (ky j w' _ H1 rfl hj hrj (.inl fun z => h1 z.2) s1))
    rw [decide_eq_true h1]
    refine iteF ?_
    obtain ⟨kk, rfl⟩ : ∃ kk : Nat, x = (kk : Int) := ⟨x.toNat, by omega⟩
    refine ⟨_, rfl, _, rfl, l, _, rfl, .inl (SqL.of hl), rfl, flat_nats w', _, rfl, ?_⟩
    dsimp only
    rw [if_neg Bool.false_ne_true, inV_nats]
    by_cases hc : kk ∈ w'
    case pos =>
      rw [decide_eq_true hc]
      exact iteT (ky j w' _ H1 rfl hj hrj (.inr ⟨kk, hc, rfl⟩) s1)
    rw [decide_eq_false hc]
    refine iteF ?_
    refine ⟨_, rfl, _, rfl, (by show 1 ≤ sizeLine; decide), fun q hq => ?_⟩
    have s2 := Same.new (o := .lst [.int (kk : Nat)]) hq
    refine ⟨l, q, _, _, rfl, rfl, s2 _ _ hl, upd_same, ?_, fun l3 h3 => ?_⟩
    · rw [List.length_map]
      exact Nat.le_of_lt (small1000 (by show w'.length + 1 ≤ 1000; omega))
    have s3 := s2.trans (Same.new (o := .lst (natsV w' ++ [.int (kk : Nat)])) h3)
    have hl3 : (upd (upd H1 q (.lst [.int (kk : Nat)])) l3 (.lst (natsV w' ++ [.int (kk : Nat)]))) l3 = some (.lst (((w' ++ [kk]).map fun k : Nat => (k : Int)).map V.int)) := by rw [upd_same, ← natsV_snoc, natsV_ints]
    generalize upd (upd H1 q (.lst [.int (kk : Nat)])) l3 (.lst (natsV w' ++ [.int (kk : Nat)])) = H3 at s3 hl3
    refine ⟨l3, _, rfl, SqL.of hl3, (by rw [List.length_map, List.length_append]; show w'.length + 1 < 64; omega), fun l4 xs hl4 hperm hsort => ?_⟩
    obtain ⟨zs, rfl, hz1, hz2⟩ := nats_of_ints hperm hsort
    have s4 := s3.trans (Same.new (o := .lst ((zs.map fun k : Nat => (k : Int)).map V.int)) hl4)
    have hl5 : (upd H3 l4 (.lst ((zs.map fun k : Nat => (k : Int)).map V.int))) l4 = some (.lst (natsV zs)) := by rw [upd_same, natsV_ints]
    generalize upd H3 l4 (.lst ((zs.map fun k : Nat => (k : Int)).map V.int)) = H4 at s4 hl5
    have s14 := s1.trans s4
    have hu4 := s14 _ _ hlu
    have hp4 := s14 _ _ hp
    have hlj : j < ls.length := by omega
    refine ⟨_, rfl, p, _, dx, _, _, rfl, hp4, T.c_Strands, T.n_Strands_upright, rfl, _, rfl, lu, _, _, j, rfl, rfl, hu4, (by rw [List.length_map]; exact ixN_nat hlj), ?_⟩
    generalize eH5 : upd H4 lu (.lst ((ls.map V.ref).set j (.ref l4))) = H5
    have k5 : ∀ b o, H4 b = some o → b ≠ lu → H5 b = some o := fun b o e nb => by rw [← eH5, upd_ne nb]; exact e
    have hu5 : H5 lu = some (.lst ((ls.map V.ref).set j (.ref l4))) := by rw [← eH5]; exact upd_same
    have hW5 := (hW.mono s14).put hu4 hl5 hjl k5 hu5
    have hl6 : H5 l = some (.lst (natsV w')) := k5 _ _ (s4 _ _ hl) (ne_of (s4 _ _ hl) hu4 fun z => nats_refs (List.getElem?_eq_getElem hlj) (HO.lst.inj z))
    refine ⟨_, rfl, Nat.zero_le _, fun q2 hq2 => ?_⟩
    have s6 := Same.new (o := .lst []) hq2
    refine ⟨.list ((w'.map fun k : Nat => (k : Int)).map .int), .list [], ⟨l, _, rfl, SqL.of (s6 _ _ hl6), (by rw [natsV_ints]; exact repAll_ints _)⟩, ⟨q2, _, rfl, SqL.of upd_same, rfl⟩, ints_lay _, rfl, Nat.lt_of_le_of_lt (Nat.add_le_add_left (Nat.le_trans (Nat.min_le_right _ _) (by decide)) _) hr.units, ?_⟩
    have z := k j kk w' zs rs[j] _ rfl rfl hj hrj h1 hc hz1 hz2 (hW5.mono s6) (fun b o e nb => s6 _ _ (k5 _ _ (s14 _ _ e) nb))
    cases w' with
    | nil => exact z
    | cons a r => exact z
end
end K22

set_option Elab.async false
set_option linter.all false
set_option maxRecDepth 100000
set_option maxHeartbeats 4000000
namespace K22
open PySem L2 TW PyProof.Rows
open RM (rowV byV byV_non byV_int)
seal L2.PE L2.PA L2.PT L2.PW L2.PS L2.PSs L2.PG L2.PGs L2.PI L2.PTs
section
variable {P : Program} {w : World} {K : PySem.W.Frag} {mg : Str → Option Value} {base : Heap}
noncomputable def spGroup (NG : Addr) : Sp := fun vs H Q E => ∃ g : Int, vs = [.int g] ∧ (0 ≤ g ∧ g < 3 → Q .non H) ∧ (¬ (0 ≤ g ∧ g < 3) → E (.ref NG) none H)
theorem ok_check_group {t : Ad} (T : Txt K mg t) : FnOk P w K mg base (CX1 P w) 1 t.f_check_group t.d_check_group ["group"]  (spGroup t.a_NoGroup) := by
  refine T.F_check_group.okX sc_check_group (fun vs H Q E h => ?_) (fun cdv A outer s H vs Q E hr h => ?_)
  · obtain ⟨_, rfl, _⟩ := h; rfl
  · obtain ⟨g, rfl, k, kx⟩ := h
    refine ⟨_, (pss_one (ps_if (pt_not (pt_chain op_le op_lt pe_int (pv 0) (pe_callB call_len_seq (by rfl) T.n_len PySem.boot_len (pa_c (pe_glob rfl T.k_GROUP_BITS (v := .ref t.a_GROUP_BITS) rfl) pa_nil)))) (pss_one (ps_raise rfl T.g_NoGroup T.x_NoGroup hr.hd pe_str)) pss_nil)), ?_⟩
    try dsimp only [cxOf_K]
    refine ⟨_, rfl, _, _, rfl, rfl, _, rfl, ?_⟩
    by_cases h0 : 0 ≤ g
    case neg =>
      rw [decide_eq_false h0]
      exact iteF ⟨_, rfl, iteT (kx fun z => h0 z.1)⟩
    rw [decide_eq_true h0]
    refine iteT ?_
    refine ⟨_, _, rfl, .inr (T.s_GROUP_BITS H), _, _, rfl, rfl, _, rfl, ?_⟩
    by_cases h1 : g < 3
    case neg =>
      have e : decide (g < ((([.int 1, .int 2, .int 4] : List V).length : Nat) : Int)) = false := decide_eq_false h1
      rw [e]
      exact iteT (kx fun z => h1 z.2)
    have e : decide (g < ((([.int 1, .int 2, .int 4] : List V).length : Nat) : Int)) = true := decide_eq_true h1
    rw [e]
    exact iteF (k ⟨h0, h1⟩)
noncomputable def spLive (K : PySem.W.Frag) (CT C NG : Addr) : Sp := fun vs H Q E => ∃ (p tp lu ln lr : Addr) (ns : List Int) (rs : List R5) (ws : List (List Nat)) (g : Int), vs = [.ref p, .int g] ∧ TownAt K CT H tp ln lr ns rs ∧ StrAt C H p tp lu ws ∧ ws.length = rs.length ∧ rs.length ≤ 20 ∧ (∀ r ∈ rs, 1 ≤ r.e ∧ r.e ≤ 7) ∧
  (∀ (gg : Nat) l H', g = (gg : Int) → gg < 3 → Same H H' → H l = none → H' l = some (.lst (natsV (liveTo rs ws gg rs.length))) → Q (.ref l) H') ∧ (¬ (0 ≤ g ∧ g < 3) → E (.ref NG) none H)
theorem ok_Strands_live {t : Ad} (T : Txt K mg t) : FnOk P w K mg base (CX1 P w) 2 t.f_Strands_live t.d_Strands_live ["self", "group"]  (spLive K t.a_Town t.a_Strands t.a_NoGroup) := by
  refine T.F_Strands_live.okX sc_Strands_live (fun vs H Q E h => ?_) (fun cdv A outer s H vs Q E hr h => ?_)
  · obtain ⟨_, _, _, _, _, _, _, _, _, rfl, _⟩ := h; rfl
  · obtain ⟨p, tp, lu, ln, lr, ns, rs, ws, g, rfl, hT, hW, ew, h20, he, k, kx⟩ := h
    obtain ⟨⟨dx, hp⟩, ls, hlu, els, hls⟩ := id hW
    obtain ⟨⟨dt, htp⟩, _⟩ := id hT
    refine ⟨_, (pss_cons (ps_expr (pe_call (ok_check_group T) (hr.mono (by decide)) rfl T.g_check_group T.F_check_group.kp T.B_check_group .nil pass1 (pa_c (pv 1) pa_nil)))
      (pss_one (ps_ret (pe_comp (compOk_of (dsc := defScope s_Strands_live) (N0 := ["self", "group"]) (N2 := ["rope", "group", "self"]) (cap := [none, some 1, some 0]) rfl rfl (by decide +kernel)) rfl (pi_range1 rfl T.n_range (pa_c (pe_fld (pe_fld (pv 0) rfl) rfl) pa_nil)) (fun _ _ _ _ => by exact (pg_name (i := 0) nd_Strands_live_c0 rfl (Or.inl rfl))) (fun _ _ _ _ => by exact (pts_one (PW.pt (pw_and (pt_truthK K rfl (pe_ix (ix_listK K rfl) (pe_fldK K rfl (pv 2) rfl) (pv 0) (fun _ _ => rfl)) (fun _ => rfl)) (pw_and1 (pt_val (pe_meth (pe_fldK K rfl (pv 2) rfl) T.c_Town T.m_Town_lets (ok_Town_lets T) (hr.mono (by decide)) T.B_Town_lets .nil pass0 (pa_c (pv 0) (pa_c (pv 1) pa_nil))))))))) (fun _ _ _ _ => by exact (pv 0)))))), ?_⟩
    try dsimp only [cxOf_K]
    refine ⟨_, rfl, g, rfl, fun hg => ?_, kx⟩
    obtain ⟨gg, rfl⟩ : ∃ gg : Nat, g = (gg : Int) := ⟨g.toNat, by omega⟩
    have hg3 : gg < 3 := by omega
    obtain ⟨z, hz⟩ := bit3 hg3
    refine ⟨_, rfl, p, _, dx, _, _, rfl, hp, T.c_Strands, T.n_Strands_town, rfl, tp, _, dt, _, _, rfl, htp, T.c_Town, T.n_Town_many, rfl, _, rfl, (by show -(2 ^ 62) ≤ ((rs.length : Nat) : Int); omega), (by show ((rs.length : Nat) : Int) < 2 ^ 62; omega), fun acc hacc => ?_⟩
    refine comp_by (n := (((rs.length : Nat) : Int)).toNat) (fun i ys _ => ys = natsV (liveTo rs ws gg i)) hacc itr_go itr_stop rfl ?_ ?_
    · rintro i ys H2 hi s2 hy rfl x H3 ⟨rfl, rfl⟩
      have hi' : i < rs.length := by simpa using hi
      have hir : rs[i]? = some rs[i] := List.getElem?_eq_getElem hi'
      have hiw : ws[i]? = some ws[i] := List.getElem?_eq_getElem (by omega)
      have hil : ls[i]? = some ls[i] := List.getElem?_eq_getElem (by omega)
      have hl8 : (natsV (liveTo rs ws gg i)).length < sizeLine := by rw [List.length_map]; exact small1000 (by have := liveTo_len rs ws gg i; omega)
      have eL : isLive rs ws gg i = ((!(ws[i]).isEmpty) && letsB (rs[i]).e gg) := by unfold isLive; rw [hir, hiw]
      refine ⟨_, rfl, p, _, dx, _, _, rfl, s2 _ _ hp, T.c_Strands, T.n_Strands_upright, rfl, _, rfl, lu, _, _, V.ref ls[i], rfl, rfl, SqL.of (s2 _ _ hlu), (by rw [Int.zero_add]; exact atI_nat (by rw [List.getElem?_map, hil]; rfl)), ?_⟩
      refine ⟨!(natsV ws[i]).isEmpty, ?_, ?_⟩
      · exact .inl ⟨_, SqL.of (s2 _ _ (hls i _ _ hil hiw)), rfl⟩
      cases ewi : ws[i] with
      | nil =>
        refine iteF (comp_skip hi s2 hy ?_)
        rw [liveTo_succ, eL, ewi]
        simp
      | cons y0 r0 =>
        refine iteT ?_
        refine ⟨_, rfl, p, _, dx, _, _, rfl, s2 _ _ hp, T.c_Strands, T.n_Strands_town, rfl, tp, dt, _, rfl, s2 _ _ htp, rfl, _, rfl, _, rfl, tp, ln, lr, ns, rs, i, rs[i], gg, z, (by show [V.ref tp, V.int (0 + (i : Int)), V.int (gg : Nat)] = _; rw [Int.zero_add]), hT.mono s2, hir, hz, _, rfl, ?_⟩
        have h17 := he _ (List.mem_of_getElem? hir)
        rw [lets_bit h17.1 h17.2 hz]
        cases eb : letsB rs[i].e gg with
        | true =>
          refine iteT ⟨_, rfl, comp_add hacc hi s2 hy hl8 ?_⟩
          rw [liveTo_succ, eL, ewi, eb, Int.zero_add]
          exact (natsV_snoc _ _).symm
        | false =>
          refine iteF (comp_skip hi s2 hy ?_)
          rw [liveTo_succ, eL, ewi, eb]
          simp
    · rintro ys H2 s2 hy rfl
      exact k gg acc H2 rfl hg3 s2 hacc (by rw [hy, Int.toNat_natCast])
end
end K22

set_option Elab.async false
set_option linter.all false
set_option maxRecDepth 100000
set_option maxHeartbeats 4000000
namespace K22
open PySem L2 TW PyProof.Rows
open RM (rowV byV byV_non byV_int)
seal L2.PE L2.PA L2.PT L2.PW L2.PS L2.PSs L2.PG L2.PGs L2.PI L2.PTs
section
variable {P : Program} {w : World} {K : PySem.W.Frag} {mg : Str → Option Value} {base : Heap}
/-- a town, strands of it, and what is known of them -/
structure SAt (K : PySem.W.Frag) (CT C : Addr) (H : Hp) (p tp lu ln lr : Addr) (ns : List Int) (rs : List R5) (ws : List (List Nat)) : Prop where
  town : TownAt K CT H tp ln lr ns rs
  str : StrAt C H p tp lu ws
  len : ws.length = rs.length
  le4 : ∀ w ∈ ws, w.length ≤ 4
  l20 : rs.length ≤ 20
  e17 : ∀ r ∈ rs, 1 ≤ r.e ∧ r.e ≤ 7
theorem SAt.mono {CT C : Addr} {H H' : Hp} {p tp lu ln lr : Addr} {ns : List Int} {rs : List R5} {ws : List (List Nat)} (s : Same H H') (h : SAt K CT C H p tp lu ln lr ns rs ws) : SAt K CT C H' p tp lu ln lr ns rs ws := ⟨h.town.mono s, h.str.mono s, h.len, h.le4, h.l20, h.e17⟩
noncomputable def spDone (K : PySem.W.Frag) (CT C NW NG : Addr) : Sp := fun vs H Q E => ∃ (p tp lu ln lr : Addr) (ns : List Int) (rs : List R5) (ws : List (List Nat)) (m i x : Int), vs = [.ref p, .int m, .int i, .int x] ∧ SAt K CT C H p tp lu ln lr ns rs ws ∧ (m = 0 ∨ m = 1 ∨ BadS rs ws m i x) ∧
  (∀ ws' H' z, DoneS rs ws m i x ws' → StrAt C H' p tp lu ws' → (∀ b o, H b = some o → b ≠ lu → H' b = some o) → Q (.bl z) H') ∧
  (BadS rs ws m i x → m ≠ 4 → ∀ H', Same H H' → E (.ref NW) none H') ∧ (BadS rs ws m i x → m = 4 → ∀ H', Same H H' → E (.ref NG) none H')
theorem ok_w_done {t : Ad} (T : Txt K mg t) : FnOk P w K mg base (CX1 P w) 4 t.f_w_done t.d_w_done ["_law_strands", "_law_which", "_law_rope", "_law_wire"]  (spDone K t.a_Town t.a_Strands t.a_NoWire t.a_NoGroup) := by
  refine T.F_w_done.okX sc_w_done (fun vs H Q E h => ?_) (fun cdv A outer s H vs Q E hr h => ?_)
  · obtain ⟨_, _, _, _, _, _, _, _, _, _, _, rfl, _⟩ := h; rfl
  · obtain ⟨p, tp, lu, ln, lr, ns, rs, ws, m, i, x, rfl, hS, hm, kd, kx, ky⟩ := h
    obtain ⟨⟨dx, hp⟩, _⟩ := id hS.str
    refine ⟨_, (pss_cons (ps_if (pt_cmpR op_eq (pv 1) pe_int (nomark _)) (pss_one (ps_ret (pe_meth (pv 0) T.c_Strands T.m_Strands_fall (ok_Strands_fall T) (hr.mono (by decide)) T.B_Strands_fall .nil pass1 (pa_c (pv 2) (pa_c (pv 3) pa_nil))))) pss_nil)
      (pss_cons (ps_if (pt_cmpR op_eq (pv 1) pe_int (nomark _)) (pss_one (ps_ret (pe_meth (pv 0) T.c_Strands T.m_Strands_lay (ok_Strands_lay T) (hr.mono (by decide)) T.B_Strands_lay .nil pass1 (pa_c (pv 2) (pa_c (pv 3) pa_nil))))) pss_nil)
      (pss_cons (ps_if (pt_cmpR op_eq (pv 1) pe_int (nomark _)) (pss_one (ps_ret (pe_meth (pv 0) T.c_Strands T.m_Strands_standing (ok_Strands_standing T) (hr.mono (by decide)) T.B_Strands_standing .nil pass1 (pa_c (pv 2) pa_nil)))) pss_nil)
      (pss_cons (ps_if (pt_cmpR op_eq (pv 1) pe_int (nomark _)) (pss_one (ps_ret (pe_meth (pv 0) T.c_Strands T.m_Strands_wire_for (ok_Strands_wire_for T) (hr.mono (by decide)) T.B_Strands_wire_for .nil pass1 (pa_c (pv 2) (pa_c (pe_callB call_absI (by rfl) T.n_abs boot_abs (pa_c (pv 3) pa_nil)) pa_nil))))) pss_nil)
      (pss_one (ps_ret (pe_meth (pv 0) T.c_Strands T.m_Strands_live (ok_Strands_live T) (hr.mono (by decide)) T.B_Strands_live .nil pass1 (pa_c (pv 2) pa_nil)))))))), ?_⟩
    try dsimp only [cxOf_K]
    have yes : ∀ a b : Int, a = b → decide (V.int a = V.int b) = true := fun a b e => decide_eq_true (by rw [e])
    have no : ∀ a b : Int, a ≠ b → decide (V.int a = V.int b) = false := fun a b e => decide_eq_false fun z => e (V.int.inj z)
    refine ⟨_, rfl, rfl, _, rfl, ?_⟩
    by_cases m0 : m = 0
    · rw [yes _ _ m0]
      refine iteT ?_
      refine ⟨_, rfl, p, dx, _, rfl, hp, rfl, _, rfl, _, rfl, p, tp, lu, ln, lr, ns, rs, ws, i, x, rfl, hS.town, hS.str, hS.len, hS.le4, fun j k w' H' e1 e2 e3 e4 e5 e6 => kd _ H' _ ⟨j, k, w', e1, e2, e3, .inl ⟨m0, e4, rfl⟩⟩ e5 e6, fun z => kx (.inr (.inl ⟨⟨by omega, by omega⟩, z⟩)) (by omega) _ (Same.refl _), fun j w' H' e1 e2 e3 s' => kx (.inr (.inr (.inl ⟨m0, j, w', e1, e2, e3⟩))) (by omega) _ s'⟩
    rw [no _ _ m0]
    refine iteF ?_
    refine ⟨_, rfl, rfl, _, rfl, ?_⟩
    by_cases m1 : m = 1
    · rw [yes _ _ m1]
      refine iteT ?_
      refine ⟨_, rfl, p, dx, _, rfl, hp, rfl, _, rfl, _, rfl, p, tp, lu, ln, lr, ns, rs, ws, i, x, rfl, hS.town, hS.str, hS.len, hS.le4, fun j k w' w2 r H' e1 e2 e3 e4 e5 e6 e7 e8 e9 e10 => kd _ H' _ ⟨j, k, w', e1, e2, e3, .inr ⟨m1, w2, r, e4, e5, e6, e7, e8, rfl⟩⟩ e9 e10, fun z => kx (.inr (.inl ⟨⟨by omega, by omega⟩, z⟩)) (by omega) _ (Same.refl _), fun j w' r H' e1 e2 e3 e4 s' => kx (.inr (.inr (.inr ⟨m1, j, w', r, e1, e2, e3, e4⟩))) (by omega) _ s'⟩
    rw [no _ _ m1]
    refine iteF ?_
    have bad : BadS rs ws m i x := by
      rcases hm with h | h | h
      · exact absurd h m0
      · exact absurd h m1
      · exact h
    have far : m ≠ 4 → ¬ (0 ≤ i ∧ i < (rs.length : Int)) := fun h4 => by
      rcases bad with h | h | h | h
      · exact absurd h.1 h4
      · exact h.2
      · exact absurd h.1 m0
      · exact absurd h.1 m1
    refine ⟨_, rfl, rfl, _, rfl, ?_⟩
    by_cases m2 : m = 2
    · rw [yes _ _ m2]
      refine iteT ?_
      refine ⟨_, rfl, p, dx, _, rfl, hp, rfl, _, rfl, p, tp, lu, ln, lr, ns, rs, ws, i, rfl, hS.town, hS.str, hS.len, fun j w' l H' e1 e2 _ _ _ => absurd ⟨by omega, by have := (List.getElem?_eq_some_iff.mp e2).1; have := hS.len; omega⟩ (far (by omega)), fun z => kx bad (by omega) _ (Same.refl _)⟩
    rw [no _ _ m2]
    refine iteF ?_
    refine ⟨_, rfl, rfl, _, rfl, ?_⟩
    by_cases m3 : m = 3
    · rw [yes _ _ m3]
      refine iteT ?_
      refine ⟨_, rfl, p, dx, _, rfl, hp, rfl, _, rfl, _, rfl, _, rfl, p, tp, lu, ln, lr, ns, rs, ws, i, _, rfl, hS.town, hS.str, hS.len, fun j w' H' e1 e2 _ => absurd ⟨by omega, by have := (List.getElem?_eq_some_iff.mp e2).1; have := hS.len; omega⟩ (far (by omega)), fun z => kx bad (by omega) _ (Same.refl _)⟩
    rw [no _ _ m3]
    refine iteF ?_
    have m4 : m = 4 ∧ ¬ (0 ≤ i ∧ i < 3) := by
      rcases bad with h | h | h | h
      · exact h
      · have := h.1; omega
      · exact absurd h.1 m0
      · exact absurd h.1 m1
    refine ⟨_, rfl, p, dx, _, rfl, hp, rfl, _, rfl, p, tp, lu, ln, lr, ns, rs, ws, i, rfl, hS.town, hS.str, hS.len, hS.l20, hS.e17, fun gg l H' e1 e2 _ _ _ => absurd ⟨by omega, by omega⟩ m4.2, fun z => ky bad m4.1 _ (Same.refl _)⟩
end
end K22

set_option Elab.async false
set_option linter.all false
set_option maxRecDepth 100000
set_option maxHeartbeats 4000000
namespace K22
open PySem L2 TW PyProof.Rows
open RM (rowV byV byV_non byV_int)
seal L2.PE L2.PA L2.PT L2.PW L2.PS L2.PSs L2.PG L2.PGs L2.PI L2.PTs
section
variable {P : Program} {w : World} {K : PySem.W.Frag} {mg : Str → Option Value} {base : Heap}
noncomputable def spRefused (K : PySem.W.Frag) (CT C : Addr) : Sp := fun vs H Q _ => ∃ (p tp lu ln lr : Addr) (ns : List Int) (rs : List R5) (ws : List (List Nat)) (m i x : Int), vs = [.ref p, .int m, .int i, .int x] ∧ SAt K CT C H p tp lu ln lr ns rs ws ∧ 0 ≤ m ∧ m ≤ 4 ∧ BadS rs ws m i x ∧
  ∀ H', Same H H' → Q (.bl true) H'
theorem ok_w_refused {t : Ad} (T : Txt K mg t) : FnOk P w K mg base CX0 5 t.f_w_refused t.d_w_refused ["_law_strands", "_law_which", "_law_rope", "_law_wire"]  (spRefused K t.a_Town t.a_Strands) := by
  refine T.F_w_refused.ok sc_w_refused (fun vs H Q E h => ?_) (fun cdv A outer s H vs Q E hr h => ?_)
  · obtain ⟨_, _, _, _, _, _, _, _, _, _, _, rfl, _⟩ := h; rfl
  · obtain ⟨p, tp, lu, ln, lr, ns, rs, ws, m, i, x, rfl, hS, m0, m4, bad, k⟩ := h
    refine ⟨_, (pss_cons (ps_set (i := 4) sc_w_refused.nd rfl (Or.inl rfl) (pe_tup pa_nil))
      (pss_cons (ps_try (i := 5) (pex_call (ok_w_done T) (hr.mono (by decide)) rfl T.g_w_done T.F_w_done.kp T.B_w_done .nil rfl (pa_c (pv 0) (pa_c (pv 1) (pa_c (pv 2) (pa_c (pv 3) pa_nil))))) rfl T.g_KnotError T.b_KnotError sc_w_refused.nd rfl rfl rfl rfl rfl (fun ea => (pss_cons (ps_set (i := 6) sc_w_refused.nd rfl (Or.inl rfl) (pe_or (pe_callB (call_isiEK K rfl) (by rfl) T.n_isinstance boot_isinstance (pa_c (pv 5) (pa_c (pe_glob rfl T.g_Apart (v := .ref t.a_Apart) rfl) pa_nil))) (pe_or (pe_callB (call_isiEK K rfl) (by rfl) T.n_isinstance boot_isinstance (pa_c (pv 5) (pa_c (pe_glob rfl T.g_BadTown (v := .ref t.a_BadTown) rfl) pa_nil))) (pe_or (pe_callB (call_isiEK K rfl) (by rfl) T.n_isinstance boot_isinstance (pa_c (pv 5) (pa_c (pe_glob rfl T.g_NoCaller (v := .ref t.a_NoCaller) rfl) pa_nil))) (pe_one (pe_callB (call_isiEK K rfl) (by rfl) T.n_isinstance boot_isinstance (pa_c (pv 5) (pa_c (pe_glob rfl T.g_NoCopy (v := .ref t.a_NoCopy) rfl) pa_nil))))))))
      (pss_cons (ps_set (i := 6) sc_w_refused.nd rfl (Or.inl rfl) (pe_or (pv 6) (pe_or (pe_callB (call_isiEK K rfl) (by rfl) T.n_isinstance boot_isinstance (pa_c (pv 5) (pa_c (pe_glob rfl T.g_NoHouse (v := .ref t.a_NoHouse) rfl) pa_nil))) (pe_or (pe_callB (call_isiEK K rfl) (by rfl) T.n_isinstance boot_isinstance (pa_c (pv 5) (pa_c (pe_glob rfl T.g_NoLetter (v := .ref t.a_NoLetter) rfl) pa_nil))) (pe_one (pe_callB (call_isiEK K rfl) (by rfl) T.n_isinstance boot_isinstance (pa_c (pv 5) (pa_c (pe_glob rfl T.g_NoText (v := .ref t.a_NoText) rfl) pa_nil))))))))
      (pss_one (ps_set (i := 4) sc_w_refused.nd rfl (Or.inl rfl) (pe_tup (pa_c (pe_callB (call_isiEK K rfl) (by rfl) T.n_isinstance boot_isinstance (pa_c (pv 5) (pa_c (pe_glob rfl T.g_NoWire (v := .ref t.a_NoWire) rfl) pa_nil))) (pa_c (pe_callB (call_isiEK K rfl) (by rfl) T.n_isinstance boot_isinstance (pa_c (pv 5) (pa_c (pe_glob rfl T.g_NoGroup (v := .ref t.a_NoGroup) rfl) pa_nil))) (pa_c (pe_and (pe_callB (call_isiEK K rfl) (by rfl) T.n_isinstance boot_isinstance (pa_c (pv 5) (pa_c (pe_bltn rfl T.n_ValueError (by rfl) (v := .ty "ValueError") rfl) pa_nil))) (pe_one (pe_not (pv 6)))) pa_nil))))))))))
      (pss_one (ps_ret (pe_cmpR op_eqD (pv 4) (pe_tup (pa_c (pe_cmpR op_lt (pv 1) pe_int (nomark _)) (pa_c (pe_cmpR op_eq (pv 1) pe_int (nomark _)) (pa_c pe_bl pa_nil)))) (nomark _)))))), ?_⟩
    try dsimp only [cxOf_K]
    refine ⟨Nat.zero_le _, fun l hl => ?_⟩
    have s1 := Same.new (o := .tup []) hl
    refine ⟨_, rfl, _, rfl, _, rfl, _, rfl, p, tp, lu, ln, lr, ns, rs, ws, m, i, x, rfl, hS.mono s1, .inr (.inr bad), fun ws' H' z hd _ _ => absurd bad (hd.good hS.len), fun _ h4 H3 s3 => ⟨_, rfl, T.h_NoWire_KnotError, fun ea hea => ?_⟩, fun _ h4 H3 s3 => ⟨_, rfl, T.h_NoGroup_KnotError, fun ea hea => ?_⟩⟩
    ·
      have hea' : (upd H3 ea (ExcO ea t.a_NoWire)) ea = some (ExcO ea t.a_NoWire) := upd_same
      have s4 := (Same.new (o := .tup []) hl).trans (s3.trans (Same.new (o := ExcO ea t.a_NoWire) hea))
      generalize upd H3 ea (ExcO ea t.a_NoWire) = H4 at s4 hea'
      have he := hea'
      refine ⟨_, rfl, ea, t.a_NoWire, _, _, _, rfl, he, T.x_NoWire, .inr ⟨_, rfl, rfl⟩, T.i_NoWire_Apart, _, rfl, iteF ⟨_, rfl, ea, t.a_NoWire, _, _, _, rfl, he, T.x_NoWire, .inr ⟨_, rfl, rfl⟩, T.i_NoWire_BadTown, _, rfl, iteF ⟨_, rfl, ea, t.a_NoWire, _, _, _, rfl, he, T.x_NoWire, .inr ⟨_, rfl, rfl⟩, T.i_NoWire_NoCaller, _, rfl, iteF ⟨_, rfl, ea, t.a_NoWire, _, _, _, rfl, he, T.x_NoWire, .inr ⟨_, rfl, rfl⟩, T.i_NoWire_NoCopy, ?_⟩⟩⟩⟩
      refine ⟨_, rfl, _, rfl, iteF ⟨_, rfl, ea, t.a_NoWire, _, _, _, rfl, he, T.x_NoWire, .inr ⟨_, rfl, rfl⟩, T.i_NoWire_NoHouse, _, rfl, iteF ⟨_, rfl, ea, t.a_NoWire, _, _, _, rfl, he, T.x_NoWire, .inr ⟨_, rfl, rfl⟩, T.i_NoWire_NoLetter, _, rfl, iteF ⟨_, rfl, ea, t.a_NoWire, _, _, _, rfl, he, T.x_NoWire, .inr ⟨_, rfl, rfl⟩, T.i_NoWire_NoText, ?_⟩⟩⟩⟩
      refine ⟨_, rfl, ea, t.a_NoWire, _, _, _, rfl, he, T.x_NoWire, .inr ⟨_, rfl, rfl⟩, T.i_NoWire_NoWire, _, rfl, ea, t.a_NoWire, _, _, _, rfl, he, T.x_NoWire, .inr ⟨_, rfl, rfl⟩, T.i_NoWire_NoGroup, _, rfl, ea, t.a_NoWire, _, _, _, rfl, he, T.x_NoWire, .inl ⟨rfl, rfl⟩, T.i_NoWire_ValueError, _, rfl, iteT ⟨_, rfl, _, rfl, (by show 3 ≤ sizeLine; decide), fun q hq => ?_⟩⟩
      have s5 := Same.new (o := .tup [.bl true, .bl false, .bl true]) hq
      refine ⟨_, rfl, _, rfl, _, _, rfl, rfl, _, rfl, rfl, (by show 3 ≤ sizeLine; decide), fun q2 hq2 => ?_⟩
      have s6 := Same.new (o := .tup [.bl (decide (m < 4)), .bl (decide (V.int m = V.int 4)), .bl true]) hq2
      refine ⟨.tuple [.bool true, .bool false, .bool true], .tuple [.bool (decide (m < 4)), .bool (decide (V.int m = V.int 4)), .bool true], ⟨q, _, rfl, SqT.of (s6 _ _ upd_same), _, _, rfl, rfl, _, _, rfl, rfl, _, _, rfl, rfl, rfl⟩, ⟨q2, _, rfl, SqT.of upd_same, _, _, rfl, rfl, _, _, rfl, rfl, _, _, rfl, rfl, rfl⟩, rfl, rfl, Nat.lt_of_le_of_lt (Nat.add_le_add_left (Nat.le_trans (Nat.min_le_left _ _) (by decide)) _) hr.units, ?_⟩
      have kk := k _ (s4.trans (s5.trans s6))
      have ee : PyData.eqv (.tuple [.bool true, .bool false, .bool true]) (.tuple [.bool (decide (m < 4)), .bool (decide (V.int m = V.int 4)), .bool true]) = true := by
        rw [decide_eq_true (show m < 4 by omega), decide_eq_false (show ¬ V.int m = V.int 4 from fun z => h4 (V.int.inj z))]
        rfl
      show Q (V.bl (PyData.eqv (.tuple [.bool true, .bool false, .bool true]) (.tuple [.bool (decide (m < 4)), .bool (decide (V.int m = V.int 4)), .bool true]))) _
      rw [ee]
      exact kk
    ·
      have hea' : (upd H3 ea (ExcO ea t.a_NoGroup)) ea = some (ExcO ea t.a_NoGroup) := upd_same
      have s4 := (Same.new (o := .tup []) hl).trans (s3.trans (Same.new (o := ExcO ea t.a_NoGroup) hea))
      generalize upd H3 ea (ExcO ea t.a_NoGroup) = H4 at s4 hea'
      have he := hea'
      refine ⟨_, rfl, ea, t.a_NoGroup, _, _, _, rfl, he, T.x_NoGroup, .inr ⟨_, rfl, rfl⟩, T.i_NoGroup_Apart, _, rfl, iteF ⟨_, rfl, ea, t.a_NoGroup, _, _, _, rfl, he, T.x_NoGroup, .inr ⟨_, rfl, rfl⟩, T.i_NoGroup_BadTown, _, rfl, iteF ⟨_, rfl, ea, t.a_NoGroup, _, _, _, rfl, he, T.x_NoGroup, .inr ⟨_, rfl, rfl⟩, T.i_NoGroup_NoCaller, _, rfl, iteF ⟨_, rfl, ea, t.a_NoGroup, _, _, _, rfl, he, T.x_NoGroup, .inr ⟨_, rfl, rfl⟩, T.i_NoGroup_NoCopy, ?_⟩⟩⟩⟩
      refine ⟨_, rfl, _, rfl, iteF ⟨_, rfl, ea, t.a_NoGroup, _, _, _, rfl, he, T.x_NoGroup, .inr ⟨_, rfl, rfl⟩, T.i_NoGroup_NoHouse, _, rfl, iteF ⟨_, rfl, ea, t.a_NoGroup, _, _, _, rfl, he, T.x_NoGroup, .inr ⟨_, rfl, rfl⟩, T.i_NoGroup_NoLetter, _, rfl, iteF ⟨_, rfl, ea, t.a_NoGroup, _, _, _, rfl, he, T.x_NoGroup, .inr ⟨_, rfl, rfl⟩, T.i_NoGroup_NoText, ?_⟩⟩⟩⟩
      refine ⟨_, rfl, ea, t.a_NoGroup, _, _, _, rfl, he, T.x_NoGroup, .inr ⟨_, rfl, rfl⟩, T.i_NoGroup_NoWire, _, rfl, ea, t.a_NoGroup, _, _, _, rfl, he, T.x_NoGroup, .inr ⟨_, rfl, rfl⟩, T.i_NoGroup_NoGroup, _, rfl, ea, t.a_NoGroup, _, _, _, rfl, he, T.x_NoGroup, .inl ⟨rfl, rfl⟩, T.i_NoGroup_ValueError, _, rfl, iteT ⟨_, rfl, _, rfl, (by show 3 ≤ sizeLine; decide), fun q hq => ?_⟩⟩
      have s5 := Same.new (o := .tup [.bl false, .bl true, .bl true]) hq
      refine ⟨_, rfl, _, rfl, _, _, rfl, rfl, _, rfl, rfl, (by show 3 ≤ sizeLine; decide), fun q2 hq2 => ?_⟩
      have s6 := Same.new (o := .tup [.bl (decide (m < 4)), .bl (decide (V.int m = V.int 4)), .bl true]) hq2
      refine ⟨.tuple [.bool false, .bool true, .bool true], .tuple [.bool (decide (m < 4)), .bool (decide (V.int m = V.int 4)), .bool true], ⟨q, _, rfl, SqT.of (s6 _ _ upd_same), _, _, rfl, rfl, _, _, rfl, rfl, _, _, rfl, rfl, rfl⟩, ⟨q2, _, rfl, SqT.of upd_same, _, _, rfl, rfl, _, _, rfl, rfl, _, _, rfl, rfl, rfl⟩, rfl, rfl, Nat.lt_of_le_of_lt (Nat.add_le_add_left (Nat.le_trans (Nat.min_le_left _ _) (by decide)) _) hr.units, ?_⟩
      have kk := k _ (s4.trans (s5.trans s6))
      have ee : PyData.eqv (.tuple [.bool false, .bool true, .bool true]) (.tuple [.bool (decide (m < 4)), .bool (decide (V.int m = V.int 4)), .bool true]) = true := by
        rw [decide_eq_false (show ¬ m < 4 by omega), decide_eq_true (show V.int m = V.int 4 by rw [h4])]
        rfl
      show Q (V.bl (PyData.eqv (.tuple [.bool false, .bool true, .bool true]) (.tuple [.bool (decide (m < 4)), .bool (decide (V.int m = V.int 4)), .bool true]))) _
      rw [ee]
      exact kk
noncomputable def spOut : Sp := fun vs H Q _ => ∃ (n c : Int), vs = [.int n, .int c] ∧ 0 ≤ n ∧ ∀ x : Int, ¬ (0 ≤ x ∧ x < n) → Q (.int x) H
theorem ok_w_out {t : Ad} (T : Txt K mg t) : FnOk P w K mg base CX0 1 t.f_w_out t.d_w_out ["_law_many", "_law_cell"]  spOut := by
  refine T.F_w_out.ok sc_w_out (fun vs H Q E h => ?_) (fun cdv A outer s H vs Q E hr h => ?_)
  · obtain ⟨_, _, rfl, _⟩ := h; rfl
  · obtain ⟨n, c, rfl, hn, k⟩ := h
    refine ⟨_, (pss_cons (ps_set (i := 2) sc_w_out.nd rfl (Or.inl rfl) (pe_op op_mod (pe_op op_fdiv (pv 1) pe_int) (pe_op op_pow pe_int pe_int)))
      (pss_cons (ps_if (pt_cmpR op_eq (pe_op op_mod (pv 2) pe_int) pe_int (nomark _)) (pss_one (ps_set (i := 2) sc_w_out.nd rfl (Or.inl rfl) pe_int)) pss_nil)
      (pss_cons (ps_if (pt_cmpR op_eq (pe_op op_mod (pv 1) pe_int) pe_int (nomark _)) (pss_one (ps_ret (pe_op op_add (pv 0) (pv 2)))) pss_nil)
      (pss_one (ps_ret (pe_op op_sub (pe_un un_neg pe_int) (pv 2))))))), ?_⟩
    try dsimp only [cxOf_K]
    refine ⟨_, rfl, _, _, rfl, rfl, ⟨by decide, by decide⟩, _, _, rfl, rfl, ⟨by decide, by decide, by decide⟩, _, _, rfl, rfl, (by show (0 : Int) < 10 ^ (59 : Int).toNat; decide), ?_⟩
    have hf := Int.emod_nonneg (c / 2) (show (10 : Int) ^ (59 : Int).toNat ≠ 0 by decide)
    show gName 2 (V.int (c / 2 % 10 ^ (59 : Int).toNat)) _ _ _
    generalize c / 2 % 10 ^ (59 : Int).toNat = f at hf
    dsimp only [gName]
    refine ifS_by (fun σ H2 => H2 = H ∧ ∃ g : Int, 0 ≤ g ∧ σ = [some (.int n), some (.int c), some (.int g)]) ?_ fun nx => ?_
    case refine_2 =>
      refine ⟨_, rfl, _, _, rfl, rfl, (by show (0 : Int) < 3; decide), rfl, _, rfl, ?_⟩
      refine ite2 (fun e => ?_) (fun e => ?_)
      · exact nx _ _ ⟨rfl, 0, by decide, rfl⟩
      · exact nx _ _ ⟨rfl, f, hf, rfl⟩
    rintro σ H2 ⟨rfl, g, hg, rfl⟩
    refine ⟨_, rfl, _, _, rfl, rfl, (by show (0 : Int) < 2; decide), rfl, _, rfl, ?_⟩
    refine ite2 (fun e => ?_) (fun e => ?_)
    · exact ⟨_, rfl, _, rfl, _, _, rfl, rfl, k _ (by omega)⟩
    · exact ⟨_, rfl, _, rfl, _, _, rfl, rfl, k _ (by omega)⟩
noncomputable def spOdd (K : PySem.W.Frag) (CT C : Addr) : Sp := fun vs H Q _ => ∃ (p tp lu ln lr b0 : Addr) (ns : List Int) (rs : List R5) (ws : List (List Nat)) (j kk : Nat) (c : Int), vs = [.ref p, .ref b0, .int j, .int kk, .int c] ∧ SAt K CT C H p tp lu ln lr ns rs ws ∧ Ropes K H b0 rs ∧ (∀ (j : Nat) w r, ws[j]? = some w → rs[j]? = some r → 1 ≤ r.d ∧ ∀ k ∈ w, ((k : Nat) : Int) < r.d) ∧ j < rs.length ∧
  ∀ H', Same H H' → Q (.bl true) H'
theorem ok_w_odd {t : Ad} (T : Txt K mg t) : FnOk P w K mg base CX0 6 t.f_w_odd t.d_w_odd ["_law_strands", "_law_ropes_here", "_law_rope", "_law_wire", "_law_cell"]  (spOdd K t.a_Town t.a_Strands) := by
  refine T.F_w_odd.ok sc_w_odd (fun vs H Q E h => ?_) (fun cdv A outer s H vs Q E hr h => ?_)
  · obtain ⟨_, _, _, _, _, _, _, _, _, _, _, _, rfl, _⟩ := h; rfl
  · obtain ⟨p, tp, lu, ln, lr, b0, ns, rs, ws, j, kk, c, rfl, hS, hR, hbd, hj, k⟩ := h
    obtain ⟨us, hus, eus, hrope⟩ := hR.at
    have hlen := hS.len
    have hrj : rs[j]? = some rs[j] := List.getElem?_eq_getElem hj
    have hwj : ws[j]? = some ws[j] := List.getElem?_eq_getElem (by omega)
    obtain ⟨q, hq, hqt⟩ := hrope j _ hrj
    obtain ⟨hd1, hbw⟩ := hbd j _ _ hwj hrj
    have yes : ∀ a b : Int, a = b → decide (V.int a = V.int b) = true := fun a b e => decide_eq_true (by rw [e])
    have no : ∀ a b : Int, a ≠ b → decide (V.int a = V.int b) = false := fun a b e => decide_eq_false fun z => e (V.int.inj z)
    refine ⟨_, (pss_cons (ps_set (i := 5) sc_w_odd.nd rfl (Or.inl rfl) (pe_op op_mod (pv 4) pe_int))
      (pss_cons (ps_set (i := 6) sc_w_odd.nd rfl (Or.inl rfl) (pe_op op_fdiv (pv 4) pe_int))
      (pss_cons (ps_if (pt_cmpR op_eq (pv 5) pe_int (nomark _)) (pss_one (ps_ret (pe_call (ok_w_refused T) (hr.mono (by decide)) rfl T.g_w_refused T.F_w_refused.kp T.B_w_refused .nil pass0 (pa_c (pv 0) (pa_c pe_int (pa_c (pe_call (ok_w_out T) (hr.mono (by decide)) rfl T.g_w_out T.F_w_out.kp T.B_w_out .nil pass0 (pa_c pe_int (pa_c (pv 6) pa_nil))) (pa_c pe_int pa_nil))))))) pss_nil)
      (pss_cons (ps_if (PW.pt (pw_and (pt_cmpR op_lt (pv 5) pe_int (nomark _)) (pw_and1 (pt_cmpR op_eq (pe_op op_mod (pv 6) pe_int) pe_int (nomark _))))) (pss_one (ps_ret (pe_call (ok_w_refused T) (hr.mono (by decide)) rfl T.g_w_refused T.F_w_refused.kp T.B_w_refused .nil pass0 (pa_c (pv 0) (pa_c (pv 5) (pa_c (pv 2) (pa_c (pe_call (ok_w_out T) (hr.mono (by decide)) rfl T.g_w_out T.F_w_out.kp T.B_w_out .nil pass0 (pa_c (pe_ix ix_tup (pe_ix ix_list (pv 1) (pv 2) (fun _ _ => rfl)) pe_int (fun _ _ => rfl)) (pa_c (pe_op op_fdiv (pv 6) pe_int) pa_nil))) pa_nil))))))) pss_nil)
      (pss_one (ps_ret (pe_call (ok_w_refused T) (hr.mono (by decide)) rfl T.g_w_refused T.F_w_refused.kp T.B_w_refused .nil pass0 (pa_c (pv 0) (pa_c (pv 5) (pa_c (pe_call (ok_w_out T) (hr.mono (by decide)) rfl T.g_w_out T.F_w_out.kp T.B_w_out .nil pass0 (pa_c (pe_callB call_len_seq (by rfl) T.n_len PySem.boot_len (pa_c (pv 1) pa_nil)) (pa_c (pe_op op_fdiv (pv 6) pe_int) pa_nil))) (pa_c (pv 3) pa_nil))))))))))), ?_⟩
    try dsimp only [cxOf_K]
    have h0 := Int.emod_nonneg c (show (5 : Int) ≠ 0 by decide)
    have h5 := Int.emod_lt_of_pos c (show (0 : Int) < 5 by decide)
    refine ⟨_, rfl, _, _, rfl, rfl, (by show (0 : Int) < 5; decide), ?_⟩
    show gName 5 (V.int (c % 5)) _ _ _
    generalize c % 5 = m at h0 h5
    refine ⟨_, rfl, _, _, rfl, rfl, ⟨by decide, by decide⟩, ?_⟩
    show gName 6 (V.int (c / 5)) _ _ _
    generalize c / 5 = y
    refine ⟨_, rfl, rfl, _, rfl, ?_⟩
    by_cases m4 : m = 4
    · rw [yes _ _ m4]
      refine iteT ?_
      exact ⟨_, rfl, _, rfl, 3, y, rfl, by decide, fun x hx => ⟨p, tp, lu, ln, lr, ns, rs, ws, 4, x, 0, rfl, hS, by decide, by decide, .inl ⟨rfl, hx⟩, k⟩⟩
    rw [no _ _ m4]
    refine iteF ?_
    have last : ∀ Q' : V → Hp → Prop, (∀ H', Same H H' → Q' (.bl true) H') → ∀ x : Int, ¬ (0 ≤ x ∧ x < (rs.length : Int)) → spRefused K t.a_Town t.a_Strands [.ref p, .int m, .int x, .int kk] H Q' E0 := fun Q' hQ x hx => ⟨p, tp, lu, ln, lr, ns, rs, ws, m, x, kk, rfl, hS, h0, by omega, .inr (.inl ⟨⟨h0, by omega⟩, hx⟩), hQ⟩
    refine ⟨_, rfl, _, _, rfl, rfl, _, rfl, ?_⟩
    by_cases m2 : m < 2
    case neg =>
      rw [decide_eq_false m2]
      refine iteF (iteF ?_)
      exact ⟨_, rfl, _, rfl, _, rfl, b0, _, rfl, .inl hus, _, rfl, _, _, rfl, rfl, ⟨by decide, by decide⟩, _, _, rfl, by omega, fun x hx => ⟨_, rfl, last _ k x (by omega)⟩⟩
    rw [decide_eq_true m2]
    refine iteT ?_
    refine ⟨_, rfl, _, _, rfl, rfl, (by show (0 : Int) < 2; decide), rfl, _, rfl, ?_⟩
    by_cases y2 : y % 2 = 0
    case neg =>
      rw [no _ _ y2]
      refine iteF ?_
      exact ⟨_, rfl, _, rfl, _, rfl, b0, _, rfl, .inl hus, _, rfl, _, _, rfl, rfl, ⟨by decide, by decide⟩, _, _, rfl, by omega, fun x hx => ⟨_, rfl, last _ k x (by omega)⟩⟩
    rw [yes _ _ y2]
    refine iteT ?_
    refine ⟨_, rfl, _, rfl, _, rfl, _, rfl, _, rfl, b0, _, _, _, rfl, rfl, hus, atI_nat hq, q, _, _, _, rfl, rfl, hqt, rfl, _, rfl, _, _, rfl, rfl, ⟨by decide, by decide⟩, rs[j].d, _, rfl, by omega, fun x hx => ?_⟩
    refine ⟨p, tp, lu, ln, lr, ns, rs, ws, m, j, x, rfl, hS, h0, by omega, ?_, k⟩
    have : m = 0 ∨ m = 1 := by omega
    rcases this with rfl | rfl
    · exact .inr (.inr (.inl ⟨rfl, j, _, rfl, hwj, fun k' hk' e => hx ⟨by omega, by have := hbw k' hk'; omega⟩⟩))
    · exact .inr (.inr (.inr ⟨rfl, j, _, _, rfl, hwj, hrj, .inl hx⟩))
end
end K22

set_option Elab.async false
set_option linter.all false
set_option maxRecDepth 100000
set_option maxHeartbeats 4000000
namespace K22
open PySem L2 TW PyProof.Rows
open RM (rowV byV byV_non byV_int)
seal L2.PE L2.PA L2.PT L2.PW L2.PS L2.PSs L2.PG L2.PGs L2.PI L2.PTs
section
variable {P : Program} {w : World} {K : PySem.W.Frag} {mg : Str → Option Value} {base : Heap}
noncomputable def spLaw (K : PySem.W.Frag) : Sp := fun vs H Q _ => ∃ (a : Addr) (ns : List Int), vs = [.ref a] ∧ SqL K H a (ns.map V.int) ∧ ns.length ≤ 63 ∧ ∀ H', Q (.bl true) H'
theorem ok_law {t : Ad} (T : Txt K mg t) : FnOk P w K mg base CX0 7 t.f_law t.d_law ["_law_script"]  (spLaw K) := by
  refine T.F_law.ok sc_law (fun vs H Q E h => ?_) (fun cdv A outer s H vs Q E hr h => ?_)
  · obtain ⟨a, ns, rfl, _⟩ := h; rfl
  · obtain ⟨a, cs, rfl, hS, hlen, k⟩ := h
    refine ⟨_, (pss_cons (ps_set (i := 1) sc_law.nd rfl (Or.inl rfl) (pe_op op_add pe_int (pe_op op_mod (pe_call (ok_w_cell_at T) (hr.mono (by decide)) rfl T.g_w_cell_at T.F_w_cell_at.kp T.B_w_cell_at .nil pass0 (pa_c (pv 0) (pa_c pe_int pa_nil))) pe_int)))
      (pss_cons (ps_set (i := 2) sc_law.nd rfl (Or.inl rfl) (pe_op op_cat (pe_call (ok_w_ropes T) (hr.mono (by decide)) rfl T.g_w_ropes T.F_w_ropes.kp T.B_w_ropes .nil pass0 (pa_c (pv 1) (pa_c (pe_call (ok_w_cell_at T) (hr.mono (by decide)) rfl T.g_w_cell_at T.F_w_cell_at.kp T.B_w_cell_at .nil pass0 (pa_c (pv 0) (pa_c pe_int pa_nil))) pa_nil))) (pe_lst (pa_c (pe_tup (pa_c pe_int (pa_c pe_int (pa_c pe_int (pa_c pe_int (pa_c pe_int pa_nil)))))) pa_nil))))
      (pss_cons (ps_set (i := 2) sc_law.nd rfl (Or.inl rfl) (pe_slice sl_list (pv 2) (po_some (pe_un un_neg pe_int)) po_none))
      (pss_cons (ps_set (i := 3) sc_law.nd rfl (Or.inl rfl) (pe_make T.K_Town (ok_Townu_initu T) (hr.mono (by decide)) rfl T.g_Town T.B_Townu_initu .nil pass0 (pa_c (pe_call (ok_w_names T) (hr.mono (by decide)) rfl T.g_w_names T.F_w_names.kp T.B_w_names .nil pass0 (pa_c (pv 1) (pa_c (pe_call (ok_w_cell_at T) (hr.mono (by decide)) rfl T.g_w_cell_at T.F_w_cell_at.kp T.B_w_cell_at .nil pass0 (pa_c (pv 0) (pa_c pe_int pa_nil))) pa_nil))) (pa_c (pe_callTy call_list_of (by rfl) T.n_list boot_list (pa_c (pv 2) pa_nil)) pa_nil))))
      (pss_cons (ps_set (i := 4) sc_law.nd rfl (Or.inl rfl) (pe_make T.K_Strands (ok_Strandsu_initu T) (hr.mono (by decide)) rfl T.g_Strands T.B_Strandsu_initu .nil pass0 (pa_c (pv 3) pa_nil)))
      (pss_cons (ps_set (i := 5) sc_law.nd rfl (Or.inr rfl) (pe_comp (compOk_of (dsc := defScope s_law) (N0 := ["_law_script", "_law_size", "_law_ropes_here", "_law_town", "_law_strands", "_law_states", "_law_cell", "_law_rope", "_law_wire", "_law_stands"]) (N2 := ["_law_row"]) (cap := [none]) rfl rfl (by decide +kernel)) rfl (pi_list (pv 2)) (fun _ _ _ _ => by exact (pg_name (i := 0) nd_law_c0 rfl (Or.inl rfl))) (fun _ _ _ _ => by exact pts_nil) (fun _ _ _ _ => by exact (pe_op op_rep (pe_lst (pa_c pe_bl pa_nil)) (pe_ix (ix_tupK K rfl) (pv 0) pe_int (fun _ _ => rfl))))))
      (pss_cons (ps_for PassesOwn.never rfl (pi_list (pe_slice sl_list (pv 0) (po_some pe_int) (po_some pe_int))) (pg_name (i := 6) sc_law.nd rfl (Or.inl rfl)) (pss_cons (ps_set (i := 7) sc_law.nd rfl (Or.inr rfl) (pe_op op_mod (pv 6) (pe_callB call_len_seq (by rfl) T.n_len PySem.boot_len (pa_c (pv 2) pa_nil))))
      (pss_cons (ps_set (i := 8) sc_law.nd rfl (Or.inl rfl) (pe_op op_mod (pe_op op_fdiv (pv 6) (pe_callB call_len_seq (by rfl) T.n_len PySem.boot_len (pa_c (pv 2) pa_nil))) (pe_ix ix_tup (pe_ix ix_list (pv 2) (pv 7) (fun _ _ => rfl)) pe_int (fun _ _ => rfl))))
      (pss_cons (ps_set (i := 9) sc_law.nd rfl (Or.inl rfl) (pe_ix ix_list (pe_ix ix_list (pv 5) (pv 7) (fun _ _ => rfl)) (pv 8) (fun _ _ => rfl)))
      (pss_cons (ps_if (pt_not (pt_val (pe_call (ok_w_odd T) (hr.mono (by decide)) rfl T.g_w_odd T.F_w_odd.kp T.B_w_odd .nil pass0 (pa_c (pv 4) (pa_c (pv 2) (pa_c (pv 7) (pa_c (pv 8) (pa_c (pe_op op_fdiv (pv 6) pe_int) pa_nil)))))))) (pss_one (ps_ret pe_bl)) pss_nil)
      (pss_cons (ps_if (pt_not (pt_val (pe_call (ok_w_refused T) (hr.mono (by decide)) rfl T.g_w_refused T.F_w_refused.kp T.B_w_refused .nil pass0 (pa_c (pv 4) (pa_c (pe_callTy call_int1 (by rfl) T.n_int boot_int (pa_c (pv 9) pa_nil)) (pa_c (pv 7) (pa_c (pv 8) pa_nil))))))) (pss_one (ps_ret pe_bl)) pss_nil)
      (pss_cons (ps_if (pt_not (pt_val (pe_callB call_isi (by rfl) T.n_isinstance boot_isinstance (pa_c (pe_call (ok_w_done T) (hr.mono (by decide)) rfl T.g_w_done T.F_w_done.kp T.B_w_done .nil passF (pa_c (pv 4) (pa_c (pe_callTy call_int1 (by rfl) T.n_int boot_int (pa_c (pe_not (pv 9)) pa_nil)) (pa_c (pv 7) (pa_c (pv 8) pa_nil))))) (pa_c (pe_bltn rfl T.n_bool boot_bool (v := .ty "bool") rfl) pa_nil))))) (pss_one (ps_ret pe_bl)) pss_nil)
      (pss_cons (ps_if (pt_not (pt_val (pe_call (ok_w_refused T) (hr.mono (by decide)) rfl T.g_w_refused T.F_w_refused.kp T.B_w_refused .nil pass0 (pa_c (pv 4) (pa_c (pe_callTy call_int1 (by rfl) T.n_int boot_int (pa_c (pe_not (pv 9)) pa_nil)) (pa_c (pv 7) (pa_c (pv 8) pa_nil))))))) (pss_one (ps_ret pe_bl)) pss_nil)
      (pss_one (ps_asg (pe_not (pv 9)) (pg_sub (pe_ix ix_list (pv 5) (pv 7) (fun _ _ => rfl)) (pv 8) set_list)))))))))))
      (pss_cons (ps_for PassesOwn.never rfl (pi_range1 rfl T.n_range (pa_c (pe_callB call_len_seq (by rfl) T.n_len PySem.boot_len (pa_c (pv 2) pa_nil)) pa_nil)) (pg_name (i := 7) sc_law.nd rfl (Or.inr rfl)) (pss_one (ps_if (pt_cmpR op_neD (pe_meth (pv 4) T.c_Strands T.m_Strands_standing (ok_Strands_standing T) (hr.mono (by decide)) T.B_Strands_standing .nil passF (pa_c (pv 7) pa_nil)) (pe_comp (compOk_of (dsc := defScope s_law) (N0 := ["_law_script", "_law_size", "_law_ropes_here", "_law_town", "_law_strands", "_law_states", "_law_cell", "_law_rope", "_law_wire", "_law_stands"]) (N2 := ["_law_wire", "_law_rope", "_law_states"]) (cap := [none, some 7, some 5]) rfl rfl (by decide +kernel)) rfl (pi_range1 rfl T.n_range (pa_c (pe_ix ix_tup (pe_ix ix_list (pv 2) (pv 7) (fun _ _ => rfl)) pe_int (fun _ _ => rfl)) pa_nil)) (fun _ _ _ _ => by exact (pg_name (i := 0) nd_law_c1 rfl (Or.inl rfl))) (fun _ _ _ _ => by exact (pts_one (pt_val (pe_ix (ix_listK K rfl) (pe_ix (ix_listK K rfl) (pv 2) (pv 1) (fun _ _ => rfl)) (pv 0) (fun _ _ => rfl))))) (fun _ _ _ _ => by exact (pv 0))) (nomark _)) (pss_one (ps_ret pe_bl)) pss_nil)))
      (pss_one (ps_ret pe_bl)))))))))), ?_⟩
    try dsimp only [cxOf_K]
    refine ⟨_, rfl, a, cs, 0, rfl, hS, by decide, _, _, rfl, rfl, (by show (0 : Int) < 9; decide), _, _, rfl, rfl, ?_⟩
    obtain ⟨n, hn, hn1, hn10⟩ : ∃ n : Nat, 2 + cs.getD (0 : Int).toNat 0 % 9 = (n : Int) ∧ 2 ≤ n ∧ n ≤ 10 := by
      have h1 := Int.emod_nonneg (cs.getD (0 : Int).toNat 0) (show (9 : Int) ≠ 0 by decide)
      have h2 := Int.emod_lt_of_pos (cs.getD (0 : Int).toNat 0) (show (0 : Int) < 9 by decide)
      exact ⟨(2 + cs.getD (0 : Int).toNat 0 % 9).toNat, by omega, by omega, by omega⟩
    show gName 1 (V.int (2 + cs.getD (0 : Int).toNat 0 % 9)) _ _ _
    rw [hn]
    clear hn
    -- ropes
    refine ⟨_, rfl, _, rfl, a, cs, 1, rfl, hS, by decide, n, _, rfl, by omega, hn10, fun b1 us1 H2 rs1 s2 hb0 hB2 hra l20' ok' => ?_⟩
    have hra2 : RepAll K H2 (rs1.map R5.D) us1 := hra.mono hide_same
    have eus1 : us1.length = rs1.length := by rw [hra2.length, List.length_map]
    refine ⟨(by show 5 ≤ sizeLine; decide), fun qt hqt => ?_⟩
    refine ⟨(by show 1 ≤ sizeLine; decide), fun lo hlo => ?_⟩
    have u1 := (Same.new (o := .tup [.int 1, .int 0, .int 3, .int 2, .int 5]) hqt).trans (Same.new (o := .lst [.ref qt]) hlo)
    have hqt1 := Same.new (o := .lst [.ref qt]) hlo _ _ (upd_same (H := H2) (a := qt) (o := .tup [.int 1, .int 0, .int 3, .int 2, .int 5]))
    refine ⟨b1, lo, _, _, rfl, rfl, u1 _ _ hB2, upd_same, (by show us1.length + 1 ≤ sizeLine; exact Nat.le_of_lt (small1000 (by omega))), fun l2 hl2 => ?_⟩
    have u2 := u1.trans (Same.new (o := .lst (us1 ++ [.ref qt])) hl2)
    have hqt2 := Same.new (o := .lst (us1 ++ [.ref qt])) hl2 _ _ hqt1
    have hl22 := upd_same (H := upd (upd H2 qt (.tup [.int 1, .int 0, .int 3, .int 2, .int 5])) lo (.lst [.ref qt])) (a := l2) (o := .lst (us1 ++ [.ref qt]))
    generalize upd (upd (upd H2 qt (.tup [.int 1, .int 0, .int 3, .int 2, .int 5])) lo (.lst [.ref qt])) l2 (.lst (us1 ++ [.ref qt])) = H3 at u2 hqt2 hl22
    have hra3 : RepAll K H3 ((rs1 ++ [(⟨1, 0, 3, 2, 5⟩ : R5)]).map R5.D) (us1 ++ [.ref qt]) := by
      rw [List.map_append]
      exact TW.RepAll.snoc (d := R5.D (⟨1, 0, 3, 2, 5⟩ : R5)) (v := V.ref qt) ⟨qt, _, rfl, SqT.of hqt2, repAll_ints [1, 0, 3, 2, 5]⟩ (hra2.mono u2)
    refine ⟨_, rfl, 20, rfl, ?_⟩
    refine ⟨-20, rfl, ?_⟩
    refine ⟨l2, _, rfl, SqL.of hl22, fun b0 hb3 => ?_⟩
    have e20 : cutV (us1 ++ [V.ref qt]) (some (-20)) none = (us1 ++ [V.ref qt]).drop ((us1 ++ [V.ref qt]).length - 20) := cut_tail _ 20 (by decide)
    rw [e20]
    have elen : (us1 ++ [V.ref qt]).length = (rs1 ++ [(⟨1, 0, 3, 2, 5⟩ : R5)]).length := by rw [List.length_append, List.length_append, eus1]; rfl
    have hra4 : RepAll K H3 (((rs1 ++ [(⟨1, 0, 3, 2, 5⟩ : R5)]).drop ((us1 ++ [V.ref qt]).length - 20)).map R5.D) ((us1 ++ [V.ref qt]).drop ((us1 ++ [V.ref qt]).length - 20)) := by
      rw [List.map_drop]
      exact RepAll.dropN _ hra3
    obtain ⟨rs, ers⟩ : ∃ rs, rs = (rs1 ++ [(⟨1, 0, 3, 2, 5⟩ : R5)]).drop ((us1 ++ [V.ref qt]).length - 20) := ⟨_, rfl⟩
    obtain ⟨us, eusd⟩ : ∃ us, us = (us1 ++ [V.ref qt]).drop ((us1 ++ [V.ref qt]).length - 20) := ⟨_, rfl⟩
    rw [← ers, ← eusd] at hra4
    rw [← eusd]
    have l20 : rs.length ≤ 20 := by rw [ers, List.length_drop]; omega
    have hne : rs ≠ [] := by
      intro z
      have : rs.length = 0 := by rw [z]; rfl
      rw [ers, List.length_drop, elen, List.length_append] at this
      have e1 : [(⟨1, 0, 3, 2, 5⟩ : R5)].length = 1 := rfl
      omega
    have ok : ∀ r ∈ rs, r.Ok n := fun r hr' => by
      rw [ers] at hr'
      rcases List.mem_append.mp (List.mem_of_mem_drop hr') with z | z
      · exact ok' r z
      · rw [List.mem_singleton.mp z]
        exact ⟨by decide, by show (1 : Int) < n; omega, by decide, by show (0 : Int) < n; omega, by decide, by decide, by decide, by decide, by decide, by decide⟩
    have s23 : Same H2 (upd H3 b0 (.lst us)) := u2.trans (Same.new hb3)
    have hB2 : (upd H3 b0 (.lst us)) b0 = some (.lst us) := upd_same
    have hra2 : RepAll K (upd H3 b0 (.lst us)) (rs.map R5.D) us := hra4.mono (Same.new hb3)
    have eus : us.length = rs.length := by rw [hra2.length, List.length_map]
    have s2 := s2.trans s23
    generalize upd H3 b0 (.lst us) = H2' at s2 hB2 hra2
    clear s23 hra4 e20 elen ers eusd hra3 u2 u1 hqt2 hqt1 hl22 hqt hlo hl2 hb3 eus1 hra ok' l20' hb0
    -- names, town
    refine ⟨_, rfl, _, rfl, a, cs, 1, rfl, s2.seq hS, by decide, n, _, rfl, by omega, by omega, fun a0 H3 ns s3 ha0 hA3 eln nd nn => ?_⟩
    subst eln
    refine ⟨_, rfl, b0, _, rfl, .inl (SqL.of (s3 _ _ hB2)), fun l2 h2 => ?_⟩
    have t2 := Same.new (o := .lst us) h2
    have hl2 := upd_same (H := H3) (a := l2) (o := .lst us)
    refine fun p dx np ndx nep => ?_
    have t3 : Same (upd H3 l2 (.lst us)) (upd (upd (upd H3 l2 (.lst us)) dx (.own p)) p (.ins t.a_Town dx [])) := (Same.new ndx).trans (Same.new (by rw [upd_ne (Ne.symm nep)]; exact np))
    refine ⟨p, dx, a0, l2, ns, rs, rfl, upd_same, SqL.of (t3 _ _ (t2 _ _ hA3)), ⟨l2, us, rfl, SqL.of (t3 _ _ hl2), RepAll.mono (t2.trans t3) (hra2.mono s3)⟩, by omega, by omega, nn, nd, l20, ok, fun lna lnr H6 hln hlr hT kp => ⟨rfl, ?_⟩⟩
    have s6 : Same H3 H6 := t2.trans fun b o e => kp b o (t3 b o e) (ne_of_none e np)
    clear t2 t3 hl2 kp h2 np ndx hln hlr
    have s26 := s3.trans s6
    have hB6 := s26 _ _ hB2
    have hra6 := hra2.mono s26
    have hS6 := (s2.trans s26).seq hS
    clear s6 s26 s3 s2 hra2 hB2 ha0 hA3
    have hw4 : ∀ r ∈ rs, 1 ≤ r.d ∧ r.d ≤ 4 := fun r hr' => ⟨(ok r hr').d1, (ok r hr').d4⟩
    have he7 : ∀ r ∈ rs, 1 ≤ r.e ∧ r.e ≤ 7 := fun r hr' => ⟨(ok r hr').e1, (ok r hr').e7⟩
    -- strands
    refine ⟨_, rfl, fun sp dx np ndx nep => ?_⟩
    have t3 : Same H6 (upd (upd H6 dx (.own sp)) sp (.ins t.a_Strands dx [])) := (Same.new ndx).trans (Same.new (by rw [upd_ne (Ne.symm nep)]; exact np))
    refine ⟨sp, dx, p, lna, lnr, ns, rs, rfl, upd_same, hT.mono t3, l20, hw4, fun lu H7 hlu hW kp => ⟨rfl, ?_⟩⟩
    have s7 : Same H6 H7 := fun b o e => kp b o (t3 b o e) (ne_of_none e np)
    have hlu6 : H6 lu = none := t3.free hlu
    clear kp t3 hlu
    -- states
    refine ⟨_, rfl, b0, rfl, ⟨_, SqL.of (s7 _ _ hB6)⟩, fun ls hls => ?_⟩
    have hls6 : H6 ls = none := s7.free hls
    have hq7 := SqL.of (K := K) (s7 _ _ hB6)
    have hra7 := hra6.mono s7
    have nlu : ls ≠ lu := by
      obtain ⟨_, _, z, _⟩ := hW
      exact (ne_of_none z hls).symm
    refine comp_by (n := us.length) (fun i ys H8 => ∃ lis : List Addr, ys = lis.map V.ref ∧ lis.length = i ∧ lis.Nodup ∧ ∀ (j : Nat) l r, lis[j]? = some l → rs[j]? = some r → H8 l = some (.lst ((List.replicate r.d.toNat true).map V.bl)) ∧ l ≠ ls ∧ H7 l = none) hls (itl_go hq7) (itl_stop hq7) ⟨[], rfl, rfl, List.nodup_nil, fun j l r e => by simp at e⟩ ?_ ?_
    · rintro i ys H8 hi s8 hy ⟨lis, rfl, el, hnd, hlis⟩ x H9 ⟨rfl, hx⟩
      have hx := hx _ (s8.seq hq7)
      have hir : rs[i]? = some rs[i] := List.getElem?_eq_getElem (by omega)
      obtain ⟨v, hv, hD⟩ := hra7.get (i := i) (d := (rs[i]).D) (by rw [List.getElem?_map, hir]; rfl)
      rw [hx] at hv
      cases hv
      obtain ⟨q, e, hq⟩ := Rep.of_intsT (ns := (rs[i]).ns) hD
      subst e
      have w4 := hw4 _ (List.mem_of_getElem? hir)
      refine ⟨(by show 1 ≤ sizeLine; decide), fun l1 h1 => ?_⟩
      have s9 := Same.new (o := .lst [.bl true]) h1
      refine ⟨_, rfl, q, _, _, _, rfl, rfl, (s8.trans s9).seqT hq, rfl, l1, rs[i].d, _, rfl, rfl, upd_same, by omega, by omega, (by show 1 * rs[i].d.toNat ≤ sizeLine; exact Nat.le_of_lt (small1000 (by omega))), fun l2 h2 => ?_⟩
      rw [TW.rep_bl]
      have s10 := s9.trans (Same.new (o := .lst ((List.replicate rs[i].d.toNat true).map V.bl)) h2)
      have hl10 := upd_same (H := upd H9 l1 (.lst [.bl true])) (a := l2) (o := .lst ((List.replicate rs[i].d.toNat true).map V.bl))
      have hy10 := s10 _ _ hy
      have nl2 : l2 ≠ ls := (ne_of_none (s9 _ _ hy) h2).symm
      have hn8 : H9 l2 = none := s9.free h2
      generalize upd (upd H9 l1 (.lst [.bl true])) l2 (.lst ((List.replicate rs[i].d.toNat true).map V.bl)) = H10 at s10 hl10 hy10
      refine comp_add hls hi (s8.trans s10) hy10 (by rw [List.length_map, el]; exact small1000 (by omega)) ⟨lis ++ [l2], by rw [List.map_append]; rfl, by rw [List.length_append, el]; rfl, ?_, fun j l' r e1 e2 => ?_⟩
      · rw [List.nodup_append]
        refine ⟨hnd, by simp, fun x hx y hy' => ?_⟩
        have : y = l2 := by simpa using hy'
        subst this
        obtain ⟨j, hj⟩ := List.getElem?_of_mem hx
        have hjl := (List.getElem?_eq_some_iff.mp hj).1
        exact ne_of_none (hlis j x _ hj (List.getElem?_eq_getElem (by omega))).1 hn8
      · rcases snoc_at e1 with e1 | ⟨rfl, rfl⟩
        · obtain ⟨z1, z2, z3⟩ := hlis j l' r e1 e2
          exact ⟨by rw [upd_ne z2]; exact s10 _ _ z1, z2, z3⟩
        · rw [el, hir] at e2
          cases e2
          exact ⟨by rw [upd_ne nl2]; exact hl10, nl2, s8.free hn8⟩
    rintro ys H8 s8 hy ⟨lis, rfl, el, hnd, hlis⟩
    have hX8 : Sts H8 ls lis (rs.map fun r => List.replicate r.d.toNat true) := by
      refine ⟨hy, by rw [List.length_map]; omega, hnd, fun i l b e1 e2 => ?_⟩
      rw [List.getElem?_map] at e2
      cases e3 : rs[i]? with
      | none => rw [e3] at e2; cases e2
      | some r =>
        rw [e3] at e2
        cases e2
        exact (hlis i l r e1 e3).1
    have hfree : ∀ l ∈ lis, H6 l = none ∧ l ≠ ls := fun l hl => by
      obtain ⟨j, hj⟩ := List.getElem?_of_mem hl
      have hjl := (List.getElem?_eq_some_iff.mp hj).1
      have z := (hlis j l _ hj (List.getElem?_eq_getElem (by omega))).2
      exact ⟨s7.free z.2, z.1⟩
    have hW8 := hW.mono s8
    rw [ws_full] at hW8
    have hF8 := fit_full hw4
    have s68 := s7.trans s8
    clear hlis hW hy hls hq7 hra7 s8 s7 hnd
    generalize (rs.map fun r => List.replicate r.d.toNat true) = bs0 at hW8 hF8 hX8
    -- the cells
    refine ⟨_, rfl, _, rfl, _, rfl, a, _, rfl, s68.seq hS6, fun lq hlq => ?_⟩
    obtain ⟨ys, eys, lys⟩ : ∃ ys : List Int, cutV (cs.map V.int) (some 2) (some 82) = ys.map V.int ∧ ys.length ≤ 80 := cut_ints cs 2 82
    rw [eys]
    have t9 := Same.new (o := .lst (ys.map V.int)) hlq
    have hlq9 := upd_same (H := H8) (a := lq) (o := .lst (ys.map V.int))
    have nq := (show Both t.a_Strands H6 H8 sp p lu ls lis _ _ from ⟨s68, hW8, hX8⟩).free hlq
    have hA : Apt H6 lu ls lis := ⟨hlu6, nlu, hfree⟩
    have hR6 : Ropes K H6 b0 rs := ⟨b0, us, rfl, SqL.of hB6, hra6⟩
    have rope_at : ∀ (j : Nat) r, rs[j]? = some r → ∃ q, us[j]? = some (.ref q) ∧ SqT K H6 q r.vs := fun j r hr' => by
      obtain ⟨v, hv, hD⟩ := hra6.get (i := j) (d := r.D) (by rw [List.getElem?_map, hr']; rfl)
      obtain ⟨q, e, hq⟩ := Rep.of_intsT (ns := r.ns) hD
      subst e
      exact ⟨q, hv, hq⟩
    have hup : (0 : Int) < ((us.length : Nat) : Int) := by
      have : 0 < rs.length := List.length_pos_iff.mpr hne
      omega
    refine ⟨lq, rfl, ⟨_, SqL.of hlq9⟩, for_list (K := K) (a := lq) (xs := ys.map V.int) (fun i σ H10 => ∃ bs, Both t.a_Strands H6 H10 sp p lu ls lis (bs.map stand) bs ∧ H10 lq = some (.lst (ys.map V.int)) ∧ Fit rs bs ∧ ∃ v6 v7 v8 v9 : Option V, σ = [some (.ref a), some (.int (ns.length : Nat)), some (.ref b0), some (.ref p), some (.ref sp), some (.ref ls), v6, v7, v8, v9]) ⟨bs0, ⟨s68.trans t9, hW8.mono t9, hX8.mono t9⟩, hlq9, hF8, _, _, _, _, rfl⟩ (fun i σ H10 _ z => by obtain ⟨_, _, z, _⟩ := z; exact SqL.of z) ?_ ?_⟩
    · clear t9 hlq9 hX8 hW8 hF8 hlq eys s68
      rintro i0 y σ H11 hi ⟨bs, hB, hlq11, hF, v6, v7, v8, v9, rfl⟩
      obtain ⟨y, rfl⟩ : ∃ z : Int, y = V.int z := by
        obtain ⟨z, _, e⟩ := List.mem_map.mp (List.mem_of_getElem? hi)
        exact ⟨z, e.symm⟩
      clear hi
      have e3 := Int.emod_nonneg y (show ((us.length : Nat) : Int) ≠ 0 by omega)
      have e4 := Int.emod_lt_of_pos y hup
      obtain ⟨j, ej, hj⟩ : ∃ j : Nat, y % ((us.length : Nat) : Int) = (j : Int) ∧ j < rs.length := ⟨(y % ((us.length : Nat) : Int)).toNat, by omega, by omega⟩
      refine ⟨_, rfl, _, rfl, b0, _, rfl, .inl (SqL.of (hB.same _ _ hB6)), _, _, rfl, rfl, hup, ?_⟩
      show gName 7 (V.int (y % ((us.length : Nat) : Int))) _ _ _
      rw [ej]
      clear ej e3 e4
      have hrj : rs[j]? = some rs[j] := List.getElem?_eq_getElem hj
      obtain ⟨b, hb, hbl⟩ := hF.at hrj
      obtain ⟨qj, hqj, hqt⟩ := rope_at j _ hrj
      have wj := hw4 _ (List.mem_of_getElem? hrj)
      refine ⟨_, rfl, _, rfl, b0, _, rfl, .inl (SqL.of (hB.same _ _ hB6)), _, _, rfl, rfl, ⟨hup, (by show ((us.length : Nat) : Int) < 1073741824; omega)⟩, _, rfl, _, rfl, b0, _, _, _, rfl, rfl, SqL.of (hB.same _ _ hB6), atI_nat hqj, qj, _, _, _, rfl, rfl, hB.same.seqT hqt, rfl, _, _, rfl, rfl, (by show (0 : Int) < rs[j].d; omega), ?_⟩
      have e3 := Int.emod_nonneg (y / ((us.length : Nat) : Int)) (show rs[j].d ≠ 0 by omega)
      have e4 := Int.emod_lt_of_pos (y / ((us.length : Nat) : Int)) (show (0 : Int) < rs[j].d by omega)
      obtain ⟨kk, ek, hk⟩ : ∃ kk : Nat, y / ((us.length : Nat) : Int) % rs[j].d = (kk : Int) ∧ kk < b.length := ⟨(y / ((us.length : Nat) : Int) % rs[j].d).toNat, by omega, by omega⟩
      show gName 8 (V.int (y / ((us.length : Nat) : Int) % rs[j].d)) _ _ _
      rw [ek]
      clear ek e3 e4
      obtain ⟨l, hlj⟩ : ∃ l, lis[j]? = some l := ⟨_, List.getElem?_eq_getElem (by rw [hB.sts.len, hF.1]; exact hj)⟩
      have hll := hB.sts.it j l b hlj hb
      have hbk : b[kk]? = some b[kk] := List.getElem?_eq_getElem hk
      have hne' := hF.ne hw4
      have hbne : b ≠ [] := hne' b (List.mem_of_getElem? hb)
      have hwsj : (bs.map stand)[j]? = some (stand b) := by rw [List.getElem?_map, hb]; rfl
      have hatl : atI (lis.map V.ref) (j : Int) = some (.ref l) := atI_nat (by rw [List.getElem?_map, hlj]; rfl)
      refine ⟨_, rfl, _, rfl, ls, _, _, _, rfl, rfl, SqL.of hB.sts.at_, hatl, _, rfl, l, _, _, V.bl b[kk], rfl, rfl, SqL.of hll, atI_nat (by rw [List.getElem?_map, hbk]; rfl), ?_⟩
      have sat : ∀ {H' : Hp} {bs : List (List Bool)}, Both t.a_Strands H6 H' sp p lu ls lis (bs.map stand) bs → Fit rs bs → SAt K t.a_Town t.a_Strands H' sp p lu lna lnr ns rs (bs.map stand) := fun hB hF => ⟨hT.mono hB.same, hB.str, by rw [List.length_map]; exact hF.1, hF.le hw4, l20, he7⟩
      have hbd : ∀ (j : Nat) w r, (bs.map stand)[j]? = some w → rs[j]? = some r → 1 ≤ r.d ∧ ∀ k ∈ w, ((k : Nat) : Int) < r.d := fun j w r e1 e2 => by
        refine ⟨(hw4 r (List.mem_of_getElem? e2)).1, fun k hk => ?_⟩
        rw [List.getElem?_map] at e1
        cases e3 : bs[j]? with
        | none => rw [e3] at e1; cases e1
        | some b' =>
          rw [e3] at e1
          cases e1
          have := hF.2 j r b' e2 e3
          have := (List.getElem?_eq_some_iff.mp (mem_stand.mp hk)).1
          omega
      -- an odd thing
      refine ⟨_, rfl, _, rfl, _, rfl, _, rfl, _, rfl, _, _, rfl, rfl, ⟨by decide, by decide⟩, sp, p, lu, lna, lnr, b0, ns, rs, _, j, kk, _, rfl, sat hB hF, hR6.mono hB.same, hbd, hj, fun H12 s12 => ⟨_, rfl, iteF ?_⟩⟩
      have hB := hB.mono s12
      have hlq12 := s12 _ _ hlq11
      have hll := s12 _ _ hll
      obtain ⟨x, ex⟩ : ∃ x, b[kk] = x := ⟨_, rfl⟩
      rw [ex] at hbk
      rw [ex]
      clear ex
      have w0 := which01 x
      have w1 := which01 (!x)
      -- the deed that can't be
      refine ⟨_, rfl, _, rfl, .inr ⟨_, rfl, _, rfl, _, rfl, sp, p, lu, lna, lnr, ns, rs, _, whichI x, j, kk, rfl, sat hB hF, by omega, by omega, bad_turn hj hrj hb hbk, fun H13 s13 => ⟨_, rfl, iteF ?_⟩⟩⟩
      have hB := hB.mono s13
      have hlq13 := s13 _ _ hlq12
      have good := good_turn hj hrj hb hbk hbl
      -- the good deed
      refine ⟨_, rfl, _, rfl, _, rfl, .inr ⟨_, rfl, _, rfl, _, rfl, sp, p, lu, lna, lnr, ns, rs, _, whichI (!x), j, kk, rfl, sat hB hF, (w1.elim .inl fun h => .inr (.inl h)), fun ws' H14 z hd hW14 kp14 => ?_, fun z => absurd z good, fun z => absurd z good⟩⟩
      rw [done_turn hb hbk hd] at hW14
      have hB14 := hB.turn hA hne' kp14 hW14
      have hlq14 := kp14 _ _ hlq13 nq.1
      refine ⟨_, _, _, _, rfl, .bl _, rfl, _, rfl, iteF ?_⟩
      have hjb : j < bs.length := by rw [hF.1]; exact hj
      -- the same once more
      have hF2 : Fit rs (bs.set j (b.set kk (!x))) := hF.set hb
      have hb2 : (bs.set j (b.set kk (!x)))[j]? = some (b.set kk (!x)) := by rw [List.getElem?_set, if_pos rfl, if_pos hjb]
      have hk2 : (b.set kk (!x))[kk]? = some (!x) := by rw [List.getElem?_set, if_pos rfl, if_pos hk]
      have sat2 : SAt K t.a_Town t.a_Strands H14 sp p lu lna lnr ns rs ((bs.set j (b.set kk (!x))).map stand) := ⟨hT.mono hB14.same, hB14.str, by rw [List.length_map]; exact hF2.1, hF2.le hw4, l20, he7⟩
      refine ⟨_, rfl, _, rfl, _, rfl, .inr ⟨_, rfl, _, rfl, _, rfl, sp, p, lu, lna, lnr, ns, rs, _, whichI (!x), j, kk, rfl, sat2, by omega, by omega, bad_turn hj hrj hb2 hk2, fun H15 s15 => ⟨_, rfl, iteF ?_⟩⟩⟩
      have hB15 := hB14.mono s15
      have hlq15 := s15 _ _ hlq14
      obtain ⟨hl16, hB16⟩ := hB15.put (k := kk) (x := !x) hA hlj hb hbne
      refine ⟨_, rfl, _, rfl, _, rfl, _, rfl, ls, _, _, _, rfl, rfl, SqL.of hB15.sts.at_, hatl, _, rfl, l, _, _, kk, rfl, rfl, hl16, (by rw [List.length_map]; exact ixN_nat hk), ?_⟩
      exact ⟨_, hB16, by rw [upd_ne (show lq ≠ l from fun z => nq.2 (by rw [z]; exact List.mem_of_getElem? hlj))]; exact hlq15, hF2, _, _, _, _, rfl⟩
    clear t9 hlq9 hX8 hW8 hF8 hlq eys s68
    rintro σ H11 ⟨bs, hB, _, hF, v6, v7, v8, v9, rfl⟩
    refine ⟨_, rfl, b0, _, rfl, .inl (SqL.of (hB.same _ _ hB6)), _, rfl, (by show -(2 ^ 62) ≤ ((us.length : Nat) : Int); omega), (by show ((us.length : Nat) : Int) < 2 ^ 62; omega), for_range (n := (((us.length : Nat) : Int)).toNat) (fun i σ H12 => Same H11 H12 ∧ ∃ v6 v7 v8 v9 : Option V, σ = [some (.ref a), some (.int (ns.length : Nat)), some (.ref b0), some (.ref p), some (.ref sp), some (.ref ls), v6, v7, v8, v9]) ⟨Same.refl _, _, _, _, _, rfl⟩ ?_ ?_⟩
    · rintro j σ H12 hj ⟨s12, x6, x7, x8, x9, rfl⟩
      have hj : j < rs.length := by
        have : j < us.length := by simpa using hj
        omega
      show gName 7 (V.int (0 + (j : Int))) _ _ _
      rw [Int.zero_add]
      have hB := hB.mono s12
      have hrj : rs[j]? = some rs[j] := List.getElem?_eq_getElem hj
      obtain ⟨b, hb, hbl⟩ := hF.at hrj
      obtain ⟨qj, hqj, hqt⟩ := rope_at j _ hrj
      have wj := hw4 _ (List.mem_of_getElem? hrj)
      obtain ⟨l, hlj⟩ : ∃ l, lis[j]? = some l := ⟨_, List.getElem?_eq_getElem (by rw [hB.sts.len, hF.1]; exact hj)⟩
      have hwsj : (bs.map stand)[j]? = some (stand b) := by rw [List.getElem?_map, hb]; rfl
      have hatl : atI (lis.map V.ref) (j : Int) = some (.ref l) := atI_nat (by rw [List.getElem?_map, hlj]; rfl)
      obtain ⟨⟨dx, hsp⟩, _⟩ := id hB.str
      refine ⟨_, rfl, sp, dx, _, rfl, hsp, rfl, _, rfl, sp, p, lu, lna, lnr, ns, rs, _, j, rfl, hT.mono hB.same, hB.str, (by rw [List.length_map]; exact hF.1), fun j' w' l1 H13 ej hj' s13 hl0 hl1 => ?_, fun z => (z ⟨Int.natCast_nonneg j, by omega⟩).elim⟩
      have ej : j = j' := by omega
      subst ej
      rw [hwsj] at hj'
      cases hj'
      have hB := hB.mono s13
      refine ⟨_, rfl, _, rfl, b0, _, _, _, rfl, rfl, SqL.of (hB.same _ _ hB6), atI_nat hqj, qj, _, _, _, rfl, rfl, hB.same.seqT hqt, rfl, _, rfl, (by show -(2 ^ 62) ≤ rs[j].d; omega), (by show rs[j].d < 2 ^ 62; omega), fun acc hacc => ?_⟩
      refine comp_by (n := rs[j].d.toNat) (fun i ys _ => ys = natsV (standTo b i)) hacc itr_go itr_stop rfl ?_ ?_
      · rintro i ys Hc hi sc hy rfl x Hd ⟨rfl, rfl⟩
        have hi' : i < b.length := by omega
        have hbi : b[i]? = some b[i] := List.getElem?_eq_getElem hi'
        refine ⟨_, rfl, _, rfl, ls, _, _, _, rfl, rfl, SqL.of (sc _ _ hB.sts.at_), hatl, _, rfl, l, _, _, V.bl b[i], rfl, rfl, SqL.of (sc _ _ (hB.sts.it j l b hlj hb)), ?_, _, rfl, ?_⟩
        · rw [Int.zero_add]
          exact atI_nat (by rw [List.getElem?_map, hbi]; rfl)
        have eg : b.getD i false = b[i] := by rw [List.getD_eq_getElem?_getD, hbi]; rfl
        cases eb : b[i] with
        | true =>
          refine iteT ⟨_, rfl, comp_add hacc hi sc hy (by rw [List.length_map]; exact small1000 (by have := standTo_len b i; omega)) ?_⟩
          rw [standTo_succ, eg, eb, if_pos rfl, natsV_snoc, Int.zero_add]
        | false =>
          refine iteF (comp_skip hi sc hy ?_)
          rw [standTo_succ, eg, eb, if_neg (by decide), List.append_nil]
      rintro _ H14 s14 hacc' rfl
      have hst : standTo b rs[j].d.toNat = stand b := by
        have : rs[j].d.toNat = b.length := by omega
        rw [this]; rfl
      rw [hst] at hacc'
      have r1 : Rep K H14 (.list (((stand b).map fun k : Nat => (k : Int)).map .int)) (.ref l1) := ⟨l1, _, rfl, SqL.of (s14 _ _ hl1), (by rw [natsV_ints]; exact repAll_ints _)⟩
      have r2 : Rep K H14 (.list (((stand b).map fun k : Nat => (k : Int)).map .int)) (.ref acc) := ⟨acc, _, rfl, SqL.of hacc', (by rw [natsV_ints]; exact repAll_ints _)⟩
      refine ⟨_, _, r1, r2, ints_lay _, ints_lay _, Nat.lt_of_le_of_lt (Nat.add_le_add_left (Nat.le_trans (Nat.min_le_left _ _) ?_) _) hr.units, _, rfl, ?_⟩
      · show PyData.depthAll (((stand b).map fun k : Nat => (k : Int)).map .int) + 1 ≤ 64
        rw [ints_deep]
        decide
      rw [SeqAt.eqv_refl (.list (((stand b).map fun k : Nat => (k : Int)).map .int)) (ints_lay _)]
      refine iteF ?_
      exact ⟨s12.trans (s13.trans s14), _, _, _, _, rfl⟩
    · rintro σ H12 ⟨_, x6, x7, x8, x9, rfl⟩
      exact k _
end
theorem walk {l : PySem.W.OpenLaw} {q : Program} {loose : List Str} {XP : (Str → Option Value) → Heap → Prop} {YP : World → Heap → Prop} {d : DefRec} {K : Params → PySem.W.Frag} (hn : l.most = some 63) (hdf : d.params.defaults = []) (hdn : d.name = "law")
    (hY : ∀ (w : World) (h : Heap), YP w h → (K w.params).In h)
    (F : ∀ (w : World) (mg : Str → Option Value) (h : Heap), (K w.params).In h → h.Ns mainGlobals mg → ∃ t, Txt (K w.params) mg t) :
    PySem.W.WalkO q loose XP YP l.row.toRowW d [] (fun f vs => PySem.call f vs) :=
  L2.walk_of (n := 63) (k := 7) (x := "_law_script") (CX := fun _ => CX0) (sp := fun w => spLaw (K w.params)) hn (by decide) hdf ⟨rfl, by decide, by decide⟩ hY
    (fun w mg fa h KX G hmg => by
      obtain ⟨t, T⟩ := F w mg h KX G
      rw [hdn] at hmg
      have e := hmg.symm.trans T.g_law
      cases e
      refine ⟨t.d_law, fun s v => ?_, fun base _ _ => ok_law T⟩
      obtain ⟨_, _, _, _, _, _, _, _, _, e, _⟩ := T.F_law.ex
      rw [e]
      exact .of_eq rfl)
    (fun _ _ a ns hl _ hS => ⟨a, ns, rfl, hS, hl, fun _ => rfl⟩) fun _ _ _ _ _ z => z
end K22

set_option Elab.async false
set_option linter.all false
open PySem PySem.W PyProof.Rows
set_option maxRecDepth 100000 in
set_option maxHeartbeats 0 in
theorem PySem.Challenge.cw_knotless_k22_strands_refused_holds : PySem.Challenge.rw_knotless_k22_strands_refused.Holds := by
  w_on; o_law; k_head; (case hw => w_witness2)
  k_fill
  refine K22.walk (l := PySem.Challenge.rw_knotless_k22_strands_refused) rfl rfl rfl (fun w h Y => PySem.W.kIn_of Y) ?F
  case F =>
    intro w mg h KX G
    refine' K22.txt_mk KX G ?aC_Town ?aC_Strands ?a_Townu_initu ?i_Townu_initu ?l_Townu_initu ?c_Townu_initu ?k_Townu_initu ?a_Town_rope ?i_Town_rope ?l_Town_rope ?c_Town_rope ?k_Town_rope ?a_Town_lets ?i_Town_lets ?l_Town_lets ?c_Town_lets ?k_Town_lets ?a_check_names ?l_check_names ?c_check_names ?k_check_names ?a_check_ropes ?l_check_ropes ?c_check_ropes ?k_check_ropes ?a_check_rope ?l_check_rope ?c_check_rope ?k_check_rope ?a_joins_two ?l_joins_two ?c_joins_two ?k_joins_two ?a_Strandsu_initu ?i_Strandsu_initu ?l_Strandsu_initu ?c_Strandsu_initu ?k_Strandsu_initu ?a_Strands_fall ?i_Strands_fall ?l_Strands_fall ?c_Strands_fall ?k_Strands_fall ?a_Strands_lay ?i_Strands_lay ?l_Strands_lay ?c_Strands_lay ?k_Strands_lay ?a_Strands_standing ?i_Strands_standing ?l_Strands_standing ?c_Strands_standing ?k_Strands_standing ?a_Strands_wire_for ?i_Strands_wire_for ?l_Strands_wire_for ?c_Strands_wire_for ?k_Strands_wire_for ?a_Strands_live ?i_Strands_live ?l_Strands_live ?c_Strands_live ?k_Strands_live ?a_wires_of ?l_wires_of ?c_wires_of ?k_wires_of ?a_check_group ?l_check_group ?c_check_group ?k_check_group ?a_w_cell_at ?l_w_cell_at ?c_w_cell_at ?k_w_cell_at ?a_w_numbers ?l_w_numbers ?c_w_numbers ?k_w_numbers ?a_w_names ?l_w_names ?c_w_names ?k_w_names ?a_w_ropes ?l_w_ropes ?c_w_ropes ?k_w_ropes ?a_w_done ?l_w_done ?c_w_done ?k_w_done ?a_w_refused ?l_w_refused ?c_w_refused ?k_w_refused ?a_w_out ?l_w_out ?c_w_out ?k_w_out ?a_w_odd ?l_w_odd ?c_w_odd ?k_w_odd ?a_law ?l_law ?c_law ?k_law ?pg_Town ?hd_Town ?po_Town ?sa_Town ?mk_Town ?kc_Town ?nA_Town_house_names ?nA_Town_rope_tuples ?nA_Town_size ?nA_Town_many ?pg_Strands ?hd_Strands ?po_Strands ?sa_Strands ?mk_Strands ?kc_Strands ?nA_Strands_town ?nA_Strands_upright ?aX_KnotError ?xb_KnotError ?xd_KnotError ?xt_KnotError ?aX_NoWire ?xex_NoWire ?xga_NoWire ?xgb_NoWire ?xhd_NoWire ?xca_NoWire ?xcg_NoWire ?xct_NoWire ?xmo_NoWire ?xmb_NoWire ?aX_NoGroup ?xex_NoGroup ?xga_NoGroup ?xgb_NoGroup ?xhd_NoGroup ?xca_NoGroup ?xcg_NoGroup ?xct_NoGroup ?xmo_NoGroup ?xmb_NoGroup ?aX_Apart ?aX_BadTown ?aX_NoCaller ?aX_NoCopy ?aX_NoHouse ?aX_NoLetter ?aX_NoText ?xi_NoWire_Apart ?xi_NoWire_BadTown ?xi_NoWire_NoCaller ?xi_NoWire_NoCopy ?xi_NoWire_NoHouse ?xi_NoWire_NoLetter ?xi_NoWire_NoText ?xi_NoGroup_Apart ?xi_NoGroup_BadTown ?xi_NoGroup_NoCaller ?xi_NoGroup_NoCopy ?xi_NoGroup_NoHouse ?xi_NoGroup_NoLetter ?xi_NoGroup_NoText ?xi_NoWire_NoWire ?xi_NoWire_NoGroup ?xi_NoGroup_NoWire ?xi_NoGroup_NoGroup ?xi_NoWire_ValueError ?xi_NoGroup_ValueError ?xh_NoWire_KnotError ?xh_NoGroup_KnotError ?g_MOST_HOUSES ?g_MOST_ROPES ?g_MOST_WIRES ?g_ALL_GROUPS ?g_GROUP_BITS ?o_GROUP_BITS ?z_len ?z_isinstance ?z_int ?z_bool ?z_list ?z_range ?z_min ?z_set ?z_sorted ?z_ValueError ?z_abs
    (case aC_Town => k_is)
    (case aC_Strands => k_is)
    (case a_Townu_initu => k_is)
    (case i_Townu_initu => k_is)
    (case l_Townu_initu => k_is)
    (case c_Townu_initu => k_is)
    (case k_Townu_initu => k_is)
    (case a_Town_rope => k_is)
    (case i_Town_rope => k_is)
    (case l_Town_rope => k_is)
    (case c_Town_rope => k_is)
    (case k_Town_rope => k_is)
    (case a_Town_lets => k_is)
    (case i_Town_lets => k_is)
    (case l_Town_lets => k_is)
    (case c_Town_lets => k_is)
    (case k_Town_lets => k_is)
    (case a_check_names => k_is)
    (case l_check_names => k_is)
    (case c_check_names => k_is)
    (case k_check_names => k_is)
    (case a_check_ropes => k_is)
    (case l_check_ropes => k_is)
    (case c_check_ropes => k_is)
    (case k_check_ropes => k_is)
    (case a_check_rope => k_is)
    (case l_check_rope => k_is)
    (case c_check_rope => k_is)
    (case k_check_rope => k_is)
    (case a_joins_two => k_is)
    (case l_joins_two => k_is)
    (case c_joins_two => k_is)
    (case k_joins_two => k_is)
    (case a_Strandsu_initu => k_is)
    (case i_Strandsu_initu => k_is)
    (case l_Strandsu_initu => k_is)
    (case c_Strandsu_initu => k_is)
    (case k_Strandsu_initu => k_is)
    (case a_Strands_fall => k_is)
    (case i_Strands_fall => k_is)
    (case l_Strands_fall => k_is)
    (case c_Strands_fall => k_is)
    (case k_Strands_fall => k_is)
    (case a_Strands_lay => k_is)
    (case i_Strands_lay => k_is)
    (case l_Strands_lay => k_is)
    (case c_Strands_lay => k_is)
    (case k_Strands_lay => k_is)
    (case a_Strands_standing => k_is)
    (case i_Strands_standing => k_is)
    (case l_Strands_standing => k_is)
    (case c_Strands_standing => k_is)
    (case k_Strands_standing => k_is)
    (case a_Strands_wire_for => k_is)
    (case i_Strands_wire_for => k_is)
    (case l_Strands_wire_for => k_is)
    (case c_Strands_wire_for => k_is)
    (case k_Strands_wire_for => k_is)
    (case a_Strands_live => k_is)
    (case i_Strands_live => k_is)
    (case l_Strands_live => k_is)
    (case c_Strands_live => k_is)
    (case k_Strands_live => k_is)
    (case a_wires_of => k_is)
    (case l_wires_of => k_is)
    (case c_wires_of => k_is)
    (case k_wires_of => k_is)
    (case a_check_group => k_is)
    (case l_check_group => k_is)
    (case c_check_group => k_is)
    (case k_check_group => k_is)
    (case a_w_cell_at => k_is)
    (case l_w_cell_at => k_is)
    (case c_w_cell_at => k_is)
    (case k_w_cell_at => k_is)
    (case a_w_numbers => k_is)
    (case l_w_numbers => k_is)
    (case c_w_numbers => k_is)
    (case k_w_numbers => k_is)
    (case a_w_names => k_is)
    (case l_w_names => k_is)
    (case c_w_names => k_is)
    (case k_w_names => k_is)
    (case a_w_ropes => k_is)
    (case l_w_ropes => k_is)
    (case c_w_ropes => k_is)
    (case k_w_ropes => k_is)
    (case a_w_done => k_is)
    (case l_w_done => k_is)
    (case c_w_done => k_is)
    (case k_w_done => k_is)
    (case a_w_refused => k_is)
    (case l_w_refused => k_is)
    (case c_w_refused => k_is)
    (case k_w_refused => k_is)
    (case a_w_out => k_is)
    (case l_w_out => k_is)
    (case c_w_out => k_is)
    (case k_w_out => k_is)
    (case a_w_odd => k_is)
    (case l_w_odd => k_is)
    (case c_w_odd => k_is)
    (case k_w_odd => k_is)
    (case a_law => k_is)
    (case l_law => k_is)
    (case c_law => k_is)
    (case k_law => k_is)
    (case pg_Town => k_is)
    (case hd_Town => k_is)
    (case po_Town => k_is)
    (case sa_Town => k_is)
    (case mk_Town => k_is)
    (case kc_Town => k_is)
    (case nA_Town_house_names => k_is)
    (case nA_Town_rope_tuples => k_is)
    (case nA_Town_size => k_is)
    (case nA_Town_many => k_is)
    (case pg_Strands => k_is)
    (case hd_Strands => k_is)
    (case po_Strands => k_is)
    (case sa_Strands => k_is)
    (case mk_Strands => k_is)
    (case kc_Strands => k_is)
    (case nA_Strands_town => k_is)
    (case nA_Strands_upright => k_is)
    (case aX_KnotError => k_is)
    (case xb_KnotError => k_is)
    (case xd_KnotError => k_is)
    (case xt_KnotError => k_is)
    (case aX_NoWire => k_is)
    (case xex_NoWire => k_exc)
    (case xga_NoWire => k_is)
    (case xgb_NoWire => k_is)
    (case xhd_NoWire => k_is)
    (case xca_NoWire => k_is)
    (case xcg_NoWire => k_is)
    (case xct_NoWire => k_is)
    (case xmo_NoWire => k_is)
    (case xmb_NoWire => k_is)
    (case aX_NoGroup => k_is)
    (case xex_NoGroup => k_exc)
    (case xga_NoGroup => k_is)
    (case xgb_NoGroup => k_is)
    (case xhd_NoGroup => k_is)
    (case xca_NoGroup => k_is)
    (case xcg_NoGroup => k_is)
    (case xct_NoGroup => k_is)
    (case xmo_NoGroup => k_is)
    (case xmb_NoGroup => k_is)
    (case aX_Apart => k_is)
    (case aX_BadTown => k_is)
    (case aX_NoCaller => k_is)
    (case aX_NoCopy => k_is)
    (case aX_NoHouse => k_is)
    (case aX_NoLetter => k_is)
    (case aX_NoText => k_is)
    (case xi_NoWire_Apart => kit_is)
    (case xi_NoWire_BadTown => kit_is)
    (case xi_NoWire_NoCaller => kit_is)
    (case xi_NoWire_NoCopy => kit_is)
    (case xi_NoWire_NoHouse => kit_is)
    (case xi_NoWire_NoLetter => kit_is)
    (case xi_NoWire_NoText => kit_is)
    (case xi_NoGroup_Apart => kit_is)
    (case xi_NoGroup_BadTown => kit_is)
    (case xi_NoGroup_NoCaller => kit_is)
    (case xi_NoGroup_NoCopy => kit_is)
    (case xi_NoGroup_NoHouse => kit_is)
    (case xi_NoGroup_NoLetter => kit_is)
    (case xi_NoGroup_NoText => kit_is)
    (case xi_NoWire_NoWire => kit_is)
    (case xi_NoWire_NoGroup => kit_is)
    (case xi_NoGroup_NoWire => kit_is)
    (case xi_NoGroup_NoGroup => kit_is)
    (case xi_NoWire_ValueError => kit_is)
    (case xi_NoGroup_ValueError => kit_is)
    (case xh_NoWire_KnotError => k_is)
    (case xh_NoGroup_KnotError => k_is)
    (case g_MOST_HOUSES => k_is)
    (case g_MOST_ROPES => k_is)
    (case g_MOST_WIRES => k_is)
    (case g_ALL_GROUPS => k_is)
    (case g_GROUP_BITS => k_is)
    (case o_GROUP_BITS => k_is)
    (case z_len => k_is)
    (case z_isinstance => k_is)
    (case z_int => k_is)
    (case z_bool => k_is)
    (case z_list => k_is)
    (case z_range => k_is)
    (case z_min => k_is)
    (case z_set => k_is)
    (case z_sorted => k_is)
    (case z_ValueError => k_is)
    (case z_abs => k_is)
#print axioms PySem.Challenge.cw_knotless_k22_strands_refused_holds
